/- Contracts and facts that the claim's proof wants (several texts in one). -/
import Derived.StillTailTactics
import Derived.BigQuiet
import Derived.Deep.DeepCutAuto
import Derived.Deep.QuietTactic
import Derived.Deep.RegionHeld3
import Derived.Laws.EntriesVeiled
import Derived.Handy
import Derived.Lib.Hide
import Derived.Test.YtkgaeamdhhceiaaGreatDoorStG1
import Derived.Test.YtkgaeamdhhceiaaGreatDoorStG2
namespace Go.Proofs.YtkgaeamdhhceiaaGreatDoor
open Go.RowKit
set_option linter.unusedVariables false
set_option linter.unusedSimpArgs false
set_option maxRecDepth 20000
set_option maxHeartbeats 20000000
theorem set_0bc (g : Rg) (p v : Int) (hx : Wd16 g.bc) (hv : B8 v) (w : World) :
    Calls Tryz.prog 309 #[regsV g, .int .i64 p, .int .i64 0, .int .u8 v] w fun e w' => e = .returned (regsV ({ g with bc := 256 * v + g.bc % 256 })) ∧ Below w.heap.size w w' :=
  set_hi g _ p 0 v _ 1 g.bc lkh_0 (fun b w => fbc_any b w) rfl rfl hx hv (fun _ _ => by kernel_rfl) w
theorem set_1bc (g : Rg) (p v : Int) (hx : Wd16 g.bc) (hv : B8 v) (w : World) :
    Calls Tryz.prog 309 #[regsV g, .int .i64 p, .int .i64 1, .int .u8 v] w fun e w' => e = .returned (regsV ({ g with bc := 256 * (g.bc / 256) + v })) ∧ Below w.heap.size w w' :=
  set_lo g _ p 1 v _ 1 g.bc lkh_1 (fun b w => fbc_any b w) rfl rfl hx hv (fun _ _ => by kernel_rfl) w
theorem set_2de (g : Rg) (p v : Int) (hx : Wd16 g.de) (hv : B8 v) (w : World) :
    Calls Tryz.prog 309 #[regsV g, .int .i64 p, .int .i64 2, .int .u8 v] w fun e w' => e = .returned (regsV ({ g with de := 256 * v + g.de % 256 })) ∧ Below w.heap.size w w' :=
  set_hi g _ p 2 v _ 2 g.de lkh_2 (fun b w => fde_any b w) rfl rfl hx hv (fun _ _ => by kernel_rfl) w
theorem set_3de (g : Rg) (p v : Int) (hx : Wd16 g.de) (hv : B8 v) (w : World) :
    Calls Tryz.prog 309 #[regsV g, .int .i64 p, .int .i64 3, .int .u8 v] w fun e w' => e = .returned (regsV ({ g with de := 256 * (g.de / 256) + v })) ∧ Below w.heap.size w w' :=
  set_lo g _ p 3 v _ 2 g.de lkh_3 (fun b w => fde_any b w) rfl rfl hx hv (fun _ _ => by kernel_rfl) w
theorem set_4ix (g : Rg) (p v : Int) (hF : thirdF p = 363) (hx : Wd16 g.ix) (hv : B8 v) (w : World) :
    Calls Tryz.prog 309 #[regsV g, .int .i64 p, .int .i64 4, .int .u8 v] w fun e w' => e = .returned (regsV ({ g with ix := 256 * v + g.ix % 256 })) ∧ Below w.heap.size w w' :=
  set_hi g _ p 4 v _ 8 g.ix (lkh_4 hF) (fun b w => fix_any b w) rfl rfl hx hv (fun _ _ => by kernel_rfl) w
theorem set_4iy (g : Rg) (p v : Int) (hF : thirdF p = 364) (hx : Wd16 g.iy) (hv : B8 v) (w : World) :
    Calls Tryz.prog 309 #[regsV g, .int .i64 p, .int .i64 4, .int .u8 v] w fun e w' => e = .returned (regsV ({ g with iy := 256 * v + g.iy % 256 })) ∧ Below w.heap.size w w' :=
  set_hi g _ p 4 v _ 9 g.iy (lkh_4 hF) (fun b w => fiy_any b w) rfl rfl hx hv (fun _ _ => by kernel_rfl) w
theorem set_4hl (g : Rg) (p v : Int) (hF : thirdF p = 365) (hx : Wd16 g.hl) (hv : B8 v) (w : World) :
    Calls Tryz.prog 309 #[regsV g, .int .i64 p, .int .i64 4, .int .u8 v] w fun e w' => e = .returned (regsV ({ g with hl := 256 * v + g.hl % 256 })) ∧ Below w.heap.size w w' :=
  set_hi g _ p 4 v _ 3 g.hl (lkh_4 hF) (fun b w => fhl_any b w) rfl rfl hx hv (fun _ _ => by kernel_rfl) w
theorem set_5ix (g : Rg) (p v : Int) (hF : thirdF p = 363) (hx : Wd16 g.ix) (hv : B8 v) (w : World) :
    Calls Tryz.prog 309 #[regsV g, .int .i64 p, .int .i64 5, .int .u8 v] w fun e w' => e = .returned (regsV ({ g with ix := 256 * (g.ix / 256) + v })) ∧ Below w.heap.size w w' :=
  set_lo g _ p 5 v _ 8 g.ix (lkh_5 hF) (fun b w => fix_any b w) rfl rfl hx hv (fun _ _ => by kernel_rfl) w
theorem set_5iy (g : Rg) (p v : Int) (hF : thirdF p = 364) (hx : Wd16 g.iy) (hv : B8 v) (w : World) :
    Calls Tryz.prog 309 #[regsV g, .int .i64 p, .int .i64 5, .int .u8 v] w fun e w' => e = .returned (regsV ({ g with iy := 256 * (g.iy / 256) + v })) ∧ Below w.heap.size w w' :=
  set_lo g _ p 5 v _ 9 g.iy (lkh_5 hF) (fun b w => fiy_any b w) rfl rfl hx hv (fun _ _ => by kernel_rfl) w
theorem set_5hl (g : Rg) (p v : Int) (hF : thirdF p = 365) (hx : Wd16 g.hl) (hv : B8 v) (w : World) :
    Calls Tryz.prog 309 #[regsV g, .int .i64 p, .int .i64 5, .int .u8 v] w fun e w' => e = .returned (regsV ({ g with hl := 256 * (g.hl / 256) + v })) ∧ Below w.heap.size w w' :=
  set_lo g _ p 5 v _ 3 g.hl (lkh_5 hF) (fun b w => fhl_any b w) rfl rfl hx hv (fun _ _ => by kernel_rfl) w
theorem set_7af (g : Rg) (p v : Int) (hx : Wd16 g.af) (hv : B8 v) (w : World) :
    Calls Tryz.prog 309 #[regsV g, .int .i64 p, .int .i64 7, .int .u8 v] w fun e w' => e = .returned (regsV ({ g with af := 256 * v + g.af % 256 })) ∧ Below w.heap.size w w' :=
  set_hi g _ p 7 v _ 0 g.af lkh_7 (fun b w => faf_any b w) rfl rfl hx hv (fun _ _ => by kernel_rfl) w
theorem set_no (g : Rg) (p k v : Int) (hk : k < 0 ∨ k = 6 ∨ 7 < k) (w : World) :
    Calls Tryz.prog 309 #[regsV g, .int .i64 p, .int .i64 k, .int .u8 v] w fun e w' => e = .returned (regsV (g)) ∧ Below w.heap.size w w' := by
  obtain ⟨af, bc, de, hl, af2, bc2, de2, hl2, ix, iy, sp, pc, wz, i, r, iff1, iff2, halted, late, mode⟩ := g
  have kh := Lib.hid (fun w => halves_any p w)
  have hk := Lib.hid hk
  obtain ⟨cs, hcs⟩ : ∃ cs, cs = (#[.int .u16 af, .int .u16 bc, .int .u16 de, .int .u16 hl, .int .u16 af2, .int .u16 bc2, .int .u16 de2, .int .u16 hl2, .int .u16 ix, .int .u16 iy, .int .u16 sp, .int .u16 pc, .int .u16 wz, .int .u8 i, .int .u8 r, .bool iff1, .bool iff2, .bool halted, .bool late, .int .i64 mode] : Array Value) := ⟨_, rfl⟩
  have HE := Lib.hid hcs
  show Calls _ _ #[.agg (#[.int .u16 af, .int .u16 bc, .int .u16 de, .int .u16 hl, .int .u16 af2, .int .u16 bc2, .int .u16 de2, .int .u16 hl2, .int .u16 ix, .int .u16 iy, .int .u16 sp, .int .u16 pc, .int .u16 wz, .int .u8 i, .int .u8 r, .bool iff1, .bool iff2, .bool halted, .bool late, .int .i64 mode] : Array Value), .int .i64 p, .int .i64 k, .int .u8 v] _ _
  rw [← hcs]
  clear hcs
  go_enter Tryz.func309, Tryz.ntmps309
  go_upto_region 1 with (fail)
  have rA := (Row.new w 24 cs).alloc (.cells zL 24)
  have rZ := Row.new (w.alloc (.cells cs 24)) 24 zL
  rw [show (w.alloc (.cells cs 24)).heap.size = w.heap.size + 1 by simp] at rZ
  have rZ := Lib.hid rZ
  have HB := Lib.hid (((Below.refl w.heap.size w).alloc (Nat.le_refl _) (.cells cs 24)).alloc (by simp) (.cells zL 24))
  have HW := Lib.hid (show ((w.alloc (.cells cs 24)).alloc (.cells zL 24)).heap.size = w.heap.size + 2 by simp)
  generalize (w.alloc (.cells cs 24)).alloc (.cells zL 24) = W0 at *
  rw [HE.out] at rA
  have rA := Lib.hid rA
  have hltA := rA.out.lt
  have hltZ := rZ.out.lt
  go_wp2_with fail
  refine (kh.out _).mono ?_
  rintro e w2 ⟨rfl, rfl⟩
  have hlk := lkh_no (p := p) hk.out (World.alloc_heap_new W0 (.map (halfEnts p) 7))
  have qA := Lib.hid (rA.out.alloc (.map (halfEnts p) 7))
  have qZ := Lib.hid (rZ.out.alloc (.map (halfEnts p) 7))
  have HB' := Lib.hid (HB.out.alloc HB.out.size (.map (halfEnts p) 7))
  have HW' := Lib.hid (show (W0.alloc (.map (halfEnts p) 7)).heap.size = w.heap.size + 3 by rw [World.size_alloc, HW.out])
  clear HB HW rA rZ
  have HB := HB'
  have HW := HW'
  have rA := qA
  have rZ := qZ
  clear HB' HW' qA qZ
  generalize W0.alloc (.map (halfEnts p) 7) = W1 at *
  generalize W0.heap.size = M at *
  go_upto_region 2 with (fail)
  have rH := Row.new W1 229 (#[.nilFunc, .bool false] : Array Value)
  rw [HW.out] at rH
  rw [HW.out]
  have rH := Lib.hid rH
  have qA := Lib.hid (rA.out.alloc (.cells (#[.nilFunc, .bool false] : Array Value) 229))
  have qZ := Lib.hid (rZ.out.alloc (.cells (#[.nilFunc, .bool false] : Array Value) 229))
  have HB' := Lib.hid (HB.out.alloc HB.out.size (.cells (#[.nilFunc, .bool false] : Array Value) 229))
  have HW' := Lib.hid (show (W1.alloc (.cells (#[.nilFunc, .bool false] : Array Value) 229)).heap.size = w.heap.size + 4 by rw [World.size_alloc, HW.out])
  clear HB HW rA rZ
  have HB := HB'
  have HW := HW'
  have rA := qA
  have rZ := qZ
  clear HB' HW' qA qZ
  generalize W1.alloc (.cells (#[.nilFunc, .bool false] : Array Value) 229) = W2 at *
  go_upto_region 3 with (fail)
  obtain ⟨ds, hds⟩ : ∃ ds, ds = (#[.int .u16 af, .int .u16 bc, .int .u16 de, .int .u16 hl, .int .u16 af2, .int .u16 bc2, .int .u16 de2, .int .u16 hl2, .int .u16 ix, .int .u16 iy, .int .u16 sp, .int .u16 pc, .int .u16 wz, .int .u8 i, .int .u8 r, .bool iff1, .bool iff2, .bool halted, .bool late, .int .i64 mode] : Array Value) := ⟨_, rfl⟩
  have i24 : Hid ((Tryz.prog.info? 24).map (·.size) = some ds.size) := Lib.hid (by rw [hds]; exact info24)
  have one : Hid (ds.toList.all (·.oneCell') = true) := Lib.hid (by rw [hds]; rfl)
  have hsz : Hid (ds.size = 20) := Lib.hid (by rw [hds]; rfl)
  have HD := Lib.hid hds
  have hR := rA.out
  rw [← hds] at hR
  clear hds
  apply wp_region_lit
  refine wpList_load_row rfl 24 _ rfl _ _ _ rfl hR _ Tryz.underlying24 rfl i24.out ?_
  refine wpList_store_row rfl 24 _ _ rfl (w.heap.size + 1) _ _ ds rfl rfl rZ.out (by rw [hsz.out]; exact Eq.refl 20) i24.out one.out ?_
  have rE := rZ.out.setAll (vs := ds) (by rw [hsz.out]; exact Eq.refl 20)
  have HE9 := Lib.hid (Below.setCellsAll HB.out (b := w.heap.size + 1) (Nat.le_add_right _ _) ds.toList 0)
  generalize W2.setCells (w.heap.size + 1) 0 ds.toList = W9 at *
  apply wpList_nil
  rename_i hret
  refine hret _ _ (wp_ret ?_)
  try simp only [Exit.inBlock, Exit.then]
  refine bodyPost_ret (results_row rfl rfl rE _ Tryz.underlying24 rfl i24.out) rfl ?_
  exact ⟨(congrArg (fun q => Ending.returned (Value.agg q)) HD.out).trans rfl, HE9.out⟩
theorem set_any (g : Rg) (hg : RgB g) (p k v : Int) (hv : B8 v) (w : World) :
    Calls Tryz.prog 309 #[regsV g, .int .i64 p, .int .i64 k, .int .u8 v] w fun e w' => e = .returned (regsV (setG g p k v)) ∧ Below w.heap.size w w' := by
  by_cases hn : k < 0 ∨ k = 6 ∨ 7 < k
  · rw [setG_no g p k v hn]
    exact set_no g p k v hn w
  obtain rfl | rfl | rfl | rfl | rfl | rfl | rfl : k = 0 ∨ k = 1 ∨ k = 2 ∨ k = 3 ∨ k = 4 ∨ k = 5 ∨ k = 7 := by omega
  · exact set_0bc g p v hg.bc hv w
  · exact set_1bc g p v hg.bc hv w
  · exact set_2de g p v hg.de hv w
  · exact set_3de g p v hg.de hv w
  · show Calls _ _ _ _ fun e w' => e = .returned (regsV (setPairG g p 2 (256 * v + pairG g p 2 % 256))) ∧ _
    rw [setPairG_2, pairG_2]
    by_cases h3 : p = 3
    · rw [if_pos h3, if_pos h3]
      exact set_4ix g p v (thirdF_dd h3) hg.ix hv w
    by_cases h4 : p = 4
    · rw [if_neg h3, if_pos h4, if_neg h3, if_pos h4]
      exact set_4iy g p v (thirdF_fd h3 h4) hg.iy hv w
    · rw [if_neg h3, if_neg h4, if_neg h3, if_neg h4]
      exact set_4hl g p v (thirdF_hl h3 h4) hg.hl hv w
  · show Calls _ _ _ _ fun e w' => e = .returned (regsV (setPairG g p 2 (256 * (pairG g p 2 / 256) + v))) ∧ _
    rw [setPairG_2, pairG_2]
    by_cases h3 : p = 3
    · rw [if_pos h3, if_pos h3]
      exact set_5ix g p v (thirdF_dd h3) hg.ix hv w
    by_cases h4 : p = 4
    · rw [if_neg h3, if_pos h4, if_neg h3, if_pos h4]
      exact set_5iy g p v (thirdF_fd h3 h4) hg.iy hv w
    · rw [if_neg h3, if_neg h4, if_neg h3, if_neg h4]
      exact set_5hl g p v (thirdF_hl h3 h4) hg.hl hv w
  · exact set_7af g p v hg.af hv w
theorem join_sub_fin : ∀ b0 b1 b2 b3 b4 b5 b7 : Bool, joinUpto [bits .xor .u8 (mkM b0 b1 b2 b3 b4 b5 false b7) 17, 2] 2 = mkM b0 b1 b2 (!b3) b4 b5 true (!b7) := by decide +kernel
theorem subR_add (a b : Int) (c : Bool) : addR a (255 - b) (!c) = subR a b c := by
  unfold addR subR one
  cases c <;> simp <;> omega
theorem sub_math (a b : Int) (c : Bool) (ha : B8 a) (hb : B8 b) : joinUpto [bits .xor .u8 (addF a (255 - b) (!c)) 17, 2] 2 = subF a b c := by
  obtain ⟨a0, a1⟩ := ha
  obtain ⟨b0, b1⟩ := hb
  unfold addF subF
  rw [subR_add, join_sub_fin]
  have key := one_bounds c
  have e : one (!c) = 1 - one c := by cases c <;> rfl
  rw [e]
  have n4 : (!decide (15 < a % 16 + (255 - b) % 16 + (1 - one c))) = decide (a % 16 - b % 16 - one c < 0) := by
    rw [Bool.eq_iff_iff]; simp; omega
  have n8 : (!decide (255 < a + (255 - b) + (1 - one c))) = decide (a - b - one c < 0) := by
    rw [Bool.eq_iff_iff]; simp; omega
  have n7 : farM (signedM a + signedM (255 - b) + (1 - one c)) = farM (signedM a - signedM b - one c) := by
    congr 1
    unfold signedM
    split <;> split <;> split <;> omega
  rw [n4, n8, n7]
theorem not8_fin : ∀ x : Fin 256, bits .xor .u8 IntKind.u8.max (x.val : Int) = 255 - (x.val : Int) := by decide +kernel
theorem not8 (b : Int) (hb : B8 b) : bits .xor .u8 IntKind.u8.max b = 255 - b :=
  byte_all (P := fun b => bits .xor .u8 IntKind.u8.max b = 255 - b) not8_fin b hb.1 hb.2
theorem sub_any (a b : Int) (c : Bool) (ha : B8 a) (hb : B8 b) (w : World) :
    Calls Tryz.prog 285 #[.int .u8 a, .int .u8 b, .bool c] w fun e w' => e = .returned (two (subR a b c) (subF a b c)) ∧ Below w.heap.size w w' := by
  have hm := Lib.hid (sub_math a b c ha hb)
  have hr := Lib.hid (subR_add a b c)
  have ha := Lib.hid ha
  have hn : Hid (B8 (255 - b)) := Lib.hid ⟨by have := hb.2; omega, by have := hb.1; omega⟩
  have b0 := hb.1
  have b1 := hb.2
  have hx := not8 b hb
  clear hb
  go_enter Tryz.func285, Tryz.ntmps285
  go_wp2_with fail
  refine (add_any _ _ _ ha.out hn.out _).mono ?_
  rintro e w' ⟨rfl, hb⟩
  have hsz := hb.size
  go_wp2_with fail
  refine (join_any _ 0 2 2 [bits .xor .u8 (addF a (255 - b) (!c)) 17, 2] _ (by simp) (by omega) (cells2 _ _ _ _ _)).mono ?_
  rintro e w' ⟨rfl, rfl⟩
  go_wp2_with fail
  go_ret2
  exact ⟨by rw [hm.out, hr.out]; rfl, (by repeat (first | exact Below.refl _ _ | assumption | refine bstep ?_ (by assumption) | refine Below.drew ?_ | refine Below.alloc ?_ (by first | (simp; done) | (simp; omega) | omega) _ | refine Below.setCell ?_ (by first | (simp; done) | (simp; omega) | omega) _))⟩
theorem cmp_math (a b : Int) : keepM (subF a b false) b 40 = cmpF a b := by
  unfold keepM subF cmpF
  generalize isM (subR a b false) 7 = x0
  generalize (subR a b false == 0) = x1
  generalize isM (subR a b false) 5 = x2
  generalize decide (a % 16 - b % 16 - one false < 0) = x3
  generalize isM (subR a b false) 3 = x4
  generalize farM (signedM a - signedM b - one false) = x5
  generalize decide (a - b - one false < 0) = x7
  obtain ⟨h0, h1, h2, h3, h4, h5, h6, h7⟩ := of_mkM x0 x1 x2 x3 x4 x5 true x7
  obtain ⟨z0, z1, z2, z3, z4, z5, z6, z7⟩ : isM 40 0 = false ∧ isM 40 1 = false ∧ isM 40 2 = false ∧ isM 40 3 = true ∧ isM 40 4 = false ∧ isM 40 5 = true ∧ isM 40 6 = false ∧ isM 40 7 = false := by decide +kernel
  rw [h0, h1, h2, h3, h4, h5, h6, h7, z0, z1, z2, z3, z4, z5, z6, z7]
  rfl
theorem keep1 (x0 x1 x2 x3 x4 x5 x6 x7 : Bool) (f : Int) : keepM (mkM x0 x1 x2 x3 x4 x5 x6 x7) f 1 = mkM x0 x1 x2 x3 x4 x5 x6 (isM f 0) := by
  unfold keepM
  obtain ⟨h0, h1, h2, h3, h4, h5, h6, h7⟩ := of_mkM x0 x1 x2 x3 x4 x5 x6 x7
  obtain ⟨z0, z1, z2, z3, z4, z5, z6, z7⟩ : isM 1 0 = true ∧ isM 1 1 = false ∧ isM 1 2 = false ∧ isM 1 3 = false ∧ isM 1 4 = false ∧ isM 1 5 = false ∧ isM 1 6 = false ∧ isM 1 7 = false := by decide +kernel
  rw [h0, h1, h2, h3, h4, h5, h6, h7, z0, z1, z2, z3, z4, z5, z6, z7]
  rfl
theorem cmp_any (a b : Int) (ha : B8 a) (hb : B8 b) (w : World) :
    Calls Tryz.prog 314 #[.int .u8 a, .int .u8 b] w fun e w' => e = .returned (.int .u8 (cmpF a b)) ∧ Below w.heap.size w w' := by
  have hm := Lib.hid (cmp_math a b)
  have hf := Lib.hid (subF_byte a b false)
  have ha := Lib.hid ha
  have hB := Lib.hid hb
  clear hb
  go_enter Tryz.func314, Tryz.ntmps314
  go_wp2_with (first
    | (go_at_call 285; refine (sub_any _ _ _ ha.out hB.out _).mono ?_; rintro e w' ⟨rfl, hb⟩; have hsz := hb.size)
    | (go_at_call 273; refine (keep_any _ _ _ hf.out.1 hf.out.2 hB.out.1 hB.out.2 (by omega) (by omega) _).mono ?_; rintro e w' ⟨rfl, rfl⟩))
  go_ret
  exact ⟨by rw [hm.out]; rfl, (by repeat (first | exact Below.refl _ _ | assumption | refine bstep ?_ (by assumption) | refine Below.drew ?_ | refine Below.alloc ?_ (by first | (simp; done) | (simp; omega) | omega) _ | refine Below.setCell ?_ (by first | (simp; done) | (simp; omega) | omega) _))⟩
theorem inc_any (a f : Int) (ha : B8 a) (hf : B8 f) (w : World) :
    Calls Tryz.prog 252 #[.int .u8 a, .int .u8 f] w fun e w' => e = .returned (two (addR a 1 false) (incF a f)) ∧ Below w.heap.size w w' := by
  have hm : Hid (keepM (addF a 1 false) f 1 = incF a f) := Lib.hid (keep1 _ _ _ _ _ _ _ _ f)
  have hg := Lib.hid (addF_byte a 1 false)
  have ha := Lib.hid ha
  have hf := Lib.hid hf
  go_enter Tryz.func252, Tryz.ntmps252
  go_wp2_with (first
    | (go_at_call 303; refine (add_any _ _ _ ha.out ⟨by omega, by omega⟩ _).mono ?_; rintro e w' ⟨rfl, hb⟩; have hsz := hb.size)
    | (go_at_call 273; refine (keep_any _ _ _ hg.out.1 hg.out.2 hf.out.1 hf.out.2 (by omega) (by omega) _).mono ?_; rintro e w' ⟨rfl, rfl⟩))
  go_ret2
  exact ⟨by rw [hm.out]; rfl, (by repeat (first | exact Below.refl _ _ | assumption | refine bstep ?_ (by assumption) | refine Below.drew ?_ | refine Below.alloc ?_ (by first | (simp; done) | (simp; omega) | omega) _ | refine Below.setCell ?_ (by first | (simp; done) | (simp; omega) | omega) _))⟩
theorem dec_any (a f : Int) (ha : B8 a) (hf : B8 f) (w : World) :
    Calls Tryz.prog 253 #[.int .u8 a, .int .u8 f] w fun e w' => e = .returned (two (subR a 1 false) (decF a f)) ∧ Below w.heap.size w w' := by
  have hm : Hid (keepM (subF a 1 false) f 1 = decF a f) := Lib.hid (keep1 _ _ _ _ _ _ _ _ f)
  have hg := Lib.hid (subF_byte a 1 false)
  have ha := Lib.hid ha
  have hf := Lib.hid hf
  go_enter Tryz.func253, Tryz.ntmps253
  go_wp2_with (first
    | (go_at_call 285; refine (sub_any _ _ _ ha.out ⟨by omega, by omega⟩ _).mono ?_; rintro e w' ⟨rfl, hb⟩; have hsz := hb.size)
    | (go_at_call 273; refine (keep_any _ _ _ hg.out.1 hg.out.2 hf.out.1 hf.out.2 (by omega) (by omega) _).mono ?_; rintro e w' ⟨rfl, rfl⟩))
  go_ret2
  exact ⟨by rw [hm.out]; rfl, (by repeat (first | exact Below.refl _ _ | assumption | refine bstep ?_ (by assumption) | refine Below.drew ?_ | refine Below.alloc ?_ (by first | (simp; done) | (simp; omega) | omega) _ | refine Below.setCell ?_ (by first | (simp; done) | (simp; omega) | omega) _))⟩
theorem neg_any (a : Int) (ha : B8 a) (w : World) :
    Calls Tryz.prog 232 #[.int .u8 a] w fun e w' => e = .returned (two (subR 0 a false) (subF 0 a false)) ∧ Below w.heap.size w w' := by
  have ha := Lib.hid ha
  go_enter Tryz.func232, Tryz.ntmps232
  go_wp2_with (first
    | (go_at_call 285; refine (sub_any _ _ _ ⟨by omega, by omega⟩ ha.out _).mono ?_; rintro e w' ⟨rfl, hb⟩; have hsz := hb.size))
  go_ret2
  exact ⟨rfl, (by repeat (first | exact Below.refl _ _ | assumption | refine bstep ?_ (by assumption) | refine Below.drew ?_ | refine Below.alloc ?_ (by first | (simp; done) | (simp; omega) | omega) _ | refine Below.setCell ?_ (by first | (simp; done) | (simp; omega) | omega) _))⟩
abbrev wtwo (r f : Int) : Value := .tuple #[.int .u16 r, .int .u8 f]
theorem wcarry_any (f : Int) (hf : B8 f) (w : World) :
    Calls Tryz.prog 326 #[.int .u8 f] w fun e w' => e = .returned (.bool (isM f 0)) ∧ w = w' := by
  have k := Lib.hid (mask_all f hf.1 hf.2).2.1
  have f0 := hf.1
  have f1 := hf.2
  go_enter Tryz.func326, Tryz.ntmps326
  go_wp2
  go_ret
  exact ⟨ret_bool k.out, rfl⟩
theorem secondAdd_any (a b low : Int) (ha : B8 a) (hb : B8 b) (hl : B8 low) (O L : Nat) (w : World) (hO : w.cell? ⟨O, 0, none⟩ = some (.func (.func 303) #[] #[])) (hL : w.cell? ⟨L, 0, none⟩ = some (.int .u8 low)) :
    Calls Tryz.prog 362 #[.int .u8 a, .int .u8 b, .pointer (some ⟨O, 0, none⟩), .pointer (some ⟨L, 0, none⟩)] w fun e w' =>
      e = .returned (two (addR a b (isM low 0)) (keepM (addF a b (isM low 0)) (bits .and .u8 (addF a b (isM low 0)) low) 64)) ∧ Below w.heap.size w w' := by
  have hB := hb
  clear hb
  have hf := addF_byte a b (isM low 0)
  have hg : B8 (bits .and .u8 (addF a b (isM low 0)) low) := and_byte _ _ hf.1 hf.2 hl.1 hl.2
  go_enter Tryz.func362, Tryz.ntmps362
  go_wp2_with fail
  go_region_held3 (fun w' => w'.cell? ⟨O, 0, none⟩ = some (.func (.func 303) #[] #[]) ∧ w'.cell? ⟨L, 0, none⟩ = some (.int .u8 low)) (first | go_keep | exact keep2 hb (by assumption))
    (first
    | (go_at_call 326; refine (wcarry_any _ (by assumption) _).mono ?_; rintro e w' ⟨rfl, rfl⟩)
    | (go_at_call 303; refine (add_any _ _ _ (by assumption) (by assumption) _).mono ?_; rintro e w' ⟨rfl, hb⟩; have hsz := hb.size))
  rename_i hh
  obtain ⟨h1, h2⟩ := hh
  have f0 := hf.1
  have f1 := hf.2
  have l0 := hl.1
  have l1 := hl.2
  go_wp2_with (first
    | (go_at_call 273; refine (keep_any _ _ _ (B8.lo (by assumption)) (B8.hi (by assumption)) (B8.lo (by assumption)) (B8.hi (by assumption)) (by omega) (by omega) _).mono ?_; rintro e w' ⟨rfl, rfl⟩))
  go_ret2
  exact ⟨rfl, (by repeat (first | exact Below.refl _ _ | assumption | refine bstep ?_ (by assumption) | refine Below.drew ?_ | refine Below.alloc ?_ (by first | (simp; done) | (simp; omega) | omega) _ | refine Below.setCell ?_ (by first | (simp; done) | (simp; omega) | omega) _))⟩
theorem firstAdd_any (a b : Int) (c : Bool) (ha : B8 a) (hb : B8 b) (w : World) :
    Calls Tryz.prog 352 #[.agg #[.func (.func 303) #[] #[]], .int .u8 a, .int .u8 b, .bool c] w fun e w' => ∃ O L,
      e = .returned (.tuple #[.int .u8 (addR a b c), .func (.func 362) #[] #[.pointer (some ⟨O, 0, none⟩), .pointer (some ⟨L, 0, none⟩)]]) ∧
      (w'.cell? ⟨O, 0, none⟩ = some (.func (.func 303) #[] #[]) ∧ w'.cell? ⟨L, 0, none⟩ = some (.int .u8 (addF a b c))) ∧ Below w.heap.size w w' := by
  have hB := hb
  clear hb
  go_enter Tryz.func352, Tryz.ntmps352
  go_wp2_with (first
    | (go_at_call 303; refine (add_any _ _ _ (by assumption) (by assumption) _).mono ?_; rintro e w' ⟨rfl, hb⟩; have hsz := hb.size))
  go_ret2
  refine ⟨w.heap.size, w'.heap.size, rfl, ⟨cell_kept (cell_new w _ _) (Below.trans hb (Below.alloc (Below.refl _ _) hsz _)), cell_new _ _ _⟩, ?_⟩
  (try simp only [World.size_alloc] at hsz)
  exact (by repeat (first | exact Below.refl _ _ | assumption | refine bstep ?_ (by assumption) | refine Below.drew ?_ | refine Below.alloc ?_ (by first | (simp; done) | (simp; omega) | omega) _ | refine Below.setCell ?_ (by first | (simp; done) | (simp; omega) | omega) _))
theorem wordsAdd_any (a b : Int) (c : Bool) (ha : W16 a) (hb : W16 b) (w : World) :
    Calls Tryz.prog 325 #[.agg #[.func (.func 303) #[] #[]], .int .u16 a, .int .u16 b, .bool c] w fun e w' =>
      e = .returned (wtwo (adcW a b c) (adcF a b c)) ∧ Below w.heap.size w w' := by
  have hB := hb
  clear hb
  have al := ha.low
  have ah := ha.high
  have bl := hB.low
  have bh := hB.high
  have lf := addF_byte (a % 256) (b % 256) c
  have rl := addR_byte (a % 256) (b % 256) c
  have rh := addR_byte (a / 256) (b / 256) (isM (addF (a % 256) (b % 256) c) 0)
  have hw := Lib.hid (adc_word a b c ha hB)
  have hf := Lib.hid (adc_flags a b c ha hB)
  go_enter Tryz.func325, Tryz.ntmps325
  go_wp2_with fail
  go_region_held3 (fun w' => w'.cell? ⟨w.heap.size, 0, none⟩ = some (.func (.func 303) #[] #[])) (first | go_keep | exact cell_kept (by assumption) hb)
    (first
    | (go_at_call 193; refine (lo_any _ (W16.lo (by assumption)) (W16.hi (by assumption)) _).mono ?_; rintro e w' ⟨rfl, rfl⟩)
    | (go_at_call 352; refine (firstAdd_any _ _ _ (by assumption) (by assumption) _).mono ?_; rintro e w' ⟨O, L, rfl, hcell, hb⟩; have hsz := hb.size))
  rename_i hh
  clear hh
  obtain ⟨h1, h2⟩ := hcell
  go_wp2_with (first
    | (go_at_call 192; refine (hi_any _ (W16.lo (by assumption)) (W16.hi (by assumption)) _).mono ?_; rintro e w' ⟨rfl, rfl⟩)
    | (go_at_call 121; refine (word_any _ _ (B8.lo (by assumption)) (B8.hi (by assumption)) (B8.lo (by assumption)) (B8.hi (by assumption)) _).mono ?_; rintro e w' ⟨rfl, rfl⟩)
    | (go_at_call 362; refine (secondAdd_any _ _ (addF (a % 256) (b % 256) c) (by assumption) (by assumption) lf _ _ _ h1 h2).mono ?_; rintro e w2 ⟨rfl, hb2⟩; have hsz2 := hb2.size))
  go_ret2
  refine ⟨by rw [← hw.out, ← hf.out]; rfl, ?_⟩
  (try simp only [World.size_alloc] at hsz)
  exact (by repeat (first | exact Below.refl _ _ | assumption | refine bstep ?_ (by assumption) | refine Below.drew ?_ | refine Below.alloc ?_ (by first | (simp; done) | (simp; omega) | omega) _ | refine Below.setCell ?_ (by first | (simp; done) | (simp; omega) | omega) _))
theorem secondSub_any (a b low : Int) (ha : B8 a) (hb : B8 b) (hl : B8 low) (O L : Nat) (w : World) (hO : w.cell? ⟨O, 0, none⟩ = some (.func (.func 285) #[] #[])) (hL : w.cell? ⟨L, 0, none⟩ = some (.int .u8 low)) :
    Calls Tryz.prog 362 #[.int .u8 a, .int .u8 b, .pointer (some ⟨O, 0, none⟩), .pointer (some ⟨L, 0, none⟩)] w fun e w' =>
      e = .returned (two (subR a b (isM low 0)) (keepM (subF a b (isM low 0)) (bits .and .u8 (subF a b (isM low 0)) low) 64)) ∧ Below w.heap.size w w' := by
  have hB := hb
  clear hb
  have hf := subF_byte a b (isM low 0)
  have hg : B8 (bits .and .u8 (subF a b (isM low 0)) low) := and_byte _ _ hf.1 hf.2 hl.1 hl.2
  go_enter Tryz.func362, Tryz.ntmps362
  go_wp2_with fail
  go_region_held3 (fun w' => w'.cell? ⟨O, 0, none⟩ = some (.func (.func 285) #[] #[]) ∧ w'.cell? ⟨L, 0, none⟩ = some (.int .u8 low)) (first | go_keep | exact keep2 hb (by assumption))
    (first
    | (go_at_call 326; refine (wcarry_any _ (by assumption) _).mono ?_; rintro e w' ⟨rfl, rfl⟩)
    | (go_at_call 285; refine (sub_any _ _ _ (by assumption) (by assumption) _).mono ?_; rintro e w' ⟨rfl, hb⟩; have hsz := hb.size))
  rename_i hh
  obtain ⟨h1, h2⟩ := hh
  have f0 := hf.1
  have f1 := hf.2
  have l0 := hl.1
  have l1 := hl.2
  go_wp2_with (first
    | (go_at_call 273; refine (keep_any _ _ _ (B8.lo (by assumption)) (B8.hi (by assumption)) (B8.lo (by assumption)) (B8.hi (by assumption)) (by omega) (by omega) _).mono ?_; rintro e w' ⟨rfl, rfl⟩))
  go_ret2
  exact ⟨rfl, (by repeat (first | exact Below.refl _ _ | assumption | refine bstep ?_ (by assumption) | refine Below.drew ?_ | refine Below.alloc ?_ (by first | (simp; done) | (simp; omega) | omega) _ | refine Below.setCell ?_ (by first | (simp; done) | (simp; omega) | omega) _))⟩
theorem firstSub_any (a b : Int) (c : Bool) (ha : B8 a) (hb : B8 b) (w : World) :
    Calls Tryz.prog 352 #[.agg #[.func (.func 285) #[] #[]], .int .u8 a, .int .u8 b, .bool c] w fun e w' => ∃ O L,
      e = .returned (.tuple #[.int .u8 (subR a b c), .func (.func 362) #[] #[.pointer (some ⟨O, 0, none⟩), .pointer (some ⟨L, 0, none⟩)]]) ∧
      (w'.cell? ⟨O, 0, none⟩ = some (.func (.func 285) #[] #[]) ∧ w'.cell? ⟨L, 0, none⟩ = some (.int .u8 (subF a b c))) ∧ Below w.heap.size w w' := by
  have hB := hb
  clear hb
  go_enter Tryz.func352, Tryz.ntmps352
  go_wp2_with (first
    | (go_at_call 285; refine (sub_any _ _ _ (by assumption) (by assumption) _).mono ?_; rintro e w' ⟨rfl, hb⟩; have hsz := hb.size))
  go_ret2
  refine ⟨w.heap.size, w'.heap.size, rfl, ⟨cell_kept (cell_new w _ _) (Below.trans hb (Below.alloc (Below.refl _ _) hsz _)), cell_new _ _ _⟩, ?_⟩
  (try simp only [World.size_alloc] at hsz)
  exact (by repeat (first | exact Below.refl _ _ | assumption | refine bstep ?_ (by assumption) | refine Below.drew ?_ | refine Below.alloc ?_ (by first | (simp; done) | (simp; omega) | omega) _ | refine Below.setCell ?_ (by first | (simp; done) | (simp; omega) | omega) _))
theorem wordsSub_any (a b : Int) (c : Bool) (ha : W16 a) (hb : W16 b) (w : World) :
    Calls Tryz.prog 325 #[.agg #[.func (.func 285) #[] #[]], .int .u16 a, .int .u16 b, .bool c] w fun e w' =>
      e = .returned (wtwo (sbcW a b c) (sbcF a b c)) ∧ Below w.heap.size w w' := by
  have hB := hb
  clear hb
  have al := ha.low
  have ah := ha.high
  have bl := hB.low
  have bh := hB.high
  have lf := subF_byte (a % 256) (b % 256) c
  have rl := subR_byte (a % 256) (b % 256) c
  have rh := subR_byte (a / 256) (b / 256) (isM (subF (a % 256) (b % 256) c) 0)
  have hw := Lib.hid (sbc_word a b c ha hB)
  have hf := Lib.hid (sbc_flags a b c ha hB)
  go_enter Tryz.func325, Tryz.ntmps325
  go_wp2_with fail
  go_region_held3 (fun w' => w'.cell? ⟨w.heap.size, 0, none⟩ = some (.func (.func 285) #[] #[])) (first | go_keep | exact cell_kept (by assumption) hb)
    (first
    | (go_at_call 193; refine (lo_any _ (W16.lo (by assumption)) (W16.hi (by assumption)) _).mono ?_; rintro e w' ⟨rfl, rfl⟩)
    | (go_at_call 352; refine (firstSub_any _ _ _ (by assumption) (by assumption) _).mono ?_; rintro e w' ⟨O, L, rfl, hcell, hb⟩; have hsz := hb.size))
  rename_i hh
  clear hh
  obtain ⟨h1, h2⟩ := hcell
  go_wp2_with (first
    | (go_at_call 192; refine (hi_any _ (W16.lo (by assumption)) (W16.hi (by assumption)) _).mono ?_; rintro e w' ⟨rfl, rfl⟩)
    | (go_at_call 121; refine (word_any _ _ (B8.lo (by assumption)) (B8.hi (by assumption)) (B8.lo (by assumption)) (B8.hi (by assumption)) _).mono ?_; rintro e w' ⟨rfl, rfl⟩)
    | (go_at_call 362; refine (secondSub_any _ _ (subF (a % 256) (b % 256) c) (by assumption) (by assumption) lf _ _ _ h1 h2).mono ?_; rintro e w2 ⟨rfl, hb2⟩; have hsz2 := hb2.size))
  go_ret2
  refine ⟨by rw [← hw.out, ← hf.out]; rfl, ?_⟩
  (try simp only [World.size_alloc] at hsz)
  exact (by repeat (first | exact Below.refl _ _ | assumption | refine bstep ?_ (by assumption) | refine Below.drew ?_ | refine Below.alloc ?_ (by first | (simp; done) | (simp; omega) | omega) _ | refine Below.setCell ?_ (by first | (simp; done) | (simp; omega) | omega) _))
theorem adding_any (w : World) :
    Calls Tryz.prog 327 #[] w fun e w' => e = .returned (.agg #[.func (.func 303) #[] #[]]) ∧ Below w.heap.size w w' := by
  go_enter Tryz.func327, Tryz.ntmps327
  go_wp2
  refine bodyPost_ret (v := .agg #[.func (.func 303) #[] #[]]) (by simp [results, Tryz.f327, go_sem]) rfl ?_
  exact ⟨rfl, (by repeat (first | exact Below.refl _ _ | assumption | refine bstep ?_ (by assumption) | refine Below.drew ?_ | refine Below.alloc ?_ (by first | (simp; done) | (simp; omega) | omega) _ | refine Below.setCell ?_ (by first | (simp; done) | (simp; omega) | omega) _))⟩
theorem subtracting_any (w : World) :
    Calls Tryz.prog 324 #[] w fun e w' => e = .returned (.agg #[.func (.func 285) #[] #[]]) ∧ Below w.heap.size w w' := by
  go_enter Tryz.func324, Tryz.ntmps324
  go_wp2
  refine bodyPost_ret (v := .agg #[.func (.func 285) #[] #[]]) (by simp [results, Tryz.f324, go_sem]) rfl ?_
  exact ⟨rfl, (by repeat (first | exact Below.refl _ _ | assumption | refine bstep ?_ (by assumption) | refine Below.drew ?_ | refine Below.alloc ?_ (by first | (simp; done) | (simp; omega) | omega) _ | refine Below.setCell ?_ (by first | (simp; done) | (simp; omega) | omega) _))⟩
theorem wadd_any (a b f : Int) (ha : W16 a) (hb : W16 b) (hf : B8 f) (w : World) :
    Calls Tryz.prog 299 #[.int .u16 a, .int .u16 b, .int .u8 f] w fun e w' => e = .returned (wtwo (adcW a b false) (addWF a b f)) ∧ Below w.heap.size w w' := by
  have hB := hb
  clear hb
  have hm := Lib.hid (add_flags a b f)
  have hg := adcF_byte a b false
  go_enter Tryz.func299, Tryz.ntmps299
  go_wp2_with (first
    | (go_at_call 327; refine (adding_any _).mono ?_; rintro e w' ⟨rfl, hb⟩; have hsz := hb.size)
    | (go_at_call 325; refine (wordsAdd_any _ _ _ (by assumption) (by assumption) _).mono ?_; rintro e w' ⟨rfl, hb⟩; have hsz := hb.size)
    | (go_at_call 273; refine (keep_any _ _ _ (B8.lo (by assumption)) (B8.hi (by assumption)) (B8.lo (by assumption)) (B8.hi (by assumption)) (by omega) (by omega) _).mono ?_; rintro e w' ⟨rfl, rfl⟩))
  go_ret2
  exact ⟨by rw [← hm.out]; rfl, (by repeat (first | exact Below.refl _ _ | assumption | refine bstep ?_ (by assumption) | refine Below.drew ?_ | refine Below.alloc ?_ (by first | (simp; done) | (simp; omega) | omega) _ | refine Below.setCell ?_ (by first | (simp; done) | (simp; omega) | omega) _))⟩
theorem wadc_any (a b f : Int) (ha : W16 a) (hb : W16 b) (hf : B8 f) (w : World) :
    Calls Tryz.prog 281 #[.int .u16 a, .int .u16 b, .int .u8 f] w fun e w' => e = .returned (wtwo (adcW a b (isM f 0)) (adcF a b (isM f 0))) ∧ Below w.heap.size w w' := by
  have hB := hb
  clear hb
  go_enter Tryz.func281, Tryz.ntmps281
  go_wp2_with (first
    | (go_at_call 327; refine (adding_any _).mono ?_; rintro e w' ⟨rfl, hb⟩; have hsz := hb.size)
    | (go_at_call 326; refine (wcarry_any _ (by assumption) _).mono ?_; rintro e w' ⟨rfl, rfl⟩)
    | (go_at_call 325; refine (wordsAdd_any _ _ _ (by assumption) (by assumption) _).mono ?_; rintro e w' ⟨rfl, hb⟩; have hsz := hb.size))
  go_ret2
  exact ⟨rfl, (by repeat (first | exact Below.refl _ _ | assumption | refine bstep ?_ (by assumption) | refine Below.drew ?_ | refine Below.alloc ?_ (by first | (simp; done) | (simp; omega) | omega) _ | refine Below.setCell ?_ (by first | (simp; done) | (simp; omega) | omega) _))⟩
theorem wsbc_any (a b f : Int) (ha : W16 a) (hb : W16 b) (hf : B8 f) (w : World) :
    Calls Tryz.prog 279 #[.int .u16 a, .int .u16 b, .int .u8 f] w fun e w' => e = .returned (wtwo (sbcW a b (isM f 0)) (sbcF a b (isM f 0))) ∧ Below w.heap.size w w' := by
  have hB := hb
  clear hb
  go_enter Tryz.func279, Tryz.ntmps279
  go_wp2_with (first
    | (go_at_call 324; refine (subtracting_any _).mono ?_; rintro e w' ⟨rfl, hb⟩; have hsz := hb.size)
    | (go_at_call 326; refine (wcarry_any _ (by assumption) _).mono ?_; rintro e w' ⟨rfl, rfl⟩)
    | (go_at_call 325; refine (wordsSub_any _ _ _ (by assumption) (by assumption) _).mono ?_; rintro e w' ⟨rfl, hb⟩; have hsz := hb.size))
  go_ret2
  exact ⟨rfl, (by repeat (first | exact Below.refl _ _ | assumption | refine bstep ?_ (by assumption) | refine Below.drew ?_ | refine Below.alloc ?_ (by first | (simp; done) | (simp; omega) | omega) _ | refine Below.setCell ?_ (by first | (simp; done) | (simp; omega) | omega) _))⟩
theorem wmove_any (x y : Int) (hx : W16 x) (w : World) :
    Calls Tryz.prog 289 #[.int .u16 x, .int .i64 y] w fun e w' => e = .returned (.int .u16 (moveM x y)) ∧ w = w' := by
  have x0 := hx.1
  have x1 := hx.2
  go_enter Tryz.func289, Tryz.ntmps289
  go_wp2
  go_ret
  exact ⟨ret_int (by simp only [IntKind.wrap_u16]; unfold moveM; omega), rfl⟩
theorem near_any (x y : Int) (hx : W16 x) (hy : B8 y) (w : World) :
    Calls Tryz.prog 245 #[.int .u16 x, .int .u8 y] w fun e w' => e = .returned (.int .u16 (moveM x (signedM y))) ∧ w = w' := by
  go_enter Tryz.func245, Tryz.ntmps245
  go_wp2_with (first
    | (go_at_call 295; refine (signed_any _ (B8.lo (by assumption)) (B8.hi (by assumption)) _).mono ?_; rintro e w' ⟨rfl, rfl⟩)
    | (go_at_call 289; refine (wmove_any _ _ (by assumption) _).mono ?_; rintro e w' ⟨rfl, rfl⟩))
  go_ret
  exact ⟨rfl, rfl⟩
abbrev three (r q f : Int) : Value := .tuple #[.int .u8 r, .int .u8 q, .int .u8 f]
theorem do_any (k b f : Int) (hb : B8 b) (hf : B8 f) (w : World) (hd : Courses w) :
    Calls Tryz.prog 220 #[.int .i64 k, .int .u8 b, .int .u8 f] w fun e w' => e = .returned (two (doR k b f) (doF k b f)) ∧ Below w.heap.size w w' := by
  have hB := hb
  clear hb
  by_cases h : 0 ≤ k ∧ k < 8
  · have er : doR k b f = shM k b f := if_pos h
    have ef : doF k b f = evenC (shM k b f) (soutM k b) := if_pos h
    rw [er, ef, ← even_or]
    have hs := shM_byte k b f hB
    obtain ⟨h0, h1⟩ := h
    clear er ef
    generalize hR : shM k b f = R at hs ⊢
    generalize hO : soutM k b = O at ⊢
    have hR := Lib.hid hR
    have hO := Lib.hid hO
    have hm := fun w hd => move_yes k b f h0 h1 hB hf w hd
    rw [hR.out, hO.out] at hm
    clear h0 h1 hR hO
    go_enter Tryz.func220, Tryz.ntmps220
    go_wp2_with (first
      | (go_at_call 269; refine (hm _ hd).mono ?_; rintro e w' ⟨rfl, hb⟩; have hsz := hb.size)
      | (go_at_call 270; refine (evenF_any _ (B8.lo (by assumption)) (B8.hi (by assumption)) _).mono ?_; rintro e w' ⟨rfl, hb⟩; have hsz := hb.size)
      | (go_at_call 271; refine (scarry_any _ _).mono ?_; rintro e w' ⟨rfl, rfl⟩))
    go_ret2
    exact ⟨rfl, (by repeat (first | exact Below.refl _ _ | assumption | refine bstep ?_ (by assumption) | refine Below.drew ?_ | refine Below.alloc ?_ (by first | (simp; done) | (simp; omega) | omega) _ | refine Below.setCell ?_ (by first | (simp; done) | (simp; omega) | omega) _))⟩
  · have er : doR k b f = b := if_neg h
    have ef : doF k b f = f := if_neg h
    rw [er, ef]
    have h' : k < 0 ∨ 8 ≤ k := by omega
    clear h er ef
    have hm := fun w hd => move_no k b f h' hB hf w hd
    clear h'
    go_enter Tryz.func220, Tryz.ntmps220
    go_wp2_with (first
      | (go_at_call 269; refine (hm _ hd).mono ?_; rintro e w' ⟨rfl, hb⟩; have hsz := hb.size))
    go_ret2
    exact ⟨rfl, (by repeat (first | exact Below.refl _ _ | assumption | refine bstep ?_ (by assumption) | refine Below.drew ?_ | refine Below.alloc ?_ (by first | (simp; done) | (simp; omega) | omega) _ | refine Below.setCell ?_ (by first | (simp; done) | (simp; omega) | omega) _))⟩
theorem acc_any (k b f : Int) (hb : B8 b) (hf : B8 f) (w : World) (hd : Courses w) :
    Calls Tryz.prog 308 #[.int .i64 k, .int .u8 b, .int .u8 f] w fun e w' => e = .returned (two (accR k b f) (accF k b f)) ∧ Below w.heap.size w w' := by
  have hB := hb
  clear hb
  by_cases h : 0 ≤ k ∧ k < 4
  · have er : accR k b f = shM k b f := if_pos h
    have ef : accF k b f = linesM f (shM k b f) false false (soutM k b) := if_pos h
    rw [er, ef, ← lines_or]
    have hs := shM_byte k b f hB
    obtain ⟨h0, h1⟩ := h
    clear er ef
    have hm := fun w hd => move_yes k b f h0 (by omega) hB hf w hd
    generalize shM k b f = R at hs hm ⊢
    generalize soutM k b = O at hm ⊢
    have hq := resultM_byte R
    go_enter Tryz.func308, Tryz.ntmps308
    go_wp2_with (first
      | (go_at_call 269; refine (hm _ hd).mono ?_; rintro e w' ⟨rfl, hb⟩; have hsz := hb.size)
      | (go_at_call 322; refine (result_any _ (B8.lo (by assumption)) (B8.hi (by assumption)) _).mono ?_; rintro e w' ⟨rfl, rfl⟩)
      | (go_at_call 273; refine (keep_any _ _ _ (B8.lo (by assumption)) (B8.hi (by assumption)) (B8.lo (by assumption)) (B8.hi (by assumption)) (by omega) (by omega) _).mono ?_; rintro e w' ⟨rfl, rfl⟩)
      | (go_at_call 271; refine (scarry_any _ _).mono ?_; rintro e w' ⟨rfl, rfl⟩))
    go_ret2
    exact ⟨rfl, (by repeat (first | exact Below.refl _ _ | assumption | refine bstep ?_ (by assumption) | refine Below.drew ?_ | refine Below.alloc ?_ (by first | (simp; done) | (simp; omega) | omega) _ | refine Below.setCell ?_ (by first | (simp; done) | (simp; omega) | omega) _))⟩
  · have er : accR k b f = b := if_neg h
    have ef : accF k b f = f := if_neg h
    rw [er, ef]
    clear er ef
    by_cases h2 : 3 < k
    · clear h
      go_enter Tryz.func308, Tryz.ntmps308
      go_wp2_with fail
      go_ret2
      exact ⟨rfl, (by repeat (first | exact Below.refl _ _ | assumption | refine bstep ?_ (by assumption) | refine Below.drew ?_ | refine Below.alloc ?_ (by first | (simp; done) | (simp; omega) | omega) _ | refine Below.setCell ?_ (by first | (simp; done) | (simp; omega) | omega) _))⟩
    · have h3 : k < 0 := by omega
      have hm := fun w hd => move_no k b f (by omega) hB hf w hd
      clear h
      go_enter Tryz.func308, Tryz.ntmps308
      go_wp2_with (first
        | (go_at_call 269; refine (hm _ hd).mono ?_; rintro e w' ⟨rfl, hb⟩; have hsz := hb.size))
      go_ret2
      exact ⟨rfl, (by repeat (first | exact Below.refl _ _ | assumption | refine bstep ?_ (by assumption) | refine Below.drew ?_ | refine Below.alloc ?_ (by first | (simp; done) | (simp; omega) | omega) _ | refine Below.setCell ?_ (by first | (simp; done) | (simp; omega) | omega) _))⟩
theorem digit_any (right : Bool) (a b f : Int) (ha : B8 a) (hb : B8 b) (hf : B8 f) (w : World) :
    Calls Tryz.prog 330 #[.bool right, .int .u8 a, .int .u8 b, .int .u8 f] w fun e w' => e = .returned (three (digA right a b) (digB right a b) (evenC (digA right a b) (isM f 0))) ∧ Below w.heap.size w w' := by
  have hB := hb
  clear hb
  obtain ⟨la, ua⟩ := low4_all a ha
  obtain ⟨lb, _⟩ := low4_all b hB
  have lf := low_all f hf
  have a0 := ha.1
  have a1 := ha.2
  have b0 := hB.1
  have b1 := hB.2
  cases right
  · have j1 : bits .or .u8 (a / 16 * 16) (b / 16) = digA false a b := join4_all _ _ (by omega) (by omega) (by omega) (by omega)
    have j2 : bits .or .u8 (b % 16 * 16) (a % 16) = digB false a b := join4_all _ _ (by omega) (by omega) (by omega) (by omega)
    have hd := digA_byte false a b ha hB
    rw [← even_or]
    go_enter Tryz.func330, Tryz.ntmps330
    go_wp2_with (first
      | (go_at_call 270; refine (evenF_any _ (B8.lo (by assumption)) (B8.hi (by assumption)) _).mono ?_; rintro e w' ⟨rfl, hb⟩; have hsz := hb.size))
    go_ret3
    exact ⟨rfl, (by repeat (first | exact Below.refl _ _ | assumption | refine bstep ?_ (by assumption) | refine Below.drew ?_ | refine Below.alloc ?_ (by first | (simp; done) | (simp; omega) | omega) _ | refine Below.setCell ?_ (by first | (simp; done) | (simp; omega) | omega) _))⟩
  · have j1 : bits .or .u8 (a / 16 * 16) (b % 16) = digA true a b := join4_all _ _ (by omega) (by omega) (by omega) (by omega)
    have j2 : bits .or .u8 (a % 16 * 16) (b / 16) = digB true a b := join4_all _ _ (by omega) (by omega) (by omega) (by omega)
    have hd := digA_byte true a b ha hB
    rw [← even_or]
    go_enter Tryz.func330, Tryz.ntmps330
    go_wp2_with (first
      | (go_at_call 270; refine (evenF_any _ (B8.lo (by assumption)) (B8.hi (by assumption)) _).mono ?_; rintro e w' ⟨rfl, hb⟩; have hsz := hb.size))
    go_ret3
    exact ⟨rfl, (by repeat (first | exact Below.refl _ _ | assumption | refine bstep ?_ (by assumption) | refine Below.drew ?_ | refine Below.alloc ?_ (by first | (simp; done) | (simp; omega) | omega) _ | refine Below.setCell ?_ (by first | (simp; done) | (simp; omega) | omega) _))⟩
theorem bit6_any (n b lines f : Int) (hb : B8 b) (hl : B8 lines) (hf : B8 f) (w : World) :
    Calls Tryz.prog 226 #[.int .i64 n, .int .u8 b, .int .u8 lines, .int .u8 f] w fun e w' => e = .returned (.int .u8 (bitF n b lines f)) ∧ w = w' := by
  have lf := low_all f hf
  have km := bit_math lines f hf
  rw [lf] at km
  have ho := or_byte 16 (one (isM f 0)) (by omega) (by omega) (one_bounds _).1 (by have := (one_bounds (isM f 0)).2; omega)
  have hq : B8 (bits .or .u8 16 (one (isM f 0))) := ho
  clear ho
  cases hi : isM b n
  · have hm := bit_no n b lines f hi
    go_enter Tryz.func226, Tryz.ntmps226
    go_wp2_with (first
      | (go_at_call 274; refine (is_any _ _ (B8.lo (by assumption)) (B8.hi (by assumption)) _).mono ?_; rintro e w' ⟨rfl, rfl⟩)
      | (go_at_call 273; refine (keep_any _ _ _ (B8.lo (by assumption)) (B8.hi (by assumption)) (B8.lo (by assumption)) (B8.hi (by assumption)) (by omega) (by omega) _).mono ?_; rintro e w' ⟨rfl, rfl⟩))
    go_ret
    exact ⟨rfl, rfl⟩
  · by_cases h7 : n = 7
    · subst h7
      have hm := bit_seven b lines f hi
      go_enter Tryz.func226, Tryz.ntmps226
      go_wp2_with (first
        | (go_at_call 274; refine (is_any _ _ (B8.lo (by assumption)) (B8.hi (by assumption)) _).mono ?_; rintro e w' ⟨rfl, rfl⟩)
        | (go_at_call 273; refine (keep_any _ _ _ (B8.lo (by assumption)) (B8.hi (by assumption)) (B8.lo (by assumption)) (B8.hi (by assumption)) (by omega) (by omega) _).mono ?_; rintro e w' ⟨rfl, rfl⟩))
      go_ret
      exact ⟨rfl, rfl⟩
    · have hm := bit_yes n b lines f hi h7
      have n7 : (n == 7) = false := by simpa using h7
      clear h7
      go_enter Tryz.func226, Tryz.ntmps226
      go_wp2_with (first
        | (go_at_call 274; refine (is_any _ _ (B8.lo (by assumption)) (B8.hi (by assumption)) _).mono ?_; rintro e w' ⟨rfl, rfl⟩)
        | (go_at_call 273; refine (keep_any _ _ _ (B8.lo (by assumption)) (B8.hi (by assumption)) (B8.lo (by assumption)) (B8.hi (by assumption)) (by omega) (by omega) _).mono ?_; rintro e w' ⟨rfl, rfl⟩))
      go_ret
      exact ⟨rfl, rfl⟩
theorem cells3 (w : World) (t : TypeId) (x0 x1 x2 : Int) (n : Nat × Nat) : ∀ j, j < [x0, x1, x2].length → (w.alloc (.cells #[.int .u8 x0, .int .u8 x1, .int .u8 x2] t n)).cell? ⟨w.heap.size, 0 + j, none⟩ = some (.int .u8 ([x0, x1, x2].getD j 0)) := by
  have e : ∀ o : Obj, (w.alloc o).heap[w.heap.size]? = some o := fun o => by
    show (w.heap.push _)[w.heap.size]? = _
    simp
  intro j hj
  match j, hj with
  | 0, _ => simp only [World.cell?, Nat.zero_add, e]; rfl
  | 1, _ => simp only [World.cell?, Nat.zero_add, e]; rfl
  | 2, _ => simp only [World.cell?, Nat.zero_add, e]; rfl
theorem cells5 (w : World) (t : TypeId) (x0 x1 x2 x3 x4 : Int) (n : Nat × Nat) : ∀ j, j < [x0, x1, x2, x3, x4].length → (w.alloc (.cells #[.int .u8 x0, .int .u8 x1, .int .u8 x2, .int .u8 x3, .int .u8 x4] t n)).cell? ⟨w.heap.size, 0 + j, none⟩ = some (.int .u8 ([x0, x1, x2, x3, x4].getD j 0)) := by
  have e : ∀ o : Obj, (w.alloc o).heap[w.heap.size]? = some o := fun o => by
    show (w.heap.push _)[w.heap.size]? = _
    simp
  intro j hj
  match j, hj with
  | 0, _ => simp only [World.cell?, Nat.zero_add, e]; rfl
  | 1, _ => simp only [World.cell?, Nat.zero_add, e]; rfl
  | 2, _ => simp only [World.cell?, Nat.zero_add, e]; rfl
  | 3, _ => simp only [World.cell?, Nat.zero_add, e]; rfl
  | 4, _ => simp only [World.cell?, Nat.zero_add, e]; rfl
theorem bwhen_any (h : Bool) (v : Int) (h0 : 0 ≤ v) (h1 : v ≤ 255) (w : World) :
    Calls Tryz.prog 353 #[.bool h, .int .u8 v] w fun e w' => e = .returned (.int .u8 (whenM h v)) ∧ w = w' := by
  cases h
  all_goals
    go_enter Tryz.func353, Tryz.ntmps353
    go_wp2
    go_ret
    exact ⟨rfl, rfl⟩
theorem bjoin_any (b off len cap : Nat) (zs : List Int) (w : World) (hz : len ≤ zs.length) (hbig : len ≤ 100) (hc : ∀ j, j < zs.length → w.cell? ⟨b, off + j, none⟩ = some (.int .u8 (zs.getD j 0))) :
    Calls Tryz.prog 331 #[.slice (some ⟨b, off, none⟩) len cap] w fun e w' => e = .returned (.int .u8 (joinUpto zs len)) ∧ w = w' := by
  go_enter Tryz.func331, Tryz.ntmps331
  go_wp2
  go_loop [3, 8] (fun t i => ∃ k : Nat, k ≤ len ∧ i = .int .i64 k ∧ t = .int .u8 (joinUpto zs k)) (fun _ i => len - (intOf i).toNat)
  case atStart => exact ⟨0, Nat.zero_le _, rfl, rfl⟩
  case round =>
    obtain ⟨k, hk, rfl, rfl⟩ := hrel
    by_cases hlt : k < len
    · have hk0 : (0 : Int) ≤ (k : Int) := by omega
      have hk1 : (k : Int) < (len : Int) := by omega
      have hcell := hc k (by omega)
      have hc := Lib.hid hc
      go_wp2
      go_round
      case rel => exact ⟨k + 1, by omega, by go_num, rfl⟩
      case measure => simp [intOf]; omega
    · obtain rfl : k = len := by omega
      go_wp2
      go_ret
      exact ⟨rfl, rfl⟩
theorem more_any (bc : Int) (h0 : 0 ≤ bc) (h1 : bc ≤ 65535) (w : World) :
    Calls Tryz.prog 332 #[.int .u16 bc] w fun e w' => e = .returned (.int .u8 (whenM (bc != 0) 4)) ∧ w = w' := by
  go_enter Tryz.func332, Tryz.ntmps332
  go_wp2_with (first
    | (go_at_call 353; refine (bwhen_any _ _ (by omega) (by omega) _).mono ?_; rintro e w' ⟨rfl, rfl⟩))
  go_ret
  exact ⟨rfl, rfl⟩
def traceM (n : Int) : Int := joinUpto [whenM (isM n 1) 32, whenM (isM n 3) 8] 2
theorem trace_any (n : Int) (hn : B8 n) (w : World) :
    Calls Tryz.prog 333 #[.int .u8 n] w fun e w' => e = .returned (.int .u8 (traceM n)) ∧ Below w.heap.size w w' := by
  go_enter Tryz.func333, Tryz.ntmps333
  go_wp2_with (first
    | (go_at_call 274; refine (is_any _ _ (B8.lo (by assumption)) (B8.hi (by assumption)) _).mono ?_; rintro e w' ⟨rfl, rfl⟩)
    | (go_at_call 353; refine (bwhen_any _ _ (by omega) (by omega) _).mono ?_; rintro e w' ⟨rfl, rfl⟩)
    | (go_at_call 331; refine (bjoin_any _ 0 2 2 [whenM (isM n 1) 32, whenM (isM n 3) 8] _ (by simp) (by omega) (cells2 _ _ _ _ _)).mono ?_; rintro e w' ⟨rfl, rfl⟩))
  go_ret
  exact ⟨rfl, (by repeat (first | exact Below.refl _ _ | assumption | refine bstep ?_ (by assumption) | refine Below.drew ?_ | refine Below.alloc ?_ (by first | (simp; done) | (simp; omega) | omega) _ | refine Below.setCell ?_ (by first | (simp; done) | (simp; omega) | omega) _))⟩
theorem mask193 : ∀ x : Fin 256, bits .and .u8 (x.val : Int) 193 = mkM (isM (x.val : Int) 7) (isM (x.val : Int) 6) false false false false false (isM (x.val : Int) 0) := by decide +kernel
theorem mask208 : ∀ x : Fin 256, bits .and .u8 (x.val : Int) 208 = mkM (isM (x.val : Int) 7) (isM (x.val : Int) 6) false (isM (x.val : Int) 4) false false false false := by decide +kernel
theorem mask16 : ∀ x : Fin 256, (bits .and .u8 (x.val : Int) 16 != 0) = isM (x.val : Int) 4 := by decide +kernel
theorem move_fin : ∀ b7 b6 b0 p y x : Bool, joinUpto [mkM b7 b6 false false false false false b0, whenM p 4, joinUpto [whenM y 32, whenM x 8] 2] 3 = mkM b7 b6 y false x p false b0 := by decide +kernel
theorem find_fin : ∀ b7 b6 b4 c p y x : Bool, joinUpto [mkM b7 b6 false b4 false false false false, 2, one c, whenM p 4, joinUpto [whenM y 32, whenM x 8] 2] 5 = mkM b7 b6 y b4 x p true c := by decide +kernel
theorem pass_fin : ∀ b7 z b5 b3 n k p : Bool, joinUpto [mkM b7 z b5 false b3 false false false, whenM n 2, whenM k 17, whenM p 4] 4 = mkM b7 z b5 k b3 p n k := by decide +kernel
theorem move_math (a b bc f : Int) (hf : B8 f) : joinUpto [bits .and .u8 f 193, whenM (bc != 0) 4, traceM (plusM a b)] 3 = moveF a b bc f := by
  rw [byte_all (P := fun x => bits .and .u8 x 193 = mkM (isM x 7) (isM x 6) false false false false false (isM x 0)) mask193 f hf.1 hf.2]
  exact move_fin _ _ _ _ _ _
theorem find_math (a b bc f : Int) (hf : B8 f) : joinUpto [bits .and .u8 (subF a b false) 208, 2, bits .and .u8 f 1, whenM (bc != 0) 4, traceM (lessM a b)] 5 = findF a b bc f := by
  have hg := subF_byte a b false
  rw [low_all f hf, byte_all (P := fun x => bits .and .u8 x 208 = mkM (isM x 7) (isM x 6) false (isM x 4) false false false false) mask208 _ hg.1 hg.2]
  exact find_fin _ _ _ _ _ _ _
theorem pass_math (b k left : Int) : joinUpto [resultM left, whenM (isM b 7) 2, whenM (decide (255 < k)) 17, whenM (evenM (xorR (k % 8) left)) 4] 4 = passF b k left :=
  pass_fin _ _ _ _ _ _ _
theorem move_any (a b bc f : Int) (ha : B8 a) (hb : B8 b) (hf : B8 f) (h0 : 0 ≤ bc) (h1 : bc ≤ 65535) (w : World) :
    Calls Tryz.prog 290 #[.int .u8 a, .int .u8 b, .int .u16 bc, .int .u8 f] w fun e w' => e = .returned (.int .u8 (moveF a b bc f)) ∧ Below w.heap.size w w' := by
  have hm := Lib.hid (move_math a b bc f hf)
  have hn := Lib.hid (plusM_byte a b)
  have a0 := ha.1; have a1 := ha.2; have b0 := hb.1; have b1 := hb.2
  clear ha hb
  go_enter Tryz.func290, Tryz.ntmps290
  go_wp2_with (first
    | (go_at_call 332; refine (more_any _ h0 h1 _).mono ?_; rintro e w' ⟨rfl, rfl⟩)
    | (go_at_call 333; refine (trace_any _ hn.out _).mono ?_; rintro e w' ⟨rfl, hb⟩; have hsz := hb.size)
    | (go_at_call 331; refine (bjoin_any _ 0 3 3 [bits .and .u8 f 193, whenM (bc != 0) 4, traceM (plusM a b)] _ (by simp) (by omega) (cells3 _ _ _ _ _ _)).mono ?_; rintro e w' ⟨rfl, rfl⟩))
  go_ret
  exact ⟨ret_int hm.out, (by repeat (first | exact Below.refl _ _ | assumption | refine bstep ?_ (by assumption) | refine Below.drew ?_ | refine Below.alloc ?_ (by first | (simp; done) | (simp; omega) | omega) _ | refine Below.setCell ?_ (by first | (simp; done) | (simp; omega) | omega) _))⟩
theorem find_any (a b bc f : Int) (ha : B8 a) (hb : B8 b) (hf : B8 f) (h0 : 0 ≤ bc) (h1 : bc ≤ 65535) (w : World) :
    Calls Tryz.prog 291 #[.int .u8 a, .int .u8 b, .int .u16 bc, .int .u8 f] w fun e w' => e = .returned (.int .u8 (findF a b bc f)) ∧ Below w.heap.size w w' := by
  have hm := Lib.hid (find_math a b bc f hf)
  have hn := Lib.hid (lessM_byte a b)
  have hs := Lib.hid (fun w => sub_any a b false ha hb w)
  have hg := subF_byte a b false
  have k4 := byte_all (P := fun x => (bits .and .u8 x 16 != 0) = isM x 4) mask16 _ hg.1 hg.2
  cases hc : isM (subF a b false) 4
  · have hl := Lib.hid (lessM_no a b hc)
    rw [hc] at k4
    clear hc ha hb hg
    generalize hR : subR a b false = R at *
    generalize hG : subF a b false = G at *
    clear hR hG
    have hl := hl.out
    subst hl
    go_enter Tryz.func291, Tryz.ntmps291
    go_wp2_with (first
      | (go_at_call 285; refine (hs.out _).mono ?_; rintro e w' ⟨rfl, hb⟩; have hsz := hb.size)
      | (go_at_call 332; refine (more_any _ h0 h1 _).mono ?_; rintro e w' ⟨rfl, rfl⟩)
      | (go_at_call 333; refine (trace_any _ hn.out _).mono ?_; rintro e w' ⟨rfl, hb⟩; have hsz := hb.size)
      | (go_at_call 331; refine (bjoin_any _ 0 5 5 [bits .and .u8 G 208, 2, bits .and .u8 f 1, whenM (bc != 0) 4, traceM (lessM a b)] _ (by simp) (by omega) (cells5 _ _ _ _ _ _ _ _)).mono ?_; rintro e w' ⟨rfl, rfl⟩))
    go_ret
    exact ⟨ret_int hm.out, (by repeat (first | exact Below.refl _ _ | assumption | refine bstep ?_ (by assumption) | refine Below.drew ?_ | refine Below.alloc ?_ (by first | (simp; done) | (simp; omega) | omega) _ | refine Below.setCell ?_ (by first | (simp; done) | (simp; omega) | omega) _))⟩
  · have hl := lessM_yes' a b hc
    have hr := subR_byte a b false
    have r0 := hr.1
    have r1 := hr.2
    rw [hc] at k4
    clear hc ha hb hg hr
    generalize hR : subR a b false = R at *
    generalize hG : subF a b false = G at *
    clear hR hG
    go_enter Tryz.func291, Tryz.ntmps291
    go_wp2_with (first
      | (go_at_call 285; refine (hs.out _).mono ?_; rintro e w' ⟨rfl, hb⟩; have hsz := hb.size)
      | (go_at_call 332; refine (more_any _ h0 h1 _).mono ?_; rintro e w' ⟨rfl, rfl⟩)
      | (go_at_call 333; refine (trace_any _ hn.out _).mono ?_; rintro e w' ⟨rfl, hb⟩; have hsz := hb.size)
      | (go_at_call 331; refine (bjoin_any _ 0 5 5 [bits .and .u8 G 208, 2, bits .and .u8 f 1, whenM (bc != 0) 4, traceM (lessM a b)] _ (by simp) (by omega) (cells5 _ _ _ _ _ _ _ _)).mono ?_; rintro e w' ⟨rfl, rfl⟩))
    go_ret
    exact ⟨ret_int hm.out, (by repeat (first | exact Below.refl _ _ | assumption | refine bstep ?_ (by assumption) | refine Below.drew ?_ | refine Below.alloc ?_ (by first | (simp; done) | (simp; omega) | omega) _ | refine Below.setCell ?_ (by first | (simp; done) | (simp; omega) | omega) _))⟩
theorem pass_any (b l left : Int) (hB : B8 b) (hl : B8 l) (hL : B8 left) (w : World) :
    Calls Tryz.prog 334 #[.int .u8 b, .int .u8 l, .int .u8 left] w fun e w' => e = .returned (.int .u8 (passF b (b + l) left)) ∧ Below w.heap.size w w' := by
  have hm := Lib.hid (pass_math b (b + l) left)
  have hx := xorR_bits ((b + l) % 8) left ⟨by omega, by omega⟩ hL
  have hr : B8 (xorR ((b + l) % 8) left) := mergeM_byte ..
  have b0 := hB.1; have b1 := hB.2; have l0 := hl.1; have l1 := hl.2
  go_enter Tryz.func334, Tryz.ntmps334
  go_wp2_with (first
    | (go_at_call 322; refine (result_any _ (B8.lo (by assumption)) (B8.hi (by assumption)) _).mono ?_; rintro e w' ⟨rfl, rfl⟩)
    | (go_at_call 274; refine (is_any _ _ (B8.lo (by assumption)) (B8.hi (by assumption)) _).mono ?_; rintro e w' ⟨rfl, rfl⟩)
    | (go_at_call 353; refine (bwhen_any _ _ (by omega) (by omega) _).mono ?_; rintro e w' ⟨rfl, rfl⟩)
    | (go_at_call 323; refine (even_any _ (B8.lo (by assumption)) (B8.hi (by assumption)) _).mono ?_; rintro e w' ⟨rfl, hb⟩; have hsz := hb.size)
    | (go_at_call 331; refine (bjoin_any _ 0 4 4 [resultM left, whenM (isM b 7) 2, whenM (decide (255 < b + l)) 17, whenM (evenM (xorR ((b + l) % 8) left)) 4] _ (by simp) (by omega) (cells4 _ _ _ _ _ _ _)).mono ?_; rintro e w' ⟨rfl, rfl⟩))
  go_ret
  exact ⟨ret_int hm.out, (by repeat (first | exact Below.refl _ _ | assumption | refine bstep ?_ (by assumption) | refine Below.drew ?_ | refine Below.alloc ?_ (by first | (simp; done) | (simp; omega) | omega) _ | refine Below.setCell ?_ (by first | (simp; done) | (simp; omega) | omega) _))⟩
theorem take_any (b c left s : Int) (hB : B8 b) (hc : B8 c) (hL : B8 left) (w : World) :
    Calls Tryz.prog 293 #[.int .u8 b, .int .u8 c, .int .u8 left, .int .i64 s] w fun e w' => e = .returned (.int .u8 (passF b (b + byC c s) left)) ∧ Below w.heap.size w w' := by
  have hw : IntKind.u8.wrap s = s % 256 := IntKind.wrap_u8 s
  have hq : (c + s % 256) % 256 = byC c s := by unfold byC; omega
  have hr := byC_byte c s
  go_enter Tryz.func293, Tryz.ntmps293
  go_wp2_with (first
    | (go_at_call 334; refine (pass_any _ _ _ (by assumption) (by assumption) (by assumption) _).mono ?_; rintro e w' ⟨rfl, hb⟩; have hsz := hb.size))
  go_ret
  exact ⟨rfl, (by repeat (first | exact Below.refl _ _ | assumption | refine bstep ?_ (by assumption) | refine Below.drew ?_ | refine Below.alloc ?_ (by first | (simp; done) | (simp; omega) | omega) _ | refine Below.setCell ?_ (by first | (simp; done) | (simp; omega) | omega) _))⟩
theorem give_any (b l left : Int) (hB : B8 b) (hl : B8 l) (hL : B8 left) (w : World) :
    Calls Tryz.prog 294 #[.int .u8 b, .int .u8 l, .int .u8 left] w fun e w' => e = .returned (.int .u8 (passF b (b + l) left)) ∧ Below w.heap.size w w' := by
  go_enter Tryz.func294, Tryz.ntmps294
  go_wp2_with (first
    | (go_at_call 334; refine (pass_any _ _ _ (by assumption) (by assumption) (by assumption) _).mono ?_; rintro e w' ⟨rfl, hb⟩; have hsz := hb.size))
  go_ret
  exact ⟨rfl, (by repeat (first | exact Below.refl _ _ | assumption | refine bstep ?_ (by assumption) | refine Below.drew ?_ | refine Below.alloc ?_ (by first | (simp; done) | (simp; omega) | omega) _ | refine Below.setCell ?_ (by first | (simp; done) | (simp; omega) | omega) _))⟩
theorem again_any (kind f : Int) (hf : B8 f) (w : World) :
    Calls Tryz.prog 241 #[.int .i64 kind, .int .u8 f] w fun e w' => e = .returned (.bool (againM kind f)) ∧ w = w' := by
  obtain ⟨k6, -, k2, -⟩ := mask_all f hf.1 hf.2
  by_cases hc : kind < 0 ∨ 4 ≤ kind
  · rw [againM_out kind f hc]
    have n0 : (kind == 0) = false := by simp; omega
    have n1 : (kind == 1) = false := by simp; omega
    have n2 : (kind == 2) = false := by simp; omega
    have n3 : (kind == 3) = false := by simp; omega
    clear hc
    cases hz : isM f 6
    all_goals
      rw [hz] at k6
      go_enter Tryz.func241, Tryz.ntmps241
      go_wp2
      go_ret
      exact ⟨rfl, rfl⟩
  · obtain rfl | rfl | rfl | rfl : kind = 0 ∨ kind = 1 ∨ kind = 2 ∨ kind = 3 := by omega
    all_goals
      clear hc
      cases hz : isM f 6 <;> cases hp : isM f 2
      all_goals
        rw [hz] at k6
        rw [hp] at k2
        go_enter Tryz.func241, Tryz.ntmps241
        go_wp2
        go_ret
        exact ⟨ret_bool (by simp [againM, hz, hp]), rfl⟩
abbrev five (c : Int) : Value := .tuple #[.int .i64 (fx c), .int .i64 (fy c), .int .i64 (fz c), .int .i64 (fp c), .int .i64 (fq c)]
theorem results_tmp5 {fn : Func} {t u v x y : Tmp} (h : fn.results = #[.tmp t, .tmp u, .tmp v, .tmp x, .tmp y]) (tmps : Array Value) (P : Program) (w : World) :
    (results fn tmps).run P w = .ok (.tuple #[tmps.getD t undef, tmps.getD u undef, tmps.getD v undef, tmps.getD x undef, tmps.getD y undef]) w := by simp [results, h]
theorem fields_any (c : Int) (hc : B8 c) (w : World) :
    Calls Tryz.prog 218 #[.int .u8 c] w fun e w' => e = .returned (five c) ∧ w = w' := by
  obtain ⟨h0, h1⟩ := hc
  go_enter Tryz.func218, Tryz.ntmps218
  go_wp2
  refine bodyPost_ret (results_tmp5 rfl _ _ _) rfl ?_
  refine ⟨?_, rfl⟩
  have e1 : c / 8 % 8 / 2 = c / 16 % 4 := by omega
  have e2 : c / 8 % 8 % 2 = c / 8 % 2 := by omega
  show Ending.returned (.tuple #[.int .i64 (c / 64), .int .i64 (c / 8 % 8), .int .i64 (c % 8), .int .i64 (c / 8 % 8 / 2), .int .i64 (c / 8 % 8 % 2)]) = _
  rw [e1, e2]
  rfl
theorem fx_b (c : Int) (hc : B8 c) : 0 ≤ fx c ∧ fx c ≤ 3 := by obtain ⟨h0, h1⟩ := hc; unfold fx; omega
theorem fy_b (c : Int) (hc : B8 c) : 0 ≤ fy c ∧ fy c ≤ 7 := by obtain ⟨h0, h1⟩ := hc; unfold fy; omega
theorem fz_b (c : Int) (hc : B8 c) : 0 ≤ fz c ∧ fz c ≤ 7 := by obtain ⟨h0, h1⟩ := hc; unfold fz; omega
theorem ahead_any (p : Int) (w : World) :
    Calls Tryz.prog 244 #[.int .i64 p] w fun e w' => e = .returned (.bool (aheadM p)) ∧ w = w' := by
  have h : aheadM p = (p == 5 || p == 6) := rfl
  cases h5 : (p == 5) <;> cases h6 : (p == 6)
  all_goals
    rw [h5, h6] at h
    have H := Lib.hid h
    clear h
    go_enter Tryz.func244, Tryz.ntmps244
    go_wp2
    go_ret
    exact ⟨ret_bool (by rw [H.out]; rfl), rfl⟩
theorem points_any (c : Int) (hc : B8 c) (w : World) :
    Calls Tryz.prog 243 #[.int .u8 c] w fun e w' => e = .returned (.bool (pointsM c)) ∧ w = w' := by
  have bx := fx_b c hc
  have bY := fy_b c hc
  have bz := fz_b c hc
  have hf := Lib.hid (fields_any c hc)
  cases hy6 : (fy c == 6) <;> cases hz6 : (fz c == 6)
  all_goals
    go_enter Tryz.func243, Tryz.ntmps243
    go_wp2_with (first
      | (go_at_call 218; refine (hf.out _).mono ?_; rintro e w' ⟨rfl, rfl⟩))
    all_goals
      go_ret
      refine ⟨ret_bool ?_, rfl⟩
      (try unfold pointsM)
      (try simp [*])
      (try simp_all)
      (try omega)
theorem dnear_any (p c : Int) (hc : B8 c) (w : World) :
    Calls Tryz.prog 184 #[.int .i64 p, .int .u8 c] w fun e w' => e = .returned (.bool (nearM p c)) ∧ w = w' := by
  have hp := Lib.hid (points_any c hc)
  have ha := Lib.hid (ahead_any p)
  by_cases h3 : p = 3
  · subst h3
    go_enter Tryz.func184, Tryz.ntmps184
    go_wp2_with (first
      | (go_at_call 243; refine (hp.out _).mono ?_; rintro e w' ⟨rfl, rfl⟩))
    go_ret
    exact ⟨rfl, rfl⟩
  · by_cases h4 : p = 4
    · subst h4
      go_enter Tryz.func184, Tryz.ntmps184
      go_wp2_with (first
        | (go_at_call 243; refine (hp.out _).mono ?_; rintro e w' ⟨rfl, rfl⟩))
      go_ret
      exact ⟨rfl, rfl⟩
    · have H := Lib.hid (show nearM p c = aheadM p by unfold nearM; rw [if_neg (by omega)])
      have e3 : (p == 3) = false := by simpa using h3
      have e4 : (p == 4) = false := by simpa using h4
      clear h3 h4
      go_enter Tryz.func184, Tryz.ntmps184
      go_wp2_with (first
        | (go_at_call 244; refine (ha.out _).mono ?_; rintro e w' ⟨rfl, rfl⟩))
      go_ret
      exact ⟨ret_bool H.out.symm, rfl⟩
theorem fpB (c : Int) (hc : B8 c) : 0 ≤ fp c ∧ fp c ≤ 3 := by obtain ⟨h0, h1⟩ := hc; unfold fp; omega
theorem fqB (c : Int) (hc : B8 c) : 0 ≤ fq c ∧ fq c ≤ 1 := by obtain ⟨h0, h1⟩ := hc; unfold fq; omega
theorem B8.not {a : Int} (h : B8 a) : B8 (255 - a) := by obtain ⟨h0, h1⟩ := h; exact ⟨by omega, by omega⟩
theorem a_byte {s : Ms} (h : MsB s) : B8 s.a := h.r.af.hi
theorem f_byte {s : Ms} (h : MsB s) : B8 s.f := h.r.af.lo8
theorem hl_word {s : Ms} (h : MsB s) : Wd16 s.hl := h.r.pair _ _
theorem pair_word {s : Ms} (h : MsB s) : Wd16 s.pair := h.r.pair _ _
theorem and1_fin : ∀ x : Fin 256, bits .and .u8 (x.val : Int) 1 = one (isM (x.val : Int) 0) := by decide +kernel
theorem bCarry (f : Int) (hf : B8 f) (w : World) : (binOp .and 5 (.int .u8 f) (.int .u8 1)).run Tryz.prog w = .ok (.int .u8 (one (isM f 0))) w := by
  rw [← byte_all (P := fun f => bits .and .u8 f 1 = one (isM f 0)) and1_fin f hf.1 hf.2]
  exact bAnd8 f 1 w
theorem orC_fin : ∀ b0 b1 b2 b3 b4 c : Bool, bits .or .u8 (mkM b0 b1 b2 false b3 b4 false false) (one c) = withM (mkM b0 b1 b2 false b3 b4 false false) 0 c := by decide +kernel
theorem bOrEven (b : Int) (c : Bool) (w : World) : (binOp .or 5 (.int .u8 (evenFM b)) (.int .u8 (one c))).run Tryz.prog w = .ok (.int .u8 (withM (evenFM b) 0 c)) w := by
  rw [bOr8]
  unfold evenFM
  rw [orC_fin]
theorem bOrResult (b : Int) (c : Bool) (w : World) : (binOp .or 5 (.int .u8 (resultM b)) (.int .u8 (one c))).run Tryz.prog w = .ok (.int .u8 (withM (resultM b) 0 c)) w := by
  rw [bOr8]
  unfold resultM
  rw [orC_fin]
theorem or4_fin : ∀ x : Fin 256, bits .or .u8 (x.val : Int) 4 = withM (x.val : Int) 2 true := by decide +kernel
theorem bOrP (f : Int) (hf : B8 f) (w : World) : (binOp .or 5 (.int .u8 f) (.int .u8 4)).run Tryz.prog w = .ok (.int .u8 (withM f 2 true)) w := by
  rw [← byte_all (P := fun f => bits .or .u8 f 4 = withM f 2 true) or4_fin f hf.1 hf.2]
  exact bOr8 f 4 w
theorem with2_fin : ∀ b0 b1 b2 b3 c : Bool, withM (withM (mkM b0 b1 b2 false b3 false false false) 0 c) 2 false = withM (mkM b0 b1 b2 false b3 false false false) 0 c := by decide +kernel
theorem with2_off (b : Int) (c : Bool) : withM (withM (resultM b) 0 c) 2 false = withM (resultM b) 0 c := by
  unfold resultM
  rw [with2_fin]
theorem mod4 (y : Int) : y % 4 = 0 ∨ y % 4 = 1 ∨ y % 4 = 2 ∨ y % 4 = 3 := by omega
theorem bRem4 {x k : Int} (h0 : 0 ≤ x) (h : x % 4 = k) (w : World) : (binOp .rem 3 (.int .i64 x) (.int .i64 4)).run Tryz.prog w = .ok (.int .i64 k) w := by
  have e : x.tmod 4 = k := by rw [Int.tmod_eq_emod_of_nonneg h0]; exact h
  have e2 : IntKind.i64.wrap k = k := by rw [IntKind.wrap_i64]; omega
  simp [go_sem, e, e2]
theorem idx4_0 (w : World) : (Instr.indexAt 196 (pT 0 0) (.int .i64 0)).run Tryz.prog w = .ok (pT 0 0) w := by simp [go_sem, Addr.add]
theorem idx4_1 (w : World) : (Instr.indexAt 196 (pT 0 0) (.int .i64 1)).run Tryz.prog w = .ok (pT 0 1) w := by simp [go_sem, Addr.add]
theorem idx4_2 (w : World) : (Instr.indexAt 196 (pT 0 0) (.int .i64 2)).run Tryz.prog w = .ok (pT 0 2) w := by simp [go_sem, Addr.add]
theorem idx4_3 (w : World) : (Instr.indexAt 196 (pT 0 0) (.int .i64 3)).run Tryz.prog w = .ok (pT 0 3) w := by simp [go_sem, Addr.add]
section
variable {ops : Array Oper} {Q : Exit → Act → World → Prop} {a : Act} {w w0 : World} {o : Oper} {rest : List Oper} {p B : Nat} {s : Ms} {xs : List Int} {x y : Operand}
theorem sSetN (hn : NowN w0 p B s xs w) (i : Nat) (V : Value) (s' : Ms) {t : TypeId} (hd : o.dst = none) (hg : o.guard = none) (ho : o.op = .store t x y) (hx : a.eval x = pT p i) (hy : a.eval y = V)
    (hl : (Instr.storeAt t (pT p i) V).run Tryz.prog w = .ok () (w.setCell ⟨p, i, none⟩ V)) (hs : ∀ A n cap, (mC s A n cap).setIfInBounds i V = mC s' A n cap) (hb : MsB s')
    (h : ∀ w', NowN w0 p B s' xs w' → WL Tryz.prog ops Q rest (a.put none undef) w') : WL Tryz.prog ops Q (o :: rest) a w := sStore _ _ hd hg ho hx hy hl (h _ (hn.set i V s' hs hb))
end
theorem AtN.nil {w : World} {p B : Nat} {s : Ms} (h : AtN w p B s []) : ∃ A cap, w.cell? ⟨p, 20, none⟩ = some (.slice A 0 cap) := by
  obtain ⟨A, cap, hc, hr, hb⟩ := h.row
  exact ⟨A, cap, hr.cell 20⟩
theorem AtN.cons {w : World} {p B : Nat} {s : Ms} {b : Int} {bs : List Int} (h : AtN w p B s (b :: bs)) : ∃ ad cap, bs.length + 1 ≤ cap ∧ w.cell? ⟨p, 20, none⟩ = some (.slice (some ad) (bs.length + 1) cap) ∧ w.cell? ad = some (.int .u8 b) ∧
    AtN (w.setCell ⟨p, 20, none⟩ (.slice (some (if cap = 1 then ad else ad.add 1)) bs.length (cap - 1))) p B s bs := by
  have hp := h.lt
  obtain ⟨⟨A, cap, hc, hr, hby⟩, hl, h8, hm, ht⟩ := h
  obtain ⟨ad, rfl, hlt, hcell⟩ := hby 0 b rfl
  have hd := hby.drop (k := 1) (cap := cap) (by simp) hc
  have k : ∀ v c, c < B → (w.setCell ⟨p, 20, none⟩ v).heap[c]? = w.heap[c]? := fun v c hlt => Below.heap_setCell w _ v c (by show c ≠ p; omega)
  refine ⟨ad, cap, by simpa using hc, by simpa using hr.cell 20, by simpa [Addr.add] using hcell, ⟨⟨some (if cap = 1 then ad else ad.add 1), cap - 1, by simp at hc; omega, ?_, ?_⟩, hl, h8.tail, hm, ht.keep (k _)⟩⟩
  · have := hr.set 20 (.slice (some (if cap = 1 then ad else ad.add 1)) bs.length (cap - 1))
    exact this
  · refine BytesIn.keep ?_ (k _)
    simp only [List.drop_succ_cons, List.drop_zero] at hd
    have e : (if cap = 1 then some ad else (some ad).map (·.add 1)) = some (if cap = 1 then ad else ad.add 1) := by split <;> rfl
    rwa [e] at hd
theorem m_ask (c : Cy) (hc : Wd16 c.addr ∧ B8 c.data) {s : Ms} {xs : List Int} {w : World} {p B : Nat} (h : AtN w p B s xs) :
    Calls Tryz.prog 114 #[pT p 0, cyV c] w (OutI w p B .u8 ((askN c s).run xs)) := by
  obtain ⟨ck, ca, cd, ct⟩ := c
  cases xs with
  | nil =>
    obtain ⟨A, cap, h20⟩ := h.nil
    have hp := h.lt
    have bel : Besides p p w (w.alloc (.cells #[.int .i64 ck, .int .u16 ca, .int .u8 cd, .int .i64 ct] 54)) := (Besides.refl p p w).alloc _
    have h20' : (w.alloc (.cells #[.int .i64 ck, .int .u16 ca, .int .u8 cd, .int .i64 ct] 54)).cell? ⟨p, 20, none⟩ = some (.slice A 0 cap) := cell_under w _ h20
    clear h20
    have f0 : ∀ b w, (Instr.fieldAt 111 (pT b 0) 1).run Tryz.prog w = .ok (pT b 20) w := fM1
    go_enter Tryz.func114, Tryz.ntmps114
    go_wp2
    exact ⟨rfl, rfl, ⟨bel, hc⟩⟩
  | cons b bs =>
    have hb0 : B8 b := h.bytes.head
    have hp := h.lt
    have h' : AtN (w.alloc (.cells #[.int .i64 ck, .int .u16 ca, .int .u8 cd, .int .i64 ct] 54)) p B s (b :: bs) := h.below (Below.alloc (Below.refl _ _) (Nat.le_refl _) _)
    have bel : Besides p p w (w.alloc (.cells #[.int .i64 ck, .int .u16 ca, .int .u8 cd, .int .i64 ct] 54)) := (Besides.refl p p w).alloc _
    clear h
    obtain ⟨ad, cap, hcap, h20, hcell, hnext⟩ := h'.cons
    have hz := h'.frozen 20
    have f0 : ∀ b w, (Instr.fieldAt 111 (pT b 0) 1).run Tryz.prog w = .ok (pT b 20) w := fM1
    have hne : ((bs.length : Int) + 1 == 0) = false := by simp; omega
    have hl0 : ¬ ((bs.length : Int) + 1 < 1) := by omega
    have hl1 : (0 : Int) < (bs.length : Int) + 1 := by omega
    have hl2 : ¬ ((cap : Int) < (bs.length : Int) + 1) := by omega
    have hrun : (askN ⟨ck, ca, cd, ct⟩ s).run (b :: bs) = .ok ((b, s), bs) := Tr.run_done _ _
    have e : ∀ v, (w.alloc (.cells #[.int .i64 ck, .int .u16 ca, .int .u8 cd, .int .i64 ct] 54)).setCell ⟨p, 20, none⟩ v = (w.setCell ⟨p, 20, none⟩ v).alloc (.cells #[.int .i64 ck, .int .u16 ca, .int .u8 cd, .int .i64 ct] 54) := fun v => World.setCell_alloc_past _ _ _ v hp
    have bel2 : ∀ v, Besides p p w ((w.setCell ⟨p, 20, none⟩ v).alloc (.cells #[.int .i64 ck, .int .u16 ca, .int .u8 cd, .int .i64 ct] 54)) := fun v => ((Besides.refl p p w).setCell (.inl rfl) v).alloc _
    rw [e] at hnext
    by_cases h1 : cap = 1
    · subst h1
      obtain rfl : bs = [] := List.length_eq_zero_iff.1 (by omega)
      rw [if_pos rfl] at hnext
      go_enter Tryz.func114, Tryz.ntmps114
      go_wp2
      exact retI 4 (.int .u8 b) rfl (by kernel_rfl) rfl (OutI.ok (k := .u8) hrun hb0 ⟨hnext, bel2 _⟩)
    · rw [if_neg h1] at hnext
      simp only [Addr.add, Nat.one_ne_zero, if_false] at hnext
      go_enter Tryz.func114, Tryz.ntmps114
      go_wp2
      exact retI 4 (.int .u8 b) rfl (by kernel_rfl) rfl (OutI.ok (k := .u8) hrun hb0 ⟨hnext, bel2 _⟩)
section
variable {ops : Array Oper} {Q : Exit → Act → World → Prop} {w w0 : World} {o : Oper} {rest : List Oper} {base : List Value} {l : Slots} {p B : Nat} {s : Ms} {xs : List Int}
theorem map_some_at {l : List Value} {k : Nat} {v : Value} (h : (l.map some)[k]? = some (some v)) : l[k]? = some v := by
  rw [List.getElem?_map] at h
  cases hl : l[k]? with
  | none => rw [hl] at h; cases h
  | some u => rw [hl] at h; injection h with h
def mK (s : Ms) : Cells := (((mC s none 0 0).toList.map some).set 20 none)
theorem mK_kn (s : Ms) (A : Option Addr) (n cap : Nat) : Kn (mK s) (mC s A n cap) := by
  refine ⟨by simp [mK], fun k v hk => ?_⟩
  by_cases e : k = 20
  · subst e; simp [mK] at hk
  · rw [mK, List.getElem?_set_ne (Ne.symm e)] at hk
    have h0 : (mC s none 0 0)[k]? = some v := by
      rw [← Array.getElem?_toList]
      exact map_some_at hk
    have h1 : mC s A n cap = (mC s none 0 0).setIfInBounds 20 (.slice A n cap) := rfl
    rw [h1, Array.getElem?_setIfInBounds_ne (Ne.symm e)]
    exact h0
theorem mK_back {s s' : Ms} {A : Option Addr} {n cap : Nat} {full : Array Value} (hk : Kn (mK s') full) (hs : Same (mK s) (mC s A n cap) (mK s') full) : full = mC s' A n cap := by
  apply Array.ext_getElem?
  intro k
  by_cases e : k = 20
  · subst e
    have := (hs 20 (by simp [mK])).2
    rw [this]; rfl
  · have hkn := mK_kn s' A n cap
    by_cases hl : k < 29
    · have hsome : ∃ v, (mK s')[k]? = some (some v) := by
        rw [mK, List.getElem?_set_ne (Ne.symm e), List.getElem?_map]
        have : k < (mC s' none 0 0).toList.length := hl
        rw [List.getElem?_eq_getElem this]
        exact ⟨_, rfl⟩
      obtain ⟨v, hv⟩ := hsome
      rw [hk.at_ k v hv, hkn.at_ k v hv]
    · rw [Array.getElem?_eq_none (by rw [hk.size]; simp [mK]; omega), Array.getElem?_eq_none (by simp; omega)]
abbrev eN (P : Program) (ops : Array Oper) (w : World) (p : Nat) (base : List Value) (os : List Oper) (l : Slots) (s : Ms) : Ev := evs P ops w p base.length base os l (mK s) [] []
theorem NowN.put {w' : World} {A : Option Addr} {cap : Nat} {s' : Ms} (hn : NowN w0 p B s xs w) (hc : xs.length ≤ cap) (hby : BytesIn w B A xs) (hm : MsB s') (hr : Row w' p 111 (mC s' A xs.length cap)) (hb : Besides p p w w') : NowN w0 p B s' xs w' := by
  have k : ∀ b, b < B → w'.heap[b]? = w.heap[b]? := fun b hlt => hb.block b (by have := hn.at_.lt; have := hn.at_.low; omega) (by have := hn.at_.low; omega) (by have := hn.at_.low; omega)
  exact ⟨⟨⟨A, cap, hc, hr, hby.keep k⟩, hn.at_.low, hn.at_.bytes, hm, hn.at_.tabs.keep k⟩, hn.bes.trans hb⟩
theorem nRs (n : Nat) (hn : NowN w0 p B s xs w) (s' : Ms) (hm : MsB s') (h : ∀ w', NowN w0 p B s' xs w' → WO Tryz.prog ops Q base (rest.drop n) (eN Tryz.prog ops w p base (rest.take n) l s).l w')
    (hk : okE (eN Tryz.prog ops w p base (rest.take n) l s) (mK s') := by unfold okE; kernel_rfl) : WO Tryz.prog ops Q base rest l w := by
  obtain ⟨A, cap, hc, hr, hby⟩ := hn.at_.row
  exact evs_run n hr (mK_kn ..) hk fun w' full' _ hr' hK hs hb => h w' (hn.put hc hby hm (by rw [← mK_back hK hs]; exact hr') hb)
theorem nR (n : Nat) (hn : NowN w0 p B s xs w) (h : WO Tryz.prog ops Q base (rest.drop n) (eN Tryz.prog ops w p base (rest.take n) l s).l w) (ha : (rest.take n).all noSt = true := by kernel_rfl)
    (hk : okE (eN Tryz.prog ops w p base (rest.take n) l s) (mK s) := by unfold okE; kernel_rfl) : WO Tryz.prog ops Q base rest l w := by
  obtain ⟨A, cap, hc, hr, hby⟩ := hn.at_.row
  exact evs_run n hr (mK_kn ..) hk fun w' _ e _ _ _ _ => by rw [e ha]; exact h
theorem nFs (hn : NowN w0 p B s xs w) (s' : Ms) (hm : MsB s') (h : ∀ w', NowN w0 p B s' xs w' → EO Q .normal base (eN Tryz.prog ops w p base rest l s).l w')
    (hk : okE (eN Tryz.prog ops w p base rest l s) (mK s') := by unfold okE; kernel_rfl) : WO Tryz.prog ops Q base rest l w := by
  obtain ⟨A, cap, hc, hr, hby⟩ := hn.at_.row
  exact evs_all hr (mK_kn ..) hk fun w' full' _ hr' hK hs hb => woE (h w' (hn.put hc hby hm (by rw [← mK_back hK hs]; exact hr') hb))
theorem nF (hn : NowN w0 p B s xs w) (h : EO Q .normal base (eN Tryz.prog ops w p base rest l s).l w) (ha : rest.all noSt = true := by kernel_rfl)
    (hk : okE (eN Tryz.prog ops w p base rest l s) (mK s) := by unfold okE; kernel_rfl) : WO Tryz.prog ops Q base rest l w := by
  obtain ⟨A, cap, hc, hr, hby⟩ := hn.at_.row
  exact evs_all hr (mK_kn ..) hk fun w' _ e _ _ _ _ => by rw [e ha]; exact woE h
theorem nEs {y : Code} (hn : NowN w0 p B s xs w) (s' : Ms) (hm : MsB s') (h : ∀ w', NowN w0 p B s' xs w' → CO Tryz.prog y Q base (eN Tryz.prog ops w p base rest l s).l w')
    (hk : okE (eN Tryz.prog ops w p base rest l s) (mK s') := by unfold okE; kernel_rfl) : WO Tryz.prog ops (Exit.then (y.wp Tryz.prog Q) Q) base rest l w := nFs hn s' hm (fun w' k => eoT (h w' k)) hk
theorem nE {y : Code} (hn : NowN w0 p B s xs w) (h : CO Tryz.prog y Q base (eN Tryz.prog ops w p base rest l s).l w) (ha : rest.all noSt = true := by kernel_rfl)
    (hk : okE (eN Tryz.prog ops w p base rest l s) (mK s) := by unfold okE; kernel_rfl) : WO Tryz.prog ops (Exit.then (y.wp Tryz.prog Q) Q) base rest l w := nF hn (eoT h) ha hk
theorem nQs {y : Code} {id : Nat} (hn : NowN w0 p B s xs w) (s' : Ms) (hm : MsB s') (h : ∀ w', NowN w0 p B s' xs w' → CO Tryz.prog y Q base (eN Tryz.prog rest.toArray w p base rest l s).l w')
    (hk : okE (eN Tryz.prog rest.toArray w p base rest l s) (mK s') := by unfold okE; kernel_rfl) : CO Tryz.prog (.seq (.region id rest.toArray false) y) Q base l w := coR (nEs hn s' hm h hk)
theorem nQ {y : Code} {id : Nat} (hn : NowN w0 p B s xs w) (h : CO Tryz.prog y Q base (eN Tryz.prog rest.toArray w p base rest l s).l w) (ha : rest.all noSt = true := by kernel_rfl)
    (hk : okE (eN Tryz.prog rest.toArray w p base rest l s) (mK s) := by unfold okE; kernel_rfl) : CO Tryz.prog (.seq (.region id rest.toArray false) y) Q base l w := coR (nE hn h ha hk)
def SN (w0 : World) (p B : Nat) (s : Ms) (w : World) : Prop := ∃ xs, NowN w0 p B s xs w
theorem nP (n : Nat) {id : Nat} {y : Code} (hn : NowN w0 p B s xs w) (h : ∀ w', NowN w0 p B s xs w' → PO Tryz.prog ops (Exit.then (y.wp Tryz.prog Q) Q) (SN w0 p B s) n base n (Array.replicate ops.size false) l w')
    (hB : partB ops n = true := by kernel_rfl) (hm : (Tryz.prog).follows .mixedOrders = true := by kernel_rfl) : CO Tryz.prog (.seq (.region id ops true) y) Q base l w := coP n ⟨_, hn.drew⟩ (h _ hn.drew) hB hm
theorem nPz (n : Nat) {id : Nat} (hn : NowN w0 p B s xs w) (h : ∀ w', NowN w0 p B s xs w' → PO Tryz.prog ops Q (SN w0 p B s) n base n (Array.replicate ops.size false) l w')
    (hB : partB ops n = true := by kernel_rfl) (hm : (Tryz.prog).follows .mixedOrders = true := by kernel_rfl) : CO Tryz.prog (.region id ops true) Q base l w := coPz n ⟨_, hn.drew⟩ (h _ hn.drew) hB hm
theorem nD {n f : Nat} {listed : Array Bool} (is : List Nat) (hn : NowN w0 p B s xs w) (h : PO Tryz.prog ops Q (SN w0 p B s) n base (f - is.length) (setO is listed) (eN Tryz.prog ops w p base (atO ops is) l s).l w)
    (hk : okE (eN Tryz.prog ops w p base (atO ops is) l s) (mK s) := by unfold okE; kernel_rfl) (ha : ((atO ops is).all noSt && (ordB ops n is listed && (partB ops n && Nat.ble is.length f))) = true := by kernel_rfl)
    (hQ : ∀ d v c a w, Q (.panic c) (a.put d v) w → Q (.panic c) a w := by intro d _ _ _ _ h; cases d <;> exact h) : PO Tryz.prog ops Q (SN w0 p B s) n base f listed l w := by
  simp only [Bool.and_eq_true] at ha
  obtain ⟨a1, a2, a3, a4⟩ := ha
  simp only [okE, Prod.mk.injEq] at hk
  obtain ⟨h1, _, h3, h4⟩ := hk
  have hle : is.length ≤ f := by simpa using a4
  have := part_run (cs := mK s) (ty := 111) (base := base) (W := w) a3 hQ (fun w' hs => by
    obtain ⟨ys, hs⟩ := hs
    obtain ⟨A, cap, hc, hr, hby⟩ := hs.at_.row
    exact ⟨_, hr, mK_kn ..⟩) is (f - is.length) listed l [] [] w h1 (pairs_eq h3) (pairs_eq h4) a1 a2 ⟨_, hn⟩ h
  rwa [Nat.sub_add_cancel hle] at this
theorem nDo' {n f : Nat} {listed : Array Bool} {V : Value} {N : World → Prop} {g : FuncId} {args : Array Value} (i : Nat) (hc : Calls Tryz.prog g args w fun e w' => e = .returned V ∧ N w' ∧ SN w0 p B s w') (h : ∀ w', N w' → SN w0 p B s w' → PO Tryz.prog ops Q (SN w0 p B s) n base (f - 1) (listed.setIfInBounds i true) (putO o.dst V l) w')
    (ho : ops[i]? = some o := by exact rfl) (hr : (Region.ready .any ops listed, decide (i < n), Nat.blt 0 f, wantO ops base.length base l o, dstO o.dst base.length) = ([i], true, true, some true, true) := by kernel_rfl)
    (he : (execOp (evO base l) o).run Tryz.prog w = .ok (.enter g args) w := by kernel_rfl) : PO Tryz.prog ops Q (SN w0 p B s) n base f listed l w := by
  simp only [Prod.mk.injEq] at hr
  obtain ⟨h1, h2, h3, h4, h5⟩ := hr
  have hf : f = (f - 1) + 1 := by have : 0 < f := by simpa [Nat.blt_eq] using h3
                                  omega
  rw [hf]
  exact poCall ho h1 h2 h4 he h5 hc fun e w' ⟨e1, e2, e3⟩ => by subst e1; exact ⟨e3, h w' e2 e3⟩
theorem nDo {n f : Nat} {listed : Array Bool} {V : Value} {ys : List Int} {g : FuncId} {args : Array Value} (i : Nat) (hc : Calls Tryz.prog g args w fun e w' => e = .returned V ∧ NowN w0 p B s ys w') (h : ∀ w', NowN w0 p B s ys w' → PO Tryz.prog ops Q (SN w0 p B s) n base (f - 1) (listed.setIfInBounds i true) (putO o.dst V l) w')
    (ho : ops[i]? = some o := by exact rfl) (hr : (Region.ready .any ops listed, decide (i < n), Nat.blt 0 f, wantO ops base.length base l o, dstO o.dst base.length) = ([i], true, true, some true, true) := by kernel_rfl)
    (he : (execOp (evO base l) o).run Tryz.prog w = .ok (.enter g args) w := by kernel_rfl) : PO Tryz.prog ops Q (SN w0 p B s) n base f listed l w :=
  nDo' i (hc.mono fun e w' k => ⟨k.1, k.2, _, k.2⟩) (fun w' k _ => h w' k) ho hr he
theorem nDe {n f : Nat} {listed : Array Bool} {V : Value} {g : FuncId} {args : Array Value} (i : Nat) (hc : Calls Tryz.prog g args w fun e w' => e = .returned V ∧ w = w') (hn : NowN w0 p B s xs w) (h : PO Tryz.prog ops Q (SN w0 p B s) n base (f - 1) (listed.setIfInBounds i true) (putO o.dst V l) w)
    (ho : ops[i]? = some o := by exact rfl) (hr : (Region.ready .any ops listed, decide (i < n), Nat.blt 0 f, wantO ops base.length base l o, dstO o.dst base.length) = ([i], true, true, some true, true) := by kernel_rfl)
    (he : (execOp (evO base l) o).run Tryz.prog w = .ok (.enter g args) w := by kernel_rfl) : PO Tryz.prog ops Q (SN w0 p B s) n base f listed l w :=
  nDo' i (hc.mono fun e w' k => ⟨k.1, k.2, by rw [← k.2]; exact ⟨_, hn⟩⟩) (fun w' e _ => by rw [← e]; exact h) ho hr he
theorem nDb {n f : Nat} {listed : Array Bool} {V : Value} {g : FuncId} {args : Array Value} (i : Nat) (hc : Calls Tryz.prog g args w fun e w' => e = .returned V ∧ Below w.heap.size w w') (hn : NowN w0 p B s xs w) (h : ∀ w', NowN w0 p B s xs w' → PO Tryz.prog ops Q (SN w0 p B s) n base (f - 1) (listed.setIfInBounds i true) (putO o.dst V l) w')
    (ho : ops[i]? = some o := by exact rfl) (hr : (Region.ready .any ops listed, decide (i < n), Nat.blt 0 f, wantO ops base.length base l o, dstO o.dst base.length) = ([i], true, true, some true, true) := by kernel_rfl)
    (he : (execOp (evO base l) o).run Tryz.prog w = .ok (.enter g args) w := by kernel_rfl) : PO Tryz.prog ops Q (SN w0 p B s) n base f listed l w :=
  nDo i (hc.mono fun e w' k => ⟨k.1, hn.below k.2⟩) h ho hr he
theorem nDa {n f : Nat} {listed : Array Bool} {V : Value} {ys : List Int} {g : FuncId} {args : Array Value} (i : Nat) (hc : Calls Tryz.prog g args w fun e w' => e = .returned V ∧ NowN w p B s ys w') (hn : NowN w0 p B s xs w) (h : ∀ w', NowN w0 p B s ys w' → PO Tryz.prog ops Q (SN w0 p B s) n base (f - 1) (listed.setIfInBounds i true) (putO o.dst V l) w')
    (ho : ops[i]? = some o := by exact rfl) (hr : (Region.ready .any ops listed, decide (i < n), Nat.blt 0 f, wantO ops base.length base l o, dstO o.dst base.length) = ([i], true, true, some true, true) := by kernel_rfl)
    (he : (execOp (evO base l) o).run Tryz.prog w = .ok (.enter g args) w := by kernel_rfl) : PO Tryz.prog ops Q (SN w0 p B s) n base f listed l w :=
  nDo i (hc.mono fun e w' k => ⟨k.1, hn.after k.2⟩) h ho hr he
theorem nI0 {k : IntKind} {X : Except Cy ((Int × Ms) × List Int)} {g : FuncId} {args : Array Value} (hc : Calls Tryz.prog g args w (OutI w p B k X)) (hn : NowN w0 p B s xs w)
    (hP : ∀ c w', X = .error c → BesC p c w0 w' → EO Q (.panic [{ v := .iface 54 (cyV c), recovered := false }]) base l w')
    (hK : ∀ v s ys w', X = .ok ((v, s), ys) → kB k v → NowN w0 p B s ys w' → WO Tryz.prog ops Q base rest (putO o.dst (.int k v) l) w')
    (hg : wantO ops base.length base l o = some true := by kernel_rfl) (he : (execOp (evO base l) o).run Tryz.prog w = .ok (.enter g args) w := by kernel_rfl) (hd : dstO o.dst base.length = true := by kernel_rfl) : WO Tryz.prog ops Q base (o :: rest) l w :=
  woCall hg he hd hc fun e w' ho => by
    rcases X with c | ⟨⟨v, s⟩, ys⟩
    · obtain ⟨rfl, hb⟩ := ho
      exact hP c w' rfl (hb.after hn.bes)
    · obtain ⟨rfl, hk, hN⟩ := ho
      exact hK v s ys w' rfl hk (hn.after hN)
theorem nV0 {X : Except Cy (Ms × List Int)} {g : FuncId} {args : Array Value} (hc : Calls Tryz.prog g args w (OutV w p B X)) (hn : NowN w0 p B s xs w)
    (hP : ∀ c w', X = .error c → BesC p c w0 w' → EO Q (.panic [{ v := .iface 54 (cyV c), recovered := false }]) base l w')
    (hK : ∀ s ys w', X = .ok (s, ys) → NowN w0 p B s ys w' → WO Tryz.prog ops Q base rest (putO o.dst (.tuple #[]) l) w')
    (hg : wantO ops base.length base l o = some true := by kernel_rfl) (he : (execOp (evO base l) o).run Tryz.prog w = .ok (.enter g args) w := by kernel_rfl) (hd : dstO o.dst base.length = true := by kernel_rfl) : WO Tryz.prog ops Q base (o :: rest) l w :=
  woCall hg he hd hc fun e w' ho => by
    rcases X with c | ⟨s, ys⟩
    · obtain ⟨rfl, hb⟩ := ho
      exact hP c w' rfl (hb.after hn.bes)
    · obtain ⟨rfl, hN⟩ := ho
      exact hK s ys w' rfl (hn.after hN)
def Goes {β : Type} (Q : Exit → Act → World → Prop) (w0 : World) (p : Nat) (G : Except Cy β) : Prop := ∀ a c w', a.defers = [] → G = .error c → BesC p c w0 w' → Q (.panic [{ v := .iface 54 (cyV c), recovered := false }]) a w'
theorem nI {β : Type} {k : IntKind} {T : Tr (Int × Ms)} {f : Int × Ms → Tr β} {G : Except Cy (β × List Int)} {g : FuncId} {args : Array Value} (hc : Calls Tryz.prog g args w (OutI w p B k (T.run xs))) (hn : NowN w0 p B s xs w) (hr : G = (T.bind f).run xs)
    (hK : ∀ v s ys w', kB k v → NowN w0 p B s ys w' → G = (f (v, s)).run ys → WO Tryz.prog ops Q base rest (putO o.dst (.int k v) l) w')
    (hP : Goes Q w0 p G := by first | exact fun _ _ _ d e b => And.intro d (OutV.err e b) | exact fun _ _ _ d e b => And.intro d (OutI.err e b))
    (hg : wantO ops base.length base l o = some true := by kernel_rfl) (he : (execOp (evO base l) o).run Tryz.prog w = .ok (.enter g args) w := by kernel_rfl) (hd : dstO o.dst base.length = true := by kernel_rfl) : WO Tryz.prog ops Q base (o :: rest) l w :=
  nI0 hc hn (fun c w' hX hb => ⟨fun _ => hP _ c w' rfl (hr.trans (Tr.run_bind_error hX _)) hb⟩) (fun v s ys w' hX hk hN => hK v s ys w' hk hN (hr.trans (Tr.run_bind_ok hX _))) hg he hd
theorem nV {β : Type} {T : Tr Ms} {f : Ms → Tr β} {G : Except Cy (β × List Int)} {g : FuncId} {args : Array Value} (hc : Calls Tryz.prog g args w (OutV w p B (T.run xs))) (hn : NowN w0 p B s xs w) (hr : G = (T.bind f).run xs)
    (hK : ∀ s ys w', NowN w0 p B s ys w' → G = (f s).run ys → WO Tryz.prog ops Q base rest (putO o.dst (.tuple #[]) l) w')
    (hP : Goes Q w0 p G := by first | exact fun _ _ _ d e b => And.intro d (OutV.err e b) | exact fun _ _ _ d e b => And.intro d (OutI.err e b))
    (hg : wantO ops base.length base l o = some true := by kernel_rfl) (he : (execOp (evO base l) o).run Tryz.prog w = .ok (.enter g args) w := by kernel_rfl) (hd : dstO o.dst base.length = true := by kernel_rfl) : WO Tryz.prog ops Q base (o :: rest) l w :=
  nV0 hc hn (fun c w' hX hb => ⟨fun _ => hP _ c w' rfl (hr.trans (Tr.run_bind_error hX _)) hb⟩) (fun s ys w' hX hN => hK s ys w' hN (hr.trans (Tr.run_bind_ok hX _))) hg he hd
theorem nIt {k : IntKind} {T : Tr (Int × Ms)} {G : Except Cy ((Int × Ms) × List Int)} {g : FuncId} {args : Array Value} (hc : Calls Tryz.prog g args w (OutI w p B k (T.run xs))) (hn : NowN w0 p B s xs w) (hr : G = T.run xs)
    (hK : ∀ v s ys w', kB k v → NowN w0 p B s ys w' → G = .ok ((v, s), ys) → WO Tryz.prog ops Q base rest (putO o.dst (.int k v) l) w')
    (hP : Goes Q w0 p G := by exact fun _ _ _ d e b => And.intro d (OutI.err e b))
    (hg : wantO ops base.length base l o = some true := by kernel_rfl) (he : (execOp (evO base l) o).run Tryz.prog w = .ok (.enter g args) w := by kernel_rfl) (hd : dstO o.dst base.length = true := by kernel_rfl) : WO Tryz.prog ops Q base (o :: rest) l w :=
  nI0 hc hn (fun c w' hX hb => ⟨fun _ => hP _ c w' rfl (hr.trans hX) hb⟩) (fun v s ys w' hX hk hN => hK v s ys w' hk hN (hr.trans hX)) hg he hd
theorem nVt {T : Tr Ms} {G : Except Cy (Ms × List Int)} {g : FuncId} {args : Array Value} (hc : Calls Tryz.prog g args w (OutV w p B (T.run xs))) (hn : NowN w0 p B s xs w) (hr : G = T.run xs)
    (hK : ∀ s ys w', NowN w0 p B s ys w' → G = .ok (s, ys) → WO Tryz.prog ops Q base rest (putO o.dst (.tuple #[]) l) w')
    (hP : Goes Q w0 p G := by exact fun _ _ _ d e b => And.intro d (OutV.err e b))
    (hg : wantO ops base.length base l o = some true := by kernel_rfl) (he : (execOp (evO base l) o).run Tryz.prog w = .ok (.enter g args) w := by kernel_rfl) (hd : dstO o.dst base.length = true := by kernel_rfl) : WO Tryz.prog ops Q base (o :: rest) l w :=
  nV0 hc hn (fun c w' hX hb => ⟨fun _ => hP _ c w' rfl (hr.trans hX) hb⟩) (fun s ys w' hX hN => hK s ys w' hN (hr.trans hX)) hg he hd
theorem nDi {β : Type} {n f : Nat} {listed : Array Bool} {k : IntKind} {T : Tr (Int × Ms)} {F : Int × Ms → Tr β} {G : Except Cy (β × List Int)} {g : FuncId} {args : Array Value} (i : Nat) (hX : ∀ {v s' ys}, T.run xs = .ok ((v, s'), ys) → s = s') (hc : Calls Tryz.prog g args w (OutI w p B k (T.run xs))) (hn : NowN w0 p B s xs w) (hr : G = (T.bind F).run xs)
    (hK : ∀ v ys w', kB k v → NowN w0 p B s ys w' → G = (F (v, s)).run ys → PO Tryz.prog ops Q (SN w0 p B s) n base (f - 1) (listed.setIfInBounds i true) (putO o.dst (.int k v) l) w')
    (ho : ops[i]? = some o := by exact rfl) (hrd : (Region.ready .any ops listed, decide (i < n), Nat.blt 0 f, wantO ops base.length base l o, dstO o.dst base.length) = ([i], true, true, some true, true) := by kernel_rfl)
    (he : (execOp (evO base l) o).run Tryz.prog w = .ok (.enter g args) w := by kernel_rfl)
    (hP : Goes Q w0 p G := by first | exact fun _ _ _ d e b => And.intro d (OutV.err e b) | exact fun _ _ _ d e b => And.intro d (OutI.err e b)) : PO Tryz.prog ops Q (SN w0 p B s) n base f listed l w := by
  simp only [Prod.mk.injEq] at hrd
  obtain ⟨h1, h2, h3, h4, h5⟩ := hrd
  have hf : f = (f - 1) + 1 := by have : 0 < f := by simpa [Nat.blt_eq] using h3
                                  omega
  rw [hf]
  refine poCall ho h1 h2 h4 he h5 hc fun e w' hO => ?_
  rcases hT : T.run xs with c | ⟨⟨v, s'⟩, ys⟩
  · rw [hT] at hO
    obtain ⟨rfl, hb⟩ := hO
    exact ⟨fun _ => hP _ c w' rfl (hr.trans (Tr.run_bind_error hT _)) (hb.after hn.bes)⟩
  · rw [hT] at hO
    obtain ⟨rfl, hk, hN⟩ := hO
    obtain rfl := hX hT
    exact ⟨⟨_, hn.after hN⟩, hK v ys w' hk (hn.after hN) (hr.trans (Tr.run_bind_ok hT _))⟩
theorem nB {V : Value} {g : FuncId} {args : Array Value} (hc : Calls Tryz.prog g args w fun e w' => e = .returned V ∧ Below w.heap.size w w') (hn : NowN w0 p B s xs w) (h : ∀ w', NowN w0 p B s xs w' → WO Tryz.prog ops Q base rest (putO o.dst V l) w')
    (hg : wantO ops base.length base l o = some true := by kernel_rfl) (he : (execOp (evO base l) o).run Tryz.prog w = .ok (.enter g args) w := by kernel_rfl) (hd : dstO o.dst base.length = true := by kernel_rfl) : WO Tryz.prog ops Q base (o :: rest) l w :=
  kO hc (fun w' hb => h w' (hn.below hb)) hg he hd
theorem nA {V : Value} {s' : Ms} {ys : List Int} {g : FuncId} {args : Array Value} (hc : Calls Tryz.prog g args w fun e w' => e = .returned V ∧ NowN w p B s' ys w') (hn : NowN w0 p B s xs w) (h : ∀ w', NowN w0 p B s' ys w' → WO Tryz.prog ops Q base rest (putO o.dst V l) w')
    (hg : wantO ops base.length base l o = some true := by kernel_rfl) (he : (execOp (evO base l) o).run Tryz.prog w = .ok (.enter g args) w := by kernel_rfl) (hd : dstO o.dst base.length = true := by kernel_rfl) : WO Tryz.prog ops Q base (o :: rest) l w :=
  kO hc (fun w' hk => h w' (hn.after hk)) hg he hd
end
section
variable {α β : Type} {xs : List Int} {G : Except Cy (β × List Int)} {c : Prop} [Decidable c]
theorem dN {a : β} (h : G = (Tr.done a).run xs) : G = .ok (a, xs) := h.trans (Tr.run_done _ _)
theorem pN {t e : Tr β} (h : G = (if c then t else e).run xs) (hc : c := by first | assumption | omega) : G = t.run xs := h.trans (run_if_pos hc)
theorem qN {t e : Tr β} (h : G = (if c then t else e).run xs) (hc : ¬ c := by first | assumption | omega) : G = e.run xs := h.trans (run_if_neg hc)
theorem pbN {t e : Tr α} {f : α → Tr β} (h : G = ((if c then t else e).bind f).run xs) (hc : c := by first | assumption | omega) : G = (t.bind f).run xs := h.trans (run_bif_pos hc)
theorem qbN {t e : Tr α} {f : α → Tr β} (h : G = ((if c then t else e).bind f).run xs) (hc : ¬ c := by first | assumption | omega) : G = (e.bind f).run xs := h.trans (run_bif_neg hc)
variable {P : Program} {Q : Exit → Act → World → Prop} {base : List Value} {l : Slots} {w : World}
theorem nIf {t e : Tr β} {o : Operand} {x y : Code} (h : G = (if c then t else e).run xs) (h1 : c → G = t.run xs → CO P x Q base l w) (h2 : ¬ c → G = e.run xs → CO P y Q base l w) (hc : evO base l o = .bool (decide c) := by kernel_rfl) : CO P (.cond o x y) Q base l w :=
  coI (decide c) (fun k => h1 (of_decide_eq_true k) (pN h (of_decide_eq_true k))) (fun k => h2 (of_decide_eq_false k) (qN h (of_decide_eq_false k))) hc
theorem nIfb {t e : Tr α} {f : α → Tr β} {o : Operand} {x y : Code} (h : G = ((if c then t else e).bind f).run xs) (h1 : c → G = (t.bind f).run xs → CO P x Q base l w) (h2 : ¬ c → G = (e.bind f).run xs → CO P y Q base l w) (hc : evO base l o = .bool (decide c) := by kernel_rfl) : CO P (.cond o x y) Q base l w :=
  coI (decide c) (fun k => h1 (of_decide_eq_true k) (pbN h (of_decide_eq_true k))) (fun k => h2 (of_decide_eq_false k) (qbN h (of_decide_eq_false k))) hc
end
theorem m_read (a : Int) (hAa : Wd16 a) {s : Ms} {xs : List Int} {w : World} {p B : Nat} (h : AtN w p B s xs) :
    Calls Tryz.prog 268 #[pT p 0, .int .u16 (a)] w (OutI w p B .u8 ((readN a s).run xs)) := by
 have hn := NowN.begin h
 have hr : (readN a s).run xs = (readN a s).run xs := rfl
 go_enter Tryz.func268, Tryz.ntmps268
 exact coStart <| nQ hn <| coR <| nR 3 hn <| nI (m_ask ⟨2, a, 0, 3⟩ ⟨hAa, B8.zero⟩ hn.at_) hn hr <| fun v3 s3 xs3 w3 hk3 hn hr => nE hn <| coRet <| eoIr (.int .u8 (v3)) (OutI.ok (dN hr) (hk3) hn)
theorem m_write (a : Int) (hAa : Wd16 a) (b : Int) (hAb : B8 b) {s : Ms} {xs : List Int} {w : World} {p B : Nat} (h : AtN w p B s xs) :
    Calls Tryz.prog 272 #[pT p 0, .int .u16 (a), .int .u8 (b)] w (OutV w p B ((writeN a b s).run xs)) := by
 have hn := NowN.begin h
 have hr : (writeN a b s).run xs = (writeN a b s).run xs := rfl
 go_enter Tryz.func272, Tryz.ntmps272
 exact coStart <| coZ <| nR 4 hn <| nI (m_ask ⟨3, a, b, 3⟩ ⟨hAa, hAb⟩ hn.at_) hn hr <| fun v1 s1 xs1 w1 hk1 hn hr => woE <| eoV (OutV.ok (dN hr) hn)
theorem m_in (a : Int) (hAa : Wd16 a) {s : Ms} {xs : List Int} {w : World} {p B : Nat} (h : AtN w p B s xs) :
    Calls Tryz.prog 276 #[pT p 0, .int .u16 (a)] w (OutI w p B .u8 ((inN a s).run xs)) := by
 have hn := NowN.begin h
 have hr : (inN a s).run xs = (inN a s).run xs := rfl
 go_enter Tryz.func276, Tryz.ntmps276
 exact coStart <| nQ hn <| coR <| nR 3 hn <| nI (m_ask ⟨4, a, 0, 4⟩ ⟨hAa, B8.zero⟩ hn.at_) hn hr <| fun v3 s3 xs3 w3 hk3 hn hr => nE hn <| coRet <| eoIr (.int .u8 (v3)) (OutI.ok (dN hr) (hk3) hn)
theorem m_out (a : Int) (hAa : Wd16 a) (b : Int) (hAb : B8 b) {s : Ms} {xs : List Int} {w : World} {p B : Nat} (h : AtN w p B s xs) :
    Calls Tryz.prog 278 #[pT p 0, .int .u16 (a), .int .u8 (b)] w (OutV w p B ((outN a b s).run xs)) := by
 have hn := NowN.begin h
 have hr : (outN a b s).run xs = (outN a b s).run xs := rfl
 go_enter Tryz.func278, Tryz.ntmps278
 exact coStart <| coZ <| nR 4 hn <| nI (m_ask ⟨5, a, b, 4⟩ ⟨hAa, hAb⟩ hn.at_) hn hr <| fun v1 s1 xs1 w1 hk1 hn hr => woE <| eoV (OutV.ok (dN hr) hn)
theorem m_pause (n : Int) {s : Ms} {xs : List Int} {w : World} {p B : Nat} (h : AtN w p B s xs) :
    Calls Tryz.prog 186 #[pT p 0, .int .i64 (n)] w (OutV w p B ((pauseN n s).run xs)) := by
 have hn := NowN.begin h
 have hr : (pauseN n s).run xs = (pauseN n s).run xs := rfl
 go_enter Tryz.func186, Tryz.ntmps186
 exact coStart <| coZ <| nR 3 hn <| nI (m_ask ⟨7, 0, 0, n⟩ ⟨Wd16.zero, B8.zero⟩ hn.at_) hn hr <| fun v1 s1 xs1 w1 hk1 hn hr => woE <| eoV (OutV.ok (dN hr) hn)
theorem m_glance  {s : Ms} {xs : List Int} {w : World} {p B : Nat} (h : AtN w p B s xs) :
    Calls Tryz.prog 76 #[pT p 0] w (OutI w p B .u8 ((glanceN s).run xs)) := by
 have hn := NowN.begin h
 have hr : (glanceN s).run xs = (glanceN s).run xs := rfl
 go_enter Tryz.func76, Tryz.ntmps76
 exact coStart <| nQ hn <| have b3 := hn.at_.ms.r.pc; coR <| nR 7 hn <| nI (m_ask ⟨1, s.r.pc, 0, 4⟩ ⟨b3, B8.zero⟩ hn.at_) hn hr <| fun v4 s4 xs4 w4 hk4 hn hr => nE hn <| have b6 := hn.at_.ms.r; coR <| nR 5 hn <| nB (tick_any s4.r 1 (b6).r _) hn <| fun w7 hn => nEs hn _ (hn.at_.ms.u_rg ((b6).tick _)) <| fun w8 hn => nQ hn <| coRet <| eoIr (.int .u8 (v4)) (OutI.ok (dN hr) (hk4) hn)
theorem m_fetch  {s : Ms} {xs : List Int} {w : World} {p B : Nat} (h : AtN w p B s xs) :
    Calls Tryz.prog 79 #[pT p 0] w (OutI w p B .u8 ((fetchN s).run xs)) := by
 have hn := NowN.begin h
 have hr : (fetchN s).run xs = (fetchN s).run xs := rfl
 go_enter Tryz.func79, Tryz.ntmps79
 exact coStart <| nQ hn <| coR <| nR 1 hn <| nI (m_glance hn.at_) hn hr <| fun v3 s3 xs3 w3 hk3 hn hr => nE hn <| have b5 := hn.at_.ms.r.pc; nQs hn (.u_pc _ ((s3.r.pc + 1) % 65536)) (hn.at_.ms.u_pc (Wd16.mod _)) <| fun w6 hn => nQ hn <| coRet <| eoIr (.int .u8 (v3)) (OutI.ok (dN hr) (hk3) hn)
theorem m_number  {s : Ms} {xs : List Int} {w : World} {p B : Nat} (h : AtN w p B s xs) :
    Calls Tryz.prog 219 #[pT p 0] w (OutI w p B .u8 ((numberN s).run xs)) := by
 have hn := NowN.begin h
 have hr : (numberN s).run xs = (numberN s).run xs := rfl
 go_enter Tryz.func219, Tryz.ntmps219
 exact coStart <| nQ hn <| have b3 := hn.at_.ms.r.pc; coR <| nR 6 hn <| nI (m_read s.r.pc (b3) hn.at_) hn hr <| fun v4 s4 xs4 w4 hk4 hn hr => nE hn <| have b6 := hn.at_.ms.r.pc; nQs hn (.u_pc _ ((s4.r.pc + 1) % 65536)) (hn.at_.ms.u_pc (Wd16.mod _)) <| fun w7 hn => nQ hn <| coRet <| eoIr (.int .u8 (v4)) (OutI.ok (dN hr) (hk4) hn)
theorem m_word  {s : Ms} {xs : List Int} {w : World} {p B : Nat} (h : AtN w p B s xs) :
    Calls Tryz.prog 261 #[pT p 0] w (OutI w p B .u16 ((wordN s).run xs)) := by
 have hn := NowN.begin h
 have hr : (wordN s).run xs = (wordN s).run xs := rfl
 go_enter Tryz.func261, Tryz.ntmps261
 exact coStart <| nQ hn <| coR <| nR 1 hn <| nI (m_number hn.at_) hn hr <| fun v3 s3 xs3 w3 hk3 hn hr => nE hn <| coR <| nR 1 hn <| nI (m_number hn.at_) hn hr <| fun v5 s5 xs5 w5 hk5 hn hr => nE hn <| coR <| nR 2 hn <| kE (word_any v5 v3 (hk5).1 (hk5).2 (hk3).1 (hk3).2 _) <| nE hn <| coRet <| eoIr (.int .u16 (256 * v5 + v3)) (OutI.ok (dN hr) (Wd16.mk8 (hk5) (hk3)) hn)
theorem m_wordAt (a : Int) (hAa : Wd16 a) {s : Ms} {xs : List Int} {w : World} {p B : Nat} (h : AtN w p B s xs) :
    Calls Tryz.prog 286 #[pT p 0, .int .u16 (a)] w (OutI w p B .u16 ((wordAtN a s).run xs)) := by
 have hn := NowN.begin h
 have hr : (wordAtN a s).run xs = (wordAtN a s).run xs := rfl
 go_enter Tryz.func286, Tryz.ntmps286
 exact coStart <| nQ hn <| coR <| nR 2 hn <| nI (m_read a (hAa) hn.at_) hn hr <| fun v3 s3 xs3 w3 hk3 hn hr => nE hn <| coR <| nR 3 hn <| nI (m_read ((a + 1) % 65536) (Wd16.mod _) hn.at_) hn hr <| fun v5 s5 xs5 w5 hk5 hn hr => nE hn <| coR <| nR 2 hn <| kE (word_any v5 v3 (hk5).1 (hk5).2 (hk3).1 (hk3).2 _) <| nE hn <| coRet <| eoIr (.int .u16 (256 * v5 + v3)) (OutI.ok (dN hr) (Wd16.mk8 (hk5) (hk3)) hn)
theorem m_push (x : Int) (hAx : Wd16 x) {s : Ms} {xs : List Int} {w : World} {p B : Nat} (h : AtN w p B s xs) :
    Calls Tryz.prog 265 #[pT p 0, .int .u16 (x)] w (OutV w p B ((pushN x s).run xs)) := by
 have hn := NowN.begin h
 have hr : (pushN x s).run xs = (pushN x s).run xs := rfl
 go_enter Tryz.func265, Tryz.ntmps265
 exact coStart <| have b2 := hn.at_.ms.r.sp; nQs hn (.u_sp _ ((s.r.sp - 1) % 65536)) (hn.at_.ms.u_sp (Wd16.mod _)) <| fun w3 hn => nP 8 hn <| fun w5 hn => have b6 := hn.at_.ms.r.sp; nD [0, 1, 2, 3, 4, 5, 6] hn <| nDe 7 (hi_any x (hAx).1 (hAx).2 _) hn <| poE <| nV (m_write ((s.u_sp ((s.r.sp - 1) % 65536)).r.sp) (b6) (x / 256) ((hAx).hi) hn.at_) hn hr <| fun s8 xs8 w8 hn hr => wT <| have b10 := hn.at_.ms.r.sp; nQs hn (.u_sp _ ((s8.r.sp - 1) % 65536)) (hn.at_.ms.u_sp (Wd16.mod _)) <| fun w11 hn => nPz 8 hn <| fun w12 hn => have b13 := hn.at_.ms.r.sp; nD [0, 1, 2, 3, 4, 5, 6] hn <| nDe 7 (lo_any x (hAx).1 (hAx).2 _) hn <| poE <| nV (m_write ((s8.u_sp ((s8.r.sp - 1) % 65536)).r.sp) (b13) (x % 256) ((hAx).lo8) hn.at_) hn hr <| fun s15 xs15 w15 hn hr => woE <| eoV (OutV.ok (dN hr) hn)
theorem m_pop  {s : Ms} {xs : List Int} {w : World} {p B : Nat} (h : AtN w p B s xs) :
    Calls Tryz.prog 235 #[pT p 0] w (OutI w p B .u16 ((popN s).run xs)) := by
 have hn := NowN.begin h
 have hr : (popN s).run xs = (popN s).run xs := rfl
 go_enter Tryz.func235, Tryz.ntmps235
 exact coStart <| nQ hn <| have b3 := hn.at_.ms.r.sp; coR <| nR 6 hn <| nI (m_wordAt s.r.sp (b3) hn.at_) hn hr <| fun v4 s4 xs4 w4 hk4 hn hr => nE hn <| have b6 := hn.at_.ms.r.sp; nQs hn (.u_sp _ ((s4.r.sp + 2) % 65536)) (hn.at_.ms.u_sp (Wd16.mod _)) <| fun w7 hn => nQ hn <| coRet <| eoIr (.int .u16 (v4)) (OutI.ok (dN hr) (hk4) hn)
theorem m_goTo (x : Int) (hAx : Wd16 x) {s : Ms} {xs : List Int} {w : World} {p B : Nat} (h : AtN w p B s xs) :
    Calls Tryz.prog 234 #[pT p 0, .int .u16 (x)] w (fun e w' => e = .returned (.tuple #[]) ∧ NowN w p B (s.goTo x) xs w') := by
 have hn := NowN.begin h
 go_enter Tryz.func234, Tryz.ntmps234
 exact coStart <| coZ <| nRs 8 hn (.u_pc _ (x)) (hn.at_.ms.u_pc (hAx)) <| fun w1 hn => nFs hn (.u_wz _ (x)) (hn.at_.ms.u_wz (hAx)) <| fun w2 hn => eoV (⟨rfl, hn⟩)
theorem m_a  {s : Ms} {xs : List Int} {w : World} {p B : Nat} (h : AtN w p B s xs) :
    Calls Tryz.prog 233 #[pT p 0] w (fun e w' => e = .returned (.int .u8 (s.a)) ∧ NowN w p B (s) xs w') := by
 have hn := NowN.begin h
 go_enter Tryz.func233, Tryz.ntmps233
 exact coStart <| nQ hn <| have b3 := hn.at_.ms.r.af; coR <| nR 5 hn <| kE (hi_any s.r.af (b3).1 (b3).2 _) <| nE hn <| coRet <| eoIr (.int .u8 (s.r.af / 256)) (⟨rfl, hn⟩)
theorem m_f  {s : Ms} {xs : List Int} {w : World} {p B : Nat} (h : AtN w p B s xs) :
    Calls Tryz.prog 222 #[pT p 0] w (fun e w' => e = .returned (.int .u8 (s.f)) ∧ NowN w p B (s) xs w') := by
 have hn := NowN.begin h
 go_enter Tryz.func222, Tryz.ntmps222
 exact coStart <| nQ hn <| have b3 := hn.at_.ms.r.af; coR <| nR 5 hn <| kE (lo_any s.r.af (b3).1 (b3).2 _) <| nE hn <| coRet <| eoIr (.int .u8 (s.r.af % 256)) (⟨rfl, hn⟩)
theorem m_setA (x : Int) (hAx : B8 x) {s : Ms} {xs : List Int} {w : World} {p B : Nat} (h : AtN w p B s xs) :
    Calls Tryz.prog 318 #[pT p 0, .int .u8 (x)] w (fun e w' => e = .returned (.tuple #[]) ∧ NowN w p B (s.setA x) xs w') := by
 have hn := NowN.begin h
 go_enter Tryz.func318, Tryz.ntmps318
 exact coStart <| have b1 := f_byte hn.at_.ms; coZ <| nR 3 hn <| nA (m_f hn.at_) hn <| fun w2 hn => kE (word_any x s.f (hAx).1 (hAx).2 (b1).1 (b1).2 _) <| nFs hn (.u_af _ (256 * x + s.f)) (hn.at_.ms.u_af (Wd16.mk8 (hAx) (b1))) <| fun w4 hn => eoV (⟨rfl, hn⟩)
theorem m_setF (x : Int) (hAx : B8 x) {s : Ms} {xs : List Int} {w : World} {p B : Nat} (h : AtN w p B s xs) :
    Calls Tryz.prog 223 #[pT p 0, .int .u8 (x)] w (fun e w' => e = .returned (.tuple #[]) ∧ NowN w p B (s.setF x) xs w') := by
 have hn := NowN.begin h
 go_enter Tryz.func223, Tryz.ntmps223
 exact coStart <| have b1 := a_byte hn.at_.ms; coZ <| nR 2 hn <| nA (m_a hn.at_) hn <| fun w2 hn => nR 1 hn <| kE (word_any s.a x (b1).1 (b1).2 (hAx).1 (hAx).2 _) <| nFs hn (.u_af _ (256 * s.a + x)) (hn.at_.ms.u_af (Wd16.mk8 (b1) (hAx))) <| fun w4 hn => eoV (⟨rfl, hn⟩)
theorem m_carry  {s : Ms} {xs : List Int} {w : World} {p B : Nat} (h : AtN w p B s xs) :
    Calls Tryz.prog 277 #[pT p 0] w (fun e w' => e = .returned (.int .u8 (s.carry)) ∧ NowN w p B (s) xs w') := by
 have hn := NowN.begin h
 go_enter Tryz.func277, Tryz.ntmps277
 exact coStart <| nQ hn <| have b3 := f_byte hn.at_.ms; coR <| nR 1 hn <| nA (m_f hn.at_) hn <| fun w4 hn => kBin 5 (eg8 _ _ _ _ _) (bCarry s.f b3) <| nE hn <| coRet <| eoIr (.int .u8 (one (isM s.f 0))) (⟨rfl, hn⟩)
theorem m_hl  {s : Ms} {xs : List Int} {w : World} {p B : Nat} (h : AtN w p B s xs) :
    Calls Tryz.prog 246 #[pT p 0] w (fun e w' => e = .returned (.int .u16 (s.hl)) ∧ NowN w p B (s) xs w') := by
 have hn := NowN.begin h
 go_enter Tryz.func246, Tryz.ntmps246
 exact coStart <| nQ hn <| nP 9 hn <| fun w3 hn => have b4 := hn.at_.ms.r; nD [0, 1, 2, 3, 4, 5, 6, 7] hn <| nDb 8 (pair_any s.r s.plane 2 _) hn <| fun w5 hn => poE <| nE hn <| coRet <| eoIr (.int .u16 (pairG s.r s.plane 2)) (⟨rfl, hn⟩)
theorem m_setHL (x : Int) (hAx : Wd16 x) {s : Ms} {xs : List Int} {w : World} {p B : Nat} (h : AtN w p B s xs) :
    Calls Tryz.prog 300 #[pT p 0, .int .u16 (x)] w (fun e w' => e = .returned (.tuple #[]) ∧ NowN w p B (s.setHL x) xs w') := by
 have hn := NowN.begin h
 go_enter Tryz.func300, Tryz.ntmps300
 exact coStart <| nPz 13 hn <| fun w1 hn => have b2 := hn.at_.ms.r; nD [0, 1, 2, 3, 4, 5, 6, 7, 8, 9] hn <| nDb 10 (setPair_any s.r s.plane 2 x _) hn <| fun w3 hn => nD [11, 12] hn <| poE <| nFs hn _ (hn.at_.ms.u_rg ((b2).setPair _ _ (hAx))) <| fun w4 hn => eoV (⟨rfl, hn⟩)
theorem m_pair  {s : Ms} {xs : List Int} {w : World} {p B : Nat} (h : AtN w p B s xs) :
    Calls Tryz.prog 280 #[pT p 0] w (fun e w' => e = .returned (.int .u16 (s.pair)) ∧ NowN w p B (s) xs w') := by
 have hn := NowN.begin h
 go_enter Tryz.func280, Tryz.ntmps280
 exact coStart <| nQ hn <| nP 13 hn <| fun w3 hn => have b4 := hn.at_.ms.r; nD [0, 1, 2, 3, 4, 5, 6, 7, 8, 9, 10, 11] hn <| nDb 12 (pair_any s.r s.plane s.p _) hn <| fun w5 hn => poE <| nE hn <| coRet <| eoIr (.int .u16 (pairG s.r s.plane s.p)) (⟨rfl, hn⟩)
theorem m_setPair (x : Int) (hAx : Wd16 x) {s : Ms} {xs : List Int} {w : World} {p B : Nat} (h : AtN w p B s xs) :
    Calls Tryz.prog 283 #[pT p 0, .int .u16 (x)] w (fun e w' => e = .returned (.tuple #[]) ∧ NowN w p B (s.setPair x) xs w') := by
 have hn := NowN.begin h
 go_enter Tryz.func283, Tryz.ntmps283
 exact coStart <| nPz 17 hn <| fun w1 hn => have b2 := hn.at_.ms.r; nD [0, 1, 2, 3, 4, 5, 6, 7, 8, 9, 10, 11, 12, 13] hn <| nDb 14 (setPair_any s.r s.plane s.p x _) hn <| fun w3 hn => nD [15, 16] hn <| poE <| nFs hn _ (hn.at_.ms.u_rg ((b2).setPair _ _ (hAx))) <| fun w4 hn => eoV (⟨rfl, hn⟩)
theorem m_get (k : Int) {s : Ms} {xs : List Int} {w : World} {p B : Nat} (h : AtN w p B s xs) :
    Calls Tryz.prog 257 #[pT p 0, .int .i64 (k)] w (OutI w p B .u8 ((getN k s).run xs)) := by
 have hn := NowN.begin h
 have hr : (getN k s).run xs = (getN k s).run xs := rfl
 go_enter Tryz.func257, Tryz.ntmps257
 refine coStart <| nQ hn <| coS <| nQ hn <| nIf hr (fun g4 hr => ?_) fun g4 hr => ?_
 · exact have b6 := hn.at_.ms.spot; coR <| nR 5 hn <| nI (m_read s.spot (b6) hn.at_) hn hr <| fun v7 s7 xs7 w7 hk7 hn hr => nE hn <| coRet <| eoTr <| eoIr (.int .u8 (v7)) (OutI.ok (dN hr) (hk7) hn)
 exact coSkip <| eoT <| nP 10 hn <| fun w9 hn => have b10 := hn.at_.ms.r; nD [0, 1, 2, 3, 4, 5, 6, 7, 8] hn <| nDb 9 (get_any s.r (b10) s.plane k _) hn <| fun w11 hn => poE <| nE hn <| coRet <| eoIr (.int .u8 (getG s.r s.plane k)) (OutI.ok (dN hr) ((b10).get _ _) hn)
theorem m_put (k : Int) (b : Int) (hAb : B8 b) {s : Ms} {xs : List Int} {w : World} {p B : Nat} (h : AtN w p B s xs) :
    Calls Tryz.prog 256 #[pT p 0, .int .i64 (k), .int .u8 (b)] w (OutV w p B ((putN k b s).run xs)) := by
 have hn := NowN.begin h
 have hr : (putN k b s).run xs = (putN k b s).run xs := rfl
 go_enter Tryz.func256, Tryz.ntmps256
 refine coStart <| coS <| nQ hn <| nIf hr (fun g3 hr => ?_) fun g3 hr => ?_
 · exact have b5 := hn.at_.ms.spot; coR <| nR 6 hn <| nV (m_write s.spot (b5) b (hAb) hn.at_) hn hr <| fun s6 xs6 w6 hn hr => wT <| coRet <| eoTr <| eoVr (OutV.ok (dN hr) hn)
 exact coSkip <| eoT <| nPz 14 hn <| fun w7 hn => have b8 := hn.at_.ms.r; nD [0, 1, 2, 3, 4, 5, 6, 7, 8, 9, 10] hn <| nDb 11 (set_any s.r (b8) s.plane k b (hAb) _) hn <| fun w9 hn => nD [12, 13] hn <| poE <| nFs hn _ (hn.at_.ms.u_rg ((b8).set _ _ (hAb))) <| fun w10 hn => eoV (OutV.ok (dN hr) hn)
theorem m_split (c : Int) (hAc : B8 c) {s : Ms} {xs : List Int} {w : World} {p B : Nat} (h : AtN w p B s xs) :
    Calls Tryz.prog 175 #[pT p 0, .int .u8 (c)] w (fun e w' => e = .returned (.tuple #[]) ∧ NowN w p B (s.split c) xs w') := by
 have hn := NowN.begin h
 go_enter Tryz.func175, Tryz.ntmps175
 exact coStart <| coZ <| nR 6 hn <| kE (fields_any c (hAc) _) <| nRs 9 hn (.u_x _ (fx c)) (hn.at_.ms.u_x (fx_b c (hAc))) <| fun w2 hn => nRs 3 hn (.u_y _ (fy c)) (hn.at_.ms.u_y (fy_b c (hAc))) <| fun w3 hn => nRs 3 hn (.u_z _ (fz c)) (hn.at_.ms.u_z (fz_b c (hAc))) <| fun w4 hn => nRs 3 hn (.u_p _ (fp c)) (hn.at_.ms.u_p (fpB c (hAc))) <| fun w5 hn => nFs hn (.u_q _ (fq c)) (hn.at_.ms.u_q (fqB c (hAc))) <| fun w6 hn => eoV (⟨rfl, hn⟩)
theorem m_holds (c : Int) {s : Ms} {xs : List Int} {w : World} {p B : Nat} (h : AtN w p B s xs) :
    Calls Tryz.prog 259 #[pT p 0, .int .i64 (c)] w (fun e w' => e = .returned (.bool (s.holds c)) ∧ NowN w p B (s) xs w') := by
 have hn := NowN.begin h
 go_enter Tryz.func259, Tryz.ntmps259
 exact coStart <| nQ hn <| have b3 := f_byte hn.at_.ms; coR <| nR 1 hn <| nA (m_f hn.at_) hn <| fun w4 hn => nR 1 hn <| kE (test_any s.f c (b3).1 (b3).2 _ hn.at_.tabs.masks) <| nE hn <| coRet <| eoIr (.bool (testM s.f c)) (⟨rfl, hn⟩)
theorem m_getP (k : Int) (hk : k ≠ 6) {s : Ms} {xs : List Int} {w : World} {p B : Nat} (h : AtN w p B s xs) :
    Calls Tryz.prog 257 #[pT p 0, .int .i64 k] w (fun e w' => e = .returned (.int .u8 (getG s.r s.plane k)) ∧ NowN w p B s xs w') := by
  refine (m_get k h).mono ?_
  intro e w' ho
  have hr : (getN k s).run xs = .ok ((getG s.r s.plane k, s), xs) := by rw [getN, if_neg hk, Tr.run_done]
  rw [hr] at ho
  exact ⟨ho.1, ho.2.2⟩
theorem m_putP (k : Int) (b : Int) (hb : B8 b) (hk : k ≠ 6) {s : Ms} {xs : List Int} {w : World} {p B : Nat} (h : AtN w p B s xs) :
    Calls Tryz.prog 256 #[pT p 0, .int .i64 k, .int .u8 b] w (fun e w' => e = .returned (.tuple #[]) ∧ NowN w p B (s.u_rg (setG s.r s.plane k b)) xs w') := by
  refine (m_put k b hb h).mono ?_
  intro e w' ho
  have hr : (putN k b s).run xs = .ok (s.u_rg (setG s.r s.plane k b), xs) := by rw [putN, if_neg hk, Tr.run_done]; rfl
  rw [hr] at ho
  exact ho
theorem readN_state {a : Int} {s s' : Ms} {xs ys : List Int} {v : Int} (h : (readN a s).run xs = .ok ((v, s'), ys)) : s = s' := by
  cases xs with
  | nil => cases h
  | cons b bs =>
    have e : (readN a s).run (b :: bs) = .ok ((b, s), bs) := Tr.run_done _ _
    rw [e] at h
    cases h
    rfl
theorem pauseN_state {a : Int} {s s' : Ms} {xs ys : List Int} (h : (pauseN a s).run xs = .ok (s', ys)) : s = s' := by
  cases xs with
  | nil => cases h
  | cons b bs =>
    have e : (pauseN a s).run (b :: bs) = .ok (s, bs) := Tr.run_done _ _
    rw [e] at h
    cases h
    rfl
theorem get_state {k : Int} {s s' : Ms} {xs ys : List Int} {v : Int} (h : (getN k s).run xs = .ok ((v, s'), ys)) : s = s' := by
  unfold getN at h
  split at h
  · exact readN_state h
  · rw [Tr.run_done] at h
    cases h
    rfl
theorem operand_state {s s' : Ms} {xs ys : List Int} {v : Int} (h : (operandN s).run xs = .ok ((v, s'), ys)) : s = s' := by
  unfold operandN at h
  split at h
  · rw [Tr.run_bind] at h
    cases e : (readN s.spot s).run xs with
    | error c => rw [e] at h; cases h
    | ok r =>
      obtain ⟨⟨b, t⟩, zs⟩ := r
      rw [e] at h
      obtain rfl := readN_state e
      simp only [Tr.run_bind] at h
      cases e2 : (pauseN 1 s).run zs with
      | error c => rw [e2] at h; cases h
      | ok r =>
        obtain ⟨t, us⟩ := r
        rw [e2] at h
        obtain rfl := pauseN_state e2
        simp only [Tr.run_done] at h
        cases h
        rfl
  · exact get_state h
theorem m_lessB  {s : Ms} {xs : List Int} {w : World} {p B : Nat} (h : AtN w p B s xs) :
    Calls Tryz.prog 292 #[pT p 0] w (fun e w' => e = .returned (.int .u8 (s.left)) ∧ NowN w p B (s.lessB) xs w') := by
 have hn := NowN.begin h
 go_enter Tryz.func292, Tryz.ntmps292
 exact coStart <| nQ hn <| have b3 := hn.at_.ms.r.get s.plane 0; coR <| nR 1 hn <| nA (m_getP 0 (by decide) hn.at_) hn <| fun w4 hn => nE hn <| coR <| nR 2 hn <| nA (m_putP 0 (((getG s.r s.plane 0) - 1) % 256) (B8.mod _) (by decide) hn.at_) hn <| fun w6 hn => wT <| nQ hn <| coRet <| eoIr (.int .u8 (((getG s.r s.plane 0) - 1) % 256)) (⟨rfl, hn⟩)
theorem m_aim  {s : Ms} {xs : List Int} {w : World} {p B : Nat} (h : AtN w p B s xs) :
    Calls Tryz.prog 185 #[pT p 0] w (OutV w p B ((aimN s).run xs)) := by
 have hn := NowN.begin h
 have hr : (aimN s).run xs = (aimN s).run xs := rfl
 go_enter Tryz.func185, Tryz.ntmps185
 exact coStart <| have b2 := hl_word hn.at_.ms; coR <| nR 2 hn <| nA (m_hl hn.at_) hn <| fun w3 hn => nR 1 hn <| nI (m_number hn.at_) hn hr <| fun v4 s4 xs4 w4 hk4 hn hr => kE (near_any s.hl v4 (b2) (hk4) _) <| nEs hn (.u_spot _ (moveM s.hl (signedM v4))) (hn.at_.ms.u_spot (Wd16.mod _)) <| fun w6 hn => have b8 := hn.at_.ms.spot; nQs hn ((s4.u_spot (moveM s.hl (signedM v4))).u_wz ((s4.u_spot (moveM s.hl (signedM v4))).spot)) (hn.at_.ms.u_wz (b8)) <| fun w9 hn => nQs hn (.u_near _ (true)) (hn.at_.ms.u_near) <| fun w11 hn => coZ <| nFs hn (.u_plane _ (0)) (hn.at_.ms.u_plane ((by decide))) <| fun w12 hn => eoV (OutV.ok (dN hr) hn)
theorem m_jumpBy (o : Bool) {s : Ms} {xs : List Int} {w : World} {p B : Nat} (h : AtN w p B s xs) :
    Calls Tryz.prog 298 #[pT p 0, .bool (o)] w (OutV w p B ((jumpByN o s).run xs)) := by
 have hn := NowN.begin h
 have hr : (jumpByN o s).run xs = (jumpByN o s).run xs := rfl
 go_enter Tryz.func298, Tryz.ntmps298
 refine coStart <| coR <| nR 1 hn <| nI (m_number hn.at_) hn hr <| fun v2 s2 xs2 w2 hk2 hn hr => nE hn <| coS <| nQ hn <| coI (!(o)) (fun h5 => ?_) fun h5 => ?_
 · have g5 : ¬ o = true := by simpa using h5
   exact have hr := hr.trans (run_if_neg g5); coRet <| eoTr <| eoVr (OutV.ok (dN hr) hn)
 have g5 : o = true := by simpa using h5
 exact have hr := hr.trans (run_if_pos g5); coSkip <| eoT <| coR <| nR 1 hn <| nV (m_pause 5 hn.at_) hn hr <| fun s7 xs7 w7 hn hr => wT <| have b8 := hn.at_.ms.r.pc; coZ <| nR 7 hn <| kE (near_any s7.r.pc v2 (b8) (hk2) _) <| nA (m_goTo (moveM s7.r.pc (signedM v2)) (Wd16.mod _) hn.at_) hn <| fun w10 hn => woE <| eoV (OutV.ok (dN hr) hn)
theorem m_branch  {s : Ms} {xs : List Int} {w : World} {p B : Nat} (h : AtN w p B s xs) :
    Calls Tryz.prog 247 #[pT p 0] w (OutV w p B ((branchN s).run xs)) := by
 have hn := NowN.begin h
 have hr : (branchN s).run xs = (branchN s).run xs := rfl
 go_enter Tryz.func247, Tryz.ntmps247
 refine coStart <| nQ hn <| coB <| nQ hn <| nIf hr (fun g3 hr => ?_) fun g3 hr => ?_
 · exact coSkip <| eoB <| eoV (OutV.ok (dN hr) hn)
 refine nQ hn <| nIf hr (fun g5 hr => ?_) fun g5 hr => ?_
 · exact have b6 := hn.at_.ms.r; coZ <| nR 5 hn <| nB (swap_any s.r _) hn <| fun w7 hn => nFs hn _ (hn.at_.ms.u_rg ((b6).swap)) <| fun w8 hn => eoB <| eoV (OutV.ok (dN hr) hn)
 refine nQ hn <| nIf hr (fun g10 hr => ?_) fun g10 hr => ?_
 · exact coR <| nR 1 hn <| nV (m_pause 1 hn.at_) hn hr <| fun s12 xs12 w12 hn hr => wT <| coR <| nR 1 hn <| nA (m_lessB hn.at_) hn <| fun w14 hn => nE hn <| coZ <| nR 3 hn <| nVt (m_jumpBy (s12.left != 0) hn.at_) hn hr <| fun s15 xs15 w15 hn hr => woE <| eoB <| eoV (OutV.ok (dN hr) hn)
 refine nQ hn <| nIf hr (fun g17 hr => ?_) fun g17 hr => ?_
 · exact coZ <| nR 1 hn <| nV (m_jumpBy true hn.at_) hn hr <| fun s18 xs18 w18 hn hr => woE <| eoB <| eoV (OutV.ok (dN hr) hn)
 exact coZ <| nR 6 hn <| kBin 13 (egI _ _ _ _ _) (bSubI s.y 4 (by have := hn.at_.ms.y; omega) (by have := hn.at_.ms.y; omega)) <| nA (m_holds (s.y - 4) hn.at_) hn <| fun w19 hn => nVt (m_jumpBy (s.holds (s.y - 4)) hn.at_) hn hr <| fun s20 xs20 w20 hn hr => woE <| eoB <| eoV (OutV.ok (dN hr) hn)
theorem m_wholePair  {s : Ms} {xs : List Int} {w : World} {p B : Nat} (h : AtN w p B s xs) :
    Calls Tryz.prog 248 #[pT p 0] w (OutV w p B ((wholePairN s).run xs)) := by
 have hn := NowN.begin h
 have hr : (wholePairN s).run xs = (wholePairN s).run xs := rfl
 go_enter Tryz.func248, Tryz.ntmps248
 refine coStart <| coS <| nQ hn <| nIf hr (fun g3 hr => ?_) fun g3 hr => ?_
 · exact coR <| nR 2 hn <| nI (m_word hn.at_) hn hr <| fun v5 s5 xs5 w5 hk5 hn hr => nA (m_setPair v5 (hk5) hn.at_) hn <| fun w6 hn => wT <| coRet <| eoTr <| eoVr (OutV.ok (dN hr) hn)
 exact coSkip <| eoT <| coR <| nR 1 hn <| nV (m_pause 7 hn.at_) hn hr <| fun s8 xs8 w8 hn hr => wT <| have b10 := hl_word hn.at_.ms; coR <| nR 1 hn <| nA (m_hl hn.at_) hn <| fun w11 hn => nE hn <| nQs hn (.u_wz _ ((s8.hl + 1) % 65536)) (hn.at_.ms.u_wz (Wd16.mod _)) <| fun w13 hn => have b15 := pair_word hn.at_.ms; coR <| nR 2 hn <| nA (m_pair hn.at_) hn <| fun w16 hn => have b17 := f_byte hn.at_.ms; nR 1 hn <| nA (m_f hn.at_) hn <| fun w18 hn => nB (wadd_any s8.hl ((s8.u_wz ((s8.hl + 1) % 65536)).pair) ((s8.u_wz ((s8.hl + 1) % 65536)).f) (b10) (b15) (b17) _) hn <| fun w19 hn => nE hn <| coR <| nR 2 hn <| nA (m_setHL (adcW s8.hl ((s8.u_wz ((s8.hl + 1) % 65536)).pair) false) (Wd16.mod _) hn.at_) hn <| fun w21 hn => wT <| coZ <| nR 2 hn <| nA (m_setF (addWF s8.hl ((s8.u_wz ((s8.hl + 1) % 65536)).pair) ((s8.u_wz ((s8.hl + 1) % 65536)).f)) (addWF_byte _ _ _) hn.at_) hn <| fun w22 hn => woE <| eoV (OutV.ok (dN hr) hn)
theorem m_trailA (x : Int) (hAx : Wd16 x) {s : Ms} {xs : List Int} {w : World} {p B : Nat} (h : AtN w p B s xs) :
    Calls Tryz.prog 317 #[pT p 0, .int .u16 (x)] w (fun e w' => e = .returned (.tuple #[]) ∧ NowN w p B (trailA s x) xs w') := by
 have hn := NowN.begin h
 go_enter Tryz.func317, Tryz.ntmps317
 exact coStart <| have b1 := a_byte hn.at_.ms; coZ <| nR 2 hn <| nA (m_a hn.at_) hn <| fun w2 hn => nR 1 hn <| kE (lo_any x (hAx).1 (hAx).2 _) <| nR 1 hn <| kE (word_any s.a (((x % 256) + 1) % 256) (b1).1 (b1).2 (B8.mod _).1 (B8.mod _).2 _) <| nFs hn (.u_wz _ (256 * s.a + (((x % 256) + 1) % 256))) (hn.at_.ms.u_wz (Wd16.mk8 (b1) (B8.mod _))) <| fun w5 hn => eoV (⟨rfl, hn⟩)
theorem m_storeA (a : Int) (hAa : Wd16 a) {s : Ms} {xs : List Int} {w : World} {p B : Nat} (h : AtN w p B s xs) :
    Calls Tryz.prog 301 #[pT p 0, .int .u16 (a)] w (OutV w p B ((storeAN a s).run xs)) := by
 have hn := NowN.begin h
 have hr : (storeAN a s).run xs = (storeAN a s).run xs := rfl
 go_enter Tryz.func301, Tryz.ntmps301
 exact coStart <| have b2 := a_byte hn.at_.ms; coR <| nR 3 hn <| nA (m_a hn.at_) hn <| fun w3 hn => nV (m_write a (hAa) s.a (b2) hn.at_) hn hr <| fun s4 xs4 w4 hn hr => wT <| coZ <| nR 2 hn <| nA (m_trailA a (hAa) hn.at_) hn <| fun w5 hn => woE <| eoV (OutV.ok (dN hr) hn)
theorem m_loadA (a : Int) (hAa : Wd16 a) {s : Ms} {xs : List Int} {w : World} {p B : Nat} (h : AtN w p B s xs) :
    Calls Tryz.prog 302 #[pT p 0, .int .u16 (a)] w (OutV w p B ((loadAN a s).run xs)) := by
 have hn := NowN.begin h
 have hr : (loadAN a s).run xs = (loadAN a s).run xs := rfl
 go_enter Tryz.func302, Tryz.ntmps302
 exact coStart <| coR <| nR 3 hn <| nI (m_read a (hAa) hn.at_) hn hr <| fun v2 s2 xs2 w2 hk2 hn hr => nA (m_setA v2 (hk2) hn.at_) hn <| fun w3 hn => wT <| coZ <| nFs hn (.u_wz _ ((a + 1) % 65536)) (hn.at_.ms.u_wz (Wd16.mod _)) <| fun w4 hn => eoV (OutV.ok (dN hr) hn)
theorem m_storeWord (a : Int) (hAa : Wd16 a) (x : Int) (hAx : Wd16 x) {s : Ms} {xs : List Int} {w : World} {p B : Nat} (h : AtN w p B s xs) :
    Calls Tryz.prog 282 #[pT p 0, .int .u16 (a), .int .u16 (x)] w (OutV w p B ((storeWordN a x s).run xs)) := by
 have hn := NowN.begin h
 have hr : (storeWordN a x s).run xs = (storeWordN a x s).run xs := rfl
 go_enter Tryz.func282, Tryz.ntmps282
 exact coStart <| coR <| nR 3 hn <| kE (lo_any x (hAx).1 (hAx).2 _) <| nV (m_write a (hAa) (x % 256) ((hAx).lo8) hn.at_) hn hr <| fun s3 xs3 w3 hn hr => wT <| coR <| nR 4 hn <| kE (hi_any x (hAx).1 (hAx).2 _) <| nV (m_write ((a + 1) % 65536) (Wd16.mod _) (x / 256) ((hAx).hi) hn.at_) hn hr <| fun s6 xs6 w6 hn hr => wT <| coZ <| nFs hn (.u_wz _ ((a + 1) % 65536)) (hn.at_.ms.u_wz (Wd16.mod _)) <| fun w7 hn => eoV (OutV.ok (dN hr) hn)
theorem m_loadWord (a : Int) (hAa : Wd16 a) {s : Ms} {xs : List Int} {w : World} {p B : Nat} (h : AtN w p B s xs) :
    Calls Tryz.prog 284 #[pT p 0, .int .u16 (a)] w (OutI w p B .u16 ((loadWordN a s).run xs)) := by
 have hn := NowN.begin h
 have hr : (loadWordN a s).run xs = (loadWordN a s).run xs := rfl
 go_enter Tryz.func284, Tryz.ntmps284
 exact coStart <| nQ hn <| coR <| nR 2 hn <| nI (m_wordAt a (hAa) hn.at_) hn hr <| fun v3 s3 xs3 w3 hk3 hn hr => nE hn <| nQs hn (.u_wz _ ((a + 1) % 65536)) (hn.at_.ms.u_wz (Wd16.mod _)) <| fun w5 hn => nQ hn <| coRet <| eoIr (.int .u16 (v3)) (OutI.ok (dN hr) (hk3) hn)
theorem m_throughPlace  {s : Ms} {xs : List Int} {w : World} {p B : Nat} (h : AtN w p B s xs) :
    Calls Tryz.prog 249 #[pT p 0] w (OutV w p B ((throughPlaceN s).run xs)) := by
 have hn := NowN.begin h
 have hr : (throughPlaceN s).run xs = (throughPlaceN s).run xs := rfl
 go_enter Tryz.func249, Tryz.ntmps249
 refine coStart <| nQ hn <| coB <| coS <| nQ hn <| coI (s.y == 0) (fun h4 => ?_) fun h4 => ?_
 · have g4 : s.y = 0 := by simpa using h4
   exact have hr := hr.trans (run_if_pos (.inl g4)); coSkip <| eoT <| coJ (s.y == 0) (fun h5 => absurd (h4.symm.trans h5) (by decide)) <| fun h5 => have b6 := pair_word hn.at_.ms; coZ <| nR 2 hn <| nA (m_pair hn.at_) hn <| fun w7 hn => nV (m_storeA s.pair (b6) hn.at_) hn hr <| fun s8 xs8 w8 hn hr => woE <| eoB <| eoV (OutV.ok (dN hr) hn)
 have g4 : ¬ s.y = 0 := by simpa using h4
 refine coZ <| nE hn <| coI (s.y == 2) (fun h9 => ?_) fun h9 => ?_
 · have g9 : s.y = 2 := by simpa using h9
   exact have hr := hr.trans (run_if_pos (.inr g9)); have b10 := pair_word hn.at_.ms; coZ <| nR 2 hn <| nA (m_pair hn.at_) hn <| fun w11 hn => nV (m_storeA s.pair (b10) hn.at_) hn hr <| fun s12 xs12 w12 hn hr => woE <| eoB <| eoV (OutV.ok (dN hr) hn)
 have g9 : ¬ s.y = 2 := by simpa using h9
 refine have hr := hr.trans (run_if_neg (not_or.2 ⟨g4, g9⟩)); coS <| nQ hn <| coI (s.y == 1) (fun h15 => ?_) fun h15 => ?_
 · have g15 : s.y = 1 := by simpa using h15
   exact have hr := hr.trans (run_if_pos (.inl g15)); coSkip <| eoT <| coJ (s.y == 1) (fun h16 => absurd (h15.symm.trans h16) (by decide)) <| fun h16 => have b17 := pair_word hn.at_.ms; coZ <| nR 2 hn <| nA (m_pair hn.at_) hn <| fun w18 hn => nV (m_loadA s.pair (b17) hn.at_) hn hr <| fun s19 xs19 w19 hn hr => woE <| eoB <| eoV (OutV.ok (dN hr) hn)
 have g15 : ¬ s.y = 1 := by simpa using h15
 refine coZ <| nE hn <| coI (s.y == 3) (fun h20 => ?_) fun h20 => ?_
 · have g20 : s.y = 3 := by simpa using h20
   exact have hr := hr.trans (run_if_pos (.inr g20)); have b21 := pair_word hn.at_.ms; coZ <| nR 2 hn <| nA (m_pair hn.at_) hn <| fun w22 hn => nV (m_loadA s.pair (b21) hn.at_) hn hr <| fun s23 xs23 w23 hn hr => woE <| eoB <| eoV (OutV.ok (dN hr) hn)
 have g20 : ¬ s.y = 3 := by simpa using h20
 refine have hr := hr.trans (run_if_neg (not_or.2 ⟨g15, g20⟩)); nQ hn <| nIf hr (fun g25 hr => ?_) fun g25 hr => ?_
 · exact coZ <| nR 2 hn <| nI (m_word hn.at_) hn hr <| fun v26 s26 xs26 w26 hk26 hn hr => have b27 := hl_word hn.at_.ms; nR 1 hn <| nA (m_hl hn.at_) hn <| fun w28 hn => nV (m_storeWord v26 (hk26) s26.hl (b27) hn.at_) hn hr <| fun s29 xs29 w29 hn hr => woE <| eoB <| eoV (OutV.ok (dN hr) hn)
 refine nQ hn <| nIf hr (fun g31 hr => ?_) fun g31 hr => ?_
 · exact coZ <| nR 3 hn <| nI (m_word hn.at_) hn hr <| fun v32 s32 xs32 w32 hk32 hn hr => nI (m_loadWord v32 (hk32) hn.at_) hn hr <| fun v33 s33 xs33 w33 hk33 hn hr => nA (m_setHL v33 (hk33) hn.at_) hn <| fun w34 hn => woE <| eoB <| eoV (OutV.ok (dN hr) hn)
 refine nQ hn <| nIf hr (fun g36 hr => ?_) fun g36 hr => ?_
 · exact coZ <| nR 2 hn <| nI (m_word hn.at_) hn hr <| fun v37 s37 xs37 w37 hk37 hn hr => nV (m_storeA v37 (hk37) hn.at_) hn hr <| fun s38 xs38 w38 hn hr => woE <| eoB <| eoV (OutV.ok (dN hr) hn)
 refine nQ hn <| nIf hr (fun g40 hr => ?_) fun g40 hr => ?_
 · exact coZ <| nR 2 hn <| nI (m_word hn.at_) hn hr <| fun v41 s41 xs41 w41 hk41 hn hr => nV (m_loadA v41 (hk41) hn.at_) hn hr <| fun s42 xs42 w42 hn hr => woE <| eoB <| eoV (OutV.ok (dN hr) hn)
 exact coSkip <| eoB <| eoV (OutV.ok (dN hr) hn)
theorem m_stepPair  {s : Ms} {xs : List Int} {w : World} {p B : Nat} (h : AtN w p B s xs) :
    Calls Tryz.prog 250 #[pT p 0] w (OutV w p B ((stepPairN s).run xs)) := by
 have hn := NowN.begin h
 have hr : (stepPairN s).run xs = (stepPairN s).run xs := rfl
 go_enter Tryz.func250, Tryz.ntmps250
 refine coStart <| coR <| nR 1 hn <| nV (m_pause 2 hn.at_) hn hr <| fun s2 xs2 w2 hn hr => wT <| nQ hn <| nIf hr (fun g4 hr => ?_) fun g4 hr => ?_
 · exact have b5 := pair_word hn.at_.ms; coZ <| nR 2 hn <| nA (m_pair hn.at_) hn <| fun w6 hn => nR 1 hn <| nA (m_setPair ((s2.pair + 1) % 65536) (Wd16.mod _) hn.at_) hn <| fun w7 hn => woE <| eoV (OutV.ok (dN hr) hn)
 exact have b8 := pair_word hn.at_.ms; coZ <| nR 2 hn <| nA (m_pair hn.at_) hn <| fun w9 hn => nR 1 hn <| nA (m_setPair ((s2.pair - 1) % 65536) (Wd16.mod _) hn.at_) hn <| fun w10 hn => woE <| eoV (OutV.ok (dN hr) hn)
theorem m_count_inc  {s : Ms} {xs : List Int} {w : World} {p B : Nat} (h : AtN w p B s xs) :
    Calls Tryz.prog 251 #[pT p 0, .func (.func 252) #[] #[]] w (OutV w p B ((countN false s).run xs)) := by
 have hn := NowN.begin h
 have hr : (countN false s).run xs = (countN false s).run xs := rfl
 go_enter Tryz.func251, Tryz.ntmps251
 refine coStart <| coR <| nR 5 hn <| nI (m_get s.y hn.at_) hn hr <| fun v2 s2 xs2 w2 hk2 hn hr => nE hn <| coS <| nQ hn <| nIfb hr (fun g5 hr => ?_) fun g5 hr => ?_
 · exact coZ <| nR 1 hn <| nV (m_pause 1 hn.at_) hn hr <| fun s6 xs6 w6 hn hr => wT <| have b8 := f_byte hn.at_.ms; coR <| nR 3 hn <| nA (m_f hn.at_) hn <| fun w9 hn => nB (inc_any v2 s6.f (hk2) (b8) _) hn <| fun w10 hn => nE hn <| coR <| nR 2 hn <| nA (m_setF (incF v2 s6.f) (incF_byte _ _) hn.at_) hn <| fun w12 hn => wT <| coZ <| nR 6 hn <| nVt (m_put ((s6.setF (incF v2 s6.f)).y) (addR v2 1 false) (addR_byte _ _ _) hn.at_) hn hr <| fun s13 xs13 w13 hn hr => woE <| eoV (OutV.ok (dN hr) hn)
 exact coSkip <| eoT <| have b15 := f_byte hn.at_.ms; coR <| nR 3 hn <| nA (m_f hn.at_) hn <| fun w16 hn => nB (inc_any v2 s2.f (hk2) (b15) _) hn <| fun w17 hn => nE hn <| coR <| nR 2 hn <| nA (m_setF (incF v2 s2.f) (incF_byte _ _) hn.at_) hn <| fun w19 hn => wT <| coZ <| nR 6 hn <| nVt (m_put ((s2.setF (incF v2 s2.f)).y) (addR v2 1 false) (addR_byte _ _ _) hn.at_) hn hr <| fun s20 xs20 w20 hn hr => woE <| eoV (OutV.ok (dN hr) hn)
theorem m_count_dec  {s : Ms} {xs : List Int} {w : World} {p B : Nat} (h : AtN w p B s xs) :
    Calls Tryz.prog 251 #[pT p 0, .func (.func 253) #[] #[]] w (OutV w p B ((countN true s).run xs)) := by
 have hn := NowN.begin h
 have hr : (countN true s).run xs = (countN true s).run xs := rfl
 go_enter Tryz.func251, Tryz.ntmps251
 refine coStart <| coR <| nR 5 hn <| nI (m_get s.y hn.at_) hn hr <| fun v2 s2 xs2 w2 hk2 hn hr => nE hn <| coS <| nQ hn <| nIfb hr (fun g5 hr => ?_) fun g5 hr => ?_
 · exact coZ <| nR 1 hn <| nV (m_pause 1 hn.at_) hn hr <| fun s6 xs6 w6 hn hr => wT <| have b8 := f_byte hn.at_.ms; coR <| nR 3 hn <| nA (m_f hn.at_) hn <| fun w9 hn => nB (dec_any v2 s6.f (hk2) (b8) _) hn <| fun w10 hn => nE hn <| coR <| nR 2 hn <| nA (m_setF (decF v2 s6.f) (decF_byte _ _) hn.at_) hn <| fun w12 hn => wT <| coZ <| nR 6 hn <| nVt (m_put ((s6.setF (decF v2 s6.f)).y) (subR v2 1 false) (subR_byte _ _ _) hn.at_) hn hr <| fun s13 xs13 w13 hn hr => woE <| eoV (OutV.ok (dN hr) hn)
 exact coSkip <| eoT <| have b15 := f_byte hn.at_.ms; coR <| nR 3 hn <| nA (m_f hn.at_) hn <| fun w16 hn => nB (dec_any v2 s2.f (hk2) (b15) _) hn <| fun w17 hn => nE hn <| coR <| nR 2 hn <| nA (m_setF (decF v2 s2.f) (decF_byte _ _) hn.at_) hn <| fun w19 hn => wT <| coZ <| nR 6 hn <| nVt (m_put ((s2.setF (decF v2 s2.f)).y) (subR v2 1 false) (subR_byte _ _ _) hn.at_) hn hr <| fun s20 xs20 w20 hn hr => woE <| eoV (OutV.ok (dN hr) hn)
theorem m_loadNumber  {s : Ms} {xs : List Int} {w : World} {p B : Nat} (h : AtN w p B s xs) :
    Calls Tryz.prog 254 #[pT p 0] w (OutV w p B ((loadNumberN s).run xs)) := by
 have hn := NowN.begin h
 have hr : (loadNumberN s).run xs = (loadNumberN s).run xs := rfl
 go_enter Tryz.func254, Tryz.ntmps254
 refine coStart <| coR <| nR 1 hn <| nI (m_number hn.at_) hn hr <| fun v2 s2 xs2 w2 hk2 hn hr => nE hn <| coS <| nQ hn <| coI (s2.near) (fun h5 => ?_) fun h5 => ?_
 · have g5 : s2.near = true := by simpa using h5
   exact have hr := hr.trans (run_bif_pos g5); coZ <| nR 1 hn <| nV (m_pause 2 hn.at_) hn hr <| fun s6 xs6 w6 hn hr => wT <| coZ <| nR 6 hn <| nVt (m_put s6.y v2 (hk2) hn.at_) hn hr <| fun s7 xs7 w7 hn hr => woE <| eoV (OutV.ok (dN hr) hn)
 have g5 : ¬ s2.near = true := by simpa using h5
 exact have hr := hr.trans (run_bif_neg g5); coSkip <| eoT <| coZ <| nR 6 hn <| nVt (m_put s2.y v2 (hk2) hn.at_) hn hr <| fun s8 xs8 w8 hn hr => woE <| eoV (OutV.ok (dN hr) hn)
theorem m_adjust  {s : Ms} {xs : List Int} {w : World} {p B : Nat} (h : AtN w p B s xs) :
    Calls Tryz.prog 255 #[pT p 0] w (fun e w' => e = .returned (.tuple #[]) ∧ NowN w p B (adjustN s) xs w') := by
 have hn := NowN.begin h
 go_enter Tryz.func255, Tryz.ntmps255
 refine coStart <| have b2 := a_byte hn.at_.ms; coR <| nR 1 hn <| nA (m_a hn.at_) hn <| fun w3 hn => have b4 := f_byte hn.at_.ms; nR 1 hn <| nA (m_f hn.at_) hn <| fun w5 hn => nE hn <| coS <| nQ hn <| coB <| nQ hn <| coI (s.y == 4) (fun h9 => ?_) fun h9 => ?_
 · have g9 : s.y = 4 := by simpa using h9
   refine coZ <| nR 2 hn <| nB (daa_any s.a s.f (b2) (b4) _ hn.at_.tabs.digits) hn <| fun w10 hn => nF hn <| eoB <| eoT <| coZ <| nR 3 hn <| kE (word_any (daaR s.a s.f) (daaF s.a s.f) (daaR_byte _ _).1 (daaR_byte _ _).2 (daaF_byte _ _).1 (daaF_byte _ _).2 _) <| nFs hn (.u_af _ (256 * (daaR s.a s.f) + (daaF s.a s.f))) (hn.at_.ms.u_af (Wd16.mk8 (daaR_byte _ _) (daaF_byte _ _))) <| fun w12 hn => eoV ?_
   have e : adjustN s = s.u_af (256 * (daaR s.a s.f) + (daaF s.a s.f)) := by
    unfold adjustN
    repeat (first | rw [if_pos (by assumption)] | rw [if_neg (by assumption)])
    rfl
   exact ⟨rfl, e ▸ hn⟩
 have g9 : ¬ s.y = 4 := by simpa using h9
 refine nQ hn <| coI (s.y == 5) (fun h14 => ?_) fun h14 => ?_
 · have g14 : s.y = 5 := by simpa using h14
   refine coZ <| nR 2 hn <| kE (cpl_any s.a s.f (b2) (b4) _) <| nF hn <| eoB <| eoT <| coZ <| nR 3 hn <| kE (word_any (255 - s.a) (cplF s.a s.f) (B8.not (b2)).1 (B8.not (b2)).2 (linesM_byte _ _ _ _ _).1 (linesM_byte _ _ _ _ _).2 _) <| nFs hn (.u_af _ (256 * (255 - s.a) + (cplF s.a s.f))) (hn.at_.ms.u_af (Wd16.mk8 (B8.not (b2)) (linesM_byte _ _ _ _ _))) <| fun w17 hn => eoV ?_
   have e : adjustN s = s.u_af (256 * (255 - s.a) + (cplF s.a s.f)) := by
    unfold adjustN
    repeat (first | rw [if_pos (by assumption)] | rw [if_neg (by assumption)])
    rfl
   exact ⟨rfl, e ▸ hn⟩
 have g14 : ¬ s.y = 5 := by simpa using h14
 refine nQ hn <| coI (s.y == 6) (fun h19 => ?_) fun h19 => ?_
 · have g19 : s.y = 6 := by simpa using h19
   refine coZ <| nR 2 hn <| kE (scf_any s.a s.f (b2) (b4) _) <| nF hn <| eoB <| eoT <| coZ <| nR 3 hn <| kE (word_any s.a (scfF s.a s.f) (b2).1 (b2).2 (linesM_byte _ _ _ _ _).1 (linesM_byte _ _ _ _ _).2 _) <| nFs hn (.u_af _ (256 * s.a + (scfF s.a s.f))) (hn.at_.ms.u_af (Wd16.mk8 (b2) (linesM_byte _ _ _ _ _))) <| fun w22 hn => eoV ?_
   have e : adjustN s = s.u_af (256 * s.a + (scfF s.a s.f)) := by
    unfold adjustN
    repeat (first | rw [if_pos (by assumption)] | rw [if_neg (by assumption)])
    rfl
   exact ⟨rfl, e ▸ hn⟩
 have g19 : ¬ s.y = 6 := by simpa using h19
 refine nQ hn <| coI (s.y == 7) (fun h24 => ?_) fun h24 => ?_
 · have g24 : s.y = 7 := by simpa using h24
   refine coZ <| nR 2 hn <| kE (ccf_any s.a s.f (b2) (b4) _) <| nF hn <| eoB <| eoT <| coZ <| nR 3 hn <| kE (word_any s.a (ccfF s.a s.f) (b2).1 (b2).2 (linesM_byte _ _ _ _ _).1 (linesM_byte _ _ _ _ _).2 _) <| nFs hn (.u_af _ (256 * s.a + (ccfF s.a s.f))) (hn.at_.ms.u_af (Wd16.mk8 (b2) (linesM_byte _ _ _ _ _))) <| fun w27 hn => eoV ?_
   have e : adjustN s = s.u_af (256 * s.a + (ccfF s.a s.f)) := by
    unfold adjustN
    repeat (first | rw [if_pos (by assumption)] | rw [if_neg (by assumption)])
    rfl
   exact ⟨rfl, e ▸ hn⟩
 have g24 : ¬ s.y = 7 := by simpa using h24
 refine coZ <| nR 6 hn <| nB (acc_any s.y s.a s.f (b2) (b4) _ hn.at_.tabs.courses) hn <| fun w28 hn => nF hn <| eoB <| eoT <| coZ <| nR 3 hn <| kE (word_any (accR s.y s.a s.f) (accF s.y s.a s.f) (accR_byte _ _ _ (b2)).1 (accR_byte _ _ _ (b2)).2 (accF_byte _ _ _ (b4)).1 (accF_byte _ _ _ (b4)).2 _) <| nFs hn (.u_af _ (256 * (accR s.y s.a s.f) + (accF s.y s.a s.f))) (hn.at_.ms.u_af (Wd16.mk8 (accR_byte _ _ _ (b2)) (accF_byte _ _ _ (b4)))) <| fun w30 hn => eoV ?_
 have e : adjustN s = s.u_af (256 * (accR s.y s.a s.f) + (accF s.y s.a s.f)) := by
  unfold adjustN
  repeat (first | rw [if_pos (by assumption)] | rw [if_neg (by assumption)])
  rfl
 exact ⟨rfl, e ▸ hn⟩
theorem m_arithmetic (b : Int) (hAb : B8 b) {s : Ms} {xs : List Int} {w : World} {p B : Nat} (h : AtN w p B s xs) :
    Calls Tryz.prog 258 #[pT p 0, .int .u8 (b)] w (fun e w' => e = .returned (.tuple #[]) ∧ NowN w p B (arithN b s) xs w') := by
 have hn := NowN.begin h
 go_enter Tryz.func258, Tryz.ntmps258
 refine coStart <| have b2 := a_byte hn.at_.ms; coR <| nR 1 hn <| nA (m_a hn.at_) hn <| fun w3 hn => have b4 := f_byte hn.at_.ms; nR 1 hn <| nA (m_f hn.at_) hn <| fun w5 hn => nE hn <| coR <| nR 1 hn <| nA (m_carry hn.at_) hn <| fun w7 hn => nE hn <| coS <| nQ hn <| coB <| nQ hn <| coI (s.y == 0) (fun h11 => ?_) fun h11 => ?_
 · have g11 : s.y = 0 := by simpa using h11
   refine coZ <| nR 2 hn <| nB (add_any s.a b false (b2) (hAb) _) hn <| fun w12 hn => nF hn <| eoB <| eoT <| coZ <| nR 3 hn <| kE (word_any (addR s.a b false) (addF s.a b false) (addR_byte _ _ _).1 (addR_byte _ _ _).2 (addF_byte _ _ _).1 (addF_byte _ _ _).2 _) <| nFs hn (.u_af _ (256 * (addR s.a b false) + (addF s.a b false))) (hn.at_.ms.u_af (Wd16.mk8 (addR_byte _ _ _) (addF_byte _ _ _))) <| fun w14 hn => eoV ?_
   have e : arithN b s = s.u_af (256 * (addR s.a b false) + (addF s.a b false)) := by
    unfold arithN
    repeat (first | rw [if_pos (by assumption)] | rw [if_neg (by assumption)])
    rfl
   exact ⟨rfl, e ▸ hn⟩
 have g11 : ¬ s.y = 0 := by simpa using h11
 refine nQ hn <| coI (s.y == 1) (fun h16 => ?_) fun h16 => ?_
 · have g16 : s.y = 1 := by simpa using h16
   refine coZ <| nR 3 hn <| nB (add_any s.a b (s.carry != 0) (b2) (hAb) _) hn <| fun w17 hn => nF hn <| eoB <| eoT <| coZ <| nR 3 hn <| kE (word_any (addR s.a b (s.carry != 0)) (addF s.a b (s.carry != 0)) (addR_byte _ _ _).1 (addR_byte _ _ _).2 (addF_byte _ _ _).1 (addF_byte _ _ _).2 _) <| nFs hn (.u_af _ (256 * (addR s.a b (s.carry != 0)) + (addF s.a b (s.carry != 0)))) (hn.at_.ms.u_af (Wd16.mk8 (addR_byte _ _ _) (addF_byte _ _ _))) <| fun w19 hn => eoV ?_
   have e : arithN b s = s.u_af (256 * (addR s.a b (s.carry != 0)) + (addF s.a b (s.carry != 0))) := by
    unfold arithN
    repeat (first | rw [if_pos (by assumption)] | rw [if_neg (by assumption)])
    rfl
   exact ⟨rfl, e ▸ hn⟩
 have g16 : ¬ s.y = 1 := by simpa using h16
 refine nQ hn <| coI (s.y == 2) (fun h21 => ?_) fun h21 => ?_
 · have g21 : s.y = 2 := by simpa using h21
   refine coZ <| nR 2 hn <| nB (sub_any s.a b false (b2) (hAb) _) hn <| fun w22 hn => nF hn <| eoB <| eoT <| coZ <| nR 3 hn <| kE (word_any (subR s.a b false) (subF s.a b false) (subR_byte _ _ _).1 (subR_byte _ _ _).2 (subF_byte _ _ _).1 (subF_byte _ _ _).2 _) <| nFs hn (.u_af _ (256 * (subR s.a b false) + (subF s.a b false))) (hn.at_.ms.u_af (Wd16.mk8 (subR_byte _ _ _) (subF_byte _ _ _))) <| fun w24 hn => eoV ?_
   have e : arithN b s = s.u_af (256 * (subR s.a b false) + (subF s.a b false)) := by
    unfold arithN
    repeat (first | rw [if_pos (by assumption)] | rw [if_neg (by assumption)])
    rfl
   exact ⟨rfl, e ▸ hn⟩
 have g21 : ¬ s.y = 2 := by simpa using h21
 refine nQ hn <| coI (s.y == 3) (fun h26 => ?_) fun h26 => ?_
 · have g26 : s.y = 3 := by simpa using h26
   refine coZ <| nR 3 hn <| nB (sub_any s.a b (s.carry != 0) (b2) (hAb) _) hn <| fun w27 hn => nF hn <| eoB <| eoT <| coZ <| nR 3 hn <| kE (word_any (subR s.a b (s.carry != 0)) (subF s.a b (s.carry != 0)) (subR_byte _ _ _).1 (subR_byte _ _ _).2 (subF_byte _ _ _).1 (subF_byte _ _ _).2 _) <| nFs hn (.u_af _ (256 * (subR s.a b (s.carry != 0)) + (subF s.a b (s.carry != 0)))) (hn.at_.ms.u_af (Wd16.mk8 (subR_byte _ _ _) (subF_byte _ _ _))) <| fun w29 hn => eoV ?_
   have e : arithN b s = s.u_af (256 * (subR s.a b (s.carry != 0)) + (subF s.a b (s.carry != 0))) := by
    unfold arithN
    repeat (first | rw [if_pos (by assumption)] | rw [if_neg (by assumption)])
    rfl
   exact ⟨rfl, e ▸ hn⟩
 have g26 : ¬ s.y = 3 := by simpa using h26
 refine nQ hn <| coI (s.y == 4) (fun h31 => ?_) fun h31 => ?_
 · have g31 : s.y = 4 := by simpa using h31
   refine coZ <| nR 2 hn <| nB (and_any s.a b (b2) (hAb) _) hn <| fun w32 hn => nF hn <| eoB <| eoT <| coZ <| nR 3 hn <| kE (word_any (andR s.a b) (andFl (andR s.a b)) (mergeM_byte _ _ _).1 (mergeM_byte _ _ _).2 (andFl_byte _).1 (andFl_byte _).2 _) <| nFs hn (.u_af _ (256 * (andR s.a b) + (andFl (andR s.a b)))) (hn.at_.ms.u_af (Wd16.mk8 (mergeM_byte _ _ _) (andFl_byte _))) <| fun w34 hn => eoV ?_
   have e : arithN b s = s.u_af (256 * (andR s.a b) + (andFl (andR s.a b))) := by
    unfold arithN
    repeat (first | rw [if_pos (by assumption)] | rw [if_neg (by assumption)])
    rfl
   exact ⟨rfl, e ▸ hn⟩
 have g31 : ¬ s.y = 4 := by simpa using h31
 refine nQ hn <| coI (s.y == 5) (fun h36 => ?_) fun h36 => ?_
 · have g36 : s.y = 5 := by simpa using h36
   refine coZ <| nR 2 hn <| nB (xor_any s.a b (b2) (hAb) _) hn <| fun w37 hn => nF hn <| eoB <| eoT <| coZ <| nR 3 hn <| kE (word_any (xorR s.a b) (evenFM (xorR s.a b)) (mergeM_byte _ _ _).1 (mergeM_byte _ _ _).2 (evenFM_byte _).1 (evenFM_byte _).2 _) <| nFs hn (.u_af _ (256 * (xorR s.a b) + (evenFM (xorR s.a b)))) (hn.at_.ms.u_af (Wd16.mk8 (mergeM_byte _ _ _) (evenFM_byte _))) <| fun w39 hn => eoV ?_
   have e : arithN b s = s.u_af (256 * (xorR s.a b) + (evenFM (xorR s.a b))) := by
    unfold arithN
    repeat (first | rw [if_pos (by assumption)] | rw [if_neg (by assumption)])
    rfl
   exact ⟨rfl, e ▸ hn⟩
 have g36 : ¬ s.y = 5 := by simpa using h36
 refine nQ hn <| coI (s.y == 6) (fun h41 => ?_) fun h41 => ?_
 · have g41 : s.y = 6 := by simpa using h41
   refine coZ <| nR 2 hn <| nB (or_any s.a b (b2) (hAb) _) hn <| fun w42 hn => nF hn <| eoB <| eoT <| coZ <| nR 3 hn <| kE (word_any (orR s.a b) (evenFM (orR s.a b)) (mergeM_byte _ _ _).1 (mergeM_byte _ _ _).2 (evenFM_byte _).1 (evenFM_byte _).2 _) <| nFs hn (.u_af _ (256 * (orR s.a b) + (evenFM (orR s.a b)))) (hn.at_.ms.u_af (Wd16.mk8 (mergeM_byte _ _ _) (evenFM_byte _))) <| fun w44 hn => eoV ?_
   have e : arithN b s = s.u_af (256 * (orR s.a b) + (evenFM (orR s.a b))) := by
    unfold arithN
    repeat (first | rw [if_pos (by assumption)] | rw [if_neg (by assumption)])
    rfl
   exact ⟨rfl, e ▸ hn⟩
 have g41 : ¬ s.y = 6 := by simpa using h41
 refine nQ hn <| coI (s.y == 7) (fun h46 => ?_) fun h46 => ?_
 · have g46 : s.y = 7 := by simpa using h46
   refine coZ <| nR 2 hn <| nB (cmp_any s.a b (b2) (hAb) _) hn <| fun w47 hn => nF hn <| eoB <| eoT <| coZ <| nR 3 hn <| kE (word_any s.a (cmpF s.a b) (b2).1 (b2).2 (cmpF_byte _ _).1 (cmpF_byte _ _).2 _) <| nFs hn (.u_af _ (256 * s.a + (cmpF s.a b))) (hn.at_.ms.u_af (Wd16.mk8 (b2) (cmpF_byte _ _))) <| fun w49 hn => eoV ?_
   have e : arithN b s = s.u_af (256 * s.a + (cmpF s.a b)) := by
    unfold arithN
    repeat (first | rw [if_pos (by assumption)] | rw [if_neg (by assumption)])
    rfl
   exact ⟨rfl, e ▸ hn⟩
 have g46 : ¬ s.y = 7 := by simpa using h46
 refine coSkip <| eoB <| eoT <| coZ <| nR 3 hn <| kE (word_any s.a s.f (b2).1 (b2).2 (b4).1 (b4).2 _) <| nFs hn (.u_af _ (256 * s.a + s.f)) (hn.at_.ms.u_af (Wd16.mk8 (b2) (b4))) <| fun w51 hn => eoV ?_
 have e : arithN b s = s.u_af (256 * s.a + s.f) := by
  unfold arithN
  repeat (first | rw [if_pos (by assumption)] | rw [if_neg (by assumption)])
  rfl
 exact ⟨rfl, e ▸ hn⟩
theorem m_various  {s : Ms} {xs : List Int} {w : World} {p B : Nat} (h : AtN w p B s xs) :
    Calls Tryz.prog 187 #[pT p 0] w (OutV w p B ((variousN s).run xs)) := by
 have hn := NowN.begin h
 have hr : (variousN s).run xs = (variousN s).run xs := rfl
 go_enter Tryz.func187, Tryz.ntmps187
 refine coStart <| nQ hn <| coB <| nQ hn <| nIf hr (fun g3 hr => ?_) fun g3 hr => ?_
 · exact coZ <| nR 1 hn <| nVt (m_branch hn.at_) hn hr <| fun s4 xs4 w4 hn hr => woE <| eoB <| eoV (OutV.ok (dN hr) hn)
 refine nQ hn <| nIf hr (fun g6 hr => ?_) fun g6 hr => ?_
 · exact coZ <| nR 1 hn <| nVt (m_wholePair hn.at_) hn hr <| fun s7 xs7 w7 hn hr => woE <| eoB <| eoV (OutV.ok (dN hr) hn)
 refine nQ hn <| nIf hr (fun g9 hr => ?_) fun g9 hr => ?_
 · exact coZ <| nR 1 hn <| nVt (m_throughPlace hn.at_) hn hr <| fun s10 xs10 w10 hn hr => woE <| eoB <| eoV (OutV.ok (dN hr) hn)
 refine nQ hn <| nIf hr (fun g12 hr => ?_) fun g12 hr => ?_
 · exact coZ <| nR 1 hn <| nVt (m_stepPair hn.at_) hn hr <| fun s13 xs13 w13 hn hr => woE <| eoB <| eoV (OutV.ok (dN hr) hn)
 refine nQ hn <| nIf hr (fun g15 hr => ?_) fun g15 hr => ?_
 · exact coZ <| nR 1 hn <| nVt (m_count_inc hn.at_) hn hr <| fun s16 xs16 w16 hn hr => woE <| eoB <| eoV (OutV.ok (dN hr) hn)
 refine nQ hn <| nIf hr (fun g18 hr => ?_) fun g18 hr => ?_
 · exact coZ <| nR 1 hn <| nVt (m_count_dec hn.at_) hn hr <| fun s19 xs19 w19 hn hr => woE <| eoB <| eoV (OutV.ok (dN hr) hn)
 refine nQ hn <| nIf hr (fun g21 hr => ?_) fun g21 hr => ?_
 · exact coZ <| nR 1 hn <| nVt (m_loadNumber hn.at_) hn hr <| fun s22 xs22 w22 hn hr => woE <| eoB <| eoV (OutV.ok (dN hr) hn)
 refine nQ hn <| nIf hr (fun g24 hr => ?_) fun g24 hr => ?_
 · exact coZ <| nR 1 hn <| nA (m_adjust hn.at_) hn <| fun w25 hn => woE <| eoB <| eoV (OutV.ok (dN hr) hn)
 exact coSkip <| eoB <| eoV (OutV.ok (dN hr) hn)
theorem m_load  {s : Ms} {xs : List Int} {w : World} {p B : Nat} (h : AtN w p B s xs) :
    Calls Tryz.prog 188 #[pT p 0] w (OutV w p B ((loadN s).run xs)) := by
 have hn := NowN.begin h
 have hr : (loadN s).run xs = (loadN s).run xs := rfl
 go_enter Tryz.func188, Tryz.ntmps188
 refine coStart <| coS <| coR <| nR 6 hn ?_
 rcases Bool.eq_false_or_eq_true (s.y == 6) with h3 | h3
 · have g3 : s.y = 6 := by simpa using h3
   refine tell 7 h3 <| nE hn <| coI (s.z == 6) (fun h4 => ?_) fun h4 => ?_
   · have g4 : s.z = 6 := by simpa using h4
     exact have hr := hr.trans (run_if_pos (by simp [g4, g3])); nQs hn (.u_halted _ (true)) (hn.at_.ms.u_halted) <| fun w6 hn => coRet <| eoTr <| eoVr (OutV.ok (dN hr) hn)
   have g4 : ¬ s.z = 6 := by simpa using h4
   exact have hr := hr.trans (run_if_neg (by simp [g4, g3])); coSkip <| eoT <| nPz 11 hn <| fun w7 hn => nD [0, 1, 2, 3, 4, 5, 6, 7, 8, 9] hn <| nDi 10 get_state (m_get s.z hn.at_) hn hr <| fun v8 xs8 w8 hk8 hn hr => poE <| nVt (m_put s.y v8 (hk8) hn.at_) hn hr <| fun s9 xs9 w9 hn hr => woE <| eoV (OutV.ok (dN hr) hn)
 have g3 : ¬ s.y = 6 := by simpa using h3
 exact tell 7 h3 <| nE hn <| coF <| have hr := hr.trans (run_if_neg (by simp [g3])); coSkip <| eoT <| nPz 11 hn <| fun w10 hn => nD [0, 1, 2, 3, 4, 5, 6, 7, 8, 9] hn <| nDi 10 get_state (m_get s.z hn.at_) hn hr <| fun v11 xs11 w11 hk11 hn hr => poE <| nVt (m_put s.y v11 (hk11) hn.at_) hn hr <| fun s12 xs12 w12 hn hr => woE <| eoV (OutV.ok (dN hr) hn)
theorem m_reckon  {s : Ms} {xs : List Int} {w : World} {p B : Nat} (h : AtN w p B s xs) :
    Calls Tryz.prog 189 #[pT p 0] w (OutV w p B ((reckonN s).run xs)) := by
 have hn := NowN.begin h
 have hr : (reckonN s).run xs = (reckonN s).run xs := rfl
 go_enter Tryz.func189, Tryz.ntmps189
 exact coStart <| coZ <| nR 6 hn <| nI (m_get s.z hn.at_) hn hr <| fun v1 s1 xs1 w1 hk1 hn hr => nA (m_arithmetic v1 (hk1) hn.at_) hn <| fun w2 hn => woE <| eoV (OutV.ok (dN hr) hn)
theorem m_unstack  {s : Ms} {xs : List Int} {w : World} {p B : Nat} (h : AtN w p B s xs) :
    Calls Tryz.prog 260 #[pT p 0] w (OutV w p B ((popsN s).run xs)) := by
 have hn := NowN.begin h
 have hr : (popsN s).run xs = (popsN s).run xs := rfl
 go_enter Tryz.func260, Tryz.ntmps260
 refine coStart <| coB <| coR <| nR 6 hn ?_
 rcases Bool.eq_false_or_eq_true (s.q == 0) with h2 | h2
 · have g2 : s.q = 0 := by simpa using h2
   refine tell 8 h2 <| nE hn <| coI (s.p == 3) (fun h3 => ?_) fun h3 => ?_
   · have g3 : s.p = 3 := by simpa using h3
     first | (have hr := hr.trans (run_if_pos g3); have hr := hr.trans (run_if_pos g2)) | (have hr := hr.trans (run_if_pos g2); have hr := hr.trans (run_if_pos g3))
     exact coZ <| nR 2 hn <| nI (m_pop hn.at_) hn hr <| fun v4 s4 xs4 w4 hk4 hn hr => nFs hn (.u_af _ (v4)) (hn.at_.ms.u_af (hk4)) <| fun w5 hn => eoB <| eoV (OutV.ok (dN hr) hn)
   have g3 : ¬ s.p = 3 := by simpa using h3
   first | (have hr := hr.trans (run_if_pos g2); have hr := hr.trans (run_if_neg g3)) | (have hr := hr.trans (run_if_neg g3); have hr := hr.trans (run_if_pos g2))
   exact nQ hn <| coJ (s.q == 0) (fun h7 => absurd (h2.symm.trans h7) (by decide)) <| fun h7 => coZ <| nR 2 hn <| nI (m_pop hn.at_) hn hr <| fun v8 s8 xs8 w8 hk8 hn hr => nA (m_setPair v8 (hk8) hn.at_) hn <| fun w9 hn => woE <| eoB <| eoV (OutV.ok (dN hr) hn)
 have g2 : ¬ s.q = 0 := by simpa using h2
 refine tell 8 h2 <| nE hn <| coF <| have hr := hr.trans (run_if_neg g2); nQ hn <| coK (s.q == 0) (fun h11 => absurd (h2.symm.trans h11) (by decide)) <| fun h11 => nQ hn <| nIf hr (fun g13 hr => ?_) fun g13 hr => ?_
 · exact coZ <| nR 2 hn <| nI (m_pop hn.at_) hn hr <| fun v14 s14 xs14 w14 hk14 hn hr => nA (m_goTo v14 (hk14) hn.at_) hn <| fun w15 hn => woE <| eoB <| eoV (OutV.ok (dN hr) hn)
 refine nQ hn <| nIf hr (fun g17 hr => ?_) fun g17 hr => ?_
 · exact have b18 := hn.at_.ms.r; coZ <| nR 5 hn <| nB (exx_any s.r _) hn <| fun w19 hn => nFs hn _ (hn.at_.ms.u_rg ((b18).exx)) <| fun w20 hn => eoB <| eoV (OutV.ok (dN hr) hn)
 refine nQ hn <| nIf hr (fun g22 hr => ?_) fun g22 hr => ?_
 · exact have b23 := hl_word hn.at_.ms; coZ <| nR 2 hn <| nA (m_hl hn.at_) hn <| fun w24 hn => nFs hn (.u_pc _ (s.hl)) (hn.at_.ms.u_pc (b23)) <| fun w25 hn => eoB <| eoV (OutV.ok (dN hr) hn)
 refine nQ hn <| nIf hr (fun g27 hr => ?_) fun g27 hr => ?_
 · exact coR <| nR 1 hn <| nV (m_pause 2 hn.at_) hn hr <| fun s29 xs29 w29 hn hr => wT <| have b30 := hl_word hn.at_.ms; coZ <| nR 2 hn <| nA (m_hl hn.at_) hn <| fun w31 hn => nFs hn (.u_sp _ (s29.hl)) (hn.at_.ms.u_sp (b30)) <| fun w32 hn => eoB <| eoV (OutV.ok (dN hr) hn)
 exact coSkip <| eoB <| eoV (OutV.ok (dN hr) hn)
theorem m_call (o : Bool) {s : Ms} {xs : List Int} {w : World} {p B : Nat} (h : AtN w p B s xs) :
    Calls Tryz.prog 263 #[pT p 0, .bool (o)] w (OutV w p B ((callN o s).run xs)) := by
 have hn := NowN.begin h
 have hr : (callN o s).run xs = (callN o s).run xs := rfl
 go_enter Tryz.func263, Tryz.ntmps263
 refine coStart <| coR <| nR 2 hn <| nI (m_word hn.at_) hn hr <| fun v2 s2 xs2 w2 hk2 hn hr => nEs hn (.u_wz _ (v2)) (hn.at_.ms.u_wz (hk2)) <| fun w3 hn => coS <| nQ hn <| coI (!(o)) (fun h6 => ?_) fun h6 => ?_
 · have g6 : ¬ o = true := by simpa using h6
   exact have hr := hr.trans (run_if_neg g6); coRet <| eoTr <| eoVr (OutV.ok (dN hr) hn)
 have g6 : o = true := by simpa using h6
 exact have hr := hr.trans (run_if_pos g6); coSkip <| eoT <| coR <| nR 1 hn <| nV (m_pause 1 hn.at_) hn hr <| fun s8 xs8 w8 hn hr => wT <| have b10 := hn.at_.ms.r.pc; coR <| nR 6 hn <| nV (m_push s8.r.pc (b10) hn.at_) hn hr <| fun s11 xs11 w11 hn hr => wT <| have b12 := hn.at_.ms.r.wz; coZ <| nFs hn (.u_pc _ (s11.r.wz)) (hn.at_.ms.u_pc (b12)) <| fun w13 hn => eoV (OutV.ok (dN hr) hn)
theorem m_stack  {s : Ms} {xs : List Int} {w : World} {p B : Nat} (h : AtN w p B s xs) :
    Calls Tryz.prog 264 #[pT p 0] w (OutV w p B ((pushesN s).run xs)) := by
 have hn := NowN.begin h
 have hr : (pushesN s).run xs = (pushesN s).run xs := rfl
 go_enter Tryz.func264, Tryz.ntmps264
 refine coStart <| coS <| nQ hn <| coI (s.q != 0) (fun h3 => ?_) fun h3 => ?_
 · have g3 : ¬ s.q = 0 := by simpa using h3
   exact have hr := hr.trans (run_if_neg g3); coR <| nR 1 hn <| nV (m_call true hn.at_) hn hr <| fun s5 xs5 w5 hn hr => wT <| coRet <| eoTr <| eoVr (OutV.ok (dN hr) hn)
 have g3 : s.q = 0 := by simpa using h3
 refine have hr := hr.trans (run_if_pos g3); coSkip <| eoT <| coR <| nR 1 hn <| nV (m_pause 1 hn.at_) hn hr <| fun s7 xs7 w7 hn hr => wT <| nQ hn <| nIf hr (fun g9 hr => ?_) fun g9 hr => ?_
 · exact have b10 := hn.at_.ms.r.af; coZ <| nR 6 hn <| nV (m_push s7.r.af (b10) hn.at_) hn hr <| fun s11 xs11 w11 hn hr => woE <| eoV (OutV.ok (dN hr) hn)
 exact have b12 := pair_word hn.at_.ms; coZ <| nR 2 hn <| nA (m_pair hn.at_) hn <| fun w13 hn => nV (m_push s7.pair (b12) hn.at_) hn hr <| fun s14 xs14 w14 hn hr => woE <| eoV (OutV.ok (dN hr) hn)
theorem m_exchangeTop  {s : Ms} {xs : List Int} {w : World} {p B : Nat} (h : AtN w p B s xs) :
    Calls Tryz.prog 319 #[pT p 0] w (OutV w p B ((exchangeTopN s).run xs)) := by
 have hn := NowN.begin h
 have hr : (exchangeTopN s).run xs = (exchangeTopN s).run xs := rfl
 go_enter Tryz.func319, Tryz.ntmps319
 exact coStart <| have b2 := hn.at_.ms.r.sp; coR <| nR 6 hn <| nI (m_wordAt s.r.sp (b2) hn.at_) hn hr <| fun v3 s3 xs3 w3 hk3 hn hr => have b4 := hl_word hn.at_.ms; nR 1 hn <| nA (m_hl hn.at_) hn <| fun w5 hn => nE hn <| coR <| nR 1 hn <| nV (m_pause 1 hn.at_) hn hr <| fun s7 xs7 w7 hn hr => wT <| nP 9 hn <| fun w9 hn => have b10 := hn.at_.ms.r.sp; nD [0, 1, 2, 3, 4, 5, 6, 7] hn <| nDe 8 (hi_any s3.hl (b4).1 (b4).2 _) hn <| poE <| nV (m_write ((s7.r.sp + 1) % 65536) (Wd16.mod _) (s3.hl / 256) ((b4).hi) hn.at_) hn hr <| fun s12 xs12 w12 hn hr => wT <| nP 8 hn <| fun w14 hn => have b15 := hn.at_.ms.r.sp; nD [0, 1, 2, 3, 4, 5, 6] hn <| nDe 7 (lo_any s3.hl (b4).1 (b4).2 _) hn <| poE <| nV (m_write s12.r.sp (b15) (s3.hl % 256) ((b4).lo8) hn.at_) hn hr <| fun s17 xs17 w17 hn hr => wT <| coR <| nR 1 hn <| nV (m_pause 2 hn.at_) hn hr <| fun s19 xs19 w19 hn hr => wT <| coR <| nR 2 hn <| nA (m_setHL v3 (hk3) hn.at_) hn <| fun w21 hn => wT <| coZ <| nFs hn (.u_wz _ (v3)) (hn.at_.ms.u_wz (hk3)) <| fun w22 hn => eoV (OutV.ok (dN hr) hn)
theorem m_single  {s : Ms} {xs : List Int} {w : World} {p B : Nat} (h : AtN w p B s xs) :
    Calls Tryz.prog 262 #[pT p 0] w (OutV w p B ((singleN s).run xs)) := by
 have hn := NowN.begin h
 have hr : (singleN s).run xs = (singleN s).run xs := rfl
 go_enter Tryz.func262, Tryz.ntmps262
 refine wp_seq_k fun K1 hK1 => regionL <| oM 4 (pT p 0) <| oN 5 p 0 <| oF 6 (fM4 p) <| oL 7 (ldI (hn.at_.cell 23 (.int .i64 (s.y)) fun _ _ _ => rfl)) ?_
 refine endL ?_
 try simp only [Act.put, sA, sB, sC]
 refine thenN <| hK1 _ _ ?_
 refine wp_block ?_
 refine wp_seq_k fun K2 hK2 => regionL <| oB 9 (egI _ _ _ _ _) (bEqI s.y 0) <| oA 8 (.bool (s.y == 0)) ?_
 refine endL ?_
 try simp only [Act.put, sA, sB, sC]
 refine thenN <| hK2 _ _ ?_
 refine wp_cond_split (t := s.y == 0) (by kernel_rfl) (fun h3 => ?_) (fun h3 => ?_)
 · have g3 : s.y = 0 := by simpa using h3
   have hr := hr.trans (run_if_pos g3)
   exact coStart <| coZ <| nR 2 hn <| nI (m_word hn.at_) hn hr <| fun v4 s4 xs4 w4 hk4 hn hr => nA (m_goTo v4 (hk4) hn.at_) hn <| fun w5 hn => woE <| eoB <| eoV (OutV.ok (dN hr) hn)
 · have g3 : ¬ s.y = 0 := by simpa using h3
   have hr := hr.trans (run_if_neg g3)
   refine wp_seq_k fun K6 hK6 => regionL <| oB 15 (egI _ _ _ _ _) (bEqI s.y 2) <| oA 14 (.bool (s.y == 2)) ?_
   refine endL ?_
   try simp only [Act.put, sA, sB, sC]
   refine thenN <| hK6 _ _ ?_
   refine wp_cond_split (t := s.y == 2) (by kernel_rfl) (fun h7 => ?_) (fun h7 => ?_)
   · have g7 : s.y = 2 := by simpa using h7
     have hr := hr.trans (run_if_pos g7)
     exact coStart <| have b9 := a_byte hn.at_.ms; coR <| nR 1 hn <| nA (m_a hn.at_) hn <| fun w10 hn => nR 1 hn <| nI (m_number hn.at_) hn hr <| fun v11 s11 xs11 w11 hk11 hn hr => kE (word_any s.a v11 (b9).1 (b9).2 (hk11).1 (hk11).2 _) <| nE hn <| have b14 := a_byte hn.at_.ms; coR <| nR 3 hn <| nA (m_a hn.at_) hn <| fun w15 hn => nV (m_out (256 * s.a + v11) (Wd16.mk8 (b9) (hk11)) s11.a (b14) hn.at_) hn hr <| fun s16 xs16 w16 hn hr => wT <| coZ <| nR 2 hn <| nA (m_trailA (256 * s.a + v11) (Wd16.mk8 (b9) (hk11)) hn.at_) hn <| fun w17 hn => woE <| eoB <| eoV (OutV.ok (dN hr) hn)
   · have g7 : ¬ s.y = 2 := by simpa using h7
     have hr := hr.trans (run_if_neg g7)
     refine wp_seq_k fun K18 hK18 => regionL <| oB 30 (egI _ _ _ _ _) (bEqI s.y 3) <| oA 29 (.bool (s.y == 3)) ?_
     refine endL ?_
     try simp only [Act.put, sA, sB, sC]
     refine thenN <| hK18 _ _ ?_
     refine wp_cond_split (t := s.y == 3) (by kernel_rfl) (fun h19 => ?_) (fun h19 => ?_)
     · have g19 : s.y = 3 := by simpa using h19
       have hr := hr.trans (run_if_pos g19)
       exact coStart <| have b21 := a_byte hn.at_.ms; coR <| nR 1 hn <| nA (m_a hn.at_) hn <| fun w22 hn => nR 1 hn <| nI (m_number hn.at_) hn hr <| fun v23 s23 xs23 w23 hk23 hn hr => kE (word_any s.a v23 (b21).1 (b21).2 (hk23).1 (hk23).2 _) <| nE hn <| coR <| nR 3 hn <| nI (m_in (256 * s.a + v23) (Wd16.mk8 (b21) (hk23)) hn.at_) hn hr <| fun v26 s26 xs26 w26 hk26 hn hr => nA (m_setA v26 (hk26) hn.at_) hn <| fun w27 hn => wT <| coZ <| nFs hn (.u_wz _ (((256 * s.a + v23) + 1) % 65536)) (hn.at_.ms.u_wz (Wd16.mod _)) <| fun w28 hn => eoB <| eoV (OutV.ok (dN hr) hn)
     · have g19 : ¬ s.y = 3 := by simpa using h19
       have hr := hr.trans (run_if_neg g19)
       refine wp_seq_k fun K29 hK29 => regionL <| oB 48 (egI _ _ _ _ _) (bEqI s.y 4) <| oA 47 (.bool (s.y == 4)) ?_
       refine endL ?_
       try simp only [Act.put, sA, sB, sC]
       refine thenN <| hK29 _ _ ?_
       refine wp_cond_split (t := s.y == 4) (by kernel_rfl) (fun h30 => ?_) (fun h30 => ?_)
       · have g30 : s.y = 4 := by simpa using h30
         have hr := hr.trans (run_if_pos g30)
         exact coStart <| coZ <| nR 1 hn <| nV (m_exchangeTop hn.at_) hn hr <| fun s31 xs31 w31 hn hr => woE <| eoB <| eoV (OutV.ok (dN hr) hn)
       · have g30 : ¬ s.y = 4 := by simpa using h30
         have hr := hr.trans (run_if_neg g30)
         refine wp_seq_k fun K32 hK32 => regionL <| oB 52 (egI _ _ _ _ _) (bEqI s.y 5) <| oA 51 (.bool (s.y == 5)) ?_
         refine endL ?_
         try simp only [Act.put, sA, sB, sC]
         refine thenN <| hK32 _ _ ?_
         refine wp_cond_split (t := s.y == 5) (by kernel_rfl) (fun h33 => ?_) (fun h33 => ?_)
         · have g33 : s.y = 5 := by simpa using h33
           have hr := hr.trans (run_if_pos g33)
           have b34 := hn.at_.ms.r.hl
           have b35 := hn.at_.ms.r.de
           have c3 := hn.at_.cell 3 (.int .u16 (s.r.hl)) (fun _ _ _ => rfl)
           have c2 := hn.at_.cell 2 (.int .u16 (s.r.de)) (fun _ _ _ => rfl)
           have z2 := hn.at_.frozen 2
           have z3 := hn.at_.frozen 3
           have hn := hn.drew
           go_region
           have hn := hn.set 2 (.int .u16 (s.r.hl)) (s.u_de (s.r.hl)) (mu_de _ _) (hn.at_.ms.u_de (b34))
           have hn := hn.set 3 (.int .u16 (s.r.de)) ((s.u_de (s.r.hl)).u_hl (s.r.de)) (mu_hl _ _) (hn.at_.ms.u_hl (b35))
           refine blockN ?_
           refine endV rfl rfl ?_
           exact OutV.ok (hr.trans (Tr.run_done _ _)) hn
         · have g33 : ¬ s.y = 5 := by simpa using h33
           have hr := hr.trans (run_if_neg g33)
           refine coStart <| nQ hn <| nIf hr (fun g37 hr => ?_) fun g37 hr => ?_
           · exact coZ <| nRs 6 hn (.u_iff1 _ (false)) (hn.at_.ms.u_iff1) <| fun w38 hn => nFs hn (.u_iff2 _ (false)) (hn.at_.ms.u_iff2) <| fun w39 hn => eoB <| eoV (OutV.ok (dN hr) hn)
           refine nQ hn <| nIf hr (fun g41 hr => ?_) fun g41 hr => ?_
           · exact coZ <| nRs 7 hn (.u_iff1 _ (true)) (hn.at_.ms.u_iff1) <| fun w42 hn => nRs 4 hn (.u_iff2 _ (true)) (hn.at_.ms.u_iff2) <| fun w43 hn => nFs hn (.u_late _ (true)) (hn.at_.ms.u_late) <| fun w44 hn => eoB <| eoV (OutV.ok (dN hr) hn)
           exact coSkip <| eoB <| eoV (OutV.ok (dN hr) hn)
theorem m_control  {s : Ms} {xs : List Int} {w : World} {p B : Nat} (h : AtN w p B s xs) :
    Calls Tryz.prog 190 #[pT p 0] w (OutV w p B ((controlN s).run xs)) := by
 have hn := NowN.begin h
 have hr : (controlN s).run xs = (controlN s).run xs := rfl
 go_enter Tryz.func190, Tryz.ntmps190
 refine coStart <| nQ hn <| coB <| nQ hn <| nIf hr (fun g3 hr => ?_) fun g3 hr => ?_
 · refine coR <| nR 1 hn <| nV (m_pause 1 hn.at_) hn hr <| fun s5 xs5 w5 hn hr => wT <| coR <| nR 5 hn <| nA (m_holds s5.y hn.at_) hn <| fun w7 hn => wT <| coI (s5.holds s5.y) (fun h8 => ?_) fun h8 => ?_
   · have g8 : s5.holds s5.y = true := by simpa using h8
     exact have hr := hr.trans (run_if_pos g8); coZ <| nR 2 hn <| nI (m_pop hn.at_) hn hr <| fun v9 s9 xs9 w9 hk9 hn hr => nA (m_goTo v9 (hk9) hn.at_) hn <| fun w10 hn => woE <| eoB <| eoV (OutV.ok (dN hr) hn)
   have g8 : ¬ s5.holds s5.y = true := by simpa using h8
   exact have hr := hr.trans (run_if_neg g8); coSkip <| eoB <| eoV (OutV.ok (dN hr) hn)
 refine nQ hn <| nIf hr (fun g12 hr => ?_) fun g12 hr => ?_
 · exact coZ <| nR 1 hn <| nVt (m_unstack hn.at_) hn hr <| fun s13 xs13 w13 hn hr => woE <| eoB <| eoV (OutV.ok (dN hr) hn)
 refine nQ hn <| nIf hr (fun g15 hr => ?_) fun g15 hr => ?_
 · refine coR <| nR 2 hn <| nI (m_word hn.at_) hn hr <| fun v17 s17 xs17 w17 hk17 hn hr => nEs hn (.u_wz _ (v17)) (hn.at_.ms.u_wz (hk17)) <| fun w18 hn => coR <| nR 5 hn <| nA (m_holds ((s17.u_wz (v17)).y) hn.at_) hn <| fun w20 hn => wT <| coI ((s17.u_wz (v17)).holds ((s17.u_wz (v17)).y)) (fun h21 => ?_) fun h21 => ?_
   · have g21 : (s17.u_wz (v17)).holds ((s17.u_wz (v17)).y) = true := by simpa using h21
     exact have hr := hr.trans (run_if_pos g21); have b22 := hn.at_.ms.r.wz; coZ <| nFs hn ((s17.u_wz (v17)).u_pc ((s17.u_wz (v17)).r.wz)) (hn.at_.ms.u_pc (b22)) <| fun w23 hn => eoB <| eoV (OutV.ok (dN hr) hn)
   have g21 : ¬ (s17.u_wz (v17)).holds ((s17.u_wz (v17)).y) = true := by simpa using h21
   exact have hr := hr.trans (run_if_neg g21); coSkip <| eoB <| eoV (OutV.ok (dN hr) hn)
 refine nQ hn <| nIf hr (fun g25 hr => ?_) fun g25 hr => ?_
 · exact coZ <| nR 1 hn <| nVt (m_single hn.at_) hn hr <| fun s26 xs26 w26 hn hr => woE <| eoB <| eoV (OutV.ok (dN hr) hn)
 refine nQ hn <| nIf hr (fun g28 hr => ?_) fun g28 hr => ?_
 · exact coZ <| nR 6 hn <| nA (m_holds s.y hn.at_) hn <| fun w29 hn => nVt (m_call (s.holds s.y) hn.at_) hn hr <| fun s30 xs30 w30 hn hr => woE <| eoB <| eoV (OutV.ok (dN hr) hn)
 refine nQ hn <| nIf hr (fun g32 hr => ?_) fun g32 hr => ?_
 · exact coZ <| nR 1 hn <| nVt (m_stack hn.at_) hn hr <| fun s33 xs33 w33 hn hr => woE <| eoB <| eoV (OutV.ok (dN hr) hn)
 refine nQ hn <| nIf hr (fun g35 hr => ?_) fun g35 hr => ?_
 · exact coZ <| nR 2 hn <| nI (m_number hn.at_) hn hr <| fun v36 s36 xs36 w36 hk36 hn hr => nA (m_arithmetic v36 (hk36) hn.at_) hn <| fun w37 hn => woE <| eoB <| eoV (OutV.ok (dN hr) hn)
 refine nQ hn <| nIf hr (fun g39 hr => ?_) fun g39 hr => ?_
 · exact coR <| nR 1 hn <| nV (m_pause 1 hn.at_) hn hr <| fun s41 xs41 w41 hn hr => wT <| have b43 := hn.at_.ms.r.pc; coR <| nR 6 hn <| nV (m_push s41.r.pc (b43) hn.at_) hn hr <| fun s44 xs44 w44 hn hr => wT <| coZ <| nR 5 hn <| kBin 87 (egI _ _ _ _ _) (bMulI 8 s44.y (by have := hn.at_.ms.y; omega) (by have := hn.at_.ms.y; omega)) <| nR 1 hn <| nA (m_goTo ((8 * s44.y) % 65536) (Wd16.mod _) hn.at_) hn <| fun w45 hn => woE <| eoB <| eoV (OutV.ok (dN hr) hn)
 exact coSkip <| eoB <| eoV (OutV.ok (dN hr) hn)
theorem m_blockMove (d : Int) {s : Ms} {xs : List Int} {w : World} {p B : Nat} (h : AtN w p B s xs) :
    Calls Tryz.prog 237 #[pT p 0, .int .i64 (d)] w (OutV w p B ((blockMoveN d s).run xs)) := by
 have hn := NowN.begin h
 have hr : (blockMoveN d s).run xs = (blockMoveN d s).run xs := rfl
 go_enter Tryz.func237, Tryz.ntmps237
 exact coStart <| have b2 := hn.at_.ms.r.hl; coR <| nR 6 hn <| nI (m_read s.r.hl (b2) hn.at_) hn hr <| fun v3 s3 xs3 w3 hk3 hn hr => nE hn <| have b5 := hn.at_.ms.r.de; coR <| nR 7 hn <| nV (m_write s3.r.de (b5) v3 (hk3) hn.at_) hn hr <| fun s6 xs6 w6 hn hr => wT <| coR <| nR 1 hn <| nV (m_pause 2 hn.at_) hn hr <| fun s8 xs8 w8 hn hr => wT <| have b10 := hn.at_.ms.r.hl; coR <| nR 7 hn <| kE (wmove_any s8.r.hl d (b10) _) <| nEs hn (.u_hl _ (moveM s8.r.hl d)) (hn.at_.ms.u_hl (Wd16.mod _)) <| fun w12 hn => have b14 := hn.at_.ms.r.de; coR <| nR 7 hn <| kE (wmove_any ((s8.u_hl (moveM s8.r.hl d)).r.de) d (b14) _) <| nEs hn ((s8.u_hl (moveM s8.r.hl d)).u_de (moveM ((s8.u_hl (moveM s8.r.hl d)).r.de) d)) (hn.at_.ms.u_de (Wd16.mod _)) <| fun w16 hn => have b18 := hn.at_.ms.r.bc; nQs hn (((s8.u_hl (moveM s8.r.hl d)).u_de (moveM ((s8.u_hl (moveM s8.r.hl d)).r.de) d)).u_bc (((((s8.u_hl (moveM s8.r.hl d)).u_de (moveM ((s8.u_hl (moveM s8.r.hl d)).r.de) d)).r.bc) - 1) % 65536)) (hn.at_.ms.u_bc (Wd16.mod _)) <| fun w19 hn => nPz 12 hn <| fun w20 hn => have b21 := hn.at_.ms.r.bc; have b22 := a_byte hn.at_.ms; nD [0, 1, 3, 4, 5, 6, 7, 8, 9] hn <| nDa 2 (m_a hn.at_) hn <| fun w23 hn => have b24 := f_byte hn.at_.ms; nDa 10 (m_f hn.at_) hn <| fun w25 hn => nDb 11 (move_any ((((s8.u_hl (moveM s8.r.hl d)).u_de (moveM ((s8.u_hl (moveM s8.r.hl d)).r.de) d)).u_bc (((((s8.u_hl (moveM s8.r.hl d)).u_de (moveM ((s8.u_hl (moveM s8.r.hl d)).r.de) d)).r.bc) - 1) % 65536)).a) v3 ((((s8.u_hl (moveM s8.r.hl d)).u_de (moveM ((s8.u_hl (moveM s8.r.hl d)).r.de) d)).u_bc (((((s8.u_hl (moveM s8.r.hl d)).u_de (moveM ((s8.u_hl (moveM s8.r.hl d)).r.de) d)).r.bc) - 1) % 65536)).r.bc) ((((s8.u_hl (moveM s8.r.hl d)).u_de (moveM ((s8.u_hl (moveM s8.r.hl d)).r.de) d)).u_bc (((((s8.u_hl (moveM s8.r.hl d)).u_de (moveM ((s8.u_hl (moveM s8.r.hl d)).r.de) d)).r.bc) - 1) % 65536)).f) (b22) (hk3) (b24) (b21).1 (b21).2 _) hn <| fun w26 hn => poE <| nA (m_setF (moveF ((((s8.u_hl (moveM s8.r.hl d)).u_de (moveM ((s8.u_hl (moveM s8.r.hl d)).r.de) d)).u_bc (((((s8.u_hl (moveM s8.r.hl d)).u_de (moveM ((s8.u_hl (moveM s8.r.hl d)).r.de) d)).r.bc) - 1) % 65536)).a) v3 ((((s8.u_hl (moveM s8.r.hl d)).u_de (moveM ((s8.u_hl (moveM s8.r.hl d)).r.de) d)).u_bc (((((s8.u_hl (moveM s8.r.hl d)).u_de (moveM ((s8.u_hl (moveM s8.r.hl d)).r.de) d)).r.bc) - 1) % 65536)).r.bc) ((((s8.u_hl (moveM s8.r.hl d)).u_de (moveM ((s8.u_hl (moveM s8.r.hl d)).r.de) d)).u_bc (((((s8.u_hl (moveM s8.r.hl d)).u_de (moveM ((s8.u_hl (moveM s8.r.hl d)).r.de) d)).r.bc) - 1) % 65536)).f)) (moveF_byte _ _ _ _) hn.at_) hn <| fun w27 hn => woE <| eoV (OutV.ok (dN hr) hn)
theorem m_blockFind (d : Int) {s : Ms} {xs : List Int} {w : World} {p B : Nat} (h : AtN w p B s xs) :
    Calls Tryz.prog 238 #[pT p 0, .int .i64 (d)] w (OutV w p B ((blockFindN d s).run xs)) := by
 have hn := NowN.begin h
 have hr : (blockFindN d s).run xs = (blockFindN d s).run xs := rfl
 go_enter Tryz.func238, Tryz.ntmps238
 exact coStart <| have b2 := hn.at_.ms.r.hl; coR <| nR 6 hn <| nI (m_read s.r.hl (b2) hn.at_) hn hr <| fun v3 s3 xs3 w3 hk3 hn hr => nE hn <| coR <| nR 1 hn <| nV (m_pause 5 hn.at_) hn hr <| fun s5 xs5 w5 hn hr => wT <| have b7 := hn.at_.ms.r.hl; coR <| nR 7 hn <| kE (wmove_any s5.r.hl d (b7) _) <| nEs hn (.u_hl _ (moveM s5.r.hl d)) (hn.at_.ms.u_hl (Wd16.mod _)) <| fun w9 hn => have b11 := hn.at_.ms.r.wz; coR <| nR 7 hn <| kE (wmove_any ((s5.u_hl (moveM s5.r.hl d)).r.wz) d (b11) _) <| nEs hn ((s5.u_hl (moveM s5.r.hl d)).u_wz (moveM ((s5.u_hl (moveM s5.r.hl d)).r.wz) d)) (hn.at_.ms.u_wz (Wd16.mod _)) <| fun w13 hn => have b15 := hn.at_.ms.r.bc; nQs hn (((s5.u_hl (moveM s5.r.hl d)).u_wz (moveM ((s5.u_hl (moveM s5.r.hl d)).r.wz) d)).u_bc (((((s5.u_hl (moveM s5.r.hl d)).u_wz (moveM ((s5.u_hl (moveM s5.r.hl d)).r.wz) d)).r.bc) - 1) % 65536)) (hn.at_.ms.u_bc (Wd16.mod _)) <| fun w16 hn => nPz 12 hn <| fun w17 hn => have b18 := hn.at_.ms.r.bc; have b19 := a_byte hn.at_.ms; nD [0, 1, 3, 4, 5, 6, 7, 8, 9] hn <| nDa 2 (m_a hn.at_) hn <| fun w20 hn => have b21 := f_byte hn.at_.ms; nDa 10 (m_f hn.at_) hn <| fun w22 hn => nDb 11 (find_any ((((s5.u_hl (moveM s5.r.hl d)).u_wz (moveM ((s5.u_hl (moveM s5.r.hl d)).r.wz) d)).u_bc (((((s5.u_hl (moveM s5.r.hl d)).u_wz (moveM ((s5.u_hl (moveM s5.r.hl d)).r.wz) d)).r.bc) - 1) % 65536)).a) v3 ((((s5.u_hl (moveM s5.r.hl d)).u_wz (moveM ((s5.u_hl (moveM s5.r.hl d)).r.wz) d)).u_bc (((((s5.u_hl (moveM s5.r.hl d)).u_wz (moveM ((s5.u_hl (moveM s5.r.hl d)).r.wz) d)).r.bc) - 1) % 65536)).r.bc) ((((s5.u_hl (moveM s5.r.hl d)).u_wz (moveM ((s5.u_hl (moveM s5.r.hl d)).r.wz) d)).u_bc (((((s5.u_hl (moveM s5.r.hl d)).u_wz (moveM ((s5.u_hl (moveM s5.r.hl d)).r.wz) d)).r.bc) - 1) % 65536)).f) (b19) (hk3) (b21) (b18).1 (b18).2 _) hn <| fun w23 hn => poE <| nA (m_setF (findF ((((s5.u_hl (moveM s5.r.hl d)).u_wz (moveM ((s5.u_hl (moveM s5.r.hl d)).r.wz) d)).u_bc (((((s5.u_hl (moveM s5.r.hl d)).u_wz (moveM ((s5.u_hl (moveM s5.r.hl d)).r.wz) d)).r.bc) - 1) % 65536)).a) v3 ((((s5.u_hl (moveM s5.r.hl d)).u_wz (moveM ((s5.u_hl (moveM s5.r.hl d)).r.wz) d)).u_bc (((((s5.u_hl (moveM s5.r.hl d)).u_wz (moveM ((s5.u_hl (moveM s5.r.hl d)).r.wz) d)).r.bc) - 1) % 65536)).r.bc) ((((s5.u_hl (moveM s5.r.hl d)).u_wz (moveM ((s5.u_hl (moveM s5.r.hl d)).r.wz) d)).u_bc (((((s5.u_hl (moveM s5.r.hl d)).u_wz (moveM ((s5.u_hl (moveM s5.r.hl d)).r.wz) d)).r.bc) - 1) % 65536)).f)) (findF_byte _ _ _ _) hn.at_) hn <| fun w24 hn => woE <| eoV (OutV.ok (dN hr) hn)
theorem m_blockTake (d : Int) {s : Ms} {xs : List Int} {w : World} {p B : Nat} (h : AtN w p B s xs) :
    Calls Tryz.prog 239 #[pT p 0, .int .i64 (d)] w (OutV w p B ((blockTakeN d s).run xs)) := by
 have hn := NowN.begin h
 have hr : (blockTakeN d s).run xs = (blockTakeN d s).run xs := rfl
 go_enter Tryz.func239, Tryz.ntmps239
 exact coStart <| coR <| nR 1 hn <| nV (m_pause 1 hn.at_) hn hr <| fun s2 xs2 w2 hn hr => wT <| have b4 := hn.at_.ms.r.bc; coR <| nR 6 hn <| nI (m_in s2.r.bc (b4) hn.at_) hn hr <| fun v5 s5 xs5 w5 hk5 hn hr => nE hn <| have b7 := hn.at_.ms.r.bc; coR <| nR 7 hn <| kE (wmove_any s5.r.bc d (b7) _) <| nEs hn (.u_wz _ (moveM s5.r.bc d)) (hn.at_.ms.u_wz (Wd16.mod _)) <| fun w9 hn => coR <| nR 1 hn <| nA (m_lessB hn.at_) hn <| fun w11 hn => nE hn <| have b13 := hn.at_.ms.r.hl; coR <| nR 7 hn <| nV (m_write (((s5.u_wz (moveM s5.r.bc d)).lessB).r.hl) (b13) v5 (hk5) hn.at_) hn hr <| fun s14 xs14 w14 hn hr => wT <| have b16 := hn.at_.ms.r.hl; coR <| nR 7 hn <| kE (wmove_any s14.r.hl d (b16) _) <| nEs hn (.u_hl _ (moveM s14.r.hl d)) (hn.at_.ms.u_hl (Wd16.mod _)) <| fun w18 hn => have b19 := hn.at_.ms.r.get (s14.u_hl (moveM s14.r.hl d)).plane 1; coZ <| nR 3 hn <| nA (m_getP 1 (by decide) hn.at_) hn <| fun w20 hn => nR 2 hn <| nB (take_any v5 (getG (s14.u_hl (moveM s14.r.hl d)).r (s14.u_hl (moveM s14.r.hl d)).plane 1) ((s5.u_wz (moveM s5.r.bc d)).left) d (hk5) (b19) (B8.mod _) _) hn <| fun w21 hn => nA (m_setF (passF v5 (v5 + byC (getG (s14.u_hl (moveM s14.r.hl d)).r (s14.u_hl (moveM s14.r.hl d)).plane 1) d) ((s5.u_wz (moveM s5.r.bc d)).left)) (passF_byte _ _ _) hn.at_) hn <| fun w22 hn => woE <| eoV (OutV.ok (dN hr) hn)
theorem m_blockGive (d : Int) {s : Ms} {xs : List Int} {w : World} {p B : Nat} (h : AtN w p B s xs) :
    Calls Tryz.prog 240 #[pT p 0, .int .i64 (d)] w (OutV w p B ((blockGiveN d s).run xs)) := by
 have hn := NowN.begin h
 have hr : (blockGiveN d s).run xs = (blockGiveN d s).run xs := rfl
 go_enter Tryz.func240, Tryz.ntmps240
 exact coStart <| coR <| nR 1 hn <| nV (m_pause 1 hn.at_) hn hr <| fun s2 xs2 w2 hn hr => wT <| have b4 := hn.at_.ms.r.hl; coR <| nR 6 hn <| nI (m_read s2.r.hl (b4) hn.at_) hn hr <| fun v5 s5 xs5 w5 hk5 hn hr => nE hn <| coR <| nR 1 hn <| nA (m_lessB hn.at_) hn <| fun w7 hn => nE hn <| have b9 := hn.at_.ms.r.bc; coR <| nR 7 hn <| kE (wmove_any s5.lessB.r.bc d (b9) _) <| nEs hn (.u_wz _ (moveM s5.lessB.r.bc d)) (hn.at_.ms.u_wz (Wd16.mod _)) <| fun w11 hn => have b13 := hn.at_.ms.r.bc; coR <| nR 7 hn <| nV (m_out ((s5.lessB.u_wz (moveM s5.lessB.r.bc d)).r.bc) (b13) v5 (hk5) hn.at_) hn hr <| fun s14 xs14 w14 hn hr => wT <| have b16 := hn.at_.ms.r.hl; coR <| nR 7 hn <| kE (wmove_any s14.r.hl d (b16) _) <| nEs hn (.u_hl _ (moveM s14.r.hl d)) (hn.at_.ms.u_hl (Wd16.mod _)) <| fun w18 hn => have b19 := hn.at_.ms.r.hl; coZ <| nR 7 hn <| kE (lo_any ((s14.u_hl (moveM s14.r.hl d)).r.hl) (b19).1 (b19).2 _) <| nR 1 hn <| nB (give_any v5 (((s14.u_hl (moveM s14.r.hl d)).r.hl) % 256) s5.left (hk5) ((b19).lo8) (B8.mod _) _) hn <| fun w21 hn => nA (m_setF (passF v5 (v5 + (((s14.u_hl (moveM s14.r.hl d)).r.hl) % 256)) s5.left) (passF_byte _ _ _) hn.at_) hn <| fun w22 hn => woE <| eoV (OutV.ok (dN hr) hn)
theorem m_repeat  {s : Ms} {xs : List Int} {w : World} {p B : Nat} (h : AtN w p B s xs) :
    Calls Tryz.prog 242 #[pT p 0] w (OutV w p B ((repeatN s).run xs)) := by
 have hn := NowN.begin h
 have hr : (repeatN s).run xs = (repeatN s).run xs := rfl
 go_enter Tryz.func242, Tryz.ntmps242
 refine coStart <| coR <| nR 1 hn <| nV (m_pause 5 hn.at_) hn hr <| fun s2 xs2 w2 hn hr => wT <| have b4 := hn.at_.ms.r.pc; nQs hn (.u_pc _ ((s2.r.pc - 2) % 65536)) (hn.at_.ms.u_pc (Wd16.mod _)) <| fun w5 hn => coR <| nR 6 hn ?_
 rcases Bool.eq_false_or_eq_true (((s2.u_pc ((s2.r.pc - 2) % 65536)).z) == 0) with h7 | h7
 · have g7 : ((s2.u_pc ((s2.r.pc - 2) % 65536)).z) = 0 := by simpa using h7
   exact tell 18 h7 <| nE hn <| coT <| have hr := hr.trans (run_if_pos (.inl g7)); have b8 := hn.at_.ms.r.pc; coZ <| nFs hn ((s2.u_pc ((s2.r.pc - 2) % 65536)).u_wz ((((s2.u_pc ((s2.r.pc - 2) % 65536)).r.pc) + 1) % 65536)) (hn.at_.ms.u_wz (Wd16.mod _)) <| fun w9 hn => eoV (OutV.ok (dN hr) hn)
 have g7 : ¬ ((s2.u_pc ((s2.r.pc - 2) % 65536)).z) = 0 := by simpa using h7
 refine tell 18 h7 <| nE hn <| coI (((s2.u_pc ((s2.r.pc - 2) % 65536)).z) == 1) (fun h10 => ?_) fun h10 => ?_
 · have g10 : ((s2.u_pc ((s2.r.pc - 2) % 65536)).z) = 1 := by simpa using h10
   exact have hr := hr.trans (run_if_pos (.inr g10)); have b11 := hn.at_.ms.r.pc; coZ <| nFs hn ((s2.u_pc ((s2.r.pc - 2) % 65536)).u_wz ((((s2.u_pc ((s2.r.pc - 2) % 65536)).r.pc) + 1) % 65536)) (hn.at_.ms.u_wz (Wd16.mod _)) <| fun w12 hn => eoV (OutV.ok (dN hr) hn)
 have g10 : ¬ ((s2.u_pc ((s2.r.pc - 2) % 65536)).z) = 1 := by simpa using h10
 exact have hr := hr.trans (run_if_neg (not_or.2 ⟨g7, g10⟩)); coSkip <| eoV (OutV.ok (dN hr) hn)
theorem m_blocks  {s : Ms} {xs : List Int} {w : World} {p B : Nat} (h : AtN w p B s xs) :
    Calls Tryz.prog 183 #[pT p 0] w (OutV w p B ((blocksN s).run xs)) := by
 have hn := NowN.begin h
 have hr : (blocksN s).run xs = (blocksN s).run xs := rfl
 go_enter Tryz.func183, Tryz.ntmps183
 refine coStart <| coS <| coR <| nR 6 hn ?_
 rcases Bool.eq_false_or_eq_true (decide (4 ≤ s.z)) with h3 | h3
 · have g3 : 4 ≤ s.z := by simpa using h3
   exact tell 8 h3 <| nE hn <| coT <| have hr := hr.trans (run_if_pos (.inl g3)); coRet <| eoTr <| eoVr (OutV.ok (dN hr) hn)
 have g3 : ¬ 4 ≤ s.z := by simpa using h3
 refine tell 8 h3 <| nE hn <| coI (decide (s.y < 4)) (fun h4 => ?_) fun h4 => ?_
 · have g4 : s.y < 4 := by simpa using h4
   exact have hr := hr.trans (run_if_pos (.inr g4)); coRet <| eoTr <| eoVr (OutV.ok (dN hr) hn)
 have g4 : ¬ s.y < 4 := by simpa using h4
 refine have hr := hr.trans (run_if_neg (not_or.2 ⟨g3, g4⟩)); coSkip <| eoT <| nQ hn <| coS <| nQ hn <| coI (s.q != 0) (fun h8 => ?_) fun h8 => ?_
 · have g8 : ¬ s.q = 0 := by simpa using h8
   refine have hr := hr.trans (run_if_neg g8); coZ <| nE hn <| coS <| nQ hn <| coB <| nQ hn <| nIfb hr (fun g12 hr => ?_) fun g12 hr => ?_
   · refine coZ <| nR 2 hn <| nV (m_blockMove ((-1)) hn.at_) hn hr <| fun s13 xs13 w13 hn hr => woE <| eoB <| eoT <| nP 13 hn <| fun w15 hn => nD [0, 1, 2, 3, 4, 5] hn ?_
     rcases Bool.eq_false_or_eq_true (decide (6 ≤ s13.y)) with h16 | h16
     · have g16 : 6 ≤ s13.y := by simpa using h16
       refine tellP 49 h16 <| have b17 := f_byte hn.at_.ms; nD [6, 7, 8, 9, 10] hn <| nDa 11 (m_f hn.at_) hn <| fun w18 hn => nDe 12 (again_any s13.z s13.f (b17) _) hn <| poE <| nE hn <| coI (againM s13.z s13.f) (fun h20 => ?_) fun h20 => ?_
       · have g20 : againM s13.z s13.f = true := by simpa using h20
         exact have hr := hr.trans (run_if_pos (by simp [g20, g16, g12, g8, g4, g3])); coZ <| nR 1 hn <| nVt (m_repeat hn.at_) hn hr <| fun s21 xs21 w21 hn hr => woE <| eoV (OutV.ok (dN hr) hn)
       have g20 : ¬ againM s13.z s13.f = true := by simpa using h20
       exact have hr := hr.trans (run_if_neg (by simp [g20, g16, g12, g8, g4, g3])); coSkip <| eoV (OutV.ok (dN hr) hn)
     have g16 : ¬ 6 ≤ s13.y := by simpa using h16
     exact tellP 49 h16 <| nD [6, 7, 8, 9, 10, 11, 12] hn <| poE <| nE hn <| coF <| have hr := hr.trans (run_if_neg (by simp [g16, g12, g8, g4, g3])); coSkip <| eoV (OutV.ok (dN hr) hn)
   refine nQ hn <| nIfb hr (fun g23 hr => ?_) fun g23 hr => ?_
   · refine coZ <| nR 2 hn <| nV (m_blockFind ((-1)) hn.at_) hn hr <| fun s24 xs24 w24 hn hr => woE <| eoB <| eoT <| nP 13 hn <| fun w26 hn => nD [0, 1, 2, 3, 4, 5] hn ?_
     rcases Bool.eq_false_or_eq_true (decide (6 ≤ s24.y)) with h27 | h27
     · have g27 : 6 ≤ s24.y := by simpa using h27
       refine tellP 49 h27 <| have b28 := f_byte hn.at_.ms; nD [6, 7, 8, 9, 10] hn <| nDa 11 (m_f hn.at_) hn <| fun w29 hn => nDe 12 (again_any s24.z s24.f (b28) _) hn <| poE <| nE hn <| coI (againM s24.z s24.f) (fun h31 => ?_) fun h31 => ?_
       · have g31 : againM s24.z s24.f = true := by simpa using h31
         exact have hr := hr.trans (run_if_pos (by simp [g31, g27, g23, g12, g8, g4, g3])); coZ <| nR 1 hn <| nVt (m_repeat hn.at_) hn hr <| fun s32 xs32 w32 hn hr => woE <| eoV (OutV.ok (dN hr) hn)
       have g31 : ¬ againM s24.z s24.f = true := by simpa using h31
       exact have hr := hr.trans (run_if_neg (by simp [g31, g27, g23, g12, g8, g4, g3])); coSkip <| eoV (OutV.ok (dN hr) hn)
     have g27 : ¬ 6 ≤ s24.y := by simpa using h27
     exact tellP 49 h27 <| nD [6, 7, 8, 9, 10, 11, 12] hn <| poE <| nE hn <| coF <| have hr := hr.trans (run_if_neg (by simp [g27, g23, g12, g8, g4, g3])); coSkip <| eoV (OutV.ok (dN hr) hn)
   refine nQ hn <| nIfb hr (fun g34 hr => ?_) fun g34 hr => ?_
   · refine coZ <| nR 2 hn <| nV (m_blockTake ((-1)) hn.at_) hn hr <| fun s35 xs35 w35 hn hr => woE <| eoB <| eoT <| nP 13 hn <| fun w37 hn => nD [0, 1, 2, 3, 4, 5] hn ?_
     rcases Bool.eq_false_or_eq_true (decide (6 ≤ s35.y)) with h38 | h38
     · have g38 : 6 ≤ s35.y := by simpa using h38
       refine tellP 49 h38 <| have b39 := f_byte hn.at_.ms; nD [6, 7, 8, 9, 10] hn <| nDa 11 (m_f hn.at_) hn <| fun w40 hn => nDe 12 (again_any s35.z s35.f (b39) _) hn <| poE <| nE hn <| coI (againM s35.z s35.f) (fun h42 => ?_) fun h42 => ?_
       · have g42 : againM s35.z s35.f = true := by simpa using h42
         exact have hr := hr.trans (run_if_pos (by simp [g42, g38, g34, g23, g12, g8, g4, g3])); coZ <| nR 1 hn <| nVt (m_repeat hn.at_) hn hr <| fun s43 xs43 w43 hn hr => woE <| eoV (OutV.ok (dN hr) hn)
       have g42 : ¬ againM s35.z s35.f = true := by simpa using h42
       exact have hr := hr.trans (run_if_neg (by simp [g42, g38, g34, g23, g12, g8, g4, g3])); coSkip <| eoV (OutV.ok (dN hr) hn)
     have g38 : ¬ 6 ≤ s35.y := by simpa using h38
     exact tellP 49 h38 <| nD [6, 7, 8, 9, 10, 11, 12] hn <| poE <| nE hn <| coF <| have hr := hr.trans (run_if_neg (by simp [g38, g34, g23, g12, g8, g4, g3])); coSkip <| eoV (OutV.ok (dN hr) hn)
   refine nQ hn <| nIfb hr (fun g45 hr => ?_) fun g45 hr => ?_
   · refine coZ <| nR 2 hn <| nV (m_blockGive ((-1)) hn.at_) hn hr <| fun s46 xs46 w46 hn hr => woE <| eoB <| eoT <| nP 13 hn <| fun w48 hn => nD [0, 1, 2, 3, 4, 5] hn ?_
     rcases Bool.eq_false_or_eq_true (decide (6 ≤ s46.y)) with h49 | h49
     · have g49 : 6 ≤ s46.y := by simpa using h49
       refine tellP 49 h49 <| have b50 := f_byte hn.at_.ms; nD [6, 7, 8, 9, 10] hn <| nDa 11 (m_f hn.at_) hn <| fun w51 hn => nDe 12 (again_any s46.z s46.f (b50) _) hn <| poE <| nE hn <| coI (againM s46.z s46.f) (fun h53 => ?_) fun h53 => ?_
       · have g53 : againM s46.z s46.f = true := by simpa using h53
         exact have hr := hr.trans (run_if_pos (by simp [g53, g49, g45, g34, g23, g12, g8, g4, g3])); coZ <| nR 1 hn <| nVt (m_repeat hn.at_) hn hr <| fun s54 xs54 w54 hn hr => woE <| eoV (OutV.ok (dN hr) hn)
       have g53 : ¬ againM s46.z s46.f = true := by simpa using h53
       exact have hr := hr.trans (run_if_neg (by simp [g53, g49, g45, g34, g23, g12, g8, g4, g3])); coSkip <| eoV (OutV.ok (dN hr) hn)
     have g49 : ¬ 6 ≤ s46.y := by simpa using h49
     exact tellP 49 h49 <| nD [6, 7, 8, 9, 10, 11, 12] hn <| poE <| nE hn <| coF <| have hr := hr.trans (run_if_neg (by simp [g49, g45, g34, g23, g12, g8, g4, g3])); coSkip <| eoV (OutV.ok (dN hr) hn)
   refine coSkip <| eoB <| eoT <| nP 13 hn <| fun w56 hn => nD [0, 1, 2, 3, 4, 5] hn ?_
   rcases Bool.eq_false_or_eq_true (decide (6 ≤ s.y)) with h57 | h57
   · have g57 : 6 ≤ s.y := by simpa using h57
     refine tellP 49 h57 <| have b58 := f_byte hn.at_.ms; nD [6, 7, 8, 9, 10] hn <| nDa 11 (m_f hn.at_) hn <| fun w59 hn => nDe 12 (again_any s.z s.f (b58) _) hn <| poE <| nE hn <| coI (againM s.z s.f) (fun h61 => ?_) fun h61 => ?_
     · have g61 : againM s.z s.f = true := by simpa using h61
       exact have hr := hr.trans (run_if_pos (by simp [g61, g57, g45, g34, g23, g12, g8, g4, g3])); coZ <| nR 1 hn <| nVt (m_repeat hn.at_) hn hr <| fun s62 xs62 w62 hn hr => woE <| eoV (OutV.ok (dN hr) hn)
     have g61 : ¬ againM s.z s.f = true := by simpa using h61
     exact have hr := hr.trans (run_if_neg (by simp [g61, g57, g45, g34, g23, g12, g8, g4, g3])); coSkip <| eoV (OutV.ok (dN hr) hn)
   have g57 : ¬ 6 ≤ s.y := by simpa using h57
   exact tellP 49 h57 <| nD [6, 7, 8, 9, 10, 11, 12] hn <| poE <| nE hn <| coF <| have hr := hr.trans (run_if_neg (by simp [g57, g45, g34, g23, g12, g8, g4, g3])); coSkip <| eoV (OutV.ok (dN hr) hn)
 have g8 : s.q = 0 := by simpa using h8
 refine have hr := hr.trans (run_if_pos g8); coSkip <| eoT <| coS <| nQ hn <| coB <| nQ hn <| nIfb hr (fun g66 hr => ?_) fun g66 hr => ?_
 · refine coZ <| nR 2 hn <| nV (m_blockMove 1 hn.at_) hn hr <| fun s67 xs67 w67 hn hr => woE <| eoB <| eoT <| nP 13 hn <| fun w69 hn => nD [0, 1, 2, 3, 4, 5] hn ?_
   rcases Bool.eq_false_or_eq_true (decide (6 ≤ s67.y)) with h70 | h70
   · have g70 : 6 ≤ s67.y := by simpa using h70
     refine tellP 49 h70 <| have b71 := f_byte hn.at_.ms; nD [6, 7, 8, 9, 10] hn <| nDa 11 (m_f hn.at_) hn <| fun w72 hn => nDe 12 (again_any s67.z s67.f (b71) _) hn <| poE <| nE hn <| coI (againM s67.z s67.f) (fun h74 => ?_) fun h74 => ?_
     · have g74 : againM s67.z s67.f = true := by simpa using h74
       exact have hr := hr.trans (run_if_pos (by simp [g74, g70, g66, g8, g4, g3])); coZ <| nR 1 hn <| nVt (m_repeat hn.at_) hn hr <| fun s75 xs75 w75 hn hr => woE <| eoV (OutV.ok (dN hr) hn)
     have g74 : ¬ againM s67.z s67.f = true := by simpa using h74
     exact have hr := hr.trans (run_if_neg (by simp [g74, g70, g66, g8, g4, g3])); coSkip <| eoV (OutV.ok (dN hr) hn)
   have g70 : ¬ 6 ≤ s67.y := by simpa using h70
   exact tellP 49 h70 <| nD [6, 7, 8, 9, 10, 11, 12] hn <| poE <| nE hn <| coF <| have hr := hr.trans (run_if_neg (by simp [g70, g66, g8, g4, g3])); coSkip <| eoV (OutV.ok (dN hr) hn)
 refine nQ hn <| nIfb hr (fun g77 hr => ?_) fun g77 hr => ?_
 · refine coZ <| nR 2 hn <| nV (m_blockFind 1 hn.at_) hn hr <| fun s78 xs78 w78 hn hr => woE <| eoB <| eoT <| nP 13 hn <| fun w80 hn => nD [0, 1, 2, 3, 4, 5] hn ?_
   rcases Bool.eq_false_or_eq_true (decide (6 ≤ s78.y)) with h81 | h81
   · have g81 : 6 ≤ s78.y := by simpa using h81
     refine tellP 49 h81 <| have b82 := f_byte hn.at_.ms; nD [6, 7, 8, 9, 10] hn <| nDa 11 (m_f hn.at_) hn <| fun w83 hn => nDe 12 (again_any s78.z s78.f (b82) _) hn <| poE <| nE hn <| coI (againM s78.z s78.f) (fun h85 => ?_) fun h85 => ?_
     · have g85 : againM s78.z s78.f = true := by simpa using h85
       exact have hr := hr.trans (run_if_pos (by simp [g85, g81, g77, g66, g8, g4, g3])); coZ <| nR 1 hn <| nVt (m_repeat hn.at_) hn hr <| fun s86 xs86 w86 hn hr => woE <| eoV (OutV.ok (dN hr) hn)
     have g85 : ¬ againM s78.z s78.f = true := by simpa using h85
     exact have hr := hr.trans (run_if_neg (by simp [g85, g81, g77, g66, g8, g4, g3])); coSkip <| eoV (OutV.ok (dN hr) hn)
   have g81 : ¬ 6 ≤ s78.y := by simpa using h81
   exact tellP 49 h81 <| nD [6, 7, 8, 9, 10, 11, 12] hn <| poE <| nE hn <| coF <| have hr := hr.trans (run_if_neg (by simp [g81, g77, g66, g8, g4, g3])); coSkip <| eoV (OutV.ok (dN hr) hn)
 refine nQ hn <| nIfb hr (fun g88 hr => ?_) fun g88 hr => ?_
 · refine coZ <| nR 2 hn <| nV (m_blockTake 1 hn.at_) hn hr <| fun s89 xs89 w89 hn hr => woE <| eoB <| eoT <| nP 13 hn <| fun w91 hn => nD [0, 1, 2, 3, 4, 5] hn ?_
   rcases Bool.eq_false_or_eq_true (decide (6 ≤ s89.y)) with h92 | h92
   · have g92 : 6 ≤ s89.y := by simpa using h92
     refine tellP 49 h92 <| have b93 := f_byte hn.at_.ms; nD [6, 7, 8, 9, 10] hn <| nDa 11 (m_f hn.at_) hn <| fun w94 hn => nDe 12 (again_any s89.z s89.f (b93) _) hn <| poE <| nE hn <| coI (againM s89.z s89.f) (fun h96 => ?_) fun h96 => ?_
     · have g96 : againM s89.z s89.f = true := by simpa using h96
       exact have hr := hr.trans (run_if_pos (by simp [g96, g92, g88, g77, g66, g8, g4, g3])); coZ <| nR 1 hn <| nVt (m_repeat hn.at_) hn hr <| fun s97 xs97 w97 hn hr => woE <| eoV (OutV.ok (dN hr) hn)
     have g96 : ¬ againM s89.z s89.f = true := by simpa using h96
     exact have hr := hr.trans (run_if_neg (by simp [g96, g92, g88, g77, g66, g8, g4, g3])); coSkip <| eoV (OutV.ok (dN hr) hn)
   have g92 : ¬ 6 ≤ s89.y := by simpa using h92
   exact tellP 49 h92 <| nD [6, 7, 8, 9, 10, 11, 12] hn <| poE <| nE hn <| coF <| have hr := hr.trans (run_if_neg (by simp [g92, g88, g77, g66, g8, g4, g3])); coSkip <| eoV (OutV.ok (dN hr) hn)
 refine nQ hn <| nIfb hr (fun g99 hr => ?_) fun g99 hr => ?_
 · refine coZ <| nR 2 hn <| nV (m_blockGive 1 hn.at_) hn hr <| fun s100 xs100 w100 hn hr => woE <| eoB <| eoT <| nP 13 hn <| fun w102 hn => nD [0, 1, 2, 3, 4, 5] hn ?_
   rcases Bool.eq_false_or_eq_true (decide (6 ≤ s100.y)) with h103 | h103
   · have g103 : 6 ≤ s100.y := by simpa using h103
     refine tellP 49 h103 <| have b104 := f_byte hn.at_.ms; nD [6, 7, 8, 9, 10] hn <| nDa 11 (m_f hn.at_) hn <| fun w105 hn => nDe 12 (again_any s100.z s100.f (b104) _) hn <| poE <| nE hn <| coI (againM s100.z s100.f) (fun h107 => ?_) fun h107 => ?_
     · have g107 : againM s100.z s100.f = true := by simpa using h107
       exact have hr := hr.trans (run_if_pos (by simp [g107, g103, g99, g88, g77, g66, g8, g4, g3])); coZ <| nR 1 hn <| nVt (m_repeat hn.at_) hn hr <| fun s108 xs108 w108 hn hr => woE <| eoV (OutV.ok (dN hr) hn)
     have g107 : ¬ againM s100.z s100.f = true := by simpa using h107
     exact have hr := hr.trans (run_if_neg (by simp [g107, g103, g99, g88, g77, g66, g8, g4, g3])); coSkip <| eoV (OutV.ok (dN hr) hn)
   have g103 : ¬ 6 ≤ s100.y := by simpa using h103
   exact tellP 49 h103 <| nD [6, 7, 8, 9, 10, 11, 12] hn <| poE <| nE hn <| coF <| have hr := hr.trans (run_if_neg (by simp [g103, g99, g88, g77, g66, g8, g4, g3])); coSkip <| eoV (OutV.ok (dN hr) hn)
 refine coSkip <| eoB <| eoT <| nP 13 hn <| fun w110 hn => nD [0, 1, 2, 3, 4, 5] hn ?_
 rcases Bool.eq_false_or_eq_true (decide (6 ≤ s.y)) with h111 | h111
 · have g111 : 6 ≤ s.y := by simpa using h111
   refine tellP 49 h111 <| have b112 := f_byte hn.at_.ms; nD [6, 7, 8, 9, 10] hn <| nDa 11 (m_f hn.at_) hn <| fun w113 hn => nDe 12 (again_any s.z s.f (b112) _) hn <| poE <| nE hn <| coI (againM s.z s.f) (fun h115 => ?_) fun h115 => ?_
   · have g115 : againM s.z s.f = true := by simpa using h115
     exact have hr := hr.trans (run_if_pos (by simp [g115, g111, g99, g88, g77, g66, g8, g4, g3])); coZ <| nR 1 hn <| nVt (m_repeat hn.at_) hn hr <| fun s116 xs116 w116 hn hr => woE <| eoV (OutV.ok (dN hr) hn)
   have g115 : ¬ againM s.z s.f = true := by simpa using h115
   exact have hr := hr.trans (run_if_neg (by simp [g115, g111, g99, g88, g77, g66, g8, g4, g3])); coSkip <| eoV (OutV.ok (dN hr) hn)
 have g111 : ¬ 6 ≤ s.y := by simpa using h111
 exact tellP 49 h111 <| nD [6, 7, 8, 9, 10, 11, 12] hn <| poE <| nE hn <| coF <| have hr := hr.trans (run_if_neg (by simp [g111, g99, g88, g77, g66, g8, g4, g3])); coSkip <| eoV (OutV.ok (dN hr) hn)
theorem m_inMemory  {s : Ms} {xs : List Int} {w : World} {p B : Nat} (h : AtN w p B s xs) :
    Calls Tryz.prog 225 #[pT p 0] w (fun e w' => e = .returned (.bool (s.inMem)) ∧ NowN w p B (s) xs w') := by
 have hn := NowN.begin h
 go_enter Tryz.func225, Tryz.ntmps225
 refine coStart <| nQ hn <| coR <| nR 5 hn ?_
 rcases Bool.eq_false_or_eq_true (s.near) with h3 | h3
 · have g3 : s.near = true := by simpa using h3
   refine tell 7 h3 <| nE hn <| coRet <| eoIr (.bool (true)) ?_
   have e : s.inMem = (true) := by simp [Ms.inMem, g3]
   exact ⟨by rw [e], hn⟩
 have g3 : ¬ s.near = true := by simpa using h3
 refine tell 7 h3 <| nE hn <| coRet <| eoIr (.bool (s.z == 6)) ?_
 have e : s.inMem = (s.z == 6) := by simp [Ms.inMem, g3]
 exact ⟨by rw [e], hn⟩
theorem m_operand  {s : Ms} {xs : List Int} {w : World} {p B : Nat} (h : AtN w p B s xs) :
    Calls Tryz.prog 221 #[pT p 0] w (OutI w p B .u8 ((operandN s).run xs)) := by
 have hn := NowN.begin h
 have hr : (operandN s).run xs = (operandN s).run xs := rfl
 go_enter Tryz.func221, Tryz.ntmps221
 refine coStart <| nQ hn <| coS <| coR <| nR 1 hn <| nA (m_inMemory hn.at_) hn <| fun w4 hn => nE hn <| coI (!(s.inMem)) (fun h5 => ?_) fun h5 => ?_
 · have g5 : ¬ s.inMem = true := by simpa using h5
   exact have hr := hr.trans (run_if_neg g5); coR <| nR 5 hn <| nIt (m_get s.z hn.at_) hn hr <| fun v7 s7 xs7 w7 hk7 hn hr => nE hn <| coRet <| eoTr <| eoIr (.int .u8 (v7)) (OutI.ok (dN hr) (hk7) hn)
 have g5 : s.inMem = true := by simpa using h5
 exact have hr := hr.trans (run_if_pos g5); coSkip <| eoT <| have b9 := hn.at_.ms.spot; coR <| nR 5 hn <| nI (m_read s.spot (b9) hn.at_) hn hr <| fun v10 s10 xs10 w10 hk10 hn hr => nE hn <| coR <| nR 1 hn <| nV (m_pause 1 hn.at_) hn hr <| fun s12 xs12 w12 hn hr => wT <| nQ hn <| coRet <| eoIr (.int .u8 (v10)) (OutI.ok (dN hr) (hk10) hn)
theorem m_result (b : Int) (hAb : B8 b) {s : Ms} {xs : List Int} {w : World} {p B : Nat} (h : AtN w p B s xs) :
    Calls Tryz.prog 224 #[pT p 0, .int .u8 (b)] w (OutV w p B ((resultN b s).run xs)) := by
 have hn := NowN.begin h
 have hr : (resultN b s).run xs = (resultN b s).run xs := rfl
 go_enter Tryz.func224, Tryz.ntmps224
 refine coStart <| coS <| coR <| nR 1 hn <| nA (m_inMemory hn.at_) hn <| fun w3 hn => wT <| coI (s.inMem) (fun h4 => ?_) fun h4 => ?_
 · have g4 : s.inMem = true := by simpa using h4
   refine have hr := hr.trans (run_bif_pos g4); have b5 := hn.at_.ms.spot; coZ <| nR 6 hn <| nV (m_write s.spot (b5) b (hAb) hn.at_) hn hr <| fun s6 xs6 w6 hn hr => wT <| nQ hn <| coI (s6.z != 6) (fun h8 => ?_) fun h8 => ?_
   · have g8 : ¬ s6.z = 6 := by simpa using h8
     exact have hr := hr.trans (run_if_neg g8); coZ <| nR 6 hn <| nVt (m_put s6.z b (hAb) hn.at_) hn hr <| fun s9 xs9 w9 hn hr => woE <| eoV (OutV.ok (dN hr) hn)
   have g8 : s6.z = 6 := by simpa using h8
   exact have hr := hr.trans (run_if_pos g8); coSkip <| eoV (OutV.ok (dN hr) hn)
 have g4 : ¬ s.inMem = true := by simpa using h4
 refine have hr := hr.trans (run_bif_neg g4); coSkip <| eoT <| nQ hn <| coI (s.z != 6) (fun h11 => ?_) fun h11 => ?_
 · have g11 : ¬ s.z = 6 := by simpa using h11
   exact have hr := hr.trans (run_if_neg g11); coZ <| nR 6 hn <| nVt (m_put s.z b (hAb) hn.at_) hn hr <| fun s12 xs12 w12 hn hr => woE <| eoV (OutV.ok (dN hr) hn)
 have g11 : s.z = 6 := by simpa using h11
 exact have hr := hr.trans (run_if_pos g11); coSkip <| eoV (OutV.ok (dN hr) hn)
theorem m_shifted  {s : Ms} {xs : List Int} {w : World} {p B : Nat} (h : AtN w p B s xs) :
    Calls Tryz.prog 177 #[pT p 0] w (OutV w p B ((shiftedN s).run xs)) := by
 have hn := NowN.begin h
 have hr : (shiftedN s).run xs = (shiftedN s).run xs := rfl
 go_enter Tryz.func177, Tryz.ntmps177
 exact coStart <| nP 13 hn <| fun w2 hn => nD [0, 1, 2, 3, 4, 6] hn <| nDi 5 operand_state (m_operand hn.at_) hn hr <| fun v3 xs3 w3 hk3 hn hr => have b4 := f_byte hn.at_.ms; nDa 7 (m_f hn.at_) hn <| fun w5 hn => nDb 8 (do_any s.y v3 s.f (hk3) (b4) _ hn.at_.tabs.courses) hn <| fun w6 hn => nD [9, 10, 11, 12] hn <| poE <| nE hn <| coR <| nR 2 hn <| nA (m_setF (doF s.y v3 s.f) (doF_byte _ _ _ (b4)) hn.at_) hn <| fun w8 hn => wT <| coZ <| nR 2 hn <| nVt (m_result (doR s.y v3 s.f) (doR_byte _ _ _ (hk3)) hn.at_) hn hr <| fun s9 xs9 w9 hn hr => woE <| eoV (OutV.ok (dN hr) hn)
theorem m_tested  {s : Ms} {xs : List Int} {w : World} {p B : Nat} (h : AtN w p B s xs) :
    Calls Tryz.prog 178 #[pT p 0] w (OutV w p B ((testedN s).run xs)) := by
 have hn := NowN.begin h
 have hr : (testedN s).run xs = (testedN s).run xs := rfl
 go_enter Tryz.func178, Tryz.ntmps178
 refine coStart <| coR <| nR 1 hn <| nI (m_operand hn.at_) hn hr <| fun v2 s2 xs2 w2 hk2 hn hr => nE hn <| nQ hn <| coS <| coR <| nR 1 hn <| nA (m_inMemory hn.at_) hn <| fun w6 hn => wT <| coI (s2.inMem) (fun h7 => ?_) fun h7 => ?_
 · have g7 : s2.inMem = true := by simpa using h7
   exact have hr := hr.trans (run_if_pos g7); have b8 := hn.at_.ms.r.wz; coZ <| nR 5 hn <| kE (hi_any s2.r.wz (b8).1 (b8).2 _) <| nE hn <| nPz 10 hn <| fun w10 hn => have b11 := f_byte hn.at_.ms; nD [0, 1, 2, 3, 4, 5, 6, 7] hn <| nDa 8 (m_f hn.at_) hn <| fun w12 hn => nDe 9 (bit6_any s2.y v2 (s2.r.wz / 256) s2.f (hk2) ((b8).hi) (b11) _) hn <| poE <| nA (m_setF (bitF s2.y v2 (s2.r.wz / 256) s2.f) (bitF_byte _ _ _ _) hn.at_) hn <| fun w14 hn => woE <| eoV (OutV.ok (dN hr) hn)
 have g7 : ¬ s2.inMem = true := by simpa using h7
 exact have hr := hr.trans (run_if_neg g7); coSkip <| eoT <| nPz 10 hn <| fun w15 hn => have b16 := f_byte hn.at_.ms; nD [0, 1, 2, 3, 4, 5, 6, 7] hn <| nDa 8 (m_f hn.at_) hn <| fun w17 hn => nDe 9 (bit6_any s2.y v2 v2 s2.f (hk2) (hk2) (b16) _) hn <| poE <| nA (m_setF (bitF s2.y v2 v2 s2.f) (bitF_byte _ _ _ _) hn.at_) hn <| fun w19 hn => woE <| eoV (OutV.ok (dN hr) hn)
theorem m_cleared  {s : Ms} {xs : List Int} {w : World} {p B : Nat} (h : AtN w p B s xs) :
    Calls Tryz.prog 179 #[pT p 0] w (OutV w p B ((changedN false s).run xs)) := by
 have hn := NowN.begin h
 have hr : (changedN false s).run xs = (changedN false s).run xs := rfl
 go_enter Tryz.func179, Tryz.ntmps179
 exact coStart <| nPz 8 hn <| fun w1 hn => nD [0, 1, 3, 4, 5, 6] hn <| nDi 2 operand_state (m_operand hn.at_) hn hr <| fun v2 xs2 w2 hk2 hn hr => nDe 7 (with_any v2 s.y false (hk2).1 (hk2).2 _) hn <| poE <| nVt (m_result (withM v2 s.y false) (B8.with (hk2) _ _) hn.at_) hn hr <| fun s4 xs4 w4 hn hr => woE <| eoV (OutV.ok (dN hr) hn)
theorem m_raised  {s : Ms} {xs : List Int} {w : World} {p B : Nat} (h : AtN w p B s xs) :
    Calls Tryz.prog 180 #[pT p 0] w (OutV w p B ((changedN true s).run xs)) := by
 have hn := NowN.begin h
 have hr : (changedN true s).run xs = (changedN true s).run xs := rfl
 go_enter Tryz.func180, Tryz.ntmps180
 exact coStart <| nPz 8 hn <| fun w1 hn => nD [0, 1, 3, 4, 5, 6] hn <| nDi 2 operand_state (m_operand hn.at_) hn hr <| fun v2 xs2 w2 hk2 hn hr => nDe 7 (with_any v2 s.y true (hk2).1 (hk2).2 _) hn <| poE <| nVt (m_result (withM v2 s.y true) (B8.with (hk2) _ _) hn.at_) hn hr <| fun s4 xs4 w4 hn hr => woE <| eoV (OutV.ok (dN hr) hn)
theorem m_codeBehindCB  {s : Ms} {xs : List Int} {w : World} {p B : Nat} (h : AtN w p B s xs) :
    Calls Tryz.prog 176 #[pT p 0] w (OutI w p B .u8 ((codeCBN s).run xs)) := by
 have hn := NowN.begin h
 have hr : (codeCBN s).run xs = (codeCBN s).run xs := rfl
 go_enter Tryz.func176, Tryz.ntmps176
 refine coStart <| nQ hn <| coS <| nQ hn <| nIf hr (fun g4 hr => ?_) fun g4 hr => ?_
 · exact coR <| nR 1 hn <| nI (m_fetch hn.at_) hn hr <| fun v6 s6 xs6 w6 hk6 hn hr => nE hn <| coRet <| eoTr <| eoIr (.int .u8 (v6)) (OutI.ok (dN hr) (hk6) hn)
 exact coSkip <| eoT <| coR <| nR 1 hn <| nV (m_aim hn.at_) hn hr <| fun s8 xs8 w8 hn hr => wT <| coR <| nR 1 hn <| nI (m_number hn.at_) hn hr <| fun v10 s10 xs10 w10 hk10 hn hr => nE hn <| coR <| nR 1 hn <| nV (m_pause 2 hn.at_) hn hr <| fun s12 xs12 w12 hn hr => wT <| nQ hn <| coRet <| eoIr (.int .u8 (v10)) (OutI.ok (dN hr) (hk10) hn)
end Go.Proofs.YtkgaeamdhhceiaaGreatDoor
