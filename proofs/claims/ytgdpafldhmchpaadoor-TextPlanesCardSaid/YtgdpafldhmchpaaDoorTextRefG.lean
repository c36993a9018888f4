/- Layer 9 (text): the document's own: contract of Show. -/
import Derived.Test.YtgdpafldhmchpaaDoorTextRefD
import Derived.Test.YtgdpafldhmchpaaDoorTextRefE
import Derived.Test.YtgdpafldhmchpaaDoorTextRefF
import Derived.Test.YtgdpafldhmchpaaDoorTextRefH
import Derived.Test.YtgdpafldhmchpaaDoorTextShow
namespace Go.Proofs.YtgdpafldhmchpaaDoor
open Go.RowKit
set_option linter.unusedVariables false
set_option linter.unusedSimpArgs false

set_option maxHeartbeats 8000000 in
theorem rshowB1 (pl c d m le sk : Int) (hc : B8 c) (hd : B8 d) (h0 : 0 ≤ m) (h1 : m ≤ 65535) (hp : pl = 1) (w : World) :
    Calls Tryd.prog 8 #[opV pl c d m le sk] w fun e w' => e = .returned (.string (sy pl d m (rshowT pl c))) ∧ Below w.heap.size w w' := by
  have bx := fx_b c hc
  have bY := fy_b c hc
  have bz := fz_b c hc
  have bp := fp_b c hc
  have bq := fq_b c hc
  have KF := Lib.hid (fun W => rfields_any c hc W)
  subst hp
  have KB := Lib.hid (fun W => rbits_any 1 c d m le sk (fx c) (fy c) (fz c) hd bx bY bz W)
  have HE := Lib.hid (show rshowT 1 c = bitsT 1 (fx c) (fy c) (fz c) from rfl)
  clear hc hd h0 h1 bx bY bz bp bq
  go_enter Tryd.func8, Tryd.ntmps8
  go_upto_region 1 with fail
  have r0 := Row.new w 24 #[.int .i64 1, .int .u8 c, .int .u8 d, .int .u16 m, .int .i64 le, .int .i64 sk]
  have HB0 := Lib.hid ((Below.refl _ w).alloc (Nat.le_refl _) (.cells #[.int .i64 1, .int .u8 c, .int .u8 d, .int .u16 m, .int .i64 le, .int .i64 sk] 24))
  have hs := row6c r0
  have hsz := r0.lt
  clear r0
  generalize w.alloc (.cells #[.int .i64 1, .int .u8 c, .int .u8 d, .int .u16 m, .int .i64 le, .int .i64 sk] 24) = W0 at *
  obtain ⟨o0, o1, o2, o3, o4, o5⟩ := hs
  go_wp2_with (first
    | (go_at_call 18; refine (KF.out _).mono ?_; rintro e w' ⟨rfl, rfl⟩)
    | (go_at_call 19; refine (KB.out _).mono ?_; rintro e w' ⟨rfl, hb⟩; have hsz := hb.size))
  go_ret
  refine ⟨ret_bs ?_, HB0.out.trans (hb.mono HB0.out.size)⟩
  rw [HE.out]
set_option maxHeartbeats 8000000 in
theorem rshowB5 (pl c d m le sk : Int) (hc : B8 c) (hd : B8 d) (h0 : 0 ≤ m) (h1 : m ≤ 65535) (hp : pl = 5) (w : World) :
    Calls Tryd.prog 8 #[opV pl c d m le sk] w fun e w' => e = .returned (.string (sy pl d m (rshowT pl c))) ∧ Below w.heap.size w w' := by
  have bx := fx_b c hc
  have bY := fy_b c hc
  have bz := fz_b c hc
  have bp := fp_b c hc
  have bq := fq_b c hc
  have KF := Lib.hid (fun W => rfields_any c hc W)
  subst hp
  have KB := Lib.hid (fun W => rbits_any 5 c d m le sk (fx c) (fy c) (fz c) hd bx bY bz W)
  have HE := Lib.hid (show rshowT 5 c = bitsT 5 (fx c) (fy c) (fz c) from rfl)
  clear hc hd h0 h1 bx bY bz bp bq
  go_enter Tryd.func8, Tryd.ntmps8
  go_upto_region 1 with fail
  have r0 := Row.new w 24 #[.int .i64 5, .int .u8 c, .int .u8 d, .int .u16 m, .int .i64 le, .int .i64 sk]
  have HB0 := Lib.hid ((Below.refl _ w).alloc (Nat.le_refl _) (.cells #[.int .i64 5, .int .u8 c, .int .u8 d, .int .u16 m, .int .i64 le, .int .i64 sk] 24))
  have hs := row6c r0
  have hsz := r0.lt
  clear r0
  generalize w.alloc (.cells #[.int .i64 5, .int .u8 c, .int .u8 d, .int .u16 m, .int .i64 le, .int .i64 sk] 24) = W0 at *
  obtain ⟨o0, o1, o2, o3, o4, o5⟩ := hs
  go_wp2_with (first
    | (go_at_call 18; refine (KF.out _).mono ?_; rintro e w' ⟨rfl, rfl⟩)
    | (go_at_call 19; refine (KB.out _).mono ?_; rintro e w' ⟨rfl, hb⟩; have hsz := hb.size))
  go_ret
  refine ⟨ret_bs ?_, HB0.out.trans (hb.mono HB0.out.size)⟩
  rw [HE.out]
set_option maxHeartbeats 8000000 in
theorem rshowB6 (pl c d m le sk : Int) (hc : B8 c) (hd : B8 d) (h0 : 0 ≤ m) (h1 : m ≤ 65535) (hp : pl = 6) (w : World) :
    Calls Tryd.prog 8 #[opV pl c d m le sk] w fun e w' => e = .returned (.string (sy pl d m (rshowT pl c))) ∧ Below w.heap.size w w' := by
  have bx := fx_b c hc
  have bY := fy_b c hc
  have bz := fz_b c hc
  have bp := fp_b c hc
  have bq := fq_b c hc
  have KF := Lib.hid (fun W => rfields_any c hc W)
  subst hp
  have KB := Lib.hid (fun W => rbits_any 6 c d m le sk (fx c) (fy c) (fz c) hd bx bY bz W)
  have HE := Lib.hid (show rshowT 6 c = bitsT 6 (fx c) (fy c) (fz c) from rfl)
  clear hc hd h0 h1 bx bY bz bp bq
  go_enter Tryd.func8, Tryd.ntmps8
  go_upto_region 1 with fail
  have r0 := Row.new w 24 #[.int .i64 6, .int .u8 c, .int .u8 d, .int .u16 m, .int .i64 le, .int .i64 sk]
  have HB0 := Lib.hid ((Below.refl _ w).alloc (Nat.le_refl _) (.cells #[.int .i64 6, .int .u8 c, .int .u8 d, .int .u16 m, .int .i64 le, .int .i64 sk] 24))
  have hs := row6c r0
  have hsz := r0.lt
  clear r0
  generalize w.alloc (.cells #[.int .i64 6, .int .u8 c, .int .u8 d, .int .u16 m, .int .i64 le, .int .i64 sk] 24) = W0 at *
  obtain ⟨o0, o1, o2, o3, o4, o5⟩ := hs
  go_wp2_with (first
    | (go_at_call 18; refine (KF.out _).mono ?_; rintro e w' ⟨rfl, rfl⟩)
    | (go_at_call 19; refine (KB.out _).mono ?_; rintro e w' ⟨rfl, hb⟩; have hsz := hb.size))
  go_ret
  refine ⟨ret_bs ?_, HB0.out.trans (hb.mono HB0.out.size)⟩
  rw [HE.out]
set_option maxHeartbeats 8000000 in
theorem rshowE (pl c d m le sk : Int) (hc : B8 c) (hd : B8 d) (h0 : 0 ≤ m) (h1 : m ≤ 65535) (hp : pl = 2) (w : World) :
    Calls Tryd.prog 8 #[opV pl c d m le sk] w fun e w' => e = .returned (.string (sy pl d m (rshowT pl c))) ∧ Below w.heap.size w w' := by
  have bx := fx_b c hc
  have bY := fy_b c hc
  have bz := fz_b c hc
  have bp := fp_b c hc
  have bq := fq_b c hc
  have KF := Lib.hid (fun W => rfields_any c hc W)
  subst hp
  have KB := Lib.hid (fun W => red_any 2 c d m le sk (fx c) (fy c) (fz c) (fp c) (fq c) h0 h1 bx bY bz bp bq W)
  have HE := Lib.hid (show rshowT 2 c = edT (fx c) (fy c) (fz c) (fp c) (fq c) from rfl)
  clear hc hd h0 h1 bx bY bz bp bq
  go_enter Tryd.func8, Tryd.ntmps8
  go_upto_region 1 with fail
  have r0 := Row.new w 24 #[.int .i64 2, .int .u8 c, .int .u8 d, .int .u16 m, .int .i64 le, .int .i64 sk]
  have HB0 := Lib.hid ((Below.refl _ w).alloc (Nat.le_refl _) (.cells #[.int .i64 2, .int .u8 c, .int .u8 d, .int .u16 m, .int .i64 le, .int .i64 sk] 24))
  have hs := row6c r0
  have hsz := r0.lt
  clear r0
  generalize w.alloc (.cells #[.int .i64 2, .int .u8 c, .int .u8 d, .int .u16 m, .int .i64 le, .int .i64 sk] 24) = W0 at *
  obtain ⟨o0, o1, o2, o3, o4, o5⟩ := hs
  go_wp2_with (first
    | (go_at_call 18; refine (KF.out _).mono ?_; rintro e w' ⟨rfl, rfl⟩)
    | (go_at_call 20; refine (KB.out _).mono ?_; rintro e w' ⟨rfl, hb⟩; have hsz := hb.size))
  go_ret
  refine ⟨ret_bs ?_, HB0.out.trans (hb.mono HB0.out.size)⟩
  rw [HE.out]
set_option maxHeartbeats 8000000 in
theorem rshowQ (pl c d m le sk : Int) (hc : B8 c) (hd : B8 d) (h0 : 0 ≤ m) (h1 : m ≤ 65535) (hp : pl < 0 ∨ 6 < pl) (w : World) :
    Calls Tryd.prog 8 #[opV pl c d m le sk] w fun e w' => e = .returned (.string (sy pl d m (rshowT pl c))) ∧ Below w.heap.size w w' := by
  have bx := fx_b c hc
  have bY := fy_b c hc
  have bz := fz_b c hc
  have bp := fp_b c hc
  have bq := fq_b c hc
  have KF := Lib.hid (fun W => rfields_any c hc W)
  obtain ⟨n0, n1, n2, n3, n4, n5, n6⟩ := plane_no pl hp
  have HE : rshowT pl c = [63] := by unfold rshowT; rw [if_neg (by omega), if_neg (by omega), if_neg (by omega)]
  have HE0 := HE
  clear HE
  have HE := Lib.hid HE0
  clear hc hd h0 h1 bx bY bz bp bq HE0 hp
  go_enter Tryd.func8, Tryd.ntmps8
  go_upto_region 1 with fail
  have r0 := Row.new w 24 #[.int .i64 pl, .int .u8 c, .int .u8 d, .int .u16 m, .int .i64 le, .int .i64 sk]
  have HB0 := Lib.hid ((Below.refl _ w).alloc (Nat.le_refl _) (.cells #[.int .i64 pl, .int .u8 c, .int .u8 d, .int .u16 m, .int .i64 le, .int .i64 sk] 24))
  have hs := row6c r0
  have hsz := r0.lt
  clear r0
  generalize w.alloc (.cells #[.int .i64 pl, .int .u8 c, .int .u8 d, .int .u16 m, .int .i64 le, .int .i64 sk] 24) = W0 at *
  obtain ⟨o0, o1, o2, o3, o4, o5⟩ := hs
  go_wp2_with (first
    | (go_at_call 18; refine (KF.out _).mono ?_; rintro e w' ⟨rfl, rfl⟩))
  go_ret
  refine ⟨ret_bs ?_, HB0.out⟩
  rw [HE.out]
  rfl
set_option maxHeartbeats 8000000 in
theorem rshowZ0 (pl c d m le sk : Int) (hc : B8 c) (hd : B8 d) (h0 : 0 ≤ m) (h1 : m ≤ 65535) (hp : pl = 0) (hx : fx c = 0) (w : World) :
    Calls Tryd.prog 8 #[opV pl c d m le sk] w fun e w' => e = .returned (.string (sy pl d m (rshowT pl c))) ∧ Below w.heap.size w w' := by
  have bx := fx_b c hc
  have bY := fy_b c hc
  have bz := fz_b c hc
  have bp := fp_b c hc
  have bq := fq_b c hc
  have KF := Lib.hid (fun W => rfields_any c hc W)
  subst hp
  have HE0 : rshowT 0 c = zeroT 0 (nearM 0 c) (fy c) (fz c) (fp c) (fq c) := by unfold rshowT; rw [if_neg (show ¬ ((0 : Int) = 1 ∨ (0 : Int) = 5 ∨ (0 : Int) = 6) by omega), if_neg (show ¬ (0 : Int) = 2 by omega), if_pos (show (0 : Int) = 0 ∨ (0 : Int) = 3 ∨ (0 : Int) = 4 by omega), if_pos hx]
  have HE := Lib.hid HE0
  clear HE0
  have KB := Lib.hid (fun W => rzero_any 0 c d m le sk (fy c) (fz c) (fp c) (fq c) hc hd h0 h1 bY bz bp bq W)
  have KF := KF.out
  rw [show five c = .tuple #[.int .i64 0, .int .i64 (fy c), .int .i64 (fz c), .int .i64 (fp c), .int .i64 (fq c)] by show (Value.tuple #[.int .i64 (fx c), .int .i64 (fy c), .int .i64 (fz c), .int .i64 (fp c), .int .i64 (fq c)]) = _; rw [hx]] at KF
  have KF := Lib.hid KF
  clear hc hd h0 h1 bx bY bz bp bq hx
  go_enter Tryd.func8, Tryd.ntmps8
  go_upto_region 1 with fail
  have r0 := Row.new w 24 #[.int .i64 0, .int .u8 c, .int .u8 d, .int .u16 m, .int .i64 le, .int .i64 sk]
  have HB0 := Lib.hid ((Below.refl _ w).alloc (Nat.le_refl _) (.cells #[.int .i64 0, .int .u8 c, .int .u8 d, .int .u16 m, .int .i64 le, .int .i64 sk] 24))
  have hs := row6c r0
  have hsz := r0.lt
  clear r0
  generalize w.alloc (.cells #[.int .i64 0, .int .u8 c, .int .u8 d, .int .u16 m, .int .i64 le, .int .i64 sk] 24) = W0 at *
  obtain ⟨o0, o1, o2, o3, o4, o5⟩ := hs
  go_wp2_with (first
    | (go_at_call 18; refine (KF.out _).mono ?_; rintro e w' ⟨rfl, rfl⟩)
    | (go_at_call 21; refine (KB.out _).mono ?_; rintro e w' ⟨rfl, hb⟩; have hsz := hb.size))
  go_ret
  refine ⟨ret_bs ?_, HB0.out.trans (hb.mono HB0.out.size)⟩
  rw [HE.out]
set_option maxHeartbeats 8000000 in
theorem rshowT0 (pl c d m le sk : Int) (hc : B8 c) (hd : B8 d) (h0 : 0 ≤ m) (h1 : m ≤ 65535) (hp : pl = 0) (hx : fx c = 3) (w : World) :
    Calls Tryd.prog 8 #[opV pl c d m le sk] w fun e w' => e = .returned (.string (sy pl d m (rshowT pl c))) ∧ Below w.heap.size w w' := by
  have bx := fx_b c hc
  have bY := fy_b c hc
  have bz := fz_b c hc
  have bp := fp_b c hc
  have bq := fq_b c hc
  have KF := Lib.hid (fun W => rfields_any c hc W)
  subst hp
  have HE0 : rshowT 0 c = threeT 0 (fy c) (fz c) (fp c) (fq c) := by unfold rshowT; rw [if_neg (show ¬ ((0 : Int) = 1 ∨ (0 : Int) = 5 ∨ (0 : Int) = 6) by omega), if_neg (show ¬ (0 : Int) = 2 by omega), if_pos (show (0 : Int) = 0 ∨ (0 : Int) = 3 ∨ (0 : Int) = 4 by omega), if_neg (by omega), if_neg (by omega), if_neg (by omega)]
  have HE := Lib.hid HE0
  clear HE0
  have KB := Lib.hid (fun W => rthree_any 0 c d m le sk (fy c) (fz c) (fp c) (fq c) h0 h1 bY bz bp bq W)
  have KF := KF.out
  rw [show five c = .tuple #[.int .i64 3, .int .i64 (fy c), .int .i64 (fz c), .int .i64 (fp c), .int .i64 (fq c)] by show (Value.tuple #[.int .i64 (fx c), .int .i64 (fy c), .int .i64 (fz c), .int .i64 (fp c), .int .i64 (fq c)]) = _; rw [hx]] at KF
  have KF := Lib.hid KF
  clear hc hd h0 h1 bx bY bz bp bq hx
  go_enter Tryd.func8, Tryd.ntmps8
  go_upto_region 1 with fail
  have r0 := Row.new w 24 #[.int .i64 0, .int .u8 c, .int .u8 d, .int .u16 m, .int .i64 le, .int .i64 sk]
  have HB0 := Lib.hid ((Below.refl _ w).alloc (Nat.le_refl _) (.cells #[.int .i64 0, .int .u8 c, .int .u8 d, .int .u16 m, .int .i64 le, .int .i64 sk] 24))
  have hs := row6c r0
  have hsz := r0.lt
  clear r0
  generalize w.alloc (.cells #[.int .i64 0, .int .u8 c, .int .u8 d, .int .u16 m, .int .i64 le, .int .i64 sk] 24) = W0 at *
  obtain ⟨o0, o1, o2, o3, o4, o5⟩ := hs
  go_wp2_with (first
    | (go_at_call 18; refine (KF.out _).mono ?_; rintro e w' ⟨rfl, rfl⟩)
    | (go_at_call 24; refine (KB.out _).mono ?_; rintro e w' ⟨rfl, hb⟩; have hsz := hb.size))
  go_ret
  refine ⟨ret_bs ?_, HB0.out.trans (hb.mono HB0.out.size)⟩
  rw [HE.out]
set_option maxHeartbeats 8000000 in
theorem rshowS0 (pl c d m le sk : Int) (hc : B8 c) (hd : B8 d) (h0 : 0 ≤ m) (h1 : m ≤ 65535) (hp : pl = 0) (hx : fx c = 2) (w : World) :
    Calls Tryd.prog 8 #[opV pl c d m le sk] w fun e w' => e = .returned (.string (sy pl d m (rshowT pl c))) ∧ Below w.heap.size w w' := by
  have bx := fx_b c hc
  have bY := fy_b c hc
  have bz := fz_b c hc
  have bp := fp_b c hc
  have bq := fq_b c hc
  have KF := Lib.hid (fun W => rfields_any c hc W)
  subst hp
  have HE0 : rshowT 0 c = pick sumN (fy c) ++ regT 0 (nearM 0 c) (fz c) := by unfold rshowT; rw [if_neg (show ¬ ((0 : Int) = 1 ∨ (0 : Int) = 5 ∨ (0 : Int) = 6) by omega), if_neg (show ¬ (0 : Int) = 2 by omega), if_pos (show (0 : Int) = 0 ∨ (0 : Int) = 3 ∨ (0 : Int) = 4 by omega), if_neg (by omega), if_neg (by omega), if_pos hx]
  have HE := Lib.hid HE0
  clear HE0
  have kr := fun W => rreg_any 0 c d m le sk (fz c) hc hd bz W
  have zR := sy_size 0 d m (regT 0 (nearM 0 c) (fz c))
  have lR := regT_le 0 (nearM 0 c) (fz c)
  have zR2 : (sy 0 d m (regT 0 (nearM 0 c) (fz c))).size ≤ 100 := by omega
  clear zR lR
  generalize hRR : sy 0 d m (regT 0 (nearM 0 c) (fz c)) = RR at *
  have HR := Lib.hid hRR
  have KR := Lib.hid kr
  have kc := fun W => rsums_any (fy c) bY W
  have zC := pick_size sumN (by decide) (fy c)
  have hCC := pick_sy 0 d m sumN (by decide) (fy c)
  generalize sb (pick sumN (fy c)) = RC at *
  have KC := Lib.hid kc
  have HC := Lib.hid hCC
  clear kr hRR kc hCC
  have KF := KF.out
  rw [show five c = .tuple #[.int .i64 2, .int .i64 (fy c), .int .i64 (fz c), .int .i64 (fp c), .int .i64 (fq c)] by show (Value.tuple #[.int .i64 (fx c), .int .i64 (fy c), .int .i64 (fz c), .int .i64 (fp c), .int .i64 (fq c)]) = _; rw [hx]] at KF
  have KF := Lib.hid KF
  clear hc hd h0 h1 bx bz bp bq hx
  have y0 : 0 ≤ fy c := bY.1
  have y1 : fy c < 8 := by omega
  clear bY
  go_enter Tryd.func8, Tryd.ntmps8
  go_upto_region 1 with fail
  have r0 := Row.new w 24 #[.int .i64 0, .int .u8 c, .int .u8 d, .int .u16 m, .int .i64 le, .int .i64 sk]
  have HB0 := Lib.hid ((Below.refl _ w).alloc (Nat.le_refl _) (.cells #[.int .i64 0, .int .u8 c, .int .u8 d, .int .u16 m, .int .i64 le, .int .i64 sk] 24))
  have hs := row6c r0
  have hsz := r0.lt
  clear r0
  generalize w.alloc (.cells #[.int .i64 0, .int .u8 c, .int .u8 d, .int .u16 m, .int .i64 le, .int .i64 sk] 24) = W0 at *
  have b0 : ¬ 9223372036854775807 < RC.size + RR.size := by omega
  have ho1 := hs.2.1
  have ho0 := hs.1
  go_wp2_with (first
    | (go_at_call 18; refine (KF.out _).mono ?_; rintro e w' ⟨rfl, rfl⟩))
  go_region_with (first
    | (go_at_call 23; refine (KC.out _).mono ?_; rintro e w6 ⟨rfl, hcell, hb⟩; (try simp only [World.size_drew] at hcell); have hb5 := (Below.drew (Below.refl _ W0)).trans hb; have hs6 := keep6r hb5 hs; have HB6 := Lib.hid (HB0.out.trans (hb5.mono HB0.out.size)))
    | (go_at_call 22; refine (KR.out _).mono ?_; rintro e w7 ⟨rfl, hb⟩; have HB7 := Lib.hid (HB6.out.trans (hb.mono HB6.out.size)); have hcl := cell_kept hcell hb; have hs7 := keep6r hb hs6))
  all_goals go_wp2
  all_goals
    go_ret
    refine ⟨ret_bs ?_, HB7.out⟩
    rw [HE.out]
    simp only [← sy_app, HC.out, HR.out]
    all_goals rfl
set_option maxHeartbeats 8000000 in
theorem rshowH0 (pl c d m le sk : Int) (hc : B8 c) (hd : B8 d) (h0 : 0 ≤ m) (h1 : m ≤ 65535) (hp : pl = 0) (hx : fx c = 1) (hy : fy c = 6) (hz : fz c = 6) (w : World) :
    Calls Tryd.prog 8 #[opV pl c d m le sk] w fun e w' => e = .returned (.string (sy pl d m (rshowT pl c))) ∧ Below w.heap.size w w' := by
  have bx := fx_b c hc
  have bY := fy_b c hc
  have bz := fz_b c hc
  have bp := fp_b c hc
  have bq := fq_b c hc
  have KF := Lib.hid (fun W => rfields_any c hc W)
  subst hp
  have HE0 : rshowT 0 c = [104, 97, 108, 116] := by unfold rshowT; rw [if_neg (show ¬ ((0 : Int) = 1 ∨ (0 : Int) = 5 ∨ (0 : Int) = 6) by omega), if_neg (show ¬ (0 : Int) = 2 by omega), if_pos (show (0 : Int) = 0 ∨ (0 : Int) = 3 ∨ (0 : Int) = 4 by omega), if_neg (by omega), if_pos hx, if_pos ⟨hy, hz⟩]
  have HE := Lib.hid HE0
  clear HE0
  have KF := KF.out
  rw [show five c = .tuple #[.int .i64 1, .int .i64 6, .int .i64 6, .int .i64 (fp c), .int .i64 (fq c)] by show (Value.tuple #[.int .i64 (fx c), .int .i64 (fy c), .int .i64 (fz c), .int .i64 (fp c), .int .i64 (fq c)]) = _; rw [hx, hy, hz]] at KF
  have KF := Lib.hid KF
  clear hc hd h0 h1 bx bY bz bp bq hx hy hz
  go_enter Tryd.func8, Tryd.ntmps8
  go_upto_region 1 with fail
  have r0 := Row.new w 24 #[.int .i64 0, .int .u8 c, .int .u8 d, .int .u16 m, .int .i64 le, .int .i64 sk]
  have HB0 := Lib.hid ((Below.refl _ w).alloc (Nat.le_refl _) (.cells #[.int .i64 0, .int .u8 c, .int .u8 d, .int .u16 m, .int .i64 le, .int .i64 sk] 24))
  have hs := row6c r0
  have hsz := r0.lt
  clear r0
  generalize w.alloc (.cells #[.int .i64 0, .int .u8 c, .int .u8 d, .int .u16 m, .int .i64 le, .int .i64 sk] 24) = W0 at *
  obtain ⟨o0, o1, o2, o3, o4, o5⟩ := hs
  go_wp2_with (first
    | (go_at_call 18; refine (KF.out _).mono ?_; rintro e w' ⟨rfl, rfl⟩))
  go_ret
  refine ⟨ret_bs ?_, HB0.out⟩
  rw [HE.out]
  rfl
set_option maxHeartbeats 8000000 in
theorem rshowL0 (pl c d m le sk : Int) (hc : B8 c) (hd : B8 d) (h0 : 0 ≤ m) (h1 : m ≤ 65535) (hp : pl = 0) (hx : fx c = 1) (hy : fy c ≠ 6) (w : World) :
    Calls Tryd.prog 8 #[opV pl c d m le sk] w fun e w' => e = .returned (.string (sy pl d m (rshowT pl c))) ∧ Below w.heap.size w w' := by
  have bx := fx_b c hc
  have bY := fy_b c hc
  have bz := fz_b c hc
  have bp := fp_b c hc
  have bq := fq_b c hc
  have KF := Lib.hid (fun W => rfields_any c hc W)
  subst hp
  have HE0 : rshowT 0 c = [108, 100, 32] ++ regT 0 (nearM 0 c) (fy c) ++ [44] ++ regT 0 (nearM 0 c) (fz c) := by unfold rshowT; rw [if_neg (show ¬ ((0 : Int) = 1 ∨ (0 : Int) = 5 ∨ (0 : Int) = 6) by omega), if_neg (show ¬ (0 : Int) = 2 by omega), if_pos (show (0 : Int) = 0 ∨ (0 : Int) = 3 ∨ (0 : Int) = 4 by omega), if_neg (by omega), if_pos hx, if_neg (by omega)]
  have HE := Lib.hid HE0
  clear HE0
  have kr := fun W => rreg_any 0 c d m le sk (fz c) hc hd bz W
  have zR := sy_size 0 d m (regT 0 (nearM 0 c) (fz c))
  have lR := regT_le 0 (nearM 0 c) (fz c)
  have zR2 : (sy 0 d m (regT 0 (nearM 0 c) (fz c))).size ≤ 100 := by omega
  have ks := fun W => rreg_any 0 c d m le sk (fy c) hc hd (by omega) W
  have zS := sy_size 0 d m (regT 0 (nearM 0 c) (fy c))
  have lS := regT_le 0 (nearM 0 c) (fy c)
  have zS2 : (sy 0 d m (regT 0 (nearM 0 c) (fy c))).size ≤ 100 := by omega
  clear zR lR zS lS
  generalize hRR : sy 0 d m (regT 0 (nearM 0 c) (fz c)) = RR at *
  generalize hRS : sy 0 d m (regT 0 (nearM 0 c) (fy c)) = RS at *
  have HR := Lib.hid hRR
  have HS := Lib.hid hRS
  have KR := Lib.hid kr
  have KS := Lib.hid ks
  clear kr hRR ks hRS
  have KF := KF.out
  rw [show five c = .tuple #[.int .i64 1, .int .i64 (fy c), .int .i64 (fz c), .int .i64 (fp c), .int .i64 (fq c)] by show (Value.tuple #[.int .i64 (fx c), .int .i64 (fy c), .int .i64 (fz c), .int .i64 (fp c), .int .i64 (fq c)]) = _; rw [hx]] at KF
  have KF := Lib.hid KF
  have hyb : (fy c == 6) = false := by simpa using hy
  clear hy
  clear hc hd h0 h1 bx bY bz bp bq hx 
  go_enter Tryd.func8, Tryd.ntmps8
  go_upto_region 1 with fail
  have r0 := Row.new w 24 #[.int .i64 0, .int .u8 c, .int .u8 d, .int .u16 m, .int .i64 le, .int .i64 sk]
  have HB0 := Lib.hid ((Below.refl _ w).alloc (Nat.le_refl _) (.cells #[.int .i64 0, .int .u8 c, .int .u8 d, .int .u16 m, .int .i64 le, .int .i64 sk] 24))
  have hs := row6c r0
  have hsz := r0.lt
  clear r0
  generalize w.alloc (.cells #[.int .i64 0, .int .u8 c, .int .u8 d, .int .u16 m, .int .i64 le, .int .i64 sk] 24) = W0 at *
  have b0 : ¬ 9223372036854775807 < 3 + RS.size := by omega
  have b1 : ¬ 9223372036854775807 < 3 + RS.size + 1 := by omega
  have b2 : ¬ 9223372036854775807 < 3 + RS.size + 1 + RR.size := by omega
  have ho1 := hs.2.1
  have ho0 := hs.1
  go_wp2_with (first
    | (go_at_call 18; refine (KF.out _).mono ?_; rintro e w' ⟨rfl, rfl⟩))
  go_region_held3 (fun w' => w'.cell? ⟨w.heap.size, 0, none⟩ = some (.int .i64 0) ∧ w'.cell? ⟨w.heap.size, 1, none⟩ = some (.int .u8 c) ∧ w'.cell? ⟨w.heap.size, 2, none⟩ = some (.int .u8 d) ∧ w'.cell? ⟨w.heap.size, 3, none⟩ = some (.int .u16 m) ∧ w'.cell? ⟨w.heap.size, 4, none⟩ = some (.int .i64 le) ∧ w'.cell? ⟨w.heap.size, 5, none⟩ = some (.int .i64 sk)) (first | with_reducible assumption | exact hs | with_reducible exact keep6r hb (by with_reducible assumption))
    (first
    | ((with_reducible (go_at_call 22; refine (KS.out _).mono ?_)); rintro e w3 ⟨rfl, hb⟩; have HB3 := Lib.hid (HB0.out.trans ((Below.drew (Below.refl _ W0)).trans hb |>.mono HB0.out.size)))
    | ((with_reducible (go_at_call 22; refine (KR.out _).mono ?_)); rintro e w4 ⟨rfl, hb⟩; have HB4 := Lib.hid (HB3.out.trans (hb.mono HB3.out.size))))
  go_wp2
  go_ret
  refine ⟨ret_bs ?_, HB4.out⟩
  rw [HE.out]
  simp only [← sy_app, HS.out, HR.out]
  all_goals rfl
set_option maxHeartbeats 8000000 in
theorem rshowM0 (pl c d m le sk : Int) (hc : B8 c) (hd : B8 d) (h0 : 0 ≤ m) (h1 : m ≤ 65535) (hp : pl = 0) (hx : fx c = 1) (hy : fy c = 6) (hz : fz c ≠ 6) (w : World) :
    Calls Tryd.prog 8 #[opV pl c d m le sk] w fun e w' => e = .returned (.string (sy pl d m (rshowT pl c))) ∧ Below w.heap.size w w' := by
  have bx := fx_b c hc
  have bY := fy_b c hc
  have bz := fz_b c hc
  have bp := fp_b c hc
  have bq := fq_b c hc
  have KF := Lib.hid (fun W => rfields_any c hc W)
  subst hp
  have HE0 : rshowT 0 c = [108, 100, 32] ++ regT 0 (nearM 0 c) 6 ++ [44] ++ regT 0 (nearM 0 c) (fz c) := by unfold rshowT; rw [if_neg (show ¬ ((0 : Int) = 1 ∨ (0 : Int) = 5 ∨ (0 : Int) = 6) by omega), if_neg (show ¬ (0 : Int) = 2 by omega), if_pos (show (0 : Int) = 0 ∨ (0 : Int) = 3 ∨ (0 : Int) = 4 by omega), if_neg (by omega), if_pos hx, if_neg (by omega), hy]
  have HE := Lib.hid HE0
  clear HE0
  have kr := fun W => rreg_any 0 c d m le sk (fz c) hc hd bz W
  have zR := sy_size 0 d m (regT 0 (nearM 0 c) (fz c))
  have lR := regT_le 0 (nearM 0 c) (fz c)
  have zR2 : (sy 0 d m (regT 0 (nearM 0 c) (fz c))).size ≤ 100 := by omega
  have ks := fun W => rreg_any 0 c d m le sk 6 hc hd (by omega) W
  have zS := sy_size 0 d m (regT 0 (nearM 0 c) 6)
  have lS := regT_le 0 (nearM 0 c) 6
  have zS2 : (sy 0 d m (regT 0 (nearM 0 c) 6)).size ≤ 100 := by omega
  clear zR lR zS lS
  generalize hRR : sy 0 d m (regT 0 (nearM 0 c) (fz c)) = RR at *
  generalize hRS : sy 0 d m (regT 0 (nearM 0 c) 6) = RS at *
  have HR := Lib.hid hRR
  have HS := Lib.hid hRS
  have KR := Lib.hid kr
  have KS := Lib.hid ks
  clear kr hRR ks hRS
  have KF := KF.out
  rw [show five c = .tuple #[.int .i64 1, .int .i64 6, .int .i64 (fz c), .int .i64 (fp c), .int .i64 (fq c)] by show (Value.tuple #[.int .i64 (fx c), .int .i64 (fy c), .int .i64 (fz c), .int .i64 (fp c), .int .i64 (fq c)]) = _; rw [hx, hy]] at KF
  have KF := Lib.hid KF
  have hzb : (fz c == 6) = false := by simpa using hz
  clear hz
  clear hc hd h0 h1 bx bY bz bp bq hx hy 
  go_enter Tryd.func8, Tryd.ntmps8
  go_upto_region 1 with fail
  have r0 := Row.new w 24 #[.int .i64 0, .int .u8 c, .int .u8 d, .int .u16 m, .int .i64 le, .int .i64 sk]
  have HB0 := Lib.hid ((Below.refl _ w).alloc (Nat.le_refl _) (.cells #[.int .i64 0, .int .u8 c, .int .u8 d, .int .u16 m, .int .i64 le, .int .i64 sk] 24))
  have hs := row6c r0
  have hsz := r0.lt
  clear r0
  generalize w.alloc (.cells #[.int .i64 0, .int .u8 c, .int .u8 d, .int .u16 m, .int .i64 le, .int .i64 sk] 24) = W0 at *
  have b0 : ¬ 9223372036854775807 < 3 + RS.size := by omega
  have b1 : ¬ 9223372036854775807 < 3 + RS.size + 1 := by omega
  have b2 : ¬ 9223372036854775807 < 3 + RS.size + 1 + RR.size := by omega
  have ho1 := hs.2.1
  have ho0 := hs.1
  go_wp2_with (first
    | (go_at_call 18; refine (KF.out _).mono ?_; rintro e w' ⟨rfl, rfl⟩))
  go_region_held3 (fun w' => w'.cell? ⟨w.heap.size, 0, none⟩ = some (.int .i64 0) ∧ w'.cell? ⟨w.heap.size, 1, none⟩ = some (.int .u8 c) ∧ w'.cell? ⟨w.heap.size, 2, none⟩ = some (.int .u8 d) ∧ w'.cell? ⟨w.heap.size, 3, none⟩ = some (.int .u16 m) ∧ w'.cell? ⟨w.heap.size, 4, none⟩ = some (.int .i64 le) ∧ w'.cell? ⟨w.heap.size, 5, none⟩ = some (.int .i64 sk)) (first | with_reducible assumption | exact hs | with_reducible exact keep6r hb (by with_reducible assumption))
    (first
    | ((with_reducible (go_at_call 22; refine (KS.out _).mono ?_)); rintro e w3 ⟨rfl, hb⟩; have HB3 := Lib.hid (HB0.out.trans ((Below.drew (Below.refl _ W0)).trans hb |>.mono HB0.out.size)))
    | ((with_reducible (go_at_call 22; refine (KR.out _).mono ?_)); rintro e w4 ⟨rfl, hb⟩; have HB4 := Lib.hid (HB3.out.trans (hb.mono HB3.out.size))))
  go_wp2
  go_ret
  refine ⟨ret_bs ?_, HB4.out⟩
  rw [HE.out]
  simp only [← sy_app, HS.out, HR.out]
  all_goals rfl
set_option maxHeartbeats 8000000 in
theorem rshowZ3 (pl c d m le sk : Int) (hc : B8 c) (hd : B8 d) (h0 : 0 ≤ m) (h1 : m ≤ 65535) (hp : pl = 3) (hx : fx c = 0) (w : World) :
    Calls Tryd.prog 8 #[opV pl c d m le sk] w fun e w' => e = .returned (.string (sy pl d m (rshowT pl c))) ∧ Below w.heap.size w w' := by
  have bx := fx_b c hc
  have bY := fy_b c hc
  have bz := fz_b c hc
  have bp := fp_b c hc
  have bq := fq_b c hc
  have KF := Lib.hid (fun W => rfields_any c hc W)
  subst hp
  have HE0 : rshowT 3 c = zeroT 3 (nearM 3 c) (fy c) (fz c) (fp c) (fq c) := by unfold rshowT; rw [if_neg (show ¬ ((3 : Int) = 1 ∨ (3 : Int) = 5 ∨ (3 : Int) = 6) by omega), if_neg (show ¬ (3 : Int) = 2 by omega), if_pos (show (3 : Int) = 0 ∨ (3 : Int) = 3 ∨ (3 : Int) = 4 by omega), if_pos hx]
  have HE := Lib.hid HE0
  clear HE0
  have KB := Lib.hid (fun W => rzero_any 3 c d m le sk (fy c) (fz c) (fp c) (fq c) hc hd h0 h1 bY bz bp bq W)
  have KF := KF.out
  rw [show five c = .tuple #[.int .i64 0, .int .i64 (fy c), .int .i64 (fz c), .int .i64 (fp c), .int .i64 (fq c)] by show (Value.tuple #[.int .i64 (fx c), .int .i64 (fy c), .int .i64 (fz c), .int .i64 (fp c), .int .i64 (fq c)]) = _; rw [hx]] at KF
  have KF := Lib.hid KF
  clear hc hd h0 h1 bx bY bz bp bq hx
  go_enter Tryd.func8, Tryd.ntmps8
  go_upto_region 1 with fail
  have r0 := Row.new w 24 #[.int .i64 3, .int .u8 c, .int .u8 d, .int .u16 m, .int .i64 le, .int .i64 sk]
  have HB0 := Lib.hid ((Below.refl _ w).alloc (Nat.le_refl _) (.cells #[.int .i64 3, .int .u8 c, .int .u8 d, .int .u16 m, .int .i64 le, .int .i64 sk] 24))
  have hs := row6c r0
  have hsz := r0.lt
  clear r0
  generalize w.alloc (.cells #[.int .i64 3, .int .u8 c, .int .u8 d, .int .u16 m, .int .i64 le, .int .i64 sk] 24) = W0 at *
  obtain ⟨o0, o1, o2, o3, o4, o5⟩ := hs
  go_wp2_with (first
    | (go_at_call 18; refine (KF.out _).mono ?_; rintro e w' ⟨rfl, rfl⟩)
    | (go_at_call 21; refine (KB.out _).mono ?_; rintro e w' ⟨rfl, hb⟩; have hsz := hb.size))
  go_ret
  refine ⟨ret_bs ?_, HB0.out.trans (hb.mono HB0.out.size)⟩
  rw [HE.out]
set_option maxHeartbeats 8000000 in
theorem rshowT3 (pl c d m le sk : Int) (hc : B8 c) (hd : B8 d) (h0 : 0 ≤ m) (h1 : m ≤ 65535) (hp : pl = 3) (hx : fx c = 3) (w : World) :
    Calls Tryd.prog 8 #[opV pl c d m le sk] w fun e w' => e = .returned (.string (sy pl d m (rshowT pl c))) ∧ Below w.heap.size w w' := by
  have bx := fx_b c hc
  have bY := fy_b c hc
  have bz := fz_b c hc
  have bp := fp_b c hc
  have bq := fq_b c hc
  have KF := Lib.hid (fun W => rfields_any c hc W)
  subst hp
  have HE0 : rshowT 3 c = threeT 3 (fy c) (fz c) (fp c) (fq c) := by unfold rshowT; rw [if_neg (show ¬ ((3 : Int) = 1 ∨ (3 : Int) = 5 ∨ (3 : Int) = 6) by omega), if_neg (show ¬ (3 : Int) = 2 by omega), if_pos (show (3 : Int) = 0 ∨ (3 : Int) = 3 ∨ (3 : Int) = 4 by omega), if_neg (by omega), if_neg (by omega), if_neg (by omega)]
  have HE := Lib.hid HE0
  clear HE0
  have KB := Lib.hid (fun W => rthree_any 3 c d m le sk (fy c) (fz c) (fp c) (fq c) h0 h1 bY bz bp bq W)
  have KF := KF.out
  rw [show five c = .tuple #[.int .i64 3, .int .i64 (fy c), .int .i64 (fz c), .int .i64 (fp c), .int .i64 (fq c)] by show (Value.tuple #[.int .i64 (fx c), .int .i64 (fy c), .int .i64 (fz c), .int .i64 (fp c), .int .i64 (fq c)]) = _; rw [hx]] at KF
  have KF := Lib.hid KF
  clear hc hd h0 h1 bx bY bz bp bq hx
  go_enter Tryd.func8, Tryd.ntmps8
  go_upto_region 1 with fail
  have r0 := Row.new w 24 #[.int .i64 3, .int .u8 c, .int .u8 d, .int .u16 m, .int .i64 le, .int .i64 sk]
  have HB0 := Lib.hid ((Below.refl _ w).alloc (Nat.le_refl _) (.cells #[.int .i64 3, .int .u8 c, .int .u8 d, .int .u16 m, .int .i64 le, .int .i64 sk] 24))
  have hs := row6c r0
  have hsz := r0.lt
  clear r0
  generalize w.alloc (.cells #[.int .i64 3, .int .u8 c, .int .u8 d, .int .u16 m, .int .i64 le, .int .i64 sk] 24) = W0 at *
  obtain ⟨o0, o1, o2, o3, o4, o5⟩ := hs
  go_wp2_with (first
    | (go_at_call 18; refine (KF.out _).mono ?_; rintro e w' ⟨rfl, rfl⟩)
    | (go_at_call 24; refine (KB.out _).mono ?_; rintro e w' ⟨rfl, hb⟩; have hsz := hb.size))
  go_ret
  refine ⟨ret_bs ?_, HB0.out.trans (hb.mono HB0.out.size)⟩
  rw [HE.out]
set_option maxHeartbeats 8000000 in
theorem rshowS3 (pl c d m le sk : Int) (hc : B8 c) (hd : B8 d) (h0 : 0 ≤ m) (h1 : m ≤ 65535) (hp : pl = 3) (hx : fx c = 2) (w : World) :
    Calls Tryd.prog 8 #[opV pl c d m le sk] w fun e w' => e = .returned (.string (sy pl d m (rshowT pl c))) ∧ Below w.heap.size w w' := by
  have bx := fx_b c hc
  have bY := fy_b c hc
  have bz := fz_b c hc
  have bp := fp_b c hc
  have bq := fq_b c hc
  have KF := Lib.hid (fun W => rfields_any c hc W)
  subst hp
  have HE0 : rshowT 3 c = pick sumN (fy c) ++ regT 3 (nearM 3 c) (fz c) := by unfold rshowT; rw [if_neg (show ¬ ((3 : Int) = 1 ∨ (3 : Int) = 5 ∨ (3 : Int) = 6) by omega), if_neg (show ¬ (3 : Int) = 2 by omega), if_pos (show (3 : Int) = 0 ∨ (3 : Int) = 3 ∨ (3 : Int) = 4 by omega), if_neg (by omega), if_neg (by omega), if_pos hx]
  have HE := Lib.hid HE0
  clear HE0
  have kr := fun W => rreg_any 3 c d m le sk (fz c) hc hd bz W
  have zR := sy_size 3 d m (regT 3 (nearM 3 c) (fz c))
  have lR := regT_le 3 (nearM 3 c) (fz c)
  have zR2 : (sy 3 d m (regT 3 (nearM 3 c) (fz c))).size ≤ 100 := by omega
  clear zR lR
  generalize hRR : sy 3 d m (regT 3 (nearM 3 c) (fz c)) = RR at *
  have HR := Lib.hid hRR
  have KR := Lib.hid kr
  have kc := fun W => rsums_any (fy c) bY W
  have zC := pick_size sumN (by decide) (fy c)
  have hCC := pick_sy 3 d m sumN (by decide) (fy c)
  generalize sb (pick sumN (fy c)) = RC at *
  have KC := Lib.hid kc
  have HC := Lib.hid hCC
  clear kr hRR kc hCC
  have KF := KF.out
  rw [show five c = .tuple #[.int .i64 2, .int .i64 (fy c), .int .i64 (fz c), .int .i64 (fp c), .int .i64 (fq c)] by show (Value.tuple #[.int .i64 (fx c), .int .i64 (fy c), .int .i64 (fz c), .int .i64 (fp c), .int .i64 (fq c)]) = _; rw [hx]] at KF
  have KF := Lib.hid KF
  clear hc hd h0 h1 bx bz bp bq hx
  have y0 : 0 ≤ fy c := bY.1
  have y1 : fy c < 8 := by omega
  clear bY
  go_enter Tryd.func8, Tryd.ntmps8
  go_upto_region 1 with fail
  have r0 := Row.new w 24 #[.int .i64 3, .int .u8 c, .int .u8 d, .int .u16 m, .int .i64 le, .int .i64 sk]
  have HB0 := Lib.hid ((Below.refl _ w).alloc (Nat.le_refl _) (.cells #[.int .i64 3, .int .u8 c, .int .u8 d, .int .u16 m, .int .i64 le, .int .i64 sk] 24))
  have hs := row6c r0
  have hsz := r0.lt
  clear r0
  generalize w.alloc (.cells #[.int .i64 3, .int .u8 c, .int .u8 d, .int .u16 m, .int .i64 le, .int .i64 sk] 24) = W0 at *
  have b0 : ¬ 9223372036854775807 < RC.size + RR.size := by omega
  have ho1 := hs.2.1
  have ho0 := hs.1
  go_wp2_with (first
    | (go_at_call 18; refine (KF.out _).mono ?_; rintro e w' ⟨rfl, rfl⟩))
  go_region_with (first
    | (go_at_call 23; refine (KC.out _).mono ?_; rintro e w6 ⟨rfl, hcell, hb⟩; (try simp only [World.size_drew] at hcell); have hb5 := (Below.drew (Below.refl _ W0)).trans hb; have hs6 := keep6r hb5 hs; have HB6 := Lib.hid (HB0.out.trans (hb5.mono HB0.out.size)))
    | (go_at_call 22; refine (KR.out _).mono ?_; rintro e w7 ⟨rfl, hb⟩; have HB7 := Lib.hid (HB6.out.trans (hb.mono HB6.out.size)); have hcl := cell_kept hcell hb; have hs7 := keep6r hb hs6))
  all_goals go_wp2
  all_goals
    go_ret
    refine ⟨ret_bs ?_, HB7.out⟩
    rw [HE.out]
    simp only [← sy_app, HC.out, HR.out]
    all_goals rfl
set_option maxHeartbeats 8000000 in
theorem rshowH3 (pl c d m le sk : Int) (hc : B8 c) (hd : B8 d) (h0 : 0 ≤ m) (h1 : m ≤ 65535) (hp : pl = 3) (hx : fx c = 1) (hy : fy c = 6) (hz : fz c = 6) (w : World) :
    Calls Tryd.prog 8 #[opV pl c d m le sk] w fun e w' => e = .returned (.string (sy pl d m (rshowT pl c))) ∧ Below w.heap.size w w' := by
  have bx := fx_b c hc
  have bY := fy_b c hc
  have bz := fz_b c hc
  have bp := fp_b c hc
  have bq := fq_b c hc
  have KF := Lib.hid (fun W => rfields_any c hc W)
  subst hp
  have HE0 : rshowT 3 c = [104, 97, 108, 116] := by unfold rshowT; rw [if_neg (show ¬ ((3 : Int) = 1 ∨ (3 : Int) = 5 ∨ (3 : Int) = 6) by omega), if_neg (show ¬ (3 : Int) = 2 by omega), if_pos (show (3 : Int) = 0 ∨ (3 : Int) = 3 ∨ (3 : Int) = 4 by omega), if_neg (by omega), if_pos hx, if_pos ⟨hy, hz⟩]
  have HE := Lib.hid HE0
  clear HE0
  have KF := KF.out
  rw [show five c = .tuple #[.int .i64 1, .int .i64 6, .int .i64 6, .int .i64 (fp c), .int .i64 (fq c)] by show (Value.tuple #[.int .i64 (fx c), .int .i64 (fy c), .int .i64 (fz c), .int .i64 (fp c), .int .i64 (fq c)]) = _; rw [hx, hy, hz]] at KF
  have KF := Lib.hid KF
  clear hc hd h0 h1 bx bY bz bp bq hx hy hz
  go_enter Tryd.func8, Tryd.ntmps8
  go_upto_region 1 with fail
  have r0 := Row.new w 24 #[.int .i64 3, .int .u8 c, .int .u8 d, .int .u16 m, .int .i64 le, .int .i64 sk]
  have HB0 := Lib.hid ((Below.refl _ w).alloc (Nat.le_refl _) (.cells #[.int .i64 3, .int .u8 c, .int .u8 d, .int .u16 m, .int .i64 le, .int .i64 sk] 24))
  have hs := row6c r0
  have hsz := r0.lt
  clear r0
  generalize w.alloc (.cells #[.int .i64 3, .int .u8 c, .int .u8 d, .int .u16 m, .int .i64 le, .int .i64 sk] 24) = W0 at *
  obtain ⟨o0, o1, o2, o3, o4, o5⟩ := hs
  go_wp2_with (first
    | (go_at_call 18; refine (KF.out _).mono ?_; rintro e w' ⟨rfl, rfl⟩))
  go_ret
  refine ⟨ret_bs ?_, HB0.out⟩
  rw [HE.out]
  rfl
set_option maxHeartbeats 8000000 in
theorem rshowL3 (pl c d m le sk : Int) (hc : B8 c) (hd : B8 d) (h0 : 0 ≤ m) (h1 : m ≤ 65535) (hp : pl = 3) (hx : fx c = 1) (hy : fy c ≠ 6) (w : World) :
    Calls Tryd.prog 8 #[opV pl c d m le sk] w fun e w' => e = .returned (.string (sy pl d m (rshowT pl c))) ∧ Below w.heap.size w w' := by
  have bx := fx_b c hc
  have bY := fy_b c hc
  have bz := fz_b c hc
  have bp := fp_b c hc
  have bq := fq_b c hc
  have KF := Lib.hid (fun W => rfields_any c hc W)
  subst hp
  have HE0 : rshowT 3 c = [108, 100, 32] ++ regT 3 (nearM 3 c) (fy c) ++ [44] ++ regT 3 (nearM 3 c) (fz c) := by unfold rshowT; rw [if_neg (show ¬ ((3 : Int) = 1 ∨ (3 : Int) = 5 ∨ (3 : Int) = 6) by omega), if_neg (show ¬ (3 : Int) = 2 by omega), if_pos (show (3 : Int) = 0 ∨ (3 : Int) = 3 ∨ (3 : Int) = 4 by omega), if_neg (by omega), if_pos hx, if_neg (by omega)]
  have HE := Lib.hid HE0
  clear HE0
  have kr := fun W => rreg_any 3 c d m le sk (fz c) hc hd bz W
  have zR := sy_size 3 d m (regT 3 (nearM 3 c) (fz c))
  have lR := regT_le 3 (nearM 3 c) (fz c)
  have zR2 : (sy 3 d m (regT 3 (nearM 3 c) (fz c))).size ≤ 100 := by omega
  have ks := fun W => rreg_any 3 c d m le sk (fy c) hc hd (by omega) W
  have zS := sy_size 3 d m (regT 3 (nearM 3 c) (fy c))
  have lS := regT_le 3 (nearM 3 c) (fy c)
  have zS2 : (sy 3 d m (regT 3 (nearM 3 c) (fy c))).size ≤ 100 := by omega
  clear zR lR zS lS
  generalize hRR : sy 3 d m (regT 3 (nearM 3 c) (fz c)) = RR at *
  generalize hRS : sy 3 d m (regT 3 (nearM 3 c) (fy c)) = RS at *
  have HR := Lib.hid hRR
  have HS := Lib.hid hRS
  have KR := Lib.hid kr
  have KS := Lib.hid ks
  clear kr hRR ks hRS
  have KF := KF.out
  rw [show five c = .tuple #[.int .i64 1, .int .i64 (fy c), .int .i64 (fz c), .int .i64 (fp c), .int .i64 (fq c)] by show (Value.tuple #[.int .i64 (fx c), .int .i64 (fy c), .int .i64 (fz c), .int .i64 (fp c), .int .i64 (fq c)]) = _; rw [hx]] at KF
  have KF := Lib.hid KF
  have hyb : (fy c == 6) = false := by simpa using hy
  clear hy
  clear hc hd h0 h1 bx bY bz bp bq hx 
  go_enter Tryd.func8, Tryd.ntmps8
  go_upto_region 1 with fail
  have r0 := Row.new w 24 #[.int .i64 3, .int .u8 c, .int .u8 d, .int .u16 m, .int .i64 le, .int .i64 sk]
  have HB0 := Lib.hid ((Below.refl _ w).alloc (Nat.le_refl _) (.cells #[.int .i64 3, .int .u8 c, .int .u8 d, .int .u16 m, .int .i64 le, .int .i64 sk] 24))
  have hs := row6c r0
  have hsz := r0.lt
  clear r0
  generalize w.alloc (.cells #[.int .i64 3, .int .u8 c, .int .u8 d, .int .u16 m, .int .i64 le, .int .i64 sk] 24) = W0 at *
  have b0 : ¬ 9223372036854775807 < 3 + RS.size := by omega
  have b1 : ¬ 9223372036854775807 < 3 + RS.size + 1 := by omega
  have b2 : ¬ 9223372036854775807 < 3 + RS.size + 1 + RR.size := by omega
  have ho1 := hs.2.1
  have ho0 := hs.1
  go_wp2_with (first
    | (go_at_call 18; refine (KF.out _).mono ?_; rintro e w' ⟨rfl, rfl⟩))
  go_region_held3 (fun w' => w'.cell? ⟨w.heap.size, 0, none⟩ = some (.int .i64 3) ∧ w'.cell? ⟨w.heap.size, 1, none⟩ = some (.int .u8 c) ∧ w'.cell? ⟨w.heap.size, 2, none⟩ = some (.int .u8 d) ∧ w'.cell? ⟨w.heap.size, 3, none⟩ = some (.int .u16 m) ∧ w'.cell? ⟨w.heap.size, 4, none⟩ = some (.int .i64 le) ∧ w'.cell? ⟨w.heap.size, 5, none⟩ = some (.int .i64 sk)) (first | with_reducible assumption | exact hs | with_reducible exact keep6r hb (by with_reducible assumption))
    (first
    | ((with_reducible (go_at_call 22; refine (KS.out _).mono ?_)); rintro e w3 ⟨rfl, hb⟩; have HB3 := Lib.hid (HB0.out.trans ((Below.drew (Below.refl _ W0)).trans hb |>.mono HB0.out.size)))
    | ((with_reducible (go_at_call 22; refine (KR.out _).mono ?_)); rintro e w4 ⟨rfl, hb⟩; have HB4 := Lib.hid (HB3.out.trans (hb.mono HB3.out.size))))
  go_wp2
  go_ret
  refine ⟨ret_bs ?_, HB4.out⟩
  rw [HE.out]
  simp only [← sy_app, HS.out, HR.out]
  all_goals rfl
set_option maxHeartbeats 8000000 in
theorem rshowM3 (pl c d m le sk : Int) (hc : B8 c) (hd : B8 d) (h0 : 0 ≤ m) (h1 : m ≤ 65535) (hp : pl = 3) (hx : fx c = 1) (hy : fy c = 6) (hz : fz c ≠ 6) (w : World) :
    Calls Tryd.prog 8 #[opV pl c d m le sk] w fun e w' => e = .returned (.string (sy pl d m (rshowT pl c))) ∧ Below w.heap.size w w' := by
  have bx := fx_b c hc
  have bY := fy_b c hc
  have bz := fz_b c hc
  have bp := fp_b c hc
  have bq := fq_b c hc
  have KF := Lib.hid (fun W => rfields_any c hc W)
  subst hp
  have HE0 : rshowT 3 c = [108, 100, 32] ++ regT 3 (nearM 3 c) 6 ++ [44] ++ regT 3 (nearM 3 c) (fz c) := by unfold rshowT; rw [if_neg (show ¬ ((3 : Int) = 1 ∨ (3 : Int) = 5 ∨ (3 : Int) = 6) by omega), if_neg (show ¬ (3 : Int) = 2 by omega), if_pos (show (3 : Int) = 0 ∨ (3 : Int) = 3 ∨ (3 : Int) = 4 by omega), if_neg (by omega), if_pos hx, if_neg (by omega), hy]
  have HE := Lib.hid HE0
  clear HE0
  have kr := fun W => rreg_any 3 c d m le sk (fz c) hc hd bz W
  have zR := sy_size 3 d m (regT 3 (nearM 3 c) (fz c))
  have lR := regT_le 3 (nearM 3 c) (fz c)
  have zR2 : (sy 3 d m (regT 3 (nearM 3 c) (fz c))).size ≤ 100 := by omega
  have ks := fun W => rreg_any 3 c d m le sk 6 hc hd (by omega) W
  have zS := sy_size 3 d m (regT 3 (nearM 3 c) 6)
  have lS := regT_le 3 (nearM 3 c) 6
  have zS2 : (sy 3 d m (regT 3 (nearM 3 c) 6)).size ≤ 100 := by omega
  clear zR lR zS lS
  generalize hRR : sy 3 d m (regT 3 (nearM 3 c) (fz c)) = RR at *
  generalize hRS : sy 3 d m (regT 3 (nearM 3 c) 6) = RS at *
  have HR := Lib.hid hRR
  have HS := Lib.hid hRS
  have KR := Lib.hid kr
  have KS := Lib.hid ks
  clear kr hRR ks hRS
  have KF := KF.out
  rw [show five c = .tuple #[.int .i64 1, .int .i64 6, .int .i64 (fz c), .int .i64 (fp c), .int .i64 (fq c)] by show (Value.tuple #[.int .i64 (fx c), .int .i64 (fy c), .int .i64 (fz c), .int .i64 (fp c), .int .i64 (fq c)]) = _; rw [hx, hy]] at KF
  have KF := Lib.hid KF
  have hzb : (fz c == 6) = false := by simpa using hz
  clear hz
  clear hc hd h0 h1 bx bY bz bp bq hx hy 
  go_enter Tryd.func8, Tryd.ntmps8
  go_upto_region 1 with fail
  have r0 := Row.new w 24 #[.int .i64 3, .int .u8 c, .int .u8 d, .int .u16 m, .int .i64 le, .int .i64 sk]
  have HB0 := Lib.hid ((Below.refl _ w).alloc (Nat.le_refl _) (.cells #[.int .i64 3, .int .u8 c, .int .u8 d, .int .u16 m, .int .i64 le, .int .i64 sk] 24))
  have hs := row6c r0
  have hsz := r0.lt
  clear r0
  generalize w.alloc (.cells #[.int .i64 3, .int .u8 c, .int .u8 d, .int .u16 m, .int .i64 le, .int .i64 sk] 24) = W0 at *
  have b0 : ¬ 9223372036854775807 < 3 + RS.size := by omega
  have b1 : ¬ 9223372036854775807 < 3 + RS.size + 1 := by omega
  have b2 : ¬ 9223372036854775807 < 3 + RS.size + 1 + RR.size := by omega
  have ho1 := hs.2.1
  have ho0 := hs.1
  go_wp2_with (first
    | (go_at_call 18; refine (KF.out _).mono ?_; rintro e w' ⟨rfl, rfl⟩))
  go_region_held3 (fun w' => w'.cell? ⟨w.heap.size, 0, none⟩ = some (.int .i64 3) ∧ w'.cell? ⟨w.heap.size, 1, none⟩ = some (.int .u8 c) ∧ w'.cell? ⟨w.heap.size, 2, none⟩ = some (.int .u8 d) ∧ w'.cell? ⟨w.heap.size, 3, none⟩ = some (.int .u16 m) ∧ w'.cell? ⟨w.heap.size, 4, none⟩ = some (.int .i64 le) ∧ w'.cell? ⟨w.heap.size, 5, none⟩ = some (.int .i64 sk)) (first | with_reducible assumption | exact hs | with_reducible exact keep6r hb (by with_reducible assumption))
    (first
    | ((with_reducible (go_at_call 22; refine (KS.out _).mono ?_)); rintro e w3 ⟨rfl, hb⟩; have HB3 := Lib.hid (HB0.out.trans ((Below.drew (Below.refl _ W0)).trans hb |>.mono HB0.out.size)))
    | ((with_reducible (go_at_call 22; refine (KR.out _).mono ?_)); rintro e w4 ⟨rfl, hb⟩; have HB4 := Lib.hid (HB3.out.trans (hb.mono HB3.out.size))))
  go_wp2
  go_ret
  refine ⟨ret_bs ?_, HB4.out⟩
  rw [HE.out]
  simp only [← sy_app, HS.out, HR.out]
  all_goals rfl
set_option maxHeartbeats 8000000 in
theorem rshowZ4 (pl c d m le sk : Int) (hc : B8 c) (hd : B8 d) (h0 : 0 ≤ m) (h1 : m ≤ 65535) (hp : pl = 4) (hx : fx c = 0) (w : World) :
    Calls Tryd.prog 8 #[opV pl c d m le sk] w fun e w' => e = .returned (.string (sy pl d m (rshowT pl c))) ∧ Below w.heap.size w w' := by
  have bx := fx_b c hc
  have bY := fy_b c hc
  have bz := fz_b c hc
  have bp := fp_b c hc
  have bq := fq_b c hc
  have KF := Lib.hid (fun W => rfields_any c hc W)
  subst hp
  have HE0 : rshowT 4 c = zeroT 4 (nearM 4 c) (fy c) (fz c) (fp c) (fq c) := by unfold rshowT; rw [if_neg (show ¬ ((4 : Int) = 1 ∨ (4 : Int) = 5 ∨ (4 : Int) = 6) by omega), if_neg (show ¬ (4 : Int) = 2 by omega), if_pos (show (4 : Int) = 0 ∨ (4 : Int) = 3 ∨ (4 : Int) = 4 by omega), if_pos hx]
  have HE := Lib.hid HE0
  clear HE0
  have KB := Lib.hid (fun W => rzero_any 4 c d m le sk (fy c) (fz c) (fp c) (fq c) hc hd h0 h1 bY bz bp bq W)
  have KF := KF.out
  rw [show five c = .tuple #[.int .i64 0, .int .i64 (fy c), .int .i64 (fz c), .int .i64 (fp c), .int .i64 (fq c)] by show (Value.tuple #[.int .i64 (fx c), .int .i64 (fy c), .int .i64 (fz c), .int .i64 (fp c), .int .i64 (fq c)]) = _; rw [hx]] at KF
  have KF := Lib.hid KF
  clear hc hd h0 h1 bx bY bz bp bq hx
  go_enter Tryd.func8, Tryd.ntmps8
  go_upto_region 1 with fail
  have r0 := Row.new w 24 #[.int .i64 4, .int .u8 c, .int .u8 d, .int .u16 m, .int .i64 le, .int .i64 sk]
  have HB0 := Lib.hid ((Below.refl _ w).alloc (Nat.le_refl _) (.cells #[.int .i64 4, .int .u8 c, .int .u8 d, .int .u16 m, .int .i64 le, .int .i64 sk] 24))
  have hs := row6c r0
  have hsz := r0.lt
  clear r0
  generalize w.alloc (.cells #[.int .i64 4, .int .u8 c, .int .u8 d, .int .u16 m, .int .i64 le, .int .i64 sk] 24) = W0 at *
  obtain ⟨o0, o1, o2, o3, o4, o5⟩ := hs
  go_wp2_with (first
    | (go_at_call 18; refine (KF.out _).mono ?_; rintro e w' ⟨rfl, rfl⟩)
    | (go_at_call 21; refine (KB.out _).mono ?_; rintro e w' ⟨rfl, hb⟩; have hsz := hb.size))
  go_ret
  refine ⟨ret_bs ?_, HB0.out.trans (hb.mono HB0.out.size)⟩
  rw [HE.out]
set_option maxHeartbeats 8000000 in
theorem rshowT4 (pl c d m le sk : Int) (hc : B8 c) (hd : B8 d) (h0 : 0 ≤ m) (h1 : m ≤ 65535) (hp : pl = 4) (hx : fx c = 3) (w : World) :
    Calls Tryd.prog 8 #[opV pl c d m le sk] w fun e w' => e = .returned (.string (sy pl d m (rshowT pl c))) ∧ Below w.heap.size w w' := by
  have bx := fx_b c hc
  have bY := fy_b c hc
  have bz := fz_b c hc
  have bp := fp_b c hc
  have bq := fq_b c hc
  have KF := Lib.hid (fun W => rfields_any c hc W)
  subst hp
  have HE0 : rshowT 4 c = threeT 4 (fy c) (fz c) (fp c) (fq c) := by unfold rshowT; rw [if_neg (show ¬ ((4 : Int) = 1 ∨ (4 : Int) = 5 ∨ (4 : Int) = 6) by omega), if_neg (show ¬ (4 : Int) = 2 by omega), if_pos (show (4 : Int) = 0 ∨ (4 : Int) = 3 ∨ (4 : Int) = 4 by omega), if_neg (by omega), if_neg (by omega), if_neg (by omega)]
  have HE := Lib.hid HE0
  clear HE0
  have KB := Lib.hid (fun W => rthree_any 4 c d m le sk (fy c) (fz c) (fp c) (fq c) h0 h1 bY bz bp bq W)
  have KF := KF.out
  rw [show five c = .tuple #[.int .i64 3, .int .i64 (fy c), .int .i64 (fz c), .int .i64 (fp c), .int .i64 (fq c)] by show (Value.tuple #[.int .i64 (fx c), .int .i64 (fy c), .int .i64 (fz c), .int .i64 (fp c), .int .i64 (fq c)]) = _; rw [hx]] at KF
  have KF := Lib.hid KF
  clear hc hd h0 h1 bx bY bz bp bq hx
  go_enter Tryd.func8, Tryd.ntmps8
  go_upto_region 1 with fail
  have r0 := Row.new w 24 #[.int .i64 4, .int .u8 c, .int .u8 d, .int .u16 m, .int .i64 le, .int .i64 sk]
  have HB0 := Lib.hid ((Below.refl _ w).alloc (Nat.le_refl _) (.cells #[.int .i64 4, .int .u8 c, .int .u8 d, .int .u16 m, .int .i64 le, .int .i64 sk] 24))
  have hs := row6c r0
  have hsz := r0.lt
  clear r0
  generalize w.alloc (.cells #[.int .i64 4, .int .u8 c, .int .u8 d, .int .u16 m, .int .i64 le, .int .i64 sk] 24) = W0 at *
  obtain ⟨o0, o1, o2, o3, o4, o5⟩ := hs
  go_wp2_with (first
    | (go_at_call 18; refine (KF.out _).mono ?_; rintro e w' ⟨rfl, rfl⟩)
    | (go_at_call 24; refine (KB.out _).mono ?_; rintro e w' ⟨rfl, hb⟩; have hsz := hb.size))
  go_ret
  refine ⟨ret_bs ?_, HB0.out.trans (hb.mono HB0.out.size)⟩
  rw [HE.out]
set_option maxHeartbeats 8000000 in
theorem rshowS4 (pl c d m le sk : Int) (hc : B8 c) (hd : B8 d) (h0 : 0 ≤ m) (h1 : m ≤ 65535) (hp : pl = 4) (hx : fx c = 2) (w : World) :
    Calls Tryd.prog 8 #[opV pl c d m le sk] w fun e w' => e = .returned (.string (sy pl d m (rshowT pl c))) ∧ Below w.heap.size w w' := by
  have bx := fx_b c hc
  have bY := fy_b c hc
  have bz := fz_b c hc
  have bp := fp_b c hc
  have bq := fq_b c hc
  have KF := Lib.hid (fun W => rfields_any c hc W)
  subst hp
  have HE0 : rshowT 4 c = pick sumN (fy c) ++ regT 4 (nearM 4 c) (fz c) := by unfold rshowT; rw [if_neg (show ¬ ((4 : Int) = 1 ∨ (4 : Int) = 5 ∨ (4 : Int) = 6) by omega), if_neg (show ¬ (4 : Int) = 2 by omega), if_pos (show (4 : Int) = 0 ∨ (4 : Int) = 3 ∨ (4 : Int) = 4 by omega), if_neg (by omega), if_neg (by omega), if_pos hx]
  have HE := Lib.hid HE0
  clear HE0
  have kr := fun W => rreg_any 4 c d m le sk (fz c) hc hd bz W
  have zR := sy_size 4 d m (regT 4 (nearM 4 c) (fz c))
  have lR := regT_le 4 (nearM 4 c) (fz c)
  have zR2 : (sy 4 d m (regT 4 (nearM 4 c) (fz c))).size ≤ 100 := by omega
  clear zR lR
  generalize hRR : sy 4 d m (regT 4 (nearM 4 c) (fz c)) = RR at *
  have HR := Lib.hid hRR
  have KR := Lib.hid kr
  have kc := fun W => rsums_any (fy c) bY W
  have zC := pick_size sumN (by decide) (fy c)
  have hCC := pick_sy 4 d m sumN (by decide) (fy c)
  generalize sb (pick sumN (fy c)) = RC at *
  have KC := Lib.hid kc
  have HC := Lib.hid hCC
  clear kr hRR kc hCC
  have KF := KF.out
  rw [show five c = .tuple #[.int .i64 2, .int .i64 (fy c), .int .i64 (fz c), .int .i64 (fp c), .int .i64 (fq c)] by show (Value.tuple #[.int .i64 (fx c), .int .i64 (fy c), .int .i64 (fz c), .int .i64 (fp c), .int .i64 (fq c)]) = _; rw [hx]] at KF
  have KF := Lib.hid KF
  clear hc hd h0 h1 bx bz bp bq hx
  have y0 : 0 ≤ fy c := bY.1
  have y1 : fy c < 8 := by omega
  clear bY
  go_enter Tryd.func8, Tryd.ntmps8
  go_upto_region 1 with fail
  have r0 := Row.new w 24 #[.int .i64 4, .int .u8 c, .int .u8 d, .int .u16 m, .int .i64 le, .int .i64 sk]
  have HB0 := Lib.hid ((Below.refl _ w).alloc (Nat.le_refl _) (.cells #[.int .i64 4, .int .u8 c, .int .u8 d, .int .u16 m, .int .i64 le, .int .i64 sk] 24))
  have hs := row6c r0
  have hsz := r0.lt
  clear r0
  generalize w.alloc (.cells #[.int .i64 4, .int .u8 c, .int .u8 d, .int .u16 m, .int .i64 le, .int .i64 sk] 24) = W0 at *
  have b0 : ¬ 9223372036854775807 < RC.size + RR.size := by omega
  have ho1 := hs.2.1
  have ho0 := hs.1
  go_wp2_with (first
    | (go_at_call 18; refine (KF.out _).mono ?_; rintro e w' ⟨rfl, rfl⟩))
  go_region_with (first
    | (go_at_call 23; refine (KC.out _).mono ?_; rintro e w6 ⟨rfl, hcell, hb⟩; (try simp only [World.size_drew] at hcell); have hb5 := (Below.drew (Below.refl _ W0)).trans hb; have hs6 := keep6r hb5 hs; have HB6 := Lib.hid (HB0.out.trans (hb5.mono HB0.out.size)))
    | (go_at_call 22; refine (KR.out _).mono ?_; rintro e w7 ⟨rfl, hb⟩; have HB7 := Lib.hid (HB6.out.trans (hb.mono HB6.out.size)); have hcl := cell_kept hcell hb; have hs7 := keep6r hb hs6))
  all_goals go_wp2
  all_goals
    go_ret
    refine ⟨ret_bs ?_, HB7.out⟩
    rw [HE.out]
    simp only [← sy_app, HC.out, HR.out]
    all_goals rfl
set_option maxHeartbeats 8000000 in
theorem rshowH4 (pl c d m le sk : Int) (hc : B8 c) (hd : B8 d) (h0 : 0 ≤ m) (h1 : m ≤ 65535) (hp : pl = 4) (hx : fx c = 1) (hy : fy c = 6) (hz : fz c = 6) (w : World) :
    Calls Tryd.prog 8 #[opV pl c d m le sk] w fun e w' => e = .returned (.string (sy pl d m (rshowT pl c))) ∧ Below w.heap.size w w' := by
  have bx := fx_b c hc
  have bY := fy_b c hc
  have bz := fz_b c hc
  have bp := fp_b c hc
  have bq := fq_b c hc
  have KF := Lib.hid (fun W => rfields_any c hc W)
  subst hp
  have HE0 : rshowT 4 c = [104, 97, 108, 116] := by unfold rshowT; rw [if_neg (show ¬ ((4 : Int) = 1 ∨ (4 : Int) = 5 ∨ (4 : Int) = 6) by omega), if_neg (show ¬ (4 : Int) = 2 by omega), if_pos (show (4 : Int) = 0 ∨ (4 : Int) = 3 ∨ (4 : Int) = 4 by omega), if_neg (by omega), if_pos hx, if_pos ⟨hy, hz⟩]
  have HE := Lib.hid HE0
  clear HE0
  have KF := KF.out
  rw [show five c = .tuple #[.int .i64 1, .int .i64 6, .int .i64 6, .int .i64 (fp c), .int .i64 (fq c)] by show (Value.tuple #[.int .i64 (fx c), .int .i64 (fy c), .int .i64 (fz c), .int .i64 (fp c), .int .i64 (fq c)]) = _; rw [hx, hy, hz]] at KF
  have KF := Lib.hid KF
  clear hc hd h0 h1 bx bY bz bp bq hx hy hz
  go_enter Tryd.func8, Tryd.ntmps8
  go_upto_region 1 with fail
  have r0 := Row.new w 24 #[.int .i64 4, .int .u8 c, .int .u8 d, .int .u16 m, .int .i64 le, .int .i64 sk]
  have HB0 := Lib.hid ((Below.refl _ w).alloc (Nat.le_refl _) (.cells #[.int .i64 4, .int .u8 c, .int .u8 d, .int .u16 m, .int .i64 le, .int .i64 sk] 24))
  have hs := row6c r0
  have hsz := r0.lt
  clear r0
  generalize w.alloc (.cells #[.int .i64 4, .int .u8 c, .int .u8 d, .int .u16 m, .int .i64 le, .int .i64 sk] 24) = W0 at *
  obtain ⟨o0, o1, o2, o3, o4, o5⟩ := hs
  go_wp2_with (first
    | (go_at_call 18; refine (KF.out _).mono ?_; rintro e w' ⟨rfl, rfl⟩))
  go_ret
  refine ⟨ret_bs ?_, HB0.out⟩
  rw [HE.out]
  rfl
set_option maxHeartbeats 8000000 in
theorem rshowL4 (pl c d m le sk : Int) (hc : B8 c) (hd : B8 d) (h0 : 0 ≤ m) (h1 : m ≤ 65535) (hp : pl = 4) (hx : fx c = 1) (hy : fy c ≠ 6) (w : World) :
    Calls Tryd.prog 8 #[opV pl c d m le sk] w fun e w' => e = .returned (.string (sy pl d m (rshowT pl c))) ∧ Below w.heap.size w w' := by
  have bx := fx_b c hc
  have bY := fy_b c hc
  have bz := fz_b c hc
  have bp := fp_b c hc
  have bq := fq_b c hc
  have KF := Lib.hid (fun W => rfields_any c hc W)
  subst hp
  have HE0 : rshowT 4 c = [108, 100, 32] ++ regT 4 (nearM 4 c) (fy c) ++ [44] ++ regT 4 (nearM 4 c) (fz c) := by unfold rshowT; rw [if_neg (show ¬ ((4 : Int) = 1 ∨ (4 : Int) = 5 ∨ (4 : Int) = 6) by omega), if_neg (show ¬ (4 : Int) = 2 by omega), if_pos (show (4 : Int) = 0 ∨ (4 : Int) = 3 ∨ (4 : Int) = 4 by omega), if_neg (by omega), if_pos hx, if_neg (by omega)]
  have HE := Lib.hid HE0
  clear HE0
  have kr := fun W => rreg_any 4 c d m le sk (fz c) hc hd bz W
  have zR := sy_size 4 d m (regT 4 (nearM 4 c) (fz c))
  have lR := regT_le 4 (nearM 4 c) (fz c)
  have zR2 : (sy 4 d m (regT 4 (nearM 4 c) (fz c))).size ≤ 100 := by omega
  have ks := fun W => rreg_any 4 c d m le sk (fy c) hc hd (by omega) W
  have zS := sy_size 4 d m (regT 4 (nearM 4 c) (fy c))
  have lS := regT_le 4 (nearM 4 c) (fy c)
  have zS2 : (sy 4 d m (regT 4 (nearM 4 c) (fy c))).size ≤ 100 := by omega
  clear zR lR zS lS
  generalize hRR : sy 4 d m (regT 4 (nearM 4 c) (fz c)) = RR at *
  generalize hRS : sy 4 d m (regT 4 (nearM 4 c) (fy c)) = RS at *
  have HR := Lib.hid hRR
  have HS := Lib.hid hRS
  have KR := Lib.hid kr
  have KS := Lib.hid ks
  clear kr hRR ks hRS
  have KF := KF.out
  rw [show five c = .tuple #[.int .i64 1, .int .i64 (fy c), .int .i64 (fz c), .int .i64 (fp c), .int .i64 (fq c)] by show (Value.tuple #[.int .i64 (fx c), .int .i64 (fy c), .int .i64 (fz c), .int .i64 (fp c), .int .i64 (fq c)]) = _; rw [hx]] at KF
  have KF := Lib.hid KF
  have hyb : (fy c == 6) = false := by simpa using hy
  clear hy
  clear hc hd h0 h1 bx bY bz bp bq hx 
  go_enter Tryd.func8, Tryd.ntmps8
  go_upto_region 1 with fail
  have r0 := Row.new w 24 #[.int .i64 4, .int .u8 c, .int .u8 d, .int .u16 m, .int .i64 le, .int .i64 sk]
  have HB0 := Lib.hid ((Below.refl _ w).alloc (Nat.le_refl _) (.cells #[.int .i64 4, .int .u8 c, .int .u8 d, .int .u16 m, .int .i64 le, .int .i64 sk] 24))
  have hs := row6c r0
  have hsz := r0.lt
  clear r0
  generalize w.alloc (.cells #[.int .i64 4, .int .u8 c, .int .u8 d, .int .u16 m, .int .i64 le, .int .i64 sk] 24) = W0 at *
  have b0 : ¬ 9223372036854775807 < 3 + RS.size := by omega
  have b1 : ¬ 9223372036854775807 < 3 + RS.size + 1 := by omega
  have b2 : ¬ 9223372036854775807 < 3 + RS.size + 1 + RR.size := by omega
  have ho1 := hs.2.1
  have ho0 := hs.1
  go_wp2_with (first
    | (go_at_call 18; refine (KF.out _).mono ?_; rintro e w' ⟨rfl, rfl⟩))
  go_region_held3 (fun w' => w'.cell? ⟨w.heap.size, 0, none⟩ = some (.int .i64 4) ∧ w'.cell? ⟨w.heap.size, 1, none⟩ = some (.int .u8 c) ∧ w'.cell? ⟨w.heap.size, 2, none⟩ = some (.int .u8 d) ∧ w'.cell? ⟨w.heap.size, 3, none⟩ = some (.int .u16 m) ∧ w'.cell? ⟨w.heap.size, 4, none⟩ = some (.int .i64 le) ∧ w'.cell? ⟨w.heap.size, 5, none⟩ = some (.int .i64 sk)) (first | with_reducible assumption | exact hs | with_reducible exact keep6r hb (by with_reducible assumption))
    (first
    | ((with_reducible (go_at_call 22; refine (KS.out _).mono ?_)); rintro e w3 ⟨rfl, hb⟩; have HB3 := Lib.hid (HB0.out.trans ((Below.drew (Below.refl _ W0)).trans hb |>.mono HB0.out.size)))
    | ((with_reducible (go_at_call 22; refine (KR.out _).mono ?_)); rintro e w4 ⟨rfl, hb⟩; have HB4 := Lib.hid (HB3.out.trans (hb.mono HB3.out.size))))
  go_wp2
  go_ret
  refine ⟨ret_bs ?_, HB4.out⟩
  rw [HE.out]
  simp only [← sy_app, HS.out, HR.out]
  all_goals rfl
set_option maxHeartbeats 8000000 in
theorem rshowM4 (pl c d m le sk : Int) (hc : B8 c) (hd : B8 d) (h0 : 0 ≤ m) (h1 : m ≤ 65535) (hp : pl = 4) (hx : fx c = 1) (hy : fy c = 6) (hz : fz c ≠ 6) (w : World) :
    Calls Tryd.prog 8 #[opV pl c d m le sk] w fun e w' => e = .returned (.string (sy pl d m (rshowT pl c))) ∧ Below w.heap.size w w' := by
  have bx := fx_b c hc
  have bY := fy_b c hc
  have bz := fz_b c hc
  have bp := fp_b c hc
  have bq := fq_b c hc
  have KF := Lib.hid (fun W => rfields_any c hc W)
  subst hp
  have HE0 : rshowT 4 c = [108, 100, 32] ++ regT 4 (nearM 4 c) 6 ++ [44] ++ regT 4 (nearM 4 c) (fz c) := by unfold rshowT; rw [if_neg (show ¬ ((4 : Int) = 1 ∨ (4 : Int) = 5 ∨ (4 : Int) = 6) by omega), if_neg (show ¬ (4 : Int) = 2 by omega), if_pos (show (4 : Int) = 0 ∨ (4 : Int) = 3 ∨ (4 : Int) = 4 by omega), if_neg (by omega), if_pos hx, if_neg (by omega), hy]
  have HE := Lib.hid HE0
  clear HE0
  have kr := fun W => rreg_any 4 c d m le sk (fz c) hc hd bz W
  have zR := sy_size 4 d m (regT 4 (nearM 4 c) (fz c))
  have lR := regT_le 4 (nearM 4 c) (fz c)
  have zR2 : (sy 4 d m (regT 4 (nearM 4 c) (fz c))).size ≤ 100 := by omega
  have ks := fun W => rreg_any 4 c d m le sk 6 hc hd (by omega) W
  have zS := sy_size 4 d m (regT 4 (nearM 4 c) 6)
  have lS := regT_le 4 (nearM 4 c) 6
  have zS2 : (sy 4 d m (regT 4 (nearM 4 c) 6)).size ≤ 100 := by omega
  clear zR lR zS lS
  generalize hRR : sy 4 d m (regT 4 (nearM 4 c) (fz c)) = RR at *
  generalize hRS : sy 4 d m (regT 4 (nearM 4 c) 6) = RS at *
  have HR := Lib.hid hRR
  have HS := Lib.hid hRS
  have KR := Lib.hid kr
  have KS := Lib.hid ks
  clear kr hRR ks hRS
  have KF := KF.out
  rw [show five c = .tuple #[.int .i64 1, .int .i64 6, .int .i64 (fz c), .int .i64 (fp c), .int .i64 (fq c)] by show (Value.tuple #[.int .i64 (fx c), .int .i64 (fy c), .int .i64 (fz c), .int .i64 (fp c), .int .i64 (fq c)]) = _; rw [hx, hy]] at KF
  have KF := Lib.hid KF
  have hzb : (fz c == 6) = false := by simpa using hz
  clear hz
  clear hc hd h0 h1 bx bY bz bp bq hx hy 
  go_enter Tryd.func8, Tryd.ntmps8
  go_upto_region 1 with fail
  have r0 := Row.new w 24 #[.int .i64 4, .int .u8 c, .int .u8 d, .int .u16 m, .int .i64 le, .int .i64 sk]
  have HB0 := Lib.hid ((Below.refl _ w).alloc (Nat.le_refl _) (.cells #[.int .i64 4, .int .u8 c, .int .u8 d, .int .u16 m, .int .i64 le, .int .i64 sk] 24))
  have hs := row6c r0
  have hsz := r0.lt
  clear r0
  generalize w.alloc (.cells #[.int .i64 4, .int .u8 c, .int .u8 d, .int .u16 m, .int .i64 le, .int .i64 sk] 24) = W0 at *
  have b0 : ¬ 9223372036854775807 < 3 + RS.size := by omega
  have b1 : ¬ 9223372036854775807 < 3 + RS.size + 1 := by omega
  have b2 : ¬ 9223372036854775807 < 3 + RS.size + 1 + RR.size := by omega
  have ho1 := hs.2.1
  have ho0 := hs.1
  go_wp2_with (first
    | (go_at_call 18; refine (KF.out _).mono ?_; rintro e w' ⟨rfl, rfl⟩))
  go_region_held3 (fun w' => w'.cell? ⟨w.heap.size, 0, none⟩ = some (.int .i64 4) ∧ w'.cell? ⟨w.heap.size, 1, none⟩ = some (.int .u8 c) ∧ w'.cell? ⟨w.heap.size, 2, none⟩ = some (.int .u8 d) ∧ w'.cell? ⟨w.heap.size, 3, none⟩ = some (.int .u16 m) ∧ w'.cell? ⟨w.heap.size, 4, none⟩ = some (.int .i64 le) ∧ w'.cell? ⟨w.heap.size, 5, none⟩ = some (.int .i64 sk)) (first | with_reducible assumption | exact hs | with_reducible exact keep6r hb (by with_reducible assumption))
    (first
    | ((with_reducible (go_at_call 22; refine (KS.out _).mono ?_)); rintro e w3 ⟨rfl, hb⟩; have HB3 := Lib.hid (HB0.out.trans ((Below.drew (Below.refl _ W0)).trans hb |>.mono HB0.out.size)))
    | ((with_reducible (go_at_call 22; refine (KR.out _).mono ?_)); rintro e w4 ⟨rfl, hb⟩; have HB4 := Lib.hid (HB3.out.trans (hb.mono HB3.out.size))))
  go_wp2
  go_ret
  refine ⟨ret_bs ?_, HB4.out⟩
  rw [HE.out]
  simp only [← sy_app, HS.out, HR.out]
  all_goals rfl
theorem rshow_any' (pl c d m le sk : Int) (hc : B8 c) (hd : B8 d) (h0 : 0 ≤ m) (h1 : m ≤ 65535) (w : World) :
    Calls Tryd.prog 8 #[opV pl c d m le sk] w fun e w' => e = .returned (.string (sy pl d m (rshowT pl c))) ∧ Below w.heap.size w w' := by
  have bx := fx_b c hc
  by_cases hq : pl < 0 ∨ 6 < pl
  · exact rshowQ pl c d m le sk hc hd h0 h1 hq w
  by_cases h1' : pl = 1
  · exact rshowB1 pl c d m le sk hc hd h0 h1 h1' w
  by_cases h5 : pl = 5
  · exact rshowB5 pl c d m le sk hc hd h0 h1 h5 w
  by_cases h6 : pl = 6
  · exact rshowB6 pl c d m le sk hc hd h0 h1 h6 w
  by_cases h2 : pl = 2
  · exact rshowE pl c d m le sk hc hd h0 h1 h2 w
  obtain h | h | h : pl = 0 ∨ pl = 3 ∨ pl = 4 := by omega
  · obtain hx | hx | hx | hx : fx c = 0 ∨ fx c = 1 ∨ fx c = 2 ∨ fx c = 3 := by omega
    · exact rshowZ0 pl c d m le sk hc hd h0 h1 h hx w
    · by_cases hy : fy c = 6
      · by_cases hz : fz c = 6
        · exact rshowH0 pl c d m le sk hc hd h0 h1 h hx hy hz w
        · exact rshowM0 pl c d m le sk hc hd h0 h1 h hx hy hz w
      · exact rshowL0 pl c d m le sk hc hd h0 h1 h hx hy w
    · exact rshowS0 pl c d m le sk hc hd h0 h1 h hx w
    · exact rshowT0 pl c d m le sk hc hd h0 h1 h hx w
  · obtain hx | hx | hx | hx : fx c = 0 ∨ fx c = 1 ∨ fx c = 2 ∨ fx c = 3 := by omega
    · exact rshowZ3 pl c d m le sk hc hd h0 h1 h hx w
    · by_cases hy : fy c = 6
      · by_cases hz : fz c = 6
        · exact rshowH3 pl c d m le sk hc hd h0 h1 h hx hy hz w
        · exact rshowM3 pl c d m le sk hc hd h0 h1 h hx hy hz w
      · exact rshowL3 pl c d m le sk hc hd h0 h1 h hx hy w
    · exact rshowS3 pl c d m le sk hc hd h0 h1 h hx w
    · exact rshowT3 pl c d m le sk hc hd h0 h1 h hx w
  · obtain hx | hx | hx | hx : fx c = 0 ∨ fx c = 1 ∨ fx c = 2 ∨ fx c = 3 := by omega
    · exact rshowZ4 pl c d m le sk hc hd h0 h1 h hx w
    · by_cases hy : fy c = 6
      · by_cases hz : fz c = 6
        · exact rshowH4 pl c d m le sk hc hd h0 h1 h hx hy hz w
        · exact rshowM4 pl c d m le sk hc hd h0 h1 h hx hy hz w
      · exact rshowL4 pl c d m le sk hc hd h0 h1 h hx hy w
    · exact rshowS4 pl c d m le sk hc hd h0 h1 h hx w
    · exact rshowT4 pl c d m le sk hc hd h0 h1 h hx w
end Go.Proofs.YtgdpafldhmchpaaDoor
