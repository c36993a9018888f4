/- Layer 9 (text): what the other letters of a form stand for: contract of operand. -/
import Derived.Test.YtgdpafldhmchpaaDoorTextOper
namespace Go.Proofs.YtgdpafldhmchpaaDoor
open Go.RowKit
set_option linter.unusedVariables false
set_option linter.unusedSimpArgs false

set_option maxHeartbeats 4000000 in
theorem operC_any (pl c d m le sk x y z p q : Int) (f : Value) (hy : 0 ≤ y ∧ y ≤ 7) (w : World) (h : TextTabs w) :
    Calls Tryd.prog 34 #[shV pl c d m le sk x y z p q f, .string ⟨#[67]⟩] w fun e w' => e = .returned (.string (sb (pick condN y))) ∧ Below w.heap.size w w' := by
  have t1 := fun o => cell_under w o (h.conds.of g_conds y (by omega) (by simp [condN]; omega))
  clear h
  go_enter Tryd.func34, Tryd.ntmps34
  go_wp2
  go_ret
  exact ⟨rfl, (by repeat (first | exact Below.refl _ _ | assumption | refine bstep ?_ (by assumption) | refine Below.drew ?_ | refine Below.alloc ?_ (by first | (simp; done) | (simp; omega) | omega) _ | refine Below.setCell ?_ (by first | (simp; done) | (simp; omega) | omega) _))⟩
set_option maxHeartbeats 4000000 in
theorem operJ_any (pl c d m le sk x y z p q : Int) (f : Value) (hy : 0 ≤ y ∧ y ≤ 7) (w : World) (h : TextTabs w) :
    Calls Tryd.prog 34 #[shV pl c d m le sk x y z p q f, .string ⟨#[74]⟩] w fun e w' => e = .returned (.string (sb (pick condN (y % 4)))) ∧ Below w.heap.size w w' := by
  have t1 := fun o => cell_under w o (h.conds.of g_conds (y % 4) (by omega) (by simp [condN]; omega))
  have r0 : y.tmod 4 = y % 4 := by rw [Int.tmod_eq_emod_of_nonneg hy.1]
  have r1 : 0 ≤ y % 4 := by omega
  have r2 : y % 4 < 8 := by omega
  clear h
  go_enter Tryd.func34, Tryd.ntmps34
  go_wp2
  go_ret
  exact ⟨rfl, (by repeat (first | exact Below.refl _ _ | assumption | refine bstep ?_ (by assumption) | refine Below.drew ?_ | refine Below.alloc ?_ (by first | (simp; done) | (simp; omega) | omega) _ | refine Below.setCell ?_ (by first | (simp; done) | (simp; omega) | omega) _))⟩
set_option maxHeartbeats 4000000 in
theorem operA_any (pl c d m le sk x y z p q : Int) (f : Value) (hy : 0 ≤ y ∧ y ≤ 7) (w : World) (h : TextTabs w) :
    Calls Tryd.prog 34 #[shV pl c d m le sk x y z p q f, .string ⟨#[65]⟩] w fun e w' => e = .returned (.string (sb (pick sumN y))) ∧ Below w.heap.size w w' := by
  have t1 := fun o => cell_under w o (h.sums.of g_sums y (by omega) (by simp [sumN]; omega))
  clear h
  go_enter Tryd.func34, Tryd.ntmps34
  go_wp2
  go_ret
  exact ⟨rfl, (by repeat (first | exact Below.refl _ _ | assumption | refine bstep ?_ (by assumption) | refine Below.drew ?_ | refine Below.alloc ?_ (by first | (simp; done) | (simp; omega) | omega) _ | refine Below.setCell ?_ (by first | (simp; done) | (simp; omega) | omega) _))⟩
set_option maxHeartbeats 4000000 in
theorem operK_any (pl c d m le sk x y z p q : Int) (f : Value) (hy : 0 ≤ y ∧ y ≤ 7) (w : World) (h : TextTabs w) :
    Calls Tryd.prog 34 #[shV pl c d m le sk x y z p q f, .string ⟨#[75]⟩] w fun e w' => e = .returned (.string (sb (pick shiftN y))) ∧ Below w.heap.size w w' := by
  have t1 := fun o => cell_under w o (h.shifts.of g_shifts y (by omega) (by simp [shiftN]; omega))
  clear h
  go_enter Tryd.func34, Tryd.ntmps34
  go_wp2
  go_ret
  exact ⟨rfl, (by repeat (first | exact Below.refl _ _ | assumption | refine bstep ?_ (by assumption) | refine Below.drew ?_ | refine Below.alloc ?_ (by first | (simp; done) | (simp; omega) | omega) _ | refine Below.setCell ?_ (by first | (simp; done) | (simp; omega) | omega) _))⟩
set_option maxHeartbeats 4000000 in
theorem operM_any (pl c d m le sk x y z p q : Int) (f : Value) (hy : 0 ≤ y ∧ y ≤ 7) (w : World) (h : TextTabs w) :
    Calls Tryd.prog 34 #[shV pl c d m le sk x y z p q f, .string ⟨#[77]⟩] w fun e w' => e = .returned (.string (sb (pick modeN y))) ∧ Below w.heap.size w w' := by
  have t1 := fun o => cell_under w o (h.modes.of g_modes y (by omega) (by simp [modeN]; omega))
  clear h
  go_enter Tryd.func34, Tryd.ntmps34
  go_wp2
  go_ret
  exact ⟨rfl, (by repeat (first | exact Below.refl _ _ | assumption | refine bstep ?_ (by assumption) | refine Below.drew ?_ | refine Below.alloc ?_ (by first | (simp; done) | (simp; omega) | omega) _ | refine Below.setCell ?_ (by first | (simp; done) | (simp; omega) | omega) _))⟩
set_option maxHeartbeats 4000000 in
theorem operI_any (pl c d m le sk x y z p q : Int) (f : Value) (hd : B8 d) (w : World) (h : TextTabs w) :
    Calls Tryd.prog 34 #[shV pl c d m le sk x y z p q f, .string ⟨#[73]⟩] w fun e w' => e = .returned (.string (sy pl d m [259])) ∧ Below w.heap.size w w' := by
  have kn := Lib.hid (fun W (hW : Below w.heap.size w W) => tIndex_any pl d hd W (h.below hW))
  clear h
  go_enter Tryd.func34, Tryd.ntmps34
  go_wp2_with (first
    | (go_at_call 13; refine (kn.out _ ((by repeat (first | exact Below.refl _ _ | assumption | refine bstep ?_ (by assumption) | refine Below.drew ?_ | refine Below.alloc ?_ (by first | (simp; done) | (simp; omega) | omega) _ | refine Below.setCell ?_ (by first | (simp; done) | (simp; omega) | omega) _)))).mono ?_; rintro e w' ⟨rfl, hb⟩; have hsz := hb.size))
  go_ret
  exact ⟨ret_bs (index_sy pl d m), (by repeat (first | exact Below.refl _ _ | assumption | refine bstep ?_ (by assumption) | refine Below.drew ?_ | refine Below.alloc ?_ (by first | (simp; done) | (simp; omega) | omega) _ | refine Below.setCell ?_ (by first | (simp; done) | (simp; omega) | omega) _))⟩
theorem itoa_dig : ∀ k : Fin 8, itoaL (k.val : Int) = (pick digN (k.val : Int)).map UInt8.ofNat := by decide +kernel
theorem itoa_digs (y : Int) (hy : 0 ≤ y ∧ y ≤ 7) : (⟨(itoaL y).toArray⟩ : ByteArray) = sb (pick digN y) := by
  have := itoa_dig ⟨y.toNat, by omega⟩
  rw [show (((⟨y.toNat, by omega⟩ : Fin 8).val : Nat) : Int) = y by show (y.toNat : Int) = y; omega] at this
  unfold sb
  rw [this]
theorem hex_rst : ∀ k : Fin 8, hexH (8 * (k.val : Int)) 2 = (pick rstN (k.val : Int)).map UInt8.ofNat := by decide +kernel
theorem hex_rsts (y : Int) (hy : 0 ≤ y ∧ y ≤ 7) : (⟨(hexH (8 * y) 2).toArray⟩ : ByteArray) = sb (pick rstN y) := by
  have := hex_rst ⟨y.toNat, by omega⟩
  rw [show (((⟨y.toNat, by omega⟩ : Fin 8).val : Nat) : Int) = y by show (y.toNat : Int) = y; omega] at this
  unfold sb
  rw [this]
theorem one_sy (pl d m : Int) (k : Nat) : sy pl d m [k] = ⟨(tok pl d m k).toArray⟩ := by
  unfold sy
  rw [say_cons, say_nil, List.append_nil]
set_option maxHeartbeats 4000000 in
theorem operY_any (pl c d m le sk x y z p q : Int) (f : Value) (hy : 0 ≤ y ∧ y ≤ 7) (w : World) (h : TextTabs w) :
    Calls Tryd.prog 34 #[shV pl c d m le sk x y z p q f, .string ⟨#[89]⟩] w fun e w' => e = .returned (.string (sb (pick digN y))) ∧ Below w.heap.size w w' := by
  have kn := Lib.hid (fun W (hW : Below w.heap.size w W) => itoa_any y (by omega) (by omega) W (h.below hW))
  clear h
  go_enter Tryd.func34, Tryd.ntmps34
  go_wp2_with (first
    | (go_at_call 57; refine (kn.out _ ((by repeat (first | exact Below.refl _ _ | assumption | refine bstep ?_ (by assumption) | refine Below.drew ?_ | refine Below.alloc ?_ (by first | (simp; done) | (simp; omega) | omega) _ | refine Below.setCell ?_ (by first | (simp; done) | (simp; omega) | omega) _)))).mono ?_; rintro e w' ⟨rfl, hb⟩; have hsz := hb.size))
  go_ret
  exact ⟨ret_bs (itoa_digs y hy), (by repeat (first | exact Below.refl _ _ | assumption | refine bstep ?_ (by assumption) | refine Below.drew ?_ | refine Below.alloc ?_ (by first | (simp; done) | (simp; omega) | omega) _ | refine Below.setCell ?_ (by first | (simp; done) | (simp; omega) | omega) _))⟩
set_option maxHeartbeats 4000000 in
theorem operV_any (pl c d m le sk x y z p q : Int) (f : Value) (hy : 0 ≤ y ∧ y ≤ 7) (w : World) (h : TextTabs w) :
    Calls Tryd.prog 34 #[shV pl c d m le sk x y z p q f, .string ⟨#[86]⟩] w fun e w' => e = .returned (.string (sb (pick rstN y))) ∧ Below w.heap.size w w' := by
  have kn := Lib.hid (fun W (hW : Below w.heap.size w W) => thex_any (8 * y) 2 (by omega) (by omega) (by omega) (by omega) W (h.below hW))
  clear h
  go_enter Tryd.func34, Tryd.ntmps34
  go_wp2_with (first
    | (go_at_call 12; refine (kn.out _ ((by repeat (first | exact Below.refl _ _ | assumption | refine bstep ?_ (by assumption) | refine Below.drew ?_ | refine Below.alloc ?_ (by first | (simp; done) | (simp; omega) | omega) _ | refine Below.setCell ?_ (by first | (simp; done) | (simp; omega) | omega) _)))).mono ?_; rintro e w' ⟨rfl, hb⟩; have hsz := hb.size))
  go_ret
  exact ⟨ret_bs (hex_rsts y hy), (by repeat (first | exact Below.refl _ _ | assumption | refine bstep ?_ (by assumption) | refine Below.drew ?_ | refine Below.alloc ?_ (by first | (simp; done) | (simp; omega) | omega) _ | refine Below.setCell ?_ (by first | (simp; done) | (simp; omega) | omega) _))⟩
set_option maxHeartbeats 4000000 in
theorem operN_any (pl c d m le sk x y z p q : Int) (f : Value) (hm : 0 ≤ m ∧ m ≤ 65535) (w : World) (h : TextTabs w) :
    Calls Tryd.prog 34 #[shV pl c d m le sk x y z p q f, .string ⟨#[78]⟩] w fun e w' => e = .returned (.string (sy pl d m [256])) ∧ Below w.heap.size w w' := by
  have kl := Lib.hid (fun w => lo_any m hm.1 hm.2 w)
  have kn := Lib.hid (fun W (hW : Below w.heap.size w W) => thex_any (m % 256) 2 (by omega) (by omega) (by omega) (by omega) W (h.below hW))
  have hx := hexH2 (m % 256) (by omega) (by omega)
  have m0 : 0 ≤ m % 256 := by omega
  have m1 : m % 256 ≤ 255 := by omega
  rw [one_sy]
  have HX := Lib.hid (show tok pl d m 256 = hexH (m % 256) 2 from hx.symm)
  clear hx
  clear h
  go_enter Tryd.func34, Tryd.ntmps34
  go_wp2_with (first
    | (go_at_call 60; refine (kl.out _).mono ?_; rintro e w' ⟨rfl, rfl⟩)
    | (go_at_call 12; refine (kn.out _ ((by repeat (first | exact Below.refl _ _ | assumption | refine bstep ?_ (by assumption) | refine Below.drew ?_ | refine Below.alloc ?_ (by first | (simp; done) | (simp; omega) | omega) _ | refine Below.setCell ?_ (by first | (simp; done) | (simp; omega) | omega) _)))).mono ?_; rintro e w' ⟨rfl, hb⟩; have hsz := hb.size))
  go_ret
  exact ⟨ret_bs (by rw [HX.out]), (by repeat (first | exact Below.refl _ _ | assumption | refine bstep ?_ (by assumption) | refine Below.drew ?_ | refine Below.alloc ?_ (by first | (simp; done) | (simp; omega) | omega) _ | refine Below.setCell ?_ (by first | (simp; done) | (simp; omega) | omega) _))⟩
set_option maxHeartbeats 4000000 in
theorem operW_any (pl c d m le sk x y z p q : Int) (f : Value) (hm : 0 ≤ m ∧ m ≤ 65535) (w : World) (h : TextTabs w) :
    Calls Tryd.prog 34 #[shV pl c d m le sk x y z p q f, .string ⟨#[87]⟩] w fun e w' => e = .returned (.string (sy pl d m [257])) ∧ Below w.heap.size w w' := by
  have kn := Lib.hid (fun W (hW : Below w.heap.size w W) => thex_any m 4 (by omega) (by omega) (by omega) (by omega) W (h.below hW))
  have hx := hexH4 m (by omega) (by omega)
  rw [one_sy]
  have HX := Lib.hid (show tok pl d m 257 = hexH m 4 from hx.symm)
  clear hx
  clear h
  go_enter Tryd.func34, Tryd.ntmps34
  go_wp2_with (first
    | (go_at_call 12; refine (kn.out _ ((by repeat (first | exact Below.refl _ _ | assumption | refine bstep ?_ (by assumption) | refine Below.drew ?_ | refine Below.alloc ?_ (by first | (simp; done) | (simp; omega) | omega) _ | refine Below.setCell ?_ (by first | (simp; done) | (simp; omega) | omega) _)))).mono ?_; rintro e w' ⟨rfl, hb⟩; have hsz := hb.size))
  go_ret
  exact ⟨ret_bs (by rw [HX.out]), (by repeat (first | exact Below.refl _ _ | assumption | refine bstep ?_ (by assumption) | refine Below.drew ?_ | refine Below.alloc ?_ (by first | (simp; done) | (simp; omega) | omega) _ | refine Below.setCell ?_ (by first | (simp; done) | (simp; omega) | omega) _))⟩
set_option maxHeartbeats 4000000 in
theorem operT_any (pl c d m le sk x y z p q : Int) (f : Value) (hm : 0 ≤ m ∧ m ≤ 65535) (w : World) (h : TextTabs w) :
    Calls Tryd.prog 34 #[shV pl c d m le sk x y z p q f, .string ⟨#[84]⟩] w fun e w' => e = .returned (.string (sy pl d m [258])) ∧ Below w.heap.size w w' := by
  have hb : B8 (m % 256) := ⟨by omega, by omega⟩
  have hs := signedM_b (m % 256) hb
  have kl := Lib.hid (fun w => lo_any m hm.1 hm.2 w)
  have ks := Lib.hid (fun w => signed_any (m % 256) hb.1 hb.2 w)
  have kn := Lib.hid (fun W (hW : Below w.heap.size w W) => tsigned_any (signedM (m % 256) + 2) (by omega) (by omega) W (h.below hW))
  rw [one_sy]
  have HX := Lib.hid (show tok pl d m 258 = 36 :: signL (signedM (m % 256) + 2) from rfl)
  have gl := signL_length (signedM (m % 256) + 2)
  have gs := la_size (signL (signedM (m % 256) + 2))
  generalize signL (signedM (m % 256) + 2) = G at *
  generalize signedM (m % 256) = X at *
  clear hb
  clear h
  go_enter Tryd.func34, Tryd.ntmps34
  go_wp2_with (first
    | (go_at_call 60; refine (kl.out _).mono ?_; rintro e w' ⟨rfl, rfl⟩)
    | (go_at_call 30; refine (ks.out _).mono ?_; rintro e w' ⟨rfl, rfl⟩)
    | (go_at_call 29; refine (kn.out _ ((by repeat (first | exact Below.refl _ _ | assumption | refine bstep ?_ (by assumption) | refine Below.drew ?_ | refine Below.alloc ?_ (by first | (simp; done) | (simp; omega) | omega) _ | refine Below.setCell ?_ (by first | (simp; done) | (simp; omega) | omega) _)))).mono ?_; rintro e w' ⟨rfl, hb⟩; have hsz := hb.size))
  go_ret
  exact ⟨ret_bs (by rw [HX.out]; exact bs_app [36] G), (by repeat (first | exact Below.refl _ _ | assumption | refine bstep ?_ (by assumption) | refine Below.drew ?_ | refine Below.alloc ?_ (by first | (simp; done) | (simp; omega) | omega) _ | refine Below.setCell ?_ (by first | (simp; done) | (simp; omega) | omega) _))⟩
end Go.Proofs.YtgdpafldhmchpaaDoor
