/- Layer 9 (text): what a letter of a form stands for: contract of operand. -/
import Derived.Test.YtgdpafldhmchpaaDoorTextName
import Derived.Deep.RegionHeld3
import Derived.BigQuiet
import Derived.Deep.QuietTactic
namespace Go.Proofs.YtgdpafldhmchpaaDoor
open Go.RowKit
set_option linter.unusedVariables false
set_option linter.unusedSimpArgs false

abbrev shV (pl c d m le sk x y z p q : Int) (f : Value) : Value := .agg #[.int .i64 pl, .int .u8 c, .int .u8 d, .int .u16 m, .int .i64 le, .int .i64 sk, .int .i64 x, .int .i64 y, .int .i64 z, .int .i64 p, .int .i64 q, f]
/-- the number of the function that tells a name -/
theorem TextTabs.al {w : World} (h : TextTabs w) (o : Obj) : TextTabs (w.alloc o) := h.below ((Below.refl _ w).alloc (Nat.le_refl _) o)
theorem pick_mem {l : List (List Nat)} {n : Int} (h0 : 0 ≤ n) (h1 : n < l.length) : pick l n ∈ l := by
  unfold pick
  have : n.toNat < l.length := by omega
  rw [List.getD_eq_getElem?_getD, List.getElem?_eq_getElem this]
  exact List.getElem_mem this
theorem name_lt : ∀ t ∈ nameL, ∀ k ∈ t, k < 256 := by decide
/-- three cells of the caller's -/
theorem held3 {w w' : World} {p q r : Addr} {u v x : Value} (k : Below w.heap.size w w') (h : w.cell? p = some u ∧ w.cell? q = some v ∧ w.cell? r = some x) : w'.cell? p = some u ∧ w'.cell? q = some v ∧ w'.cell? r = some x :=
  ⟨cell_kept h.1 k, cell_kept h.2.1 k, cell_kept h.2.2 k⟩
theorem box12 (w : World) (pl c d m le sk x y z p q : Int) (f : Value) (t : TypeId) (i j : Nat) (hi : i < 12) (hj : j < 12) {r : Addr} {v : Value} (h : (w.alloc (.cells #[.int .i64 pl, .int .u8 c, .int .u8 d, .int .u16 m, .int .i64 le, .int .i64 sk, .int .i64 x, .int .i64 y, .int .i64 z, .int .i64 p, .int .i64 q, f] t)).cell? r = some v) :
    (w.alloc (.cells #[.int .i64 pl, .int .u8 c, .int .u8 d, .int .u16 m, .int .i64 le, .int .i64 sk, .int .i64 x, .int .i64 y, .int .i64 z, .int .i64 p, .int .i64 q, f] t)).cell? ⟨w.heap.size, i, none⟩ = some ([.int .i64 pl, .int .u8 c, .int .u8 d, .int .u16 m, .int .i64 le, .int .i64 sk, .int .i64 x, .int .i64 y, .int .i64 z, .int .i64 p, .int .i64 q, f].getD i undef) ∧
    (w.alloc (.cells #[.int .i64 pl, .int .u8 c, .int .u8 d, .int .u16 m, .int .i64 le, .int .i64 sk, .int .i64 x, .int .i64 y, .int .i64 z, .int .i64 p, .int .i64 q, f] t)).cell? ⟨w.heap.size, j, none⟩ = some ([.int .i64 pl, .int .u8 c, .int .u8 d, .int .u16 m, .int .i64 le, .int .i64 sk, .int .i64 x, .int .i64 y, .int .i64 z, .int .i64 p, .int .i64 q, f].getD j undef) ∧
    (w.alloc (.cells #[.int .i64 pl, .int .u8 c, .int .u8 d, .int .u16 m, .int .i64 le, .int .i64 sk, .int .i64 x, .int .i64 y, .int .i64 z, .int .i64 p, .int .i64 q, f] t)).cell? r = some v := by
  have e : ∀ k, k < 12 → (w.alloc (.cells #[.int .i64 pl, .int .u8 c, .int .u8 d, .int .u16 m, .int .i64 le, .int .i64 sk, .int .i64 x, .int .i64 y, .int .i64 z, .int .i64 p, .int .i64 q, f] t)).cell? ⟨w.heap.size, k, none⟩ = some ([.int .i64 pl, .int .u8 c, .int .u8 d, .int .u16 m, .int .i64 le, .int .i64 sk, .int .i64 x, .int .i64 y, .int .i64 z, .int .i64 p, .int .i64 q, f].getD k undef) := by
    intro k hk
    have e2 : ∀ o : Obj, (w.alloc o).heap[w.heap.size]? = some o := fun o => by
      show (w.heap.push _)[w.heap.size]? = _
      simp
    simp only [World.cell?, e2]
    simp [hk]
  exact ⟨e i hi, e j hj, h⟩
set_option maxHeartbeats 4000000 in
theorem operR_m (pl c d m le sk x y z p q : Int) (hp : pl = 3 ∨ pl = 4) (hc : B8 c) (hd : B8 d) (hi : 0 ≤ y ∧ y ≤ 7) (w : World) (h : TextTabs w) :
    Calls Tryd.prog 34 #[shV pl c d m le sk x y z p q (movedV pl c d m le sk), .string ⟨#[82]⟩] w fun e w' => e = .returned (.string (sy pl d m (nameT pl (nearM pl c) (pick regN y)))) ∧ Below w.heap.size w w' := by
  have kn := Lib.hid (fun W (hW : Below w.heap.size w W) => moved_any pl c d m le sk hp hc hd (pick regN y) (List.mem_append_left _ <| List.mem_append_left _ <| (pick_mem hi.1 (by simp [regN]; omega))) W (h.below hW))
  have i0 := hi.1
  have i1 : y < 8 := by omega
  clear hi
  have t1 := fun o => cell_under w o (h.regs.of g_regs y i0 (by simp [regN]; omega))
  generalize sy pl d m (nameT pl (nearM pl c) (pick regN y)) = R at *
  clear hp hc hd
  clear h
  go_enter Tryd.func34, Tryd.ntmps34
  go_wp2_with fail
  have hs := box12 w pl c d m le sk x y z p q (movedV pl c d m le sk) 41 11 7 (by omega) (by omega) (t1 _)
  simp only [List.getD_cons_zero, List.getD_cons_succ] at hs
  go_region_held3 (fun w' => w'.cell? ⟨w.heap.size, 11, none⟩ = some (movedV pl c d m le sk) ∧ w'.cell? ⟨w.heap.size, 7, none⟩ = some (.int .i64 y) ∧ w'.cell? ⟨1, y.toNat, none⟩ = some (.string (sb (pick regN y)))) (first | go_keep | exact held3 hb (by assumption))
    (first
    | (go_at_call 31; refine (kn.out _ ((by repeat (first | exact Below.refl _ _ | assumption | refine bstep ?_ (by assumption) | refine Below.drew ?_ | refine Below.alloc ?_ (by first | (simp; done) | (simp; omega) | omega) _ | refine Below.setCell ?_ (by first | (simp; done) | (simp; omega) | omega) _)))).mono ?_; rintro e w' ⟨rfl, hb⟩; have hsz := hb.size))
  go_wp2
  go_ret
  exact ⟨rfl, (by repeat (first | exact Below.refl _ _ | assumption | refine bstep ?_ (by assumption) | refine Below.drew ?_ | refine Below.alloc ?_ (by first | (simp; done) | (simp; omega) | omega) _ | refine Below.setCell ?_ (by first | (simp; done) | (simp; omega) | omega) _))⟩
set_option maxHeartbeats 4000000 in
theorem operS_m (pl c d m le sk x y z p q : Int) (hp : pl = 3 ∨ pl = 4) (hc : B8 c) (hd : B8 d) (hi : 0 ≤ z ∧ z ≤ 7) (w : World) (h : TextTabs w) :
    Calls Tryd.prog 34 #[shV pl c d m le sk x y z p q (movedV pl c d m le sk), .string ⟨#[83]⟩] w fun e w' => e = .returned (.string (sy pl d m (nameT pl (nearM pl c) (pick regN z)))) ∧ Below w.heap.size w w' := by
  have kn := Lib.hid (fun W (hW : Below w.heap.size w W) => moved_any pl c d m le sk hp hc hd (pick regN z) (List.mem_append_left _ <| List.mem_append_left _ <| (pick_mem hi.1 (by simp [regN]; omega))) W (h.below hW))
  have i0 := hi.1
  have i1 : z < 8 := by omega
  clear hi
  have t1 := fun o => cell_under w o (h.regs.of g_regs z i0 (by simp [regN]; omega))
  generalize sy pl d m (nameT pl (nearM pl c) (pick regN z)) = R at *
  clear hp hc hd
  clear h
  go_enter Tryd.func34, Tryd.ntmps34
  go_wp2_with fail
  have hs := box12 w pl c d m le sk x y z p q (movedV pl c d m le sk) 41 11 8 (by omega) (by omega) (t1 _)
  simp only [List.getD_cons_zero, List.getD_cons_succ] at hs
  go_region_held3 (fun w' => w'.cell? ⟨w.heap.size, 11, none⟩ = some (movedV pl c d m le sk) ∧ w'.cell? ⟨w.heap.size, 8, none⟩ = some (.int .i64 z) ∧ w'.cell? ⟨1, z.toNat, none⟩ = some (.string (sb (pick regN z)))) (first | go_keep | exact held3 hb (by assumption))
    (first
    | (go_at_call 31; refine (kn.out _ ((by repeat (first | exact Below.refl _ _ | assumption | refine bstep ?_ (by assumption) | refine Below.drew ?_ | refine Below.alloc ?_ (by first | (simp; done) | (simp; omega) | omega) _ | refine Below.setCell ?_ (by first | (simp; done) | (simp; omega) | omega) _)))).mono ?_; rintro e w' ⟨rfl, hb⟩; have hsz := hb.size))
  go_wp2
  go_ret
  exact ⟨rfl, (by repeat (first | exact Below.refl _ _ | assumption | refine bstep ?_ (by assumption) | refine Below.drew ?_ | refine Below.alloc ?_ (by first | (simp; done) | (simp; omega) | omega) _ | refine Below.setCell ?_ (by first | (simp; done) | (simp; omega) | omega) _))⟩
set_option maxHeartbeats 4000000 in
theorem operP_m (pl c d m le sk x y z p q : Int) (hp : pl = 3 ∨ pl = 4) (hc : B8 c) (hd : B8 d) (hi : 0 ≤ p ∧ p ≤ 3) (w : World) (h : TextTabs w) :
    Calls Tryd.prog 34 #[shV pl c d m le sk x y z p q (movedV pl c d m le sk), .string ⟨#[80]⟩] w fun e w' => e = .returned (.string (sy pl d m (nameT pl (nearM pl c) (pick pairN p)))) ∧ Below w.heap.size w w' := by
  have kn := Lib.hid (fun W (hW : Below w.heap.size w W) => moved_any pl c d m le sk hp hc hd (pick pairN p) (List.mem_append_left _ <| List.mem_append_right _ <| (pick_mem hi.1 (by simp [pairN]; omega))) W (h.below hW))
  have i0 := hi.1
  have i1 : p < 4 := by omega
  clear hi
  have t1 := fun o => cell_under w o (h.pairs.of g_pairs p i0 (by simp [pairN]; omega))
  generalize sy pl d m (nameT pl (nearM pl c) (pick pairN p)) = R at *
  clear hp hc hd
  clear h
  go_enter Tryd.func34, Tryd.ntmps34
  go_wp2_with fail
  have hs := box12 w pl c d m le sk x y z p q (movedV pl c d m le sk) 41 11 9 (by omega) (by omega) (t1 _)
  simp only [List.getD_cons_zero, List.getD_cons_succ] at hs
  go_region_held3 (fun w' => w'.cell? ⟨w.heap.size, 11, none⟩ = some (movedV pl c d m le sk) ∧ w'.cell? ⟨w.heap.size, 9, none⟩ = some (.int .i64 p) ∧ w'.cell? ⟨2, p.toNat, none⟩ = some (.string (sb (pick pairN p)))) (first | go_keep | exact held3 hb (by assumption))
    (first
    | (go_at_call 31; refine (kn.out _ ((by repeat (first | exact Below.refl _ _ | assumption | refine bstep ?_ (by assumption) | refine Below.drew ?_ | refine Below.alloc ?_ (by first | (simp; done) | (simp; omega) | omega) _ | refine Below.setCell ?_ (by first | (simp; done) | (simp; omega) | omega) _)))).mono ?_; rintro e w' ⟨rfl, hb⟩; have hsz := hb.size))
  go_wp2
  go_ret
  exact ⟨rfl, (by repeat (first | exact Below.refl _ _ | assumption | refine bstep ?_ (by assumption) | refine Below.drew ?_ | refine Below.alloc ?_ (by first | (simp; done) | (simp; omega) | omega) _ | refine Below.setCell ?_ (by first | (simp; done) | (simp; omega) | omega) _))⟩
set_option maxHeartbeats 4000000 in
theorem operQ_m (pl c d m le sk x y z p q : Int) (hp : pl = 3 ∨ pl = 4) (hc : B8 c) (hd : B8 d) (hi : 0 ≤ p ∧ p ≤ 3) (w : World) (h : TextTabs w) :
    Calls Tryd.prog 34 #[shV pl c d m le sk x y z p q (movedV pl c d m le sk), .string ⟨#[81]⟩] w fun e w' => e = .returned (.string (sy pl d m (nameT pl (nearM pl c) (pick stackN p)))) ∧ Below w.heap.size w w' := by
  have kn := Lib.hid (fun W (hW : Below w.heap.size w W) => moved_any pl c d m le sk hp hc hd (pick stackN p) (List.mem_append_right _ <| (pick_mem hi.1 (by simp [stackN]; omega))) W (h.below hW))
  have i0 := hi.1
  have i1 : p < 4 := by omega
  clear hi
  have t1 := fun o => cell_under w o (h.stacked.of g_stacked p i0 (by simp [stackN]; omega))
  generalize sy pl d m (nameT pl (nearM pl c) (pick stackN p)) = R at *
  clear hp hc hd
  clear h
  go_enter Tryd.func34, Tryd.ntmps34
  go_wp2_with fail
  have hs := box12 w pl c d m le sk x y z p q (movedV pl c d m le sk) 41 11 9 (by omega) (by omega) (t1 _)
  simp only [List.getD_cons_zero, List.getD_cons_succ] at hs
  go_region_held3 (fun w' => w'.cell? ⟨w.heap.size, 11, none⟩ = some (movedV pl c d m le sk) ∧ w'.cell? ⟨w.heap.size, 9, none⟩ = some (.int .i64 p) ∧ w'.cell? ⟨3, p.toNat, none⟩ = some (.string (sb (pick stackN p)))) (first | go_keep | exact held3 hb (by assumption))
    (first
    | (go_at_call 31; refine (kn.out _ ((by repeat (first | exact Below.refl _ _ | assumption | refine bstep ?_ (by assumption) | refine Below.drew ?_ | refine Below.alloc ?_ (by first | (simp; done) | (simp; omega) | omega) _ | refine Below.setCell ?_ (by first | (simp; done) | (simp; omega) | omega) _)))).mono ?_; rintro e w' ⟨rfl, hb⟩; have hsz := hb.size))
  go_wp2
  go_ret
  exact ⟨rfl, (by repeat (first | exact Below.refl _ _ | assumption | refine bstep ?_ (by assumption) | refine Below.drew ?_ | refine Below.alloc ?_ (by first | (simp; done) | (simp; omega) | omega) _ | refine Below.setCell ?_ (by first | (simp; done) | (simp; omega) | omega) _))⟩
set_option maxHeartbeats 4000000 in
theorem operH_m (pl c d m le sk x y z p q : Int) (hp : pl = 3 ∨ pl = 4) (hc : B8 c) (hd : B8 d) (w : World) (h : TextTabs w) :
    Calls Tryd.prog 34 #[shV pl c d m le sk x y z p q (movedV pl c d m le sk), .string ⟨#[72]⟩] w fun e w' => e = .returned (.string (sy pl d m (nameT pl (nearM pl c) [104, 108]))) ∧ Below w.heap.size w w' := by
  have kn := Lib.hid (fun W (hW : Below w.heap.size w W) => moved_any pl c d m le sk hp hc hd [104, 108] (by decide) W (h.below hW))
  generalize sy pl d m (nameT pl (nearM pl c) [104, 108]) = R at *
  clear hp hc hd
  have kn := Lib.hid (show ∀ W (hW : Below w.heap.size w W), Calls Tryd.prog 31 #[nmV pl c d m le sk, .string ⟨#[104, 108]⟩] W fun e w' => e = .returned (.string R) ∧ Below W.heap.size W w' from kn.out)
  clear h
  go_enter Tryd.func34, Tryd.ntmps34
  go_wp2_with (first
    | (go_at_call 31; refine (kn.out _ ((by repeat (first | exact Below.refl _ _ | assumption | refine bstep ?_ (by assumption) | refine Below.drew ?_ | refine Below.alloc ?_ (by first | (simp; done) | (simp; omega) | omega) _ | refine Below.setCell ?_ (by first | (simp; done) | (simp; omega) | omega) _)))).mono ?_; rintro e w' ⟨rfl, hb⟩; have hsz := hb.size))
  go_ret
  exact ⟨rfl, (by repeat (first | exact Below.refl _ _ | assumption | refine bstep ?_ (by assumption) | refine Below.drew ?_ | refine Below.alloc ?_ (by first | (simp; done) | (simp; omega) | omega) _ | refine Below.setCell ?_ (by first | (simp; done) | (simp; omega) | omega) _))⟩
set_option maxHeartbeats 4000000 in
theorem operR_p (pl c d m le sk x y z p q : Int)  (hi : 0 ≤ y ∧ y ≤ 7) (w : World) (h : TextTabs w) :
    Calls Tryd.prog 34 #[shV pl c d m le sk x y z p q (plainV pl c d m le sk), .string ⟨#[82]⟩] w fun e w' => e = .returned (.string (sb (pick regN y))) ∧ Below w.heap.size w w' := by
  have kn := Lib.hid (fun W (hW : Below w.heap.size w W) => plain_any pl c d m le sk (sb (pick regN y)) W)
  have i0 := hi.1
  have i1 : y < 8 := by omega
  clear hi
  have t1 := fun o => cell_under w o (h.regs.of g_regs y i0 (by simp [regN]; omega))
  clear h
  go_enter Tryd.func34, Tryd.ntmps34
  go_wp2_with fail
  have hs := box12 w pl c d m le sk x y z p q (plainV pl c d m le sk) 41 11 7 (by omega) (by omega) (t1 _)
  simp only [List.getD_cons_zero, List.getD_cons_succ] at hs
  go_region_held3 (fun w' => w'.cell? ⟨w.heap.size, 11, none⟩ = some (plainV pl c d m le sk) ∧ w'.cell? ⟨w.heap.size, 7, none⟩ = some (.int .i64 y) ∧ w'.cell? ⟨1, y.toNat, none⟩ = some (.string (sb (pick regN y)))) (first | go_keep | exact held3 hb (by assumption))
    (first
    | (go_at_call 32; refine (kn.out _ ((by repeat (first | exact Below.refl _ _ | assumption | refine bstep ?_ (by assumption) | refine Below.drew ?_ | refine Below.alloc ?_ (by first | (simp; done) | (simp; omega) | omega) _ | refine Below.setCell ?_ (by first | (simp; done) | (simp; omega) | omega) _)))).mono ?_; rintro e w' ⟨rfl, hb⟩; have hsz := hb.size))
  go_wp2
  go_ret
  exact ⟨rfl, (by repeat (first | exact Below.refl _ _ | assumption | refine bstep ?_ (by assumption) | refine Below.drew ?_ | refine Below.alloc ?_ (by first | (simp; done) | (simp; omega) | omega) _ | refine Below.setCell ?_ (by first | (simp; done) | (simp; omega) | omega) _))⟩
set_option maxHeartbeats 4000000 in
theorem operS_p (pl c d m le sk x y z p q : Int)  (hi : 0 ≤ z ∧ z ≤ 7) (w : World) (h : TextTabs w) :
    Calls Tryd.prog 34 #[shV pl c d m le sk x y z p q (plainV pl c d m le sk), .string ⟨#[83]⟩] w fun e w' => e = .returned (.string (sb (pick regN z))) ∧ Below w.heap.size w w' := by
  have kn := Lib.hid (fun W (hW : Below w.heap.size w W) => plain_any pl c d m le sk (sb (pick regN z)) W)
  have i0 := hi.1
  have i1 : z < 8 := by omega
  clear hi
  have t1 := fun o => cell_under w o (h.regs.of g_regs z i0 (by simp [regN]; omega))
  clear h
  go_enter Tryd.func34, Tryd.ntmps34
  go_wp2_with fail
  have hs := box12 w pl c d m le sk x y z p q (plainV pl c d m le sk) 41 11 8 (by omega) (by omega) (t1 _)
  simp only [List.getD_cons_zero, List.getD_cons_succ] at hs
  go_region_held3 (fun w' => w'.cell? ⟨w.heap.size, 11, none⟩ = some (plainV pl c d m le sk) ∧ w'.cell? ⟨w.heap.size, 8, none⟩ = some (.int .i64 z) ∧ w'.cell? ⟨1, z.toNat, none⟩ = some (.string (sb (pick regN z)))) (first | go_keep | exact held3 hb (by assumption))
    (first
    | (go_at_call 32; refine (kn.out _ ((by repeat (first | exact Below.refl _ _ | assumption | refine bstep ?_ (by assumption) | refine Below.drew ?_ | refine Below.alloc ?_ (by first | (simp; done) | (simp; omega) | omega) _ | refine Below.setCell ?_ (by first | (simp; done) | (simp; omega) | omega) _)))).mono ?_; rintro e w' ⟨rfl, hb⟩; have hsz := hb.size))
  go_wp2
  go_ret
  exact ⟨rfl, (by repeat (first | exact Below.refl _ _ | assumption | refine bstep ?_ (by assumption) | refine Below.drew ?_ | refine Below.alloc ?_ (by first | (simp; done) | (simp; omega) | omega) _ | refine Below.setCell ?_ (by first | (simp; done) | (simp; omega) | omega) _))⟩
set_option maxHeartbeats 4000000 in
theorem operP_p (pl c d m le sk x y z p q : Int)  (hi : 0 ≤ p ∧ p ≤ 3) (w : World) (h : TextTabs w) :
    Calls Tryd.prog 34 #[shV pl c d m le sk x y z p q (plainV pl c d m le sk), .string ⟨#[80]⟩] w fun e w' => e = .returned (.string (sb (pick pairN p))) ∧ Below w.heap.size w w' := by
  have kn := Lib.hid (fun W (hW : Below w.heap.size w W) => plain_any pl c d m le sk (sb (pick pairN p)) W)
  have i0 := hi.1
  have i1 : p < 4 := by omega
  clear hi
  have t1 := fun o => cell_under w o (h.pairs.of g_pairs p i0 (by simp [pairN]; omega))
  clear h
  go_enter Tryd.func34, Tryd.ntmps34
  go_wp2_with fail
  have hs := box12 w pl c d m le sk x y z p q (plainV pl c d m le sk) 41 11 9 (by omega) (by omega) (t1 _)
  simp only [List.getD_cons_zero, List.getD_cons_succ] at hs
  go_region_held3 (fun w' => w'.cell? ⟨w.heap.size, 11, none⟩ = some (plainV pl c d m le sk) ∧ w'.cell? ⟨w.heap.size, 9, none⟩ = some (.int .i64 p) ∧ w'.cell? ⟨2, p.toNat, none⟩ = some (.string (sb (pick pairN p)))) (first | go_keep | exact held3 hb (by assumption))
    (first
    | (go_at_call 32; refine (kn.out _ ((by repeat (first | exact Below.refl _ _ | assumption | refine bstep ?_ (by assumption) | refine Below.drew ?_ | refine Below.alloc ?_ (by first | (simp; done) | (simp; omega) | omega) _ | refine Below.setCell ?_ (by first | (simp; done) | (simp; omega) | omega) _)))).mono ?_; rintro e w' ⟨rfl, hb⟩; have hsz := hb.size))
  go_wp2
  go_ret
  exact ⟨rfl, (by repeat (first | exact Below.refl _ _ | assumption | refine bstep ?_ (by assumption) | refine Below.drew ?_ | refine Below.alloc ?_ (by first | (simp; done) | (simp; omega) | omega) _ | refine Below.setCell ?_ (by first | (simp; done) | (simp; omega) | omega) _))⟩
set_option maxHeartbeats 4000000 in
theorem operQ_p (pl c d m le sk x y z p q : Int)  (hi : 0 ≤ p ∧ p ≤ 3) (w : World) (h : TextTabs w) :
    Calls Tryd.prog 34 #[shV pl c d m le sk x y z p q (plainV pl c d m le sk), .string ⟨#[81]⟩] w fun e w' => e = .returned (.string (sb (pick stackN p))) ∧ Below w.heap.size w w' := by
  have kn := Lib.hid (fun W (hW : Below w.heap.size w W) => plain_any pl c d m le sk (sb (pick stackN p)) W)
  have i0 := hi.1
  have i1 : p < 4 := by omega
  clear hi
  have t1 := fun o => cell_under w o (h.stacked.of g_stacked p i0 (by simp [stackN]; omega))
  clear h
  go_enter Tryd.func34, Tryd.ntmps34
  go_wp2_with fail
  have hs := box12 w pl c d m le sk x y z p q (plainV pl c d m le sk) 41 11 9 (by omega) (by omega) (t1 _)
  simp only [List.getD_cons_zero, List.getD_cons_succ] at hs
  go_region_held3 (fun w' => w'.cell? ⟨w.heap.size, 11, none⟩ = some (plainV pl c d m le sk) ∧ w'.cell? ⟨w.heap.size, 9, none⟩ = some (.int .i64 p) ∧ w'.cell? ⟨3, p.toNat, none⟩ = some (.string (sb (pick stackN p)))) (first | go_keep | exact held3 hb (by assumption))
    (first
    | (go_at_call 32; refine (kn.out _ ((by repeat (first | exact Below.refl _ _ | assumption | refine bstep ?_ (by assumption) | refine Below.drew ?_ | refine Below.alloc ?_ (by first | (simp; done) | (simp; omega) | omega) _ | refine Below.setCell ?_ (by first | (simp; done) | (simp; omega) | omega) _)))).mono ?_; rintro e w' ⟨rfl, hb⟩; have hsz := hb.size))
  go_wp2
  go_ret
  exact ⟨rfl, (by repeat (first | exact Below.refl _ _ | assumption | refine bstep ?_ (by assumption) | refine Below.drew ?_ | refine Below.alloc ?_ (by first | (simp; done) | (simp; omega) | omega) _ | refine Below.setCell ?_ (by first | (simp; done) | (simp; omega) | omega) _))⟩
set_option maxHeartbeats 4000000 in
theorem operH_p (pl c d m le sk x y z p q : Int)  (w : World) (h : TextTabs w) :
    Calls Tryd.prog 34 #[shV pl c d m le sk x y z p q (plainV pl c d m le sk), .string ⟨#[72]⟩] w fun e w' => e = .returned (.string (sb [104, 108])) ∧ Below w.heap.size w w' := by
  have kn := Lib.hid (fun W (hW : Below w.heap.size w W) => plain_any pl c d m le sk (sb [104, 108]) W)
  generalize hR : sb [104, 108] = R at *
  have kn := Lib.hid (show ∀ W (hW : Below w.heap.size w W), Calls Tryd.prog 32 #[nmV pl c d m le sk, .string ⟨#[104, 108]⟩] W fun e w' => e = .returned (.string R) ∧ Below W.heap.size W w' from hR ▸ kn.out)
  clear h
  go_enter Tryd.func34, Tryd.ntmps34
  go_wp2_with (first
    | (go_at_call 32; refine (kn.out _ ((by repeat (first | exact Below.refl _ _ | assumption | refine bstep ?_ (by assumption) | refine Below.drew ?_ | refine Below.alloc ?_ (by first | (simp; done) | (simp; omega) | omega) _ | refine Below.setCell ?_ (by first | (simp; done) | (simp; omega) | omega) _)))).mono ?_; rintro e w' ⟨rfl, hb⟩; have hsz := hb.size))
  go_ret
  exact ⟨rfl, (by repeat (first | exact Below.refl _ _ | assumption | refine bstep ?_ (by assumption) | refine Below.drew ?_ | refine Below.alloc ?_ (by first | (simp; done) | (simp; omega) | omega) _ | refine Below.setCell ?_ (by first | (simp; done) | (simp; omega) | omega) _))⟩
end Go.Proofs.YtgdpafldhmchpaaDoor
