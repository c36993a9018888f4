/- Layer 11 (regs): places of pairs, their maps: contracts. -/
import Derived.Test.YtpiadeedgjmmkaaDoorRegsMath
import Derived.Test.YtpiadeedgjmmkaaDoorBitsLeaf
import Derived.Test.YtpiadeedgjmmkaaDoorBox
import Derived.Test.YtpiadeedgjmmkaaDoorMapLit
import Derived.Test.YtpiadeedgjmmkaaDoorMem
import Derived.Test.YtpiadeedgjmmkaaDoorWhole
import Derived.Deep.DeepHandedRow
import Derived.Laws.EntriesVeiled
import Derived.Maps.Own
import Derived.Lib.Hide
namespace Go.Proofs.YtpiadeedgjmmkaaDoor
open Go.RowKit
set_option linter.unusedVariables false
set_option linter.unusedSimpArgs false

theorem fbc_any (b : Nat) (w : World) : Calls Tryd.prog 40 #[.pointer (some ⟨b, 0, none⟩)] w fun e w' => e = .returned (.pointer (some ⟨b, 1, none⟩)) ∧ w = w' := by
  go_enter Tryd.func40, Tryd.ntmps40
  go_wp2
  go_ret
  exact ⟨rfl, rfl⟩
theorem fde_any (b : Nat) (w : World) : Calls Tryd.prog 41 #[.pointer (some ⟨b, 0, none⟩)] w fun e w' => e = .returned (.pointer (some ⟨b, 2, none⟩)) ∧ w = w' := by
  go_enter Tryd.func41, Tryd.ntmps41
  go_wp2
  go_ret
  exact ⟨rfl, rfl⟩
theorem fhl_any (b : Nat) (w : World) : Calls Tryd.prog 57 #[.pointer (some ⟨b, 0, none⟩)] w fun e w' => e = .returned (.pointer (some ⟨b, 3, none⟩)) ∧ w = w' := by
  go_enter Tryd.func57, Tryd.ntmps57
  go_wp2
  go_ret
  exact ⟨rfl, rfl⟩
theorem fix_any (b : Nat) (w : World) : Calls Tryd.prog 55 #[.pointer (some ⟨b, 0, none⟩)] w fun e w' => e = .returned (.pointer (some ⟨b, 8, none⟩)) ∧ w = w' := by
  go_enter Tryd.func55, Tryd.ntmps55
  go_wp2
  go_ret
  exact ⟨rfl, rfl⟩
theorem fiy_any (b : Nat) (w : World) : Calls Tryd.prog 56 #[.pointer (some ⟨b, 0, none⟩)] w fun e w' => e = .returned (.pointer (some ⟨b, 9, none⟩)) ∧ w = w' := by
  go_enter Tryd.func56, Tryd.ntmps56
  go_wp2
  go_ret
  exact ⟨rfl, rfl⟩
theorem fsp_any (b : Nat) (w : World) : Calls Tryd.prog 44 #[.pointer (some ⟨b, 0, none⟩)] w fun e w' => e = .returned (.pointer (some ⟨b, 10, none⟩)) ∧ w = w' := by
  go_enter Tryd.func44, Tryd.ntmps44
  go_wp2
  go_ret
  exact ⟨rfl, rfl⟩
theorem faf_any (b : Nat) (w : World) : Calls Tryd.prog 43 #[.pointer (some ⟨b, 0, none⟩)] w fun e w' => e = .returned (.pointer (some ⟨b, 0, none⟩)) ∧ w = w' := by
  go_enter Tryd.func43, Tryd.ntmps43
  go_wp2
  go_ret
  exact ⟨rfl, rfl⟩
/-- places as values -/
abbrev vBC : Value := .func (.func 40) #[] #[]
abbrev vDE : Value := .func (.func 41) #[] #[]
abbrev vHL : Value := .func (.func 57) #[] #[]
abbrev vIX : Value := .func (.func 55) #[] #[]
abbrev vIY : Value := .func (.func 56) #[] #[]
abbrev vSP : Value := .func (.func 44) #[] #[]
abbrev vAF : Value := .func (.func 43) #[] #[]
def thirdF (plane : Int) : FuncId := if plane = 3 then 55 else if plane = 4 then 56 else 57
abbrev thirdV (plane : Int) : Value := .func (.func (thirdF plane)) #[] #[]
theorem third_any (p : Int) (w : World) : Calls Tryd.prog 42 #[.int .i64 p] w fun e w' => e = .returned (thirdV p) ∧ w = w' := by
  unfold thirdV thirdF
  by_cases h3 : p = 3
  · subst h3
    go_enter Tryd.func42, Tryd.ntmps42
    go_wp2
    go_ret
    exact ⟨rfl, rfl⟩
  by_cases h4 : p = 4
  · subst h4
    go_enter Tryd.func42, Tryd.ntmps42
    go_wp2
    go_ret
    exact ⟨rfl, rfl⟩
  rw [if_neg h3, if_neg h4]
  have e3 : (p == 3) = false := by simpa using h3
  have e4 : (p == 4) = false := by simpa using h4
  go_enter Tryd.func42, Tryd.ntmps42
  go_wp2
  go_ret
  exact ⟨rfl, rfl⟩
theorem inp_0 (v0 : Value) (W : World) (b : Nat) (hb : b = W.heap.size) :
    (Instr.mapUpdate 47 (.map (some b)) (.int .i64 0) v0).run Tryd.prog (W.alloc (.map #[] 0)) = .ok () (W.alloc (.map #[⟨.int .i64 0, v0, 0⟩] 1)) :=
  run_insert_top W _ _ _ Tryd.underlying47 Tryd.underlying3 _ _ _ _ b hb rfl
theorem inp_1 (v0 v1 : Value) (W : World) (b : Nat) (hb : b = W.heap.size) :
    (Instr.mapUpdate 47 (.map (some b)) (.int .i64 1) v1).run Tryd.prog (W.alloc (.map #[⟨.int .i64 0, v0, 0⟩] 1)) = .ok () (W.alloc (.map #[⟨.int .i64 0, v0, 0⟩, ⟨.int .i64 1, v1, 1⟩] 2)) :=
  run_insert_top W _ _ _ Tryd.underlying47 Tryd.underlying3 _ _ _ _ b hb rfl
theorem inp_2 (v0 v1 v2 : Value) (W : World) (b : Nat) (hb : b = W.heap.size) :
    (Instr.mapUpdate 47 (.map (some b)) (.int .i64 2) v2).run Tryd.prog (W.alloc (.map #[⟨.int .i64 0, v0, 0⟩, ⟨.int .i64 1, v1, 1⟩] 2)) = .ok () (W.alloc (.map #[⟨.int .i64 0, v0, 0⟩, ⟨.int .i64 1, v1, 1⟩, ⟨.int .i64 2, v2, 2⟩] 3)) :=
  run_insert_top W _ _ _ Tryd.underlying47 Tryd.underlying3 _ _ _ _ b hb rfl
theorem inp_3 (v0 v1 v2 v3 : Value) (W : World) (b : Nat) (hb : b = W.heap.size) :
    (Instr.mapUpdate 47 (.map (some b)) (.int .i64 3) v3).run Tryd.prog (W.alloc (.map #[⟨.int .i64 0, v0, 0⟩, ⟨.int .i64 1, v1, 1⟩, ⟨.int .i64 2, v2, 2⟩] 3)) = .ok () (W.alloc (.map #[⟨.int .i64 0, v0, 0⟩, ⟨.int .i64 1, v1, 1⟩, ⟨.int .i64 2, v2, 2⟩, ⟨.int .i64 3, v3, 3⟩] 4)) :=
  run_insert_top W _ _ _ Tryd.underlying47 Tryd.underlying3 _ _ _ _ b hb rfl
attribute [local go_sem] inp_0 inp_1 inp_2 inp_3
def pairEnts (p : Int) : Array MapEntry := #[⟨.int .i64 0, vBC, 0⟩, ⟨.int .i64 1, vDE, 1⟩, ⟨.int .i64 2, thirdV p, 2⟩, ⟨.int .i64 3, vSP, 3⟩]
set_option maxHeartbeats 2000000 in
theorem pairs_any (p : Int) (w : World) : Calls Tryd.prog 31 #[.int .i64 p] w fun e w' => e = .returned (.map (some w.heap.size)) ∧ w' = w.alloc (.map (pairEnts p) 4) := by
  have hmm := @run_makeMap Tryd.prog
  have ht := Lib.hid (fun w => third_any p w)
  go_enter Tryd.func31, Tryd.ntmps31
  go_wp2_with (first
    | (go_at_call 42; refine (ht.out _).mono ?_; rintro e w' ⟨rfl, rfl⟩))
  go_ret
  exact ⟨rfl, rfl⟩
theorem inh_0 (v0 : Value) (W : World) (b : Nat) (hb : b = W.heap.size) :
    (Instr.mapUpdate 40 (.map (some b)) (.int .i64 0) v0).run Tryd.prog (W.alloc (.map #[] 0)) = .ok () (W.alloc (.map #[⟨.int .i64 0, v0, 0⟩] 1)) :=
  run_insert_top W _ _ _ Tryd.underlying40 Tryd.underlying3 _ _ _ _ b hb rfl
theorem inh_1 (v0 v1 : Value) (W : World) (b : Nat) (hb : b = W.heap.size) :
    (Instr.mapUpdate 40 (.map (some b)) (.int .i64 1) v1).run Tryd.prog (W.alloc (.map #[⟨.int .i64 0, v0, 0⟩] 1)) = .ok () (W.alloc (.map #[⟨.int .i64 0, v0, 0⟩, ⟨.int .i64 1, v1, 1⟩] 2)) :=
  run_insert_top W _ _ _ Tryd.underlying40 Tryd.underlying3 _ _ _ _ b hb rfl
theorem inh_2 (v0 v1 v2 : Value) (W : World) (b : Nat) (hb : b = W.heap.size) :
    (Instr.mapUpdate 40 (.map (some b)) (.int .i64 2) v2).run Tryd.prog (W.alloc (.map #[⟨.int .i64 0, v0, 0⟩, ⟨.int .i64 1, v1, 1⟩] 2)) = .ok () (W.alloc (.map #[⟨.int .i64 0, v0, 0⟩, ⟨.int .i64 1, v1, 1⟩, ⟨.int .i64 2, v2, 2⟩] 3)) :=
  run_insert_top W _ _ _ Tryd.underlying40 Tryd.underlying3 _ _ _ _ b hb rfl
theorem inh_3 (v0 v1 v2 v3 : Value) (W : World) (b : Nat) (hb : b = W.heap.size) :
    (Instr.mapUpdate 40 (.map (some b)) (.int .i64 3) v3).run Tryd.prog (W.alloc (.map #[⟨.int .i64 0, v0, 0⟩, ⟨.int .i64 1, v1, 1⟩, ⟨.int .i64 2, v2, 2⟩] 3)) = .ok () (W.alloc (.map #[⟨.int .i64 0, v0, 0⟩, ⟨.int .i64 1, v1, 1⟩, ⟨.int .i64 2, v2, 2⟩, ⟨.int .i64 3, v3, 3⟩] 4)) :=
  run_insert_top W _ _ _ Tryd.underlying40 Tryd.underlying3 _ _ _ _ b hb rfl
theorem inh_4 (v0 v1 v2 v3 v4 : Value) (W : World) (b : Nat) (hb : b = W.heap.size) :
    (Instr.mapUpdate 40 (.map (some b)) (.int .i64 4) v4).run Tryd.prog (W.alloc (.map #[⟨.int .i64 0, v0, 0⟩, ⟨.int .i64 1, v1, 1⟩, ⟨.int .i64 2, v2, 2⟩, ⟨.int .i64 3, v3, 3⟩] 4)) = .ok () (W.alloc (.map #[⟨.int .i64 0, v0, 0⟩, ⟨.int .i64 1, v1, 1⟩, ⟨.int .i64 2, v2, 2⟩, ⟨.int .i64 3, v3, 3⟩, ⟨.int .i64 4, v4, 4⟩] 5)) :=
  run_insert_top W _ _ _ Tryd.underlying40 Tryd.underlying3 _ _ _ _ b hb rfl
theorem inh_5 (v0 v1 v2 v3 v4 v5 : Value) (W : World) (b : Nat) (hb : b = W.heap.size) :
    (Instr.mapUpdate 40 (.map (some b)) (.int .i64 5) v5).run Tryd.prog (W.alloc (.map #[⟨.int .i64 0, v0, 0⟩, ⟨.int .i64 1, v1, 1⟩, ⟨.int .i64 2, v2, 2⟩, ⟨.int .i64 3, v3, 3⟩, ⟨.int .i64 4, v4, 4⟩] 5)) = .ok () (W.alloc (.map #[⟨.int .i64 0, v0, 0⟩, ⟨.int .i64 1, v1, 1⟩, ⟨.int .i64 2, v2, 2⟩, ⟨.int .i64 3, v3, 3⟩, ⟨.int .i64 4, v4, 4⟩, ⟨.int .i64 5, v5, 5⟩] 6)) :=
  run_insert_top W _ _ _ Tryd.underlying40 Tryd.underlying3 _ _ _ _ b hb rfl
theorem inh_6 (v0 v1 v2 v3 v4 v5 v6 : Value) (W : World) (b : Nat) (hb : b = W.heap.size) :
    (Instr.mapUpdate 40 (.map (some b)) (.int .i64 7) v6).run Tryd.prog (W.alloc (.map #[⟨.int .i64 0, v0, 0⟩, ⟨.int .i64 1, v1, 1⟩, ⟨.int .i64 2, v2, 2⟩, ⟨.int .i64 3, v3, 3⟩, ⟨.int .i64 4, v4, 4⟩, ⟨.int .i64 5, v5, 5⟩] 6)) = .ok () (W.alloc (.map #[⟨.int .i64 0, v0, 0⟩, ⟨.int .i64 1, v1, 1⟩, ⟨.int .i64 2, v2, 2⟩, ⟨.int .i64 3, v3, 3⟩, ⟨.int .i64 4, v4, 4⟩, ⟨.int .i64 5, v5, 5⟩, ⟨.int .i64 7, v6, 6⟩] 7)) :=
  run_insert_top W _ _ _ Tryd.underlying40 Tryd.underlying3 _ _ _ _ b hb rfl
attribute [local go_sem] inh_0 inh_1 inh_2 inh_3 inh_4 inh_5 inh_6
abbrev halfV (v : Value) (high : Bool) : Value := .agg #[v, .bool high]
def halfEnts (p : Int) : Array MapEntry := #[⟨.int .i64 0, halfV vBC true, 0⟩, ⟨.int .i64 1, halfV vBC false, 1⟩, ⟨.int .i64 2, halfV vDE true, 2⟩, ⟨.int .i64 3, halfV vDE false, 3⟩, ⟨.int .i64 4, halfV (thirdV p) true, 4⟩, ⟨.int .i64 5, halfV (thirdV p) false, 5⟩, ⟨.int .i64 7, halfV vAF true, 6⟩]
set_option maxHeartbeats 2000000 in
theorem halves_any (p : Int) (w : World) : Calls Tryd.prog 26 #[.int .i64 p] w fun e w' => e = .returned (.map (some w.heap.size)) ∧ w' = w.alloc (.map (halfEnts p) 7) := by
  have hmm := @run_makeMap Tryd.prog
  have ht := Lib.hid (fun w => third_any p w)
  go_enter Tryd.func26, Tryd.ntmps26
  go_wp2_with (first
    | (go_at_call 42; refine (ht.out _).mono ?_; rintro e w' ⟨rfl, rfl⟩))
  go_ret
  exact ⟨rfl, rfl⟩
theorem lkp_0 {w : World} {M : Nat} {p : Int} (h : w.heap[M]? = some (.map (pairEnts p) 4)) : (Instr.lookup 47 (.map (some M)) (.int .i64 0) true).run Tryd.prog w = .ok (.tuple #[vBC, .bool true]) w :=
  run_look Tryd.underlying47 Tryd.underlying3 h rfl
theorem lkp_1 {w : World} {M : Nat} {p : Int} (h : w.heap[M]? = some (.map (pairEnts p) 4)) : (Instr.lookup 47 (.map (some M)) (.int .i64 1) true).run Tryd.prog w = .ok (.tuple #[vDE, .bool true]) w :=
  run_look Tryd.underlying47 Tryd.underlying3 h rfl
theorem lkp_2 {w : World} {M : Nat} {p : Int} {F : FuncId} (hF : thirdF p = F) (h : w.heap[M]? = some (.map (pairEnts p) 4)) : (Instr.lookup 47 (.map (some M)) (.int .i64 2) true).run Tryd.prog w = .ok (.tuple #[.func (.func F) #[] #[], .bool true]) w :=
  hF ▸ run_look Tryd.underlying47 Tryd.underlying3 h rfl
theorem lkp_3 {w : World} {M : Nat} {p : Int} (h : w.heap[M]? = some (.map (pairEnts p) 4)) : (Instr.lookup 47 (.map (some M)) (.int .i64 3) true).run Tryd.prog w = .ok (.tuple #[vSP, .bool true]) w :=
  run_look Tryd.underlying47 Tryd.underlying3 h rfl
theorem lkp_no {w : World} {M : Nat} {p k : Int} (hk : k < 0 ∨ 3 < k) (h : w.heap[M]? = some (.map (pairEnts p) 4)) : (Instr.lookup 47 (.map (some M)) (.int .i64 k) true).run Tryd.prog w = .ok (.tuple #[.nilFunc, .bool false]) w :=
  run_look_no Tryd.underlying47 Tryd.underlying3 h (by
    have n0 : (k == 0) = false := by simp; omega
    have n1 : (k == 1) = false := by simp; omega
    have n2 : (k == 2) = false := by simp; omega
    have n3 : (k == 3) = false := by simp; omega
    simp only [pairEnts, Instr.findNow, Instr.sameNow, if_true, n0, n1, n2, n3]) (by kernel_rfl)
theorem lkh_0 {w : World} {M : Nat} {p : Int} (h : w.heap[M]? = some (.map (halfEnts p) 7)) : (Instr.lookup 40 (.map (some M)) (.int .i64 0) true).run Tryd.prog w = .ok (.tuple #[halfV vBC true, .bool true]) w :=
  run_look Tryd.underlying40 Tryd.underlying3 h rfl
theorem lkh_1 {w : World} {M : Nat} {p : Int} (h : w.heap[M]? = some (.map (halfEnts p) 7)) : (Instr.lookup 40 (.map (some M)) (.int .i64 1) true).run Tryd.prog w = .ok (.tuple #[halfV vBC false, .bool true]) w :=
  run_look Tryd.underlying40 Tryd.underlying3 h rfl
theorem lkh_2 {w : World} {M : Nat} {p : Int} (h : w.heap[M]? = some (.map (halfEnts p) 7)) : (Instr.lookup 40 (.map (some M)) (.int .i64 2) true).run Tryd.prog w = .ok (.tuple #[halfV vDE true, .bool true]) w :=
  run_look Tryd.underlying40 Tryd.underlying3 h rfl
theorem lkh_3 {w : World} {M : Nat} {p : Int} (h : w.heap[M]? = some (.map (halfEnts p) 7)) : (Instr.lookup 40 (.map (some M)) (.int .i64 3) true).run Tryd.prog w = .ok (.tuple #[halfV vDE false, .bool true]) w :=
  run_look Tryd.underlying40 Tryd.underlying3 h rfl
theorem lkh_4 {w : World} {M : Nat} {p : Int} {F : FuncId} (hF : thirdF p = F) (h : w.heap[M]? = some (.map (halfEnts p) 7)) : (Instr.lookup 40 (.map (some M)) (.int .i64 4) true).run Tryd.prog w = .ok (.tuple #[halfV (.func (.func F) #[] #[]) true, .bool true]) w :=
  hF ▸ run_look Tryd.underlying40 Tryd.underlying3 h rfl
theorem lkh_5 {w : World} {M : Nat} {p : Int} {F : FuncId} (hF : thirdF p = F) (h : w.heap[M]? = some (.map (halfEnts p) 7)) : (Instr.lookup 40 (.map (some M)) (.int .i64 5) true).run Tryd.prog w = .ok (.tuple #[halfV (.func (.func F) #[] #[]) false, .bool true]) w :=
  hF ▸ run_look Tryd.underlying40 Tryd.underlying3 h rfl
theorem lkh_7 {w : World} {M : Nat} {p : Int} (h : w.heap[M]? = some (.map (halfEnts p) 7)) : (Instr.lookup 40 (.map (some M)) (.int .i64 7) true).run Tryd.prog w = .ok (.tuple #[halfV vAF true, .bool true]) w :=
  run_look Tryd.underlying40 Tryd.underlying3 h rfl
theorem lkh_no {w : World} {M : Nat} {p k : Int} (hk : k < 0 ∨ k = 6 ∨ 7 < k) (h : w.heap[M]? = some (.map (halfEnts p) 7)) : (Instr.lookup 40 (.map (some M)) (.int .i64 k) true).run Tryd.prog w = .ok (.tuple #[halfV .nilFunc false, .bool false]) w :=
  run_look_no Tryd.underlying40 Tryd.underlying3 h (by
    have n0 : (k == 0) = false := by simp; omega
    have n1 : (k == 1) = false := by simp; omega
    have n2 : (k == 2) = false := by simp; omega
    have n3 : (k == 3) = false := by simp; omega
    have n4 : (k == 4) = false := by simp; omega
    have n5 : (k == 5) = false := by simp; omega
    have n7 : (k == 7) = false := by simp; omega
    simp only [halfEnts, Instr.findNow, Instr.sameNow, if_true, n0, n1, n2, n3, n4, n5, n7]) (by kernel_rfl)
end Go.Proofs.YtpiadeedgjmmkaaDoor
