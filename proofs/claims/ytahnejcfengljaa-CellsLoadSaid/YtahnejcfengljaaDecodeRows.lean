/- Layer 8 (decode): all instructions of bytes, one behind the other, as plain functions; nothing of the program. -/
import Derived.Test.YtahnejcfengljaaDecodeMath
namespace Go.Proofs.Ytahnejcfengljaa
set_option linter.unusedVariables false

/-- where the instruction number k begins -/
def posM (xs : List Int) : Nat → Nat
  | 0 => 0
  | k + 1 => posM xs k + lenOf (xs.drop (posM xs k))
def opK (xs : List Int) (k : Nat) : OpM := opOf (xs.drop (posM xs k))
def opsL (xs : List Int) (k : Nat) : List OpM := (List.range k).map (opK xs)
def Runs (xs : List Int) (k : Nat) : Prop := ∀ j, j < k → okM (xs.drop (posM xs j)) = true
def Stops (xs : List Int) (k : Nat) : Prop := Runs xs k ∧ okM (xs.drop (posM xs k)) = false
theorem opsL_zero (xs : List Int) : opsL xs 0 = [] := rfl
theorem opsL_succ (xs : List Int) (k : Nat) : opsL xs (k + 1) = opsL xs k ++ [opK xs k] := by
  unfold opsL
  rw [List.range_succ, List.map_append]
  rfl
theorem opsL_length (xs : List Int) (k : Nat) : (opsL xs k).length = k := by simp [opsL]
theorem Runs.zero (xs : List Int) : Runs xs 0 := fun j hj => by omega
theorem Runs.succ {xs : List Int} {k : Nat} (h : Runs xs k) (o : okM (xs.drop (posM xs k)) = true) : Runs xs (k + 1) := fun j hj => by
  by_cases e : j = k
  · subst e; exact o
  · exact h j (by omega)
theorem ok_len {ys : List Int} (h : okM ys = true) : lenOf ys ≤ ys.length := by
  unfold okM at h
  exact of_decide_eq_true h
theorem Runs.pos {xs : List Int} {k : Nat} (h : Runs xs k) : k ≤ posM xs k ∧ posM xs k ≤ xs.length := by
  induction k with
  | zero => exact ⟨Nat.le_refl _, Nat.zero_le _⟩
  | succ k ih =>
    have h1 := ih (fun j hj => h j (by omega))
    have h2 := ok_len (h k (by omega))
    have h3 := lead_lt_len (xs.drop (posM xs k))
    rw [List.length_drop] at h2
    show k + 1 ≤ posM xs k + lenOf (xs.drop (posM xs k)) ∧ posM xs k + lenOf (xs.drop (posM xs k)) ≤ xs.length
    omega
theorem Stops.same {xs : List Int} {j k : Nat} (h : Stops xs j) (h' : Stops xs k) : j = k := by
  rcases Nat.lt_trichotomy j k with e | e | e
  · have := h'.1 j e
    rw [h.2] at this
    cases this
  · exact e
  · have := h.1 k e
    rw [h'.2] at this
    cases this
theorem Bytes8.drop {xs : List Int} (h : Bytes8 xs) (k : Nat) : Bytes8 (xs.drop k) := fun x hx => h x (List.mem_of_mem_drop hx)
theorem Bytes8.take {xs : List Int} (h : Bytes8 xs) (k : Nat) : Bytes8 (xs.take k) := fun x hx => h x (List.mem_of_mem_take hx)
theorem Bytes8.append {xs ys : List Int} (h : Bytes8 xs) (h' : Bytes8 ys) : Bytes8 (xs ++ ys) := fun x hx => by
  rcases List.mem_append.1 hx with e | e
  · exact h x e
  · exact h' x e
theorem drop_posM (xs : List Int) (k : Nat) : xs.drop (posM xs (k + 1)) = (xs.drop (posM xs k)).drop (lenOf (xs.drop (posM xs k))) := by
  rw [List.drop_drop]
  rfl
end Go.Proofs.Ytahnejcfengljaa
