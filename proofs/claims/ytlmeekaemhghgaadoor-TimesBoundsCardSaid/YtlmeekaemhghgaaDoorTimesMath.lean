/- Layer 10 (times): how many states instructions take, as plain functions on integers, and facts on them; nothing of the program. -/
import Derived.Test.YtlmeekaemhghgaaDoorDecodeRows
import Derived.RowKit
namespace Go.Proofs.YtlmeekaemhghgaaDoor
open Go.RowKit
set_option linter.unusedVariables false

/-- the table's rows, those that are equal once -/
def rowsT : List Int := [
  4, 10, 7, 6, 4, 4, 7, 4, 4, 11, 7, 6, 4, 4, 7, 4,
  8, 10, 7, 6, 4, 4, 7, 4, 12, 11, 7, 6, 4, 4, 7, 4,
  7, 10, 16, 6, 4, 4, 7, 4, 7, 11, 16, 6, 4, 4, 7, 4,
  7, 10, 13, 6, 11, 11, 10, 4, 7, 11, 13, 6, 4, 4, 7, 4,
  4, 4, 4, 4, 4, 4, 7, 4, 4, 4, 4, 4, 4, 4, 7, 4,
  7, 7, 7, 7, 7, 7, 4, 7, 4, 4, 4, 4, 4, 4, 7, 4,
  5, 10, 10, 10, 10, 11, 7, 11, 5, 10, 10, 4, 10, 17, 7, 11,
  5, 10, 10, 11, 10, 11, 7, 11, 5, 4, 10, 11, 10, 4, 7, 11,
  5, 10, 10, 19, 10, 11, 7, 11, 5, 4, 10, 4, 10, 4, 7, 11,
  5, 10, 10, 4, 10, 11, 7, 11, 5, 6, 10, 4, 10, 4, 7, 11]
def rowOfT : List Int := [0, 1, 2, 3, 4, 4, 4, 5, 4, 4, 4, 4, 6, 7, 8, 9]
def singleT : List Int := [12, 12, 15, 20, 8, 14, 8]
def specialT : List Int := [9, 9, 9, 9, 18, 18, 8, 8]
/-- a code of the plane Plain -/
def unheldM (c : Int) : Int := rowsT.getD (rowOfT.getD (c / 16).toNat 0 * 16 + c % 16).toNat 0
def addedM (c : Int) : Int := if fx c = 3 ∧ fz c = 4 then 7 else if fx c = 3 ∧ fz c = 0 then 6 else if c = 16 ∨ (fx c = 0 ∧ fz c = 0 ∧ 4 ≤ fy c) then 5 else 0
def plainM (c : Int) (t : Bool) : Int := if t then unheldM c + addedM c else unheldM c
def reachM (p c : Int) : Int := if c = 54 then 5 else if nearM p c then 8 else 0
def bitsCM (c : Int) : Int := if fz c = 6 then (if fx c = 1 then 12 else 15) else 8
def bitsNM (c : Int) : Int := if fx c = 1 then 20 else 23
def extM (c : Int) (t : Bool) : Int := if fx c = 1 then (if fz c < 7 then singleT.getD (fz c).toNat 0 else specialT.getD (fy c).toNat 0) else if fx c = 2 ∧ fz c < 4 ∧ 4 ≤ fy c then (if t && decide (6 ≤ fy c) then 21 else 16) else 8
/-- without prefixes that play no part -/
def netM (p c : Int) (t : Bool) : Int :=
  if p = 0 then plainM c t else if p = 3 ∨ p = 4 then 4 + plainM c t + reachM p c else if p = 1 then bitsCM c else if p = 5 ∨ p = 6 then bitsNM c else if p = 2 then extM c t else 0
def ofM (p c s : Int) (t : Bool) : Int := if p < 0 ∨ 6 < p then 0 else wrap64 (4 * s + netM p c t)
def asksM (p c s : Int) : Bool := ofM p c s true != ofM p c s false
/-- a fact on all planes and all bytes -/
theorem planes_all {P : Int → Int → Prop} (h : ∀ p : Fin 7, ∀ c : Fin 256, P (p.val : Int) (c.val : Int)) (p c : Int) (hp : 0 ≤ p ∧ p ≤ 6) (hc : B8 c) : P p c := by
  obtain ⟨h0, h1⟩ := hc
  have := h ⟨p.toNat, by omega⟩ ⟨c.toNat, by omega⟩
  simp only at this
  rwa [Int.toNat_of_nonneg hp.1, Int.toNat_of_nonneg h0] at this
theorem net_fin : ∀ p : Fin 7, ∀ c : Fin 256, (4 ≤ netM (p.val : Int) (c.val : Int) false ∧ netM (p.val : Int) (c.val : Int) false ≤ 23) ∧
    (netM (p.val : Int) (c.val : Int) true = netM (p.val : Int) (c.val : Int) false ∨ (5 ≤ netM (p.val : Int) (c.val : Int) true - netM (p.val : Int) (c.val : Int) false ∧ netM (p.val : Int) (c.val : Int) true - netM (p.val : Int) (c.val : Int) false ≤ 7)) := by decide +kernel
theorem net_all (p c : Int) (hp : 0 ≤ p ∧ p ≤ 6) (hc : B8 c) : (4 ≤ netM p c false ∧ netM p c false ≤ 23) ∧
    (netM p c true = netM p c false ∨ (5 ≤ netM p c true - netM p c false ∧ netM p c true - netM p c false ≤ 7)) :=
  planes_all (P := fun p c => (4 ≤ netM p c false ∧ netM p c false ≤ 23) ∧ (netM p c true = netM p c false ∨ (5 ≤ netM p c true - netM p c false ∧ netM p c true - netM p c false ≤ 7))) net_fin p c hp hc
theorem net_le (p c : Int) (t : Bool) (hc : B8 c) : 0 ≤ netM p c t ∧ netM p c t ≤ 30 := by
  by_cases hp : 0 ≤ p ∧ p ≤ 6
  · have h := net_all p c hp hc
    cases t <;> omega
  · unfold netM
    rw [if_neg (by omega), if_neg (by omega), if_neg (by omega), if_neg (by omega), if_neg (by omega)]
    omega
theorem of_small (p c s : Int) (t : Bool) (hp : 0 ≤ p ∧ p ≤ 6) (hs : 0 ≤ s ∧ s ≤ 4096) (hc : B8 c) : ofM p c s t = 4 * s + netM p c t := by
  have h := net_le p c t hc
  unfold ofM wrap64
  rw [if_neg (by omega)]
  omega
theorem of_no (p c s : Int) (t : Bool) (hp : p < 0 ∨ 6 < p) : ofM p c s t = 0 := by
  unfold ofM
  rw [if_pos hp]
/-- what goes through IX, and through IY -/
theorem xy_fin : ∀ c : Fin 256, ∀ t : Bool, netM 3 (c.val : Int) t = netM 4 (c.val : Int) t ∧ netM 5 (c.val : Int) t = netM 6 (c.val : Int) t ∧
    (netM 3 (c.val : Int) t = netM 0 (c.val : Int) t + 4 ∨ netM 3 (c.val : Int) t = netM 0 (c.val : Int) t + 12 ∨ ((c.val : Int) = 54 ∧ netM 3 (c.val : Int) t = netM 0 (c.val : Int) t + 9)) := by decide +kernel
theorem xy_all (c : Int) (t : Bool) (hc : B8 c) : netM 3 c t = netM 4 c t ∧ netM 5 c t = netM 6 c t ∧
    (netM 3 c t = netM 0 c t + 4 ∨ netM 3 c t = netM 0 c t + 12 ∨ (c = 54 ∧ netM 3 c t = netM 0 c t + 9)) := by
  obtain ⟨h0, h1⟩ := hc
  have := xy_fin ⟨c.toNat, by omega⟩ t
  simp only at this
  rwa [Int.toNat_of_nonneg h0] at this
/-- the states of instructions in a row -/
def sumT (l : List OpM) : Int := l.foldl (fun n o => wrap64 (n + ofM o.plane o.code o.skip false)) 0
theorem sumT_snoc (l : List OpM) (o : OpM) : sumT (l ++ [o]) = wrap64 (sumT l + ofM o.plane o.code o.skip false) := by simp [sumT]
theorem sumT_app (l m : List OpM) : sumT (l ++ m) = wrap64 (sumT l + sumT m) := by
  have key : ∀ (m : List OpM) (n : Int), wrap64 n = n → m.foldl (fun n o => wrap64 (n + ofM o.plane o.code o.skip false)) n = wrap64 (n + m.foldl (fun n o => wrap64 (n + ofM o.plane o.code o.skip false)) 0) := by
    intro m
    induction m with
    | nil => intro n hn; simpa using hn.symm
    | cons o m ih =>
      intro n hn
      have w2 : ∀ x, wrap64 (wrap64 x) = wrap64 x := fun x => by unfold wrap64; omega
      rw [List.foldl_cons, List.foldl_cons, ih _ (w2 _), ih (wrap64 (0 + ofM o.plane o.code o.skip false)) (w2 _)]
      generalize List.foldl _ 0 m = y
      generalize ofM o.plane o.code o.skip false = x
      clear ih hn w2
      unfold wrap64
      omega
  have h0 : wrap64 (sumT l) = sumT l := by
    rcases List.eq_nil_or_concat l with rfl | ⟨l', o, rfl⟩
    · show wrap64 0 = 0
      unfold wrap64
      omega
    · rw [List.concat_eq_append, sumT_snoc]
      unfold wrap64
      omega
  unfold sumT at *
  rw [List.foldl_append]
  exact key m _ h0
/-- two parts, the first of which ends with an instruction -/
theorem drop_more (xs ys : List Int) (k : Nat) (h : Runs xs k) : posM (xs ++ ys) k = posM xs k ∧ opsL (xs ++ ys) k = opsL xs k ∧ Runs (xs ++ ys) k := by
  induction k with
  | zero => exact ⟨rfl, rfl, Runs.zero _⟩
  | succ k ih =>
    obtain ⟨h1, h2, h3⟩ := ih (fun j hj => h j (by omega))
    have hk := h k (by omega)
    have hp := (show Runs xs k from fun j hj => h j (by omega)).pos
    have hle := ok_len hk
    have e : (xs ++ ys).drop (posM xs k) = xs.drop (posM xs k) ++ ys := List.drop_append_of_le_length hp.2
    have eo : opOf ((xs ++ ys).drop (posM xs k)) = opOf (xs.drop (posM xs k)) := by
      rw [e]
      exact opOf_congr _ _ fun j hj => gb_append_left _ _ _ (by omega)
    have el : lenOf ((xs ++ ys).drop (posM xs k)) = lenOf (xs.drop (posM xs k)) := by unfold lenOf; rw [eo]
    have ek : okM ((xs ++ ys).drop (posM xs k)) = true := by
      unfold okM
      rw [el, e, List.length_append]
      exact decide_eq_true (by omega)
    refine ⟨?_, ?_, h3.succ (by rw [h1]; exact ek)⟩
    · show posM (xs ++ ys) k + lenOf ((xs ++ ys).drop (posM (xs ++ ys) k)) = posM xs k + lenOf (xs.drop (posM xs k))
      rw [h1, el]
    · rw [opsL_succ, opsL_succ, h2]
      unfold opK
      rw [h1, eo]
theorem parts_pos (xs ys : List Int) (k : Nat) (h : Runs xs k) (he : posM xs k = xs.length) (j : Nat) : posM (xs ++ ys) (k + j) = xs.length + posM ys j := by
  induction j with
  | zero => rw [Nat.add_zero, (drop_more xs ys k h).1, he]; rfl
  | succ j ih =>
    have e : (xs ++ ys).drop (xs.length + posM ys j) = ys.drop (posM ys j) := by rw [← List.drop_drop, List.drop_left]
    show posM (xs ++ ys) (k + j) + lenOf ((xs ++ ys).drop (posM (xs ++ ys) (k + j))) = xs.length + (posM ys j + lenOf (ys.drop (posM ys j)))
    rw [ih, e]
    omega
theorem parts_drop (xs ys : List Int) (k : Nat) (h : Runs xs k) (he : posM xs k = xs.length) (j : Nat) : (xs ++ ys).drop (posM (xs ++ ys) (k + j)) = ys.drop (posM ys j) := by
  rw [parts_pos xs ys k h he j, ← List.drop_drop, List.drop_left]
theorem parts_ops (xs ys : List Int) (k : Nat) (h : Runs xs k) (he : posM xs k = xs.length) (j : Nat) : opsL (xs ++ ys) (k + j) = opsL xs k ++ opsL ys j := by
  induction j with
  | zero => rw [Nat.add_zero, (drop_more xs ys k h).2.1, opsL_zero, List.append_nil]
  | succ j ih =>
    rw [← Nat.add_assoc, opsL_succ, opsL_succ, ih, List.append_assoc]
    unfold opK
    rw [parts_drop xs ys k h he j]
theorem parts_stops (xs ys : List Int) (k j : Nat) (h : Runs xs k) (he : posM xs k = xs.length) (hs : Stops ys j) : Stops (xs ++ ys) (k + j) := by
  refine ⟨fun i hi => ?_, ?_⟩
  · by_cases hik : i < k
    · exact (drop_more xs ys k h).2.2 i hik
    · obtain ⟨m, rfl⟩ : ∃ m, i = k + m := ⟨i - k, by omega⟩
      rw [parts_drop xs ys k h he m]
      exact hs.1 m (by omega)
  · rw [parts_drop xs ys k h he j]
    exact hs.2
end Go.Proofs.YtlmeekaemhghgaaDoor
