/- Layer 8 (decode): what Fields, Size, Near, Next, Bytes and All answer, as plain functions on integers and lists of bytes, and facts on them; nothing of the program. -/
import Derived.Test.YtahnejcfengljaaFlagsMath
namespace Go.Proofs.Ytahnejcfengljaa
set_option linter.unusedVariables false

def fx (c : Int) : Int := c / 64
def fy (c : Int) : Int := c / 8 % 8
def fz (c : Int) : Int := c % 8
def fp (c : Int) : Int := c / 16 % 4
def fq (c : Int) : Int := c / 8 % 2
/-- one byte, two bytes behind a code of the planes Plain, DD and FD -/
def oneB (x y z : Int) : Bool := if x = 0 then z == 6 || (z == 0 && decide (2 ≤ y)) else x == 3 && (z == 6 || (z == 3 && (y == 2 || y == 3)))
def twoB (x y z p q : Int) : Bool := if x = 0 then (z == 1 && q == 0) || (z == 2 && decide (4 ≤ y)) else x == 3 && (z == 2 || (z == 3 && y == 0) || z == 4 || (z == 5 && q == 1 && p == 0))
def sizeP (c : Int) : Int := if oneB (fx c) (fy c) (fz c) then 1 else if twoB (fx c) (fy c) (fz c) (fp c) (fq c) then 2 else 0
def sizeE (c : Int) : Int := if fx c = 1 ∧ fz c = 3 then 2 else 0
def sizeM (plane c : Int) : Int := if plane = 0 ∨ plane = 3 ∨ plane = 4 then sizeP c else if plane = 2 then sizeE c else 0
def pointsM (c : Int) : Bool := if fx c = 0 then fy c == 6 && (decide (4 ≤ fz c) && decide (fz c ≤ 6)) else if fx c = 1 then (fy c == 6) != (fz c == 6) else if fx c = 2 then fz c == 6 else false
def aheadM (plane : Int) : Bool := plane == 5 || plane == 6
def nearM (plane c : Int) : Bool := if plane = 3 ∨ plane = 4 then pointsM c else aheadM plane

theorem sizeP_le (c : Int) : 0 ≤ sizeP c ∧ sizeP c ≤ 2 := by
  unfold sizeP
  split
  · omega
  · split <;> omega
theorem sizeE_le (c : Int) : 0 ≤ sizeE c ∧ sizeE c ≤ 2 := by
  unfold sizeE
  split <;> omega
theorem sizeM_le (plane c : Int) : 0 ≤ sizeM plane c ∧ sizeM plane c ≤ 2 := by
  have h1 := sizeP_le c
  have h2 := sizeE_le c
  unfold sizeM
  split
  · exact h1
  · split
    · exact h2
    · omega

/-- An instruction. -/
structure OpM where
  plane : Int
  code : Int
  disp : Int
  imm : Int
  len : Int
  skip : Int
def zeroOp : OpM := ⟨0, 0, 0, 0, 0, 0⟩
/-- the byte at i, 0 behind the end -/
def gb (xs : List Int) (i : Nat) : Int := xs.getD i 0
def isPre (c : Int) : Bool := c == 221 || c == 253
/-- how many DD and FD there are ahead -/
def lead : List Int → Nat
  | [] => 0
  | x :: xs => if isPre x then lead xs + 1 else 0
def preP (xs : List Int) (m : Nat) : Int := if m = 0 then 0 else if gb xs (m - 1) = 221 then 3 else 4
def withinM (p : Int) : Int := if p = 3 then 5 else if p = 4 then 6 else 1
def hPlane (p c : Int) : Int := if c = 203 then withinM p else if c = 237 then 2 else p
def hCode (g : Nat → Int) (m : Nat) (p : Int) : Int := if aheadM (hPlane p (g m)) then g (m + 2) else if g m = 203 ∨ g m = 237 then g (m + 1) else g m
def hDisp (g : Nat → Int) (m : Nat) (p : Int) : Int := if aheadM (hPlane p (g m)) then g (m + 1) else if g m = 203 ∨ g m = 237 then 0 else if nearM p (g m) then g (m + 1) else 0
def hSkip (p s c : Int) : Int := if c = 237 ∧ p ≠ 0 then s + 1 else s
def hReads (g : Nat → Int) (m : Nat) (p : Int) : Nat := if aheadM (hPlane p (g m)) then m + 3 else if g m = 203 ∨ g m = 237 then m + 2 else if nearM p (g m) then m + 2 else m + 1
def immM (g : Nat → Int) (r : Nat) (n : Int) : Int := if n = 0 then 0 else if n = 1 then g r else 256 * g (r + 1) + g r
/-- the instruction behind m prefixes, the last of which led to plane p; s of them play no part; its length in bytes -/
def opAt (g : Nat → Int) (m : Nat) (p s : Int) : OpM :=
  let q := hPlane p (g m)
  let c := hCode g m p
  let r := hReads g m p
  let n := sizeM q c
  ⟨q, c, hDisp g m p, immM g r n, (r : Int) + n, hSkip p s (g m)⟩
def opOf (xs : List Int) : OpM := opAt (gb xs) (lead xs) (preP xs (lead xs)) ((lead xs - 1 : Nat) : Int)
def lenOf (xs : List Int) : Nat := (opOf xs).len.toNat
def okM (xs : List Int) : Bool := decide (lenOf xs ≤ xs.length)
def nextO (xs : List Int) : OpM := if okM xs then opOf xs else zeroOp
def Bytes8 (xs : List Int) : Prop := ∀ x ∈ xs, B8 x

theorem gb_byte {xs : List Int} (h : Bytes8 xs) (i : Nat) : B8 (gb xs i) := by
  unfold gb
  rw [List.getD_eq_getElem?_getD]
  cases e : xs[i]? with
  | none => exact B8.zero
  | some x => exact h x (List.mem_of_getElem? e)
theorem gb_cons (x : Int) (xs : List Int) (i : Nat) : gb (x :: xs) (i + 1) = gb xs i := rfl
theorem gb_zero (x : Int) (xs : List Int) : gb (x :: xs) 0 = x := rfl
theorem lead_le (xs : List Int) : lead xs ≤ xs.length := by
  induction xs with
  | nil => exact Nat.le_refl _
  | cons x xs ih => unfold lead; split <;> simp <;> omega
theorem lead_pre (xs : List Int) (j : Nat) (hj : j < lead xs) : isPre (gb xs j) = true := by
  induction xs generalizing j with
  | nil => unfold lead at hj; omega
  | cons x xs ih =>
    unfold lead at hj
    split at hj
    · rename_i hx
      cases j with
      | zero => exact hx
      | succ j => exact ih j (by omega)
    · omega
theorem lead_end (xs : List Int) : isPre (gb xs (lead xs)) = false := by
  induction xs with
  | nil => rfl
  | cons x xs ih =>
    unfold lead
    split
    · exact ih
    · rename_i hx
      simpa [gb] using hx
theorem lead_of (xs : List Int) (m : Nat) (h1 : ∀ j, j < m → isPre (gb xs j) = true) (h2 : isPre (gb xs m) = false) : lead xs = m := by
  rcases Nat.lt_trichotomy (lead xs) m with h | h | h
  · have := h1 _ h
    rw [lead_end] at this
    cases this
  · exact h
  · have := lead_pre xs m h
    rw [h2] at this
    cases this
theorem opAt_congr (g g' : Nat → Int) (m : Nat) (p s : Int) (n : Nat) (hn : (opAt g m p s).len = n) (h : ∀ j, j < n → g' j = g j) : opAt g' m p s = opAt g m p s := by
  have k := sizeM_le (hPlane p (g m)) (hCode g m p)
  have k2 : (hReads g m p : Int) + sizeM (hPlane p (g m)) (hCode g m p) = n := hn
  have hr : m + 1 ≤ hReads g m p := by unfold hReads; split <;> (try split) <;> (try split) <;> omega
  have e0 : g' m = g m := h m (by omega)
  have eR : hReads g' m p = hReads g m p := by unfold hReads; rw [e0]
  have eC : hCode g' m p = hCode g m p := by
    unfold hCode
    rw [e0]
    unfold hReads at hr k2
    split
    · rename_i hh
      rw [if_pos hh] at k2
      exact h _ (by omega)
    · rename_i hh
      rw [if_neg hh] at k2
      split
      · rename_i h3
        rw [if_pos h3] at k2
        exact h _ (by omega)
      · rfl
  have eD : hDisp g' m p = hDisp g m p := by
    unfold hDisp
    rw [e0]
    unfold hReads at hr k2
    split
    · rename_i hh
      rw [if_pos hh] at k2
      exact h _ (by omega)
    · rename_i hh
      rw [if_neg hh] at k2
      split
      · rfl
      · rename_i h3
        rw [if_neg h3] at k2
        split
        · rename_i h4
          rw [if_pos h4] at k2
          exact h _ (by omega)
        · rfl
  have eI : immM g' (hReads g m p) (sizeM (hPlane p (g m)) (hCode g m p)) = immM g (hReads g m p) (sizeM (hPlane p (g m)) (hCode g m p)) := by
    unfold immM
    split
    · rfl
    · split
      · exact h _ (by omega)
      · rw [h (hReads g m p) (by omega), h (hReads g m p + 1) (by omega)]
  unfold opAt
  simp only [e0, eR, eC, eD, eI]
theorem hReads_ge (g : Nat → Int) (m : Nat) (p : Int) : m + 1 ≤ hReads g m p ∧ hReads g m p ≤ m + 3 := by
  unfold hReads; split <;> (try split) <;> (try split) <;> omega
theorem lenOf_eq (xs : List Int) : (opOf xs).len = (lenOf xs : Int) := by
  have k := sizeM_le (hPlane (preP xs (lead xs)) (gb xs (lead xs))) (hCode (gb xs) (lead xs) (preP xs (lead xs)))
  have e : (opOf xs).len = (hReads (gb xs) (lead xs) (preP xs (lead xs)) : Int) + sizeM (hPlane (preP xs (lead xs)) (gb xs (lead xs))) (hCode (gb xs) (lead xs) (preP xs (lead xs))) := rfl
  unfold lenOf
  omega
theorem lead_lt_len (xs : List Int) : lead xs < lenOf xs := by
  have k := sizeM_le (hPlane (preP xs (lead xs)) (gb xs (lead xs))) (hCode (gb xs) (lead xs) (preP xs (lead xs)))
  have e : (opOf xs).len = (hReads (gb xs) (lead xs) (preP xs (lead xs)) : Int) + sizeM (hPlane (preP xs (lead xs)) (gb xs (lead xs))) (hCode (gb xs) (lead xs) (preP xs (lead xs))) := rfl
  have h := hReads_ge (gb xs) (lead xs) (preP xs (lead xs))
  have := lenOf_eq xs
  omega
/-- what stands behind an instruction plays no part -/
theorem opOf_congr (xs ys : List Int) (h : ∀ j, j < lenOf xs → gb ys j = gb xs j) : opOf ys = opOf xs := by
  have hl := lead_lt_len xs
  have e : lead ys = lead xs := lead_of ys (lead xs) (fun j hj => by rw [h j (by omega)]; exact lead_pre xs j hj) (by rw [h _ hl]; exact lead_end xs)
  have ep : preP ys (lead xs) = preP xs (lead xs) := by
    unfold preP
    split
    · rfl
    · rw [h (lead xs - 1) (by omega)]
  unfold opOf
  rw [e, ep]
  exact opAt_congr (gb xs) (gb ys) _ _ _ (lenOf xs) (lenOf_eq xs) h
theorem lenOf_congr (xs ys : List Int) (h : ∀ j, j < lenOf xs → gb ys j = gb xs j) : lenOf ys = lenOf xs := by
  unfold lenOf
  rw [opOf_congr xs ys h]
theorem gb_append_left (xs ys : List Int) (j : Nat) (h : j < xs.length) : gb (xs ++ ys) j = gb xs j := by
  unfold gb
  rw [List.getD_eq_getElem?_getD, List.getD_eq_getElem?_getD, List.getElem?_append_left h]
theorem gb_take (xs : List Int) (k j : Nat) (h : j < k) : gb (xs.take k) j = gb xs j := by
  unfold gb
  rw [List.getD_eq_getElem?_getD, List.getD_eq_getElem?_getD, List.getElem?_take, if_pos h]
theorem gb_drop (xs : List Int) (k j : Nat) : gb (xs.drop k) j = gb xs (k + j) := by
  unfold gb
  rw [List.getD_eq_getElem?_getD, List.getD_eq_getElem?_getD, List.getElem?_drop]
/-- all bytes of an instruction, and any others behind them -/
theorem opOf_more (xs more : List Int) (h : lenOf xs ≤ xs.length) : opOf (xs.take (lenOf xs) ++ more) = opOf xs :=
  opOf_congr xs _ fun j hj => by
    rw [gb_append_left _ _ _ (by rw [List.length_take]; omega), gb_take _ _ _ hj]
/-- an instruction that is cut -/
theorem okM_cut (xs : List Int) (k : Nat) (hk : k < lenOf xs) (hx : k ≤ xs.length) : okM (xs.take k) = false := by
  unfold okM
  rw [decide_eq_false_iff_not]
  intro h
  rw [List.length_take] at h
  have := lenOf_congr (xs.take k) xs (fun j hj => (gb_take xs k j (by omega)).symm)
  omega
theorem lead_cons_pre (x : Int) (xs : List Int) (h : isPre x = true) : lead (x :: xs) = lead xs + 1 := by
  show (if isPre x then lead xs + 1 else 0) = _
  rw [if_pos h]
theorem lead_cons_no (x : Int) (xs : List Int) (h : isPre x = false) : lead (x :: xs) = 0 := by
  show (if isPre x then lead xs + 1 else 0) = _
  rw [h]; rfl
theorem opAt_shift (g g' : Nat → Int) (m : Nat) (p s : Int) (h : ∀ j, g' (j + 1) = g j) :
    opAt g' (m + 1) p s = { opAt g m p s with len := (opAt g m p s).len + 1 } := by
  have e : ∀ j, g' (m + 1 + j) = g (m + j) := fun j => by rw [show m + 1 + j = (m + j) + 1 by omega, h]
  have e0 : g' (m + 1) = g m := h m
  have e1 : g' (m + 1 + 1) = g (m + 1) := h (m + 1)
  have e2 : g' (m + 1 + 2) = g (m + 2) := h (m + 2)
  have eR : hReads g' (m + 1) p = hReads g m p + 1 := by
    unfold hReads
    rw [e0]
    split
    · rfl
    · split
      · rfl
      · split <;> rfl
  have eC : hCode g' (m + 1) p = hCode g m p := by unfold hCode; rw [e0, e1, e2]
  have eD : hDisp g' (m + 1) p = hDisp g m p := by unfold hDisp; rw [e0, e1]
  have eI : ∀ r n, immM g' (r + 1) n = immM g r n := fun r n => by unfold immM; rw [h r, show r + 1 + 1 = (r + 1) + 1 from rfl, h (r + 1)]
  unfold opAt
  simp only [e0, eR, eC, eD, eI, Int.natCast_add, Int.natCast_one]
  congr 1
  omega
theorem opAt_skip (g : Nat → Int) (m : Nat) (p s : Int) : opAt g m p (s + 1) = { opAt g m p s with skip := (opAt g m p s).skip + 1 } := by
  unfold opAt hSkip
  simp only
  congr 1
  split <;> omega
/-- a prefix more ahead of one plays no part -/
theorem opOf_skip (x : Int) (xs : List Int) (h : isPre (gb xs 0) = true) : opOf (221 :: xs) = { opOf xs with len := (opOf xs).len + 1, skip := (opOf xs).skip + 1 } := by
  have hm : 0 < lead xs := by
    rcases Nat.eq_zero_or_pos (lead xs) with h0 | h0
    · have := lead_end xs
      rw [h0, h] at this
      cases this
    · exact h0
  have e : lead (221 :: xs) = lead xs + 1 := lead_cons_pre _ _ rfl
  have ep : preP (221 :: xs) (lead xs + 1) = preP xs (lead xs) := by
    obtain ⟨n, hn⟩ : ∃ n, lead xs = n + 1 := ⟨lead xs - 1, by omega⟩
    rw [hn]
    rfl
  unfold opOf
  rw [e, ep, opAt_shift (gb xs) (gb (221 :: xs)) _ _ _ (fun j => rfl), show ((lead xs + 1 - 1 : Nat) : Int) = ((lead xs - 1 : Nat) : Int) + 1 by omega, opAt_skip]
theorem opOf_noskip (xs : List Int) (h : isPre (gb xs 0) = false) : (opOf xs).skip = 0 := by
  have e := lead_of xs 0 (fun j hj => by omega) h
  unfold opOf opAt hSkip preP
  rw [e]
  simp
end Go.Proofs.Ytahnejcfengljaa
