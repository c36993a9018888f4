/- Plain functions on integers that say what layer 1 (bits) answers, and facts on them; nothing of the program. -/
import Derived.WalkKit
namespace Go.Proofs.Ytahnejcfengljaa

/-- the bit n of b -/
def isM (b n : Int) : Bool := decide (0 ≤ n) && (decide (n < 8) && decide (b / 2 ^ n.toNat % 2 = 1))
/-- b with the bit n set, or not -/
def withM (b n : Int) (on : Bool) : Int := if 0 ≤ n ∧ n < 8 then (if isM b n then (if on then b else b - 2 ^ n.toNat) else (if on then b + 2 ^ n.toNat else b)) else b
def countUpto (b : Int) : Nat → Int
  | 0 => 0
  | k + 1 => countUpto b k + if isM b k then 1 else 0
def evenM (b : Int) : Bool := countUpto b 8 % 2 == 0
def signedM (b : Int) : Int := if b < 128 then b else b - 256
def turnUpto (b by_ : Int) : Nat → Int
  | 0 => 0
  | k + 1 => turnUpto b by_ k + if isM b k then 2 ^ (((k : Int) + by_) % 8).toNat else 0
def turnM (b by_ : Int) : Int := turnUpto b by_ 8
/-- the lowest bit from k on, with r bits to look at; -1: none -/
def firstFrom (b : Int) : Nat → Nat → Int
  | _, 0 => -1
  | k, r + 1 => if isM b k then (k : Int) else firstFrom b (k + 1) r
def firstM (b : Int) : Int := firstFrom b 0 8

/-- The numbers of the bits that are set, of the first k. -/
def bitsUpto (b : Int) (k : Nat) : List (Fin 8) := ((List.finRange 8).take k).filter (fun n => isM b (n.val : Int))

theorem bitsUpto_zero (b : Int) : bitsUpto b 0 = [] := rfl
theorem bitsUpto_yes (b : Int) (k : Nat) (h : k < 8) (y : isM b (k : Int) = true) : bitsUpto b (k + 1) = bitsUpto b k ++ [⟨k, h⟩] := by
  unfold bitsUpto
  rw [List.take_succ_eq_append_getElem (by simpa using h), List.filter_append]
  simp [y]
theorem bitsUpto_no (b : Int) (k : Nat) (h : k < 8) (y : isM b (k : Int) = false) : bitsUpto b (k + 1) = bitsUpto b k := by
  unfold bitsUpto
  rw [List.take_succ_eq_append_getElem (by simpa using h), List.filter_append]
  simp [y]
theorem bitsUpto_length (b : Int) (k : Nat) : (bitsUpto b k).length ≤ k := by
  unfold bitsUpto
  exact Nat.le_trans (List.length_filter_le _ _) (List.length_take_le _ _)

/-- A byte is one of 256. -/
theorem byte_all {P : Int → Prop} (h : ∀ x : Fin 256, P (x.val : Int)) (b : Int) (h0 : 0 ≤ b) (h1 : b ≤ 255) : P b := by
  have := h ⟨b.toNat, by omega⟩
  simpa [Int.toNat_of_nonneg h0] using this
theorem bit_all {P : Int → Prop} (h : ∀ x : Fin 8, P (x.val : Int)) (n : Int) (h0 : 0 ≤ n) (h1 : n < 8) : P n := by
  have := h ⟨n.toNat, by omega⟩
  simpa [Int.toNat_of_nonneg h0] using this

def evenFold (l : List (Fin 8)) : Bool := l.foldl (fun e _ => !e) true
def turnFold (left : Int) (l : List (Fin 8)) : Int := l.foldl (fun t n => withM t (((n.val : Int) + left) % 8) true) 0

theorem evenFold_all (b : Int) (h0 : 0 ≤ b) (h1 : b ≤ 255) : evenFold (bitsUpto b 8) = evenM b :=
  byte_all (P := fun b => evenFold (bitsUpto b 8) = evenM b) (by decide +kernel) b h0 h1
theorem turn_mod (b by_ : Int) : ∀ k, turnUpto b by_ k = turnUpto b (by_ % 8) k
  | 0 => rfl
  | k + 1 => by
    have e : ((k : Int) + by_ % 8) % 8 = ((k : Int) + by_) % 8 := by omega
    simp only [turnUpto, turn_mod b by_ k, e]
theorem turnFold_fin : ∀ (x : Fin 256) (y : Fin 8), turnFold (y.val : Int) (bitsUpto (x.val : Int) 8) = turnM (x.val : Int) (y.val : Int) := by decide +kernel
theorem turnFold_all (b by_ : Int) (h0 : 0 ≤ b) (h1 : b ≤ 255) : turnFold (by_ % 8) (bitsUpto b 8) = turnM b by_ := by
  unfold turnM
  rw [turn_mod]
  exact bit_all (P := fun y => turnFold y (bitsUpto b 8) = turnM b y) (fun y => byte_all (P := fun b => turnFold (y.val : Int) (bitsUpto b 8) = turnM b (y.val : Int)) (fun x => turnFold_fin x y) b h0 h1) (by_ % 8) (by omega) (by omega)
theorem turnM_fin : ∀ (x : Fin 256) (y : Fin 8), 0 ≤ turnM (x.val : Int) (y.val : Int) ∧ turnM (x.val : Int) (y.val : Int) ≤ 255 := by decide +kernel
theorem turnM_byte (b by_ : Int) (h0 : 0 ≤ b) (h1 : b ≤ 255) : 0 ≤ turnM b by_ ∧ turnM b by_ ≤ 255 := by
  unfold turnM
  rw [turn_mod]
  exact bit_all (P := fun y => 0 ≤ turnM b y ∧ turnM b y ≤ 255) (fun y => byte_all (P := fun b => 0 ≤ turnM b (y.val : Int) ∧ turnM b (y.val : Int) ≤ 255) (fun x => turnM_fin x y) b h0 h1) (by_ % 8) (by omega) (by omega)
theorem first_fin : ∀ x : Fin 256, firstM (x.val : Int) = ((bitsUpto (x.val : Int) 8).head?.map (fun n => (n.val : Int))).getD (-1) := by decide +kernel
theorem withM_fin : ∀ (x : Fin 256) (y : Fin 8) (on : Bool), 0 ≤ withM (x.val : Int) (y.val : Int) on ∧ withM (x.val : Int) (y.val : Int) on ≤ 255 := by decide +kernel
theorem withM_byte (b n : Int) (on : Bool) (h0 : 0 ≤ b) (h1 : b ≤ 255) : 0 ≤ withM b n on ∧ withM b n on ≤ 255 := by
  by_cases h : 0 ≤ n ∧ n < 8
  · exact bit_all (P := fun y => 0 ≤ withM b y on ∧ withM b y on ≤ 255) (fun y => byte_all (P := fun b => 0 ≤ withM b (y.val : Int) on ∧ withM b (y.val : Int) on ≤ 255) (fun x => withM_fin x y on) b h0 h1) n h.1 h.2
  · unfold withM; rw [if_neg h]; exact ⟨h0, h1⟩
end Go.Proofs.Ytahnejcfengljaa
