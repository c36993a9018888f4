/- Contracts and facts that the claim's proof wants (several texts in one). -/
import Derived.WalkKit
import Derived.Test.YtkgaeamdhhceiaaGreatDoorChecked
import Derived.WalkLawsBesides
import Derived.WalkSpells
import Derived.Outline
import Derived.Laws.BitsAllLaws
import Derived.Laws.BitsLemmas
import Derived.LoopTactic
import Derived.RangeFuncNested
import Derived.RangeFuncBound
import Derived.RangeFuncCalls
import Derived.RangeFuncLeaves
import Derived.Shelf.Abstract
import Derived.Shelf.RegionOpen
import Derived.OwnWalkIn
import Derived.TacticsInMore
import Derived.LoopNIn
import Derived.LoopIn
import Derived.Lib.Hide
import Derived.RangeFuncBox
import Derived.Handy
import Derived.ChangeKeysEq
import Derived.Laws.Rows
import Derived.Below
import Derived.OrdersHeld
import Derived.StillTail
import Derived.Deep.MidRow
import Derived.Laws.NewBlocks
import Derived.Laws.Tables
import Derived.Deep.RegionHeld3
import Derived.Laws.EntriesVeiled
import Derived.Maps.Own
namespace Go.Proofs.YtkgaeamdhhceiaaGreatDoor
open Go.RowKit
set_option linter.unusedVariables false
set_option linter.unusedSimpArgs false
set_option maxRecDepth 20000
set_option maxHeartbeats 20000000
def isM (b n : Int) : Bool := decide (0 ≤ n) && (decide (n < 8) && decide (b / 2 ^ n.toNat % 2 = 1))
def withM (b n : Int) (on : Bool) : Int := if 0 ≤ n ∧ n < 8 then (if isM b n then (if on then b else b - 2 ^ n.toNat) else (if on then b + 2 ^ n.toNat else b)) else b
def countUpto (b : Int) : Nat → Int
  | 0 => 0
  | k + 1 => countUpto b k + if isM b k then 1 else 0
def evenM (b : Int) : Bool := countUpto b 8 % 2 == 0
def signedM (b : Int) : Int := if b < 128 then b else b - 256
def turnUpto (b by_ : Int) : Nat → Int
  | 0 => 0
  | k + 1 => turnUpto b by_ k + if isM b k then 2 ^ (((k : Int) + by_) % 8).toNat else 0
def turnM (b by_ : Int) : Int := turnUpto b by_ 8
def bitsUpto (b : Int) (k : Nat) : List (Fin 8) := ((List.finRange 8).take k).filter (fun n => isM b (n.val : Int))
theorem bitsUpto_yes (b : Int) (k : Nat) (h : k < 8) (y : isM b (k : Int) = true) : bitsUpto b (k + 1) = bitsUpto b k ++ [⟨k, h⟩] := by
  unfold bitsUpto
  rw [List.take_succ_eq_append_getElem (by simpa using h), List.filter_append]
  simp [y]
theorem bitsUpto_no (b : Int) (k : Nat) (h : k < 8) (y : isM b (k : Int) = false) : bitsUpto b (k + 1) = bitsUpto b k := by
  unfold bitsUpto
  rw [List.take_succ_eq_append_getElem (by simpa using h), List.filter_append]
  simp [y]
theorem bitsUpto_length (b : Int) (k : Nat) : (bitsUpto b k).length ≤ k := by
  unfold bitsUpto
  exact Nat.le_trans (List.length_filter_le _ _) (List.length_take_le _ _)
theorem byte_all {P : Int → Prop} (h : ∀ x : Fin 256, P (x.val : Int)) (b : Int) (h0 : 0 ≤ b) (h1 : b ≤ 255) : P b := by
  have := h ⟨b.toNat, by omega⟩
  simpa [Int.toNat_of_nonneg h0] using this
theorem bit_all {P : Int → Prop} (h : ∀ x : Fin 8, P (x.val : Int)) (n : Int) (h0 : 0 ≤ n) (h1 : n < 8) : P n := by
  have := h ⟨n.toNat, by omega⟩
  simpa [Int.toNat_of_nonneg h0] using this
def evenFold (l : List (Fin 8)) : Bool := l.foldl (fun e _ => !e) true
def turnFold (left : Int) (l : List (Fin 8)) : Int := l.foldl (fun t n => withM t (((n.val : Int) + left) % 8) true) 0
theorem evenFold_all (b : Int) (h0 : 0 ≤ b) (h1 : b ≤ 255) : evenFold (bitsUpto b 8) = evenM b :=
  byte_all (P := fun b => evenFold (bitsUpto b 8) = evenM b) (by decide +kernel) b h0 h1
theorem turn_mod (b by_ : Int) : ∀ k, turnUpto b by_ k = turnUpto b (by_ % 8) k
  | 0 => rfl
  | k + 1 => by
    have e : ((k : Int) + by_ % 8) % 8 = ((k : Int) + by_) % 8 := by omega
    simp only [turnUpto, turn_mod b by_ k, e]
theorem turnFold_fin : ∀ (x : Fin 256) (y : Fin 8), turnFold (y.val : Int) (bitsUpto (x.val : Int) 8) = turnM (x.val : Int) (y.val : Int) := by decide +kernel
theorem turnFold_all (b by_ : Int) (h0 : 0 ≤ b) (h1 : b ≤ 255) : turnFold (by_ % 8) (bitsUpto b 8) = turnM b by_ := by
  unfold turnM
  rw [turn_mod]
  exact bit_all (P := fun y => turnFold y (bitsUpto b 8) = turnM b y) (fun y => byte_all (P := fun b => turnFold (y.val : Int) (bitsUpto b 8) = turnM b (y.val : Int)) (fun x => turnFold_fin x y) b h0 h1) (by_ % 8) (by omega) (by omega)
theorem turnM_fin : ∀ (x : Fin 256) (y : Fin 8), 0 ≤ turnM (x.val : Int) (y.val : Int) ∧ turnM (x.val : Int) (y.val : Int) ≤ 255 := by decide +kernel
theorem turnM_byte (b by_ : Int) (h0 : 0 ≤ b) (h1 : b ≤ 255) : 0 ≤ turnM b by_ ∧ turnM b by_ ≤ 255 := by
  unfold turnM
  rw [turn_mod]
  exact bit_all (P := fun y => 0 ≤ turnM b y ∧ turnM b y ≤ 255) (fun y => byte_all (P := fun b => 0 ≤ turnM b (y.val : Int) ∧ turnM b (y.val : Int) ≤ 255) (fun x => turnM_fin x y) b h0 h1) (by_ % 8) (by omega) (by omega)
theorem withM_fin : ∀ (x : Fin 256) (y : Fin 8) (on : Bool), 0 ≤ withM (x.val : Int) (y.val : Int) on ∧ withM (x.val : Int) (y.val : Int) on ≤ 255 := by decide +kernel
theorem withM_byte (b n : Int) (on : Bool) (h0 : 0 ≤ b) (h1 : b ≤ 255) : 0 ≤ withM b n on ∧ withM b n on ≤ 255 := by
  by_cases h : 0 ≤ n ∧ n < 8
  · exact bit_all (P := fun y => 0 ≤ withM b y on ∧ withM b y on ≤ 255) (fun y => byte_all (P := fun b => 0 ≤ withM b (y.val : Int) on ∧ withM b (y.val : Int) on ≤ 255) (fun x => withM_fin x y on) b h0 h1) n h.1 h.2
  · unfold withM; rw [if_neg h]; exact ⟨h0, h1⟩
def B8 (x : Int) : Prop := 0 ≤ x ∧ x ≤ 255
theorem B8.lo {b : Int} (h : B8 b) : 0 ≤ b := h.1
theorem B8.hi {b : Int} (h : B8 b) : b ≤ 255 := h.2
theorem B8.with {b : Int} (h : B8 b) (n : Int) (on : Bool) : B8 (withM b n on) := withM_byte b n on h.1 h.2
theorem B8.zero : B8 0 := ⟨by omega, by omega⟩
def mkM (b0 b1 b2 b3 b4 b5 b6 b7 : Bool) : Int :=
  withM (withM (withM (withM (withM (withM (withM (withM 0 7 b0) 6 b1) 5 b2) 4 b3) 3 b4) 2 b5) 1 b6) 0 b7
theorem mkM_byte (b0 b1 b2 b3 b4 b5 b6 b7 : Bool) : B8 (mkM b0 b1 b2 b3 b4 b5 b6 b7) :=
  (((((((B8.zero.with 7 b0).with 6 b1).with 5 b2).with 4 b3).with 3 b4).with 2 b5).with 1 b6).with 0 b7
theorem of_mkM : ∀ b0 b1 b2 b3 b4 b5 b6 b7 : Bool, isM (mkM b0 b1 b2 b3 b4 b5 b6 b7) 7 = b0 ∧ isM (mkM b0 b1 b2 b3 b4 b5 b6 b7) 6 = b1 ∧ isM (mkM b0 b1 b2 b3 b4 b5 b6 b7) 5 = b2 ∧ isM (mkM b0 b1 b2 b3 b4 b5 b6 b7) 4 = b3 ∧
    isM (mkM b0 b1 b2 b3 b4 b5 b6 b7) 3 = b4 ∧ isM (mkM b0 b1 b2 b3 b4 b5 b6 b7) 2 = b5 ∧ isM (mkM b0 b1 b2 b3 b4 b5 b6 b7) 1 = b6 ∧ isM (mkM b0 b1 b2 b3 b4 b5 b6 b7) 0 = b7 := by decide +kernel
def testM (f cond : Int) : Bool :=
  if cond = 0 then !isM f 6 else if cond = 1 then isM f 6 else if cond = 2 then !isM f 0 else if cond = 3 then isM f 0 else
  if cond = 4 then !isM f 2 else if cond = 5 then isM f 2 else if cond = 6 then !isM f 7 else if cond = 7 then isM f 7 else false
def resultM (r : Int) : Int := mkM (isM r 7) (r == 0) (isM r 5) false (isM r 3) false false false
def evenFM (r : Int) : Int := mkM (isM r 7) (r == 0) (isM r 5) false (isM r 3) (evenM r) false false
def sel (m a b : Bool) : Bool := if m then b else a
def keepM (f old mask : Int) : Int :=
  mkM (sel (isM mask 7) (isM f 7) (isM old 7)) (sel (isM mask 6) (isM f 6) (isM old 6)) (sel (isM mask 5) (isM f 5) (isM old 5)) (sel (isM mask 4) (isM f 4) (isM old 4))
    (sel (isM mask 3) (isM f 3) (isM old 3)) (sel (isM mask 2) (isM f 2) (isM old 2)) (sel (isM mask 1) (isM f 1) (isM old 1)) (sel (isM mask 0) (isM f 0) (isM old 0))
theorem resultM_byte (r : Int) : B8 (resultM r) := mkM_byte ..
theorem evenFM_byte (r : Int) : B8 (evenFM r) := mkM_byte ..
theorem keepM_byte (f old mask : Int) : B8 (keepM f old mask) := mkM_byte ..
def fx (c : Int) : Int := c / 64
def fy (c : Int) : Int := c / 8 % 8
def fz (c : Int) : Int := c % 8
def fp (c : Int) : Int := c / 16 % 4
def fq (c : Int) : Int := c / 8 % 2
def oneB (x y z : Int) : Bool := if x = 0 then z == 6 || (z == 0 && decide (2 ≤ y)) else x == 3 && (z == 6 || (z == 3 && (y == 2 || y == 3)))
def twoB (x y z p q : Int) : Bool := if x = 0 then (z == 1 && q == 0) || (z == 2 && decide (4 ≤ y)) else x == 3 && (z == 2 || (z == 3 && y == 0) || z == 4 || (z == 5 && q == 1 && p == 0))
def sizeP (c : Int) : Int := if oneB (fx c) (fy c) (fz c) then 1 else if twoB (fx c) (fy c) (fz c) (fp c) (fq c) then 2 else 0
def sizeE (c : Int) : Int := if fx c = 1 ∧ fz c = 3 then 2 else 0
def sizeM (plane c : Int) : Int := if plane = 0 ∨ plane = 3 ∨ plane = 4 then sizeP c else if plane = 2 then sizeE c else 0
def pointsM (c : Int) : Bool := if fx c = 0 then fy c == 6 && (decide (4 ≤ fz c) && decide (fz c ≤ 6)) else if fx c = 1 then (fy c == 6) != (fz c == 6) else if fx c = 2 then fz c == 6 else false
def aheadM (plane : Int) : Bool := plane == 5 || plane == 6
def nearM (plane c : Int) : Bool := if plane = 3 ∨ plane = 4 then pointsM c else aheadM plane
theorem sizeP_le (c : Int) : 0 ≤ sizeP c ∧ sizeP c ≤ 2 := by
  unfold sizeP
  split
  · omega
  · split <;> omega
theorem sizeE_le (c : Int) : 0 ≤ sizeE c ∧ sizeE c ≤ 2 := by
  unfold sizeE
  split <;> omega
theorem sizeM_le (plane c : Int) : 0 ≤ sizeM plane c ∧ sizeM plane c ≤ 2 := by
  have h1 := sizeP_le c
  have h2 := sizeE_le c
  unfold sizeM
  split
  · exact h1
  · split
    · exact h2
    · omega
structure OpM where
  plane : Int
  code : Int
  disp : Int
  imm : Int
  len : Int
  skip : Int
def gb (xs : List Int) (i : Nat) : Int := xs.getD i 0
def isPre (c : Int) : Bool := c == 221 || c == 253
def lead : List Int → Nat
  | [] => 0
  | x :: xs => if isPre x then lead xs + 1 else 0
def preP (xs : List Int) (m : Nat) : Int := if m = 0 then 0 else if gb xs (m - 1) = 221 then 3 else 4
def withinM (p : Int) : Int := if p = 3 then 5 else if p = 4 then 6 else 1
def hPlane (p c : Int) : Int := if c = 203 then withinM p else if c = 237 then 2 else p
def hCode (g : Nat → Int) (m : Nat) (p : Int) : Int := if aheadM (hPlane p (g m)) then g (m + 2) else if g m = 203 ∨ g m = 237 then g (m + 1) else g m
def hDisp (g : Nat → Int) (m : Nat) (p : Int) : Int := if aheadM (hPlane p (g m)) then g (m + 1) else if g m = 203 ∨ g m = 237 then 0 else if nearM p (g m) then g (m + 1) else 0
def hSkip (p s c : Int) : Int := if c = 237 ∧ p ≠ 0 then s + 1 else s
def hReads (g : Nat → Int) (m : Nat) (p : Int) : Nat := if aheadM (hPlane p (g m)) then m + 3 else if g m = 203 ∨ g m = 237 then m + 2 else if nearM p (g m) then m + 2 else m + 1
def immM (g : Nat → Int) (r : Nat) (n : Int) : Int := if n = 0 then 0 else if n = 1 then g r else 256 * g (r + 1) + g r
def opAt (g : Nat → Int) (m : Nat) (p s : Int) : OpM :=
  let q := hPlane p (g m)
  let c := hCode g m p
  let r := hReads g m p
  let n := sizeM q c
  ⟨q, c, hDisp g m p, immM g r n, (r : Int) + n, hSkip p s (g m)⟩
def opOf (xs : List Int) : OpM := opAt (gb xs) (lead xs) (preP xs (lead xs)) ((lead xs - 1 : Nat) : Int)
def lenOf (xs : List Int) : Nat := (opOf xs).len.toNat
def okM (xs : List Int) : Bool := decide (lenOf xs ≤ xs.length)
def Bytes8 (xs : List Int) : Prop := ∀ x ∈ xs, B8 x
theorem hReads_ge (g : Nat → Int) (m : Nat) (p : Int) : m + 1 ≤ hReads g m p ∧ hReads g m p ≤ m + 3 := by
  unfold hReads; split <;> (try split) <;> (try split) <;> omega
theorem lenOf_eq (xs : List Int) : (opOf xs).len = (lenOf xs : Int) := by
  have k := sizeM_le (hPlane (preP xs (lead xs)) (gb xs (lead xs))) (hCode (gb xs) (lead xs) (preP xs (lead xs)))
  have e : (opOf xs).len = (hReads (gb xs) (lead xs) (preP xs (lead xs)) : Int) + sizeM (hPlane (preP xs (lead xs)) (gb xs (lead xs))) (hCode (gb xs) (lead xs) (preP xs (lead xs))) := rfl
  unfold lenOf
  omega
theorem lead_lt_len (xs : List Int) : lead xs < lenOf xs := by
  have k := sizeM_le (hPlane (preP xs (lead xs)) (gb xs (lead xs))) (hCode (gb xs) (lead xs) (preP xs (lead xs)))
  have e : (opOf xs).len = (hReads (gb xs) (lead xs) (preP xs (lead xs)) : Int) + sizeM (hPlane (preP xs (lead xs)) (gb xs (lead xs))) (hCode (gb xs) (lead xs) (preP xs (lead xs))) := rfl
  have h := hReads_ge (gb xs) (lead xs) (preP xs (lead xs))
  have := lenOf_eq xs
  omega
structure Cy where
  kind : Int
  addr : Int
  data : Int
  t : Int
deriving DecidableEq
inductive Tr (α : Type) where
  | done (a : α) : Tr α
  | ask (c : Cy) (k : Int → Tr α) : Tr α
def Tr.bind {α β : Type} : Tr α → (α → Tr β) → Tr β
  | .done a, f => f a
  | .ask c k, f => .ask c (fun b => (k b).bind f)
def Tr.run {α : Type} : Tr α → List Int → Except Cy (α × List Int)
  | .done a, xs => .ok (a, xs)
  | .ask c _, [] => .error c
  | .ask _ k, b :: bs => (k b).run bs
theorem Tr.run_done {α : Type} (a : α) (xs : List Int) : (Tr.done a).run xs = .ok (a, xs) := by unfold Tr.run; rfl
theorem Tr.run_nil {α : Type} (c : Cy) (k : Int → Tr α) : (Tr.ask c k).run [] = .error c := rfl
theorem Tr.run_cons {α : Type} (c : Cy) (k : Int → Tr α) (b : Int) (bs : List Int) : (Tr.ask c k).run (b :: bs) = (k b).run bs := rfl
theorem Tr.run_bind {α β : Type} (t : Tr α) (f : α → Tr β) : ∀ xs, (t.bind f).run xs = match t.run xs with | .ok (a, ys) => (f a).run ys | .error c => .error c := by
  induction t with
  | done a => intro xs; rw [Tr.run_done]; rfl
  | ask c k ih =>
    intro xs
    cases xs with
    | nil => rfl
    | cons b bs => exact ih b bs
theorem Tr.run_bind_ok {α β : Type} {t : Tr α} {xs ys : List Int} {a : α} (h : t.run xs = .ok (a, ys)) (f : α → Tr β) : (t.bind f).run xs = (f a).run ys := by rw [Tr.run_bind, h]
theorem Tr.run_bind_error {α β : Type} {t : Tr α} {xs : List Int} {c : Cy} (h : t.run xs = .error c) (f : α → Tr β) : (t.bind f).run xs = .error c := by rw [Tr.run_bind, h]
structure Zs where
  pos : Nat
  lacks : Bool
  asked : Cy
def Tr.runZ {α : Type} (xs : List Int) : Tr α → Zs → α × Zs
  | .done a, z => (a, z)
  | .ask c k, z => if z.lacks then (k 0).runZ xs z else if xs.length ≤ z.pos then (k 0).runZ xs { z with lacks := true, asked := c } else (k (xs.getD z.pos 0)).runZ xs { z with pos := z.pos + 1 }
theorem Tr.runZ_lacks {α : Type} (xs : List Int) (t : Tr α) : ∀ z, z.lacks = true → (t.runZ xs z).2 = z := by
  induction t with
  | done a => intro z _; rfl
  | ask c k ih =>
    intro z h
    simp only [Tr.runZ, h, if_true]
    exact ih _ _ h
theorem Tr.runZ_run {α : Type} (xs : List Int) (t : Tr α) : ∀ z, z.lacks = false → z.pos ≤ xs.length →
    match t.run (xs.drop z.pos) with
    | .ok (a, ys) => (t.runZ xs z).1 = a ∧ (t.runZ xs z).2.lacks = false ∧ (t.runZ xs z).2.asked = z.asked ∧ ys = xs.drop (t.runZ xs z).2.pos ∧ (t.runZ xs z).2.pos ≤ xs.length
    | .error c => (t.runZ xs z).2.lacks = true ∧ (t.runZ xs z).2.asked = c := by
  induction t with
  | done a => intro z h hp; rw [Tr.run_done]; exact ⟨rfl, h, rfl, rfl, hp⟩
  | ask c k ih =>
    intro z h hp
    by_cases hl : xs.length ≤ z.pos
    · rw [show xs.drop z.pos = [] from List.drop_eq_nil_of_le hl, Tr.run_nil]
      simp only [Tr.runZ, h, hl, if_true, Bool.false_eq_true, if_false]
      rw [Tr.runZ_lacks _ _ _ rfl]
      exact ⟨rfl, rfl⟩
    · have hlt : z.pos < xs.length := by omega
      rw [List.drop_eq_getElem_cons hlt, Tr.run_cons]
      simp only [Tr.runZ, h, hl, if_false, Bool.false_eq_true]
      have e : xs.getD z.pos 0 = xs[z.pos] := by rw [List.getD_eq_getElem?_getD, List.getElem?_eq_getElem hlt]; rfl
      rw [e]
      exact ih _ { z with pos := z.pos + 1, lacks := false } rfl (by show z.pos + 1 ≤ xs.length; omega)
def Tr.All {α : Type} (C : Cy → Prop) (P : α → Prop) : Tr α → Prop
  | .done a => P a
  | .ask c k => C c ∧ ∀ b, B8 b → (k b).All C P
theorem Tr.All.bind {α β : Type} {C : Cy → Prop} {P : α → Prop} {Q : β → Prop} {t : Tr α} {f : α → Tr β} (h : t.All C P) (hf : ∀ a, P a → (f a).All C Q) : (t.bind f).All C Q := by
  induction t with
  | done a => exact hf a h
  | ask c k ih => exact ⟨h.1, fun b hb => ih b (h.2 b hb)⟩
theorem Tr.All.mono {α : Type} {C : Cy → Prop} {P Q : α → Prop} {t : Tr α} (h : t.All C P) (hPQ : ∀ a, P a → Q a) : t.All C Q := by
  induction t with
  | done a => exact hPQ a h
  | ask c k ih => exact ⟨h.1, fun b hb => ih b (h.2 b hb)⟩
theorem Bytes8.tail {b : Int} {bs : List Int} (h : Bytes8 (b :: bs)) : Bytes8 bs := fun x hx => h x (List.mem_cons_of_mem _ hx)
theorem Bytes8.head {b : Int} {bs : List Int} (h : Bytes8 (b :: bs)) : B8 b := h b List.mem_cons_self
theorem Tr.All.ok {α : Type} {C : Cy → Prop} {P : α → Prop} {t : Tr α} (h : t.All C P) : ∀ {xs ys : List Int} {a : α}, Bytes8 xs → t.run xs = .ok (a, ys) → P a ∧ Bytes8 ys := by
  induction t with
  | done a =>
    intro xs ys a' hx e
    rw [Tr.run_done] at e
    injection e with e; injection e with e1 e2; subst e1; subst e2
    exact ⟨h, hx⟩
  | ask c k ih =>
    intro xs ys a' hx e
    cases xs with
    | nil => cases e
    | cons b bs => exact ih b (h.2 b hx.head) hx.tail e
theorem Tr.All.error {α : Type} {C : Cy → Prop} {P : α → Prop} {t : Tr α} (h : t.All C P) : ∀ {xs : List Int} {c : Cy}, Bytes8 xs → t.run xs = .error c → C c := by
  induction t with
  | done a => intro xs c hx e; rw [Tr.run_done] at e; cases e
  | ask c k ih =>
    intro xs c' hx e
    cases xs with
    | nil => rw [Tr.run_nil] at e; injection e with e; exact e ▸ h.1
    | cons b bs => exact ih b (h.2 b hx.head) hx.tail e
theorem Bytes8.getD {xs : List Int} (h : Bytes8 xs) (n : Nat) : B8 (xs.getD n 0) := by
  by_cases hn : n < xs.length
  · rw [List.getD_eq_getElem?_getD, List.getElem?_eq_getElem hn]
    exact h _ (List.getElem_mem hn)
  · rw [List.getD_eq_getElem?_getD, List.getElem?_eq_none (by omega)]
    exact B8.zero
theorem Tr.All.z {α : Type} {C : Cy → Prop} {P : α → Prop} {t : Tr α} (h : t.All C P) {xs : List Int} (hx : Bytes8 xs) : ∀ z, P (t.runZ xs z).1 := by
  induction t with
  | done a => intro z; exact h
  | ask c k ih =>
    intro z
    simp only [Tr.runZ]
    split
    · exact ih _ (h.2 _ B8.zero) _
    split
    · exact ih _ (h.2 _ B8.zero) _
    · exact ih _ (h.2 _ (hx.getD _)) _
def Tr.Same {α : Type} : Tr α → Tr α → Prop
  | .done a, .done b => a = b
  | .ask c k, .ask d l => c = d ∧ ∀ b, B8 b → (k b).Same (l b)
  | _, _ => False
theorem Tr.Same.refl {α : Type} (t : Tr α) : t.Same t := by
  induction t with
  | done a => exact rfl
  | ask c k ih => exact ⟨rfl, fun b _ => ih b⟩
theorem Tr.Same.run {α : Type} {t : Tr α} : ∀ {u : Tr α} {xs : List Int}, t.Same u → Bytes8 xs → t.run xs = u.run xs := by
  induction t with
  | done a =>
    intro u xs h hx
    cases u with
    | done b => cases h; rfl
    | ask d l => exact h.elim
  | ask c k ih =>
    intro u xs h hx
    cases u with
    | done b => exact h.elim
    | ask d l =>
      cases xs with
      | nil => rw [Tr.run_nil, Tr.run_nil, h.1]
      | cons b bs => exact ih b (h.2 b hx.head) hx.tail
theorem Tr.Same.bind {α β : Type} {f g : α → Tr β} {C : Cy → Prop} {P : α → Prop} {t : Tr α} : ∀ {u : Tr α}, t.Same u → t.All C P → (∀ a, P a → (f a).Same (g a)) → (t.bind f).Same (u.bind g) := by
  induction t with
  | done a =>
    intro u h hp hf
    cases u with
    | done b => cases h; exact hf a hp
    | ask d l => exact h.elim
  | ask c k ih =>
    intro u h hp hf
    cases u with
    | done b => exact h.elim
    | ask d l => exact ⟨h.1, fun b hb => ih b (h.2 b hb) (hp.2 b hb) hf⟩
structure Rg where
  af : Int
  bc : Int
  de : Int
  hl : Int
  af2 : Int
  bc2 : Int
  de2 : Int
  hl2 : Int
  ix : Int
  iy : Int
  sp : Int
  pc : Int
  wz : Int
  i : Int
  r : Int
  iff1 : Bool
  iff2 : Bool
  halted : Bool
  late : Bool
  mode : Int
deriving DecidableEq
@[reducible] def regsC (g : Rg) : Array Value := #[.int .u16 g.af, .int .u16 g.bc, .int .u16 g.de, .int .u16 g.hl, .int .u16 g.af2, .int .u16 g.bc2, .int .u16 g.de2, .int .u16 g.hl2, .int .u16 g.ix, .int .u16 g.iy, .int .u16 g.sp, .int .u16 g.pc, .int .u16 g.wz,
  .int .u8 g.i, .int .u8 g.r, .bool g.iff1, .bool g.iff2, .bool g.halted, .bool g.late, .int .i64 g.mode]
@[reducible] def zL : Array Value := #[.int .u16 0, .int .u16 0, .int .u16 0, .int .u16 0, .int .u16 0, .int .u16 0, .int .u16 0, .int .u16 0, .int .u16 0, .int .u16 0, .int .u16 0, .int .u16 0, .int .u16 0, .int .u8 0, .int .u8 0, .bool false, .bool false, .bool false, .bool false, .int .i64 0]
@[reducible] def regsV (g : Rg) : Value := .agg (regsC g)
def Wd16 (x : Int) : Prop := 0 ≤ x ∧ x ≤ 65535
theorem Wd16.hi {x : Int} (h : Wd16 x) : B8 (x / 256) := ⟨by have := h.1; omega, by have := h.2; omega⟩
theorem Wd16.lo8 {x : Int} (h : Wd16 x) : B8 (x % 256) := ⟨by omega, by omega⟩
theorem Wd16.mk8 {a b : Int} (ha : B8 a) (hb : B8 b) : Wd16 (256 * a + b) := ⟨by have := ha.1; have := hb.1; omega, by have := ha.2; have := hb.2; omega⟩
theorem Wd16.zero : Wd16 0 := ⟨by omega, by omega⟩
structure RgB (g : Rg) : Prop where
  af : Wd16 g.af
  bc : Wd16 g.bc
  de : Wd16 g.de
  hl : Wd16 g.hl
  af2 : Wd16 g.af2
  bc2 : Wd16 g.bc2
  de2 : Wd16 g.de2
  hl2 : Wd16 g.hl2
  ix : Wd16 g.ix
  iy : Wd16 g.iy
  sp : Wd16 g.sp
  pc : Wd16 g.pc
  wz : Wd16 g.wz
  i : B8 g.i
  r : B8 g.r
  mode : -9223372036854775808 ≤ g.mode ∧ g.mode ≤ 9223372036854775807
def pairG (g : Rg) (plane p : Int) : Int :=
  if p = 0 then g.bc else if p = 1 then g.de else if p = 2 then (if plane = 3 then g.ix else if plane = 4 then g.iy else g.hl) else if p = 3 then g.sp else 0
def setPairG (g : Rg) (plane p w : Int) : Rg :=
  if p = 0 then { g with bc := w } else if p = 1 then { g with de := w } else
  if p = 2 then (if plane = 3 then { g with ix := w } else if plane = 4 then { g with iy := w } else { g with hl := w }) else if p = 3 then { g with sp := w } else g
def getG (g : Rg) (plane k : Int) : Int :=
  if k = 7 then g.af / 256 else if k < 0 ∨ 5 < k then 0 else if k % 2 = 0 then pairG g plane (k / 2) / 256 else pairG g plane (k / 2) % 256
def setG (g : Rg) (plane k b : Int) : Rg :=
  if k = 7 then { g with af := 256 * b + g.af % 256 } else if k < 0 ∨ 5 < k then g else
  if k % 2 = 0 then setPairG g plane (k / 2) (256 * b + pairG g plane (k / 2) % 256) else setPairG g plane (k / 2) (256 * (pairG g plane (k / 2) / 256) + b)
def exxG (g : Rg) : Rg := { g with bc := g.bc2, de := g.de2, hl := g.hl2, bc2 := g.bc, de2 := g.de, hl2 := g.hl }
def swapG (g : Rg) : Rg := { g with af := g.af2, af2 := g.af }
def tickR (r n : Int) : Int := r / 128 * 128 + (r + n) % 128
def tickG (g : Rg) (n : Int) : Rg := { g with r := tickR g.r n }
theorem RgB.pair {g : Rg} (h : RgB g) (plane p : Int) : Wd16 (pairG g plane p) := by
  unfold pairG
  repeat' split
  all_goals first | exact h.bc | exact h.de | exact h.ix | exact h.iy | exact h.hl | exact h.sp | exact Wd16.zero
theorem RgB.setPair {g : Rg} (h : RgB g) (plane p : Int) {w : Int} (hw : Wd16 w) : RgB (setPairG g plane p w) := by
  obtain ⟨h1, h2, h3, h4, h5, h6, h7, h8, h9, h10, h11, h12, h13, h14, h15, h16⟩ := h
  unfold setPairG
  repeat' split
  all_goals constructor <;> assumption
theorem getG_no (g : Rg) (plane k : Int) (h : k < 0 ∨ k = 6 ∨ 7 < k) : getG g plane k = 0 := by
  unfold getG
  rw [if_neg (by omega), if_pos (by omega)]
theorem setG_no (g : Rg) (plane k b : Int) (h : k < 0 ∨ k = 6 ∨ 7 < k) : setG g plane k b = g := by
  unfold setG
  rw [if_neg (by omega), if_pos (by omega)]
theorem RgB.get {g : Rg} (h : RgB g) (plane k : Int) : B8 (getG g plane k) := by
  unfold getG
  repeat' split
  · exact h.af.hi
  · exact B8.zero
  · exact (h.pair ..).hi
  · exact (h.pair ..).lo8
theorem RgB.set {g : Rg} (h : RgB g) (plane k : Int) {b : Int} (hb : B8 b) : RgB (setG g plane k b) := by
  unfold setG
  split
  · have h' := Wd16.mk8 hb h.af.lo8
    obtain ⟨h1, h2, h3, h4, h5, h6, h7, h8, h9, h10, h11, h12, h13, h14, h15, h16⟩ := h
    constructor <;> assumption
  split
  · exact h
  split
  · exact h.setPair _ _ (Wd16.mk8 hb (h.pair ..).lo8)
  · exact h.setPair _ _ (Wd16.mk8 (h.pair ..).hi hb)
theorem RgB.exx {g : Rg} (h : RgB g) : RgB (exxG g) := by
  obtain ⟨h1, h2, h3, h4, h5, h6, h7, h8, h9, h10, h11, h12, h13, h14, h15, h16⟩ := h
  constructor <;> assumption
theorem RgB.swap {g : Rg} (h : RgB g) : RgB (swapG g) := by
  obtain ⟨h1, h2, h3, h4, h5, h6, h7, h8, h9, h10, h11, h12, h13, h14, h15, h16⟩ := h
  constructor <;> assumption
theorem tickR_b {r : Int} (h : B8 r) (n : Int) : B8 (tickR r n) := by
  obtain ⟨h0, h1⟩ := h
  unfold tickR
  constructor <;> omega
theorem RgB.tick {g : Rg} (h : RgB g) (n : Int) : RgB (tickG g n) := by
  have h' := tickR_b h.r n
  obtain ⟨h1, h2, h3, h4, h5, h6, h7, h8, h9, h10, h11, h12, h13, h14, h15, h16⟩ := h
  constructor <;> assumption
theorem ret_int {k : IntKind} {a b : Int} (h : a = b) : Ending.returned (.int k a) = .returned (.int k b) := by rw [h]
theorem ret_bool {a b : Bool} (h : a = b) : Ending.returned (.bool a) = .returned (.bool b) := by rw [h]
theorem bstep {a b c : World} (h : Below a.heap.size a b) (k : Below b.heap.size b c) : Below a.heap.size a c := h.trans (k.mono h.size)
theorem wraps16 (n : Int) (h₀ : 0 ≤ n) (h₁ : n < 2 ^ 16) : IntKind.u16.wrap n = n := by rw [IntKind.wrap_u16]; omega
theorem and_bit_fin : ∀ (x : Fin 256) (y : Fin 8), (bits BinOp.and IntKind.u8 (x.val : Int) (2 ^ (y.val : Int).toNat % 256) != 0) = isM (x.val : Int) (y.val : Int) := by decide +kernel
theorem and_bit (b n : Int) (h0 : 0 ≤ b) (h1 : b ≤ 255) (h2 : 0 ≤ n) (h3 : n < 8) : (bits BinOp.and IntKind.u8 b (2 ^ n.toNat % 256) != 0) = isM b n :=
  bit_all (P := fun n => (bits BinOp.and IntKind.u8 b (2 ^ n.toNat % 256) != 0) = isM b n) (fun y => byte_all (P := fun b => (bits BinOp.and IntKind.u8 b (2 ^ (y.val : Int).toNat % 256) != 0) = isM b (y.val : Int)) (fun x => and_bit_fin x y) b h0 h1) n h2 h3
theorem or_bit_fin : ∀ (x : Fin 256) (y : Fin 8), bits BinOp.or IntKind.u8 (x.val : Int) (2 ^ (y.val : Int).toNat % 256) = withM (x.val : Int) (y.val : Int) true := by decide +kernel
theorem or_bit (b n : Int) (h0 : 0 ≤ b) (h1 : b ≤ 255) (h2 : 0 ≤ n) (h3 : n < 8) : bits BinOp.or IntKind.u8 b (2 ^ n.toNat % 256) = withM b n true :=
  bit_all (P := fun n => bits BinOp.or IntKind.u8 b (2 ^ n.toNat % 256) = withM b n true) (fun y => byte_all (P := fun b => bits BinOp.or IntKind.u8 b (2 ^ (y.val : Int).toNat % 256) = withM b (y.val : Int) true) (fun x => or_bit_fin x y) b h0 h1) n h2 h3
theorem not_bit_fin : ∀ (x : Fin 256) (y : Fin 8), bits BinOp.andNot IntKind.u8 (x.val : Int) (2 ^ (y.val : Int).toNat % 256) = withM (x.val : Int) (y.val : Int) false := by decide +kernel
theorem not_bit (b n : Int) (h0 : 0 ≤ b) (h1 : b ≤ 255) (h2 : 0 ≤ n) (h3 : n < 8) : bits BinOp.andNot IntKind.u8 b (2 ^ n.toNat % 256) = withM b n false :=
  bit_all (P := fun n => bits BinOp.andNot IntKind.u8 b (2 ^ n.toNat % 256) = withM b n false) (fun y => byte_all (P := fun b => bits BinOp.andNot IntKind.u8 b (2 ^ (y.val : Int).toNat % 256) = withM b (y.val : Int) false) (fun x => not_bit_fin x y) b h0 h1) n h2 h3
theorem signed_fin : ∀ x : Fin 256, wrap64 (IntKind.i8.wrap (x.val : Int)) = signedM (x.val : Int) := by decide +kernel
theorem isM_out (b n : Int) (h : n < 0 ∨ 8 ≤ n) : isM b n = false := by
  unfold isM
  rcases h with h | h
  · rw [decide_eq_false (show ¬ 0 ≤ n by omega)]; rfl
  · rw [decide_eq_false (show ¬ n < 8 by omega)]; simp
theorem lo_any (x : Int) (h0 : 0 ≤ x) (h1 : x ≤ 65535) (w : World) :
    Calls Tryz.prog 193 #[.int .u16 x] w fun e w' => e = .returned (.int .u8 (x % 256)) ∧ w = w' := by
  go_enter Tryz.func193, Tryz.ntmps193
  go_wp2
  go_ret
  exact ⟨rfl, rfl⟩
theorem hi_any (x : Int) (h0 : 0 ≤ x) (h1 : x ≤ 65535) (w : World) :
    Calls Tryz.prog 192 #[.int .u16 x] w fun e w' => e = .returned (.int .u8 (x / 256)) ∧ w = w' := by
  go_enter Tryz.func192, Tryz.ntmps192
  go_wp2
  go_ret
  exact ⟨rfl, rfl⟩
theorem word_any (x y : Int) (h0 : 0 ≤ x) (h1 : x ≤ 255) (h2 : 0 ≤ y) (h3 : y ≤ 255) (w : World) :
    Calls Tryz.prog 121 #[.int .u8 x, .int .u8 y] w fun e w' => e = .returned (.int .u16 (256 * x + y)) ∧ w = w' := by
  go_enter Tryz.func121, Tryz.ntmps121
  go_wp2
  go_ret
  exact ⟨ret_int (by rw [bits_join .u16 16 (by decide) wraps16 8 (x * 256) y (by omega) (by omega) (by omega) (by omega) (by omega) (by omega)]; omega), rfl⟩
theorem signed_any (x : Int) (h0 : 0 ≤ x) (h1 : x ≤ 255) (w : World) :
    Calls Tryz.prog 295 #[.int .u8 x] w fun e w' => e = .returned (.int .i64 (signedM x)) ∧ w = w' := by
  go_enter Tryz.func295, Tryz.ntmps295
  go_wp2
  go_ret
  exact ⟨ret_int (byte_all (P := fun x => wrap64 (IntKind.i8.wrap x) = signedM x) signed_fin x h0 h1), rfl⟩
theorem has_any (n : Int) (w : World) :
    Calls Tryz.prog 275 #[.int .i64 n] w fun e w' => e = .returned (.bool (decide (0 ≤ n) && decide (n < 8))) ∧ w = w' := by
  by_cases h : 0 ≤ n
  · go_enter Tryz.func275, Tryz.ntmps275
    go_wp2
    go_ret
    exact ⟨ret_bool (by rw [decide_eq_true h]; rfl), rfl⟩
  · go_enter Tryz.func275, Tryz.ntmps275
    go_wp2
    go_ret
    exact ⟨ret_bool (by rw [decide_eq_false (by omega)]; rfl), rfl⟩
theorem has_yes (n : Int) (h0 : 0 ≤ n) (h1 : n < 8) (w : World) :
    Calls Tryz.prog 275 #[.int .i64 n] w fun e w' => e = .returned (.bool true) ∧ w = w' :=
  (has_any n w).mono fun _ _ ⟨he, hw⟩ => ⟨he.trans (ret_bool (by rw [decide_eq_true h0, decide_eq_true h1]; rfl)), hw⟩
theorem has_no (n : Int) (h : n < 0 ∨ 8 ≤ n) (w : World) :
    Calls Tryz.prog 275 #[.int .i64 n] w fun e w' => e = .returned (.bool false) ∧ w = w' :=
  (has_any n w).mono fun _ _ ⟨he, hw⟩ => ⟨he.trans (ret_bool (by
    rcases h with h | h
    · rw [decide_eq_false (by omega)]; rfl
    · rw [decide_eq_false (show ¬ n < 8 by omega)]; simp)), hw⟩
theorem is_any (b n : Int) (h0 : 0 ≤ b) (h1 : b ≤ 255) (w : World) :
    Calls Tryz.prog 274 #[.int .u8 b, .int .i64 n] w fun e w' => e = .returned (.bool (isM b n)) ∧ w = w' := by
  by_cases h : 0 ≤ n ∧ n < 8
  · obtain ⟨h2, h3⟩ := h
    go_enter Tryz.func274, Tryz.ntmps274
    go_wp2_with (go_at_call 275; refine (has_yes _ (by omega) (by omega) _).mono ?_; rintro e w' ⟨rfl, rfl⟩)
    go_ret
    exact ⟨ret_bool (and_bit b n h0 h1 h2 h3), rfl⟩
  · have h' : n < 0 ∨ 8 ≤ n := by omega
    clear h
    go_enter Tryz.func274, Tryz.ntmps274
    go_wp2_with (go_at_call 275; refine (has_no _ h' _).mono ?_; rintro e w' ⟨rfl, rfl⟩)
    go_ret
    exact ⟨ret_bool (isM_out b n h').symm, rfl⟩
theorem with_any (b n : Int) (on : Bool) (h0 : 0 ≤ b) (h1 : b ≤ 255) (w : World) :
    Calls Tryz.prog 227 #[.int .u8 b, .int .i64 n, .bool on] w fun e w' => e = .returned (.int .u8 (withM b n on)) ∧ w = w' := by
  by_cases h : 0 ≤ n ∧ n < 8
  · obtain ⟨h2, h3⟩ := h
    cases on
    · go_enter Tryz.func227, Tryz.ntmps227
      go_wp2_with (go_at_call 275; refine (has_yes _ (by omega) (by omega) _).mono ?_; rintro e w' ⟨rfl, rfl⟩)
      go_ret
      exact ⟨ret_int (not_bit b n h0 h1 h2 h3), rfl⟩
    · go_enter Tryz.func227, Tryz.ntmps227
      go_wp2_with (go_at_call 275; refine (has_yes _ (by omega) (by omega) _).mono ?_; rintro e w' ⟨rfl, rfl⟩)
      go_ret
      exact ⟨ret_int (or_bit b n h0 h1 h2 h3), rfl⟩
  · have h' : n < 0 ∨ 8 ≤ n := by omega
    have e : withM b n on = b := by unfold withM; rw [if_neg h]
    rw [e]
    clear h e
    go_enter Tryz.func227, Tryz.ntmps227
    go_wp2_with (go_at_call 275; refine (has_no _ h' _).mono ?_; rintro e w' ⟨rfl, rfl⟩)
    go_ret
    exact ⟨rfl, rfl⟩
section
open Go.RowKit Go.Shelf
attribute [local go_sem] Oper.semAt_some
def KeepsBox (B : Nat) (W W' : World) : Prop := W'.heap[B]? = W.heap[B]?
theorem keepsBox_t {B : Nat} {X Y Z : World} (h : KeepsBox B X Y) (k : KeepsBox B Y Z) : KeepsBox B X Z := Eq.trans k h
theorem keepsBox_b {B : Nat} {w : World} (hB : B < w.heap.size) (W : World) (l : Nat) (o o' : Obj) (hl : w.heap.size ≤ l) (_ : W.heap[l]? = some o) (_ : o.isCells = false) (_ : o.isWalk = false) : KeepsBox B W (W.putObj l o') :=
  World.putObj_heap_other (by omega)
theorem keepsBox_set {B b : Nat} (hB : B ≠ b) (W : World) (v : Value) : KeepsBox B W (W.setCell ⟨b, 0, none⟩ v) := Below.heap_setCell _ _ _ B hB
theorem KeepsBox.boxed {B : Nat} {W W' : World} {t : TypeId} {v : Value} (k : KeepsBox B W W') (h : Boxed W B t v) : Boxed W' B t v := Eq.trans k h
theorem each1_in (n : Nat) (hn : 1 ≤ n) (l Bs : Nat) (b : Int) (h0 : 0 ≤ b) (h1 : b ≤ 255) (J Jx : List (Fin 8) → World → Prop)
    (hY : ∀ pre x W, J pre W → pre.length < 8 → YieldAt Fence.wide (n - 1) Tryz.prog l #[.int .i64 (x.val : Int)] W fun e W' =>
      (e = .returned (.bool true) ∧ J (pre ++ [x]) W' ∧ KeepsBox Bs W W') ∨ (e = .returned (.bool false) ∧ Jx (pre ++ [x]) W'))
    (W : World) (hBs : Boxed W Bs 5 (.int .u8 b)) (hJ0 : J [] W) :
    CallsIn Fence.wide n Tryz.prog 361 #[.func (.yield l) #[] #[], .pointer (some ⟨Bs, 0, none⟩)] W fun e W' => (∃ v, e = .returned v) ∧
      ((∃ ys, ys = bitsUpto b 8 ∧ J ys W') ∨ (∃ pre, (∃ k : Nat, k < 8 ∧ isM b (k : Int) = true ∧ pre = bitsUpto b (k + 1)) ∧ Jx pre W')) := by
  refine callsIn_of_wp Tryz.func361 rfl trivial ?_ rfl
  simp only [Tryz.ntmps361, List.size_toArray, List.length_cons, List.length_nil, Nat.reduceAdd, Nat.reduceSub, Array.replicate_succ, Array.replicate_zero, List.push_toArray, List.append_toArray, List.nil_append, List.cons_append]
  gi_wp2
  gi_loopw [4] (fun i wr => ∃ k : Nat, k ≤ 8 ∧ i = .int .i64 k ∧ J (bitsUpto b k) wr ∧ Boxed wr Bs 5 (.int .u8 b))
    (fun i _ => 8 - (intOf i).toNat)
  case atStart => exact ⟨0, Nat.zero_le _, rfl, hJ0, hBs⟩
  case round =>
    obtain ⟨k, hk, rfl, hJs, hnx⟩ := hrel
    have hcx := hnx.cell
    by_cases hlt : k < 8
    · cases hm : isM b k
      · have HS := Lib.hid (bitsUpto_no b k hlt hm)
        gi_wp2_with (refine ⟨trivial, ?_⟩; gi_at_call 274; refine (callsIn_wide.2 (is_any _ _ h0 h1 _)).mono ?_; rintro e w' ⟨rfl, rfl⟩)
        refine ⟨fun _ h => (by cases h), ?_⟩
        gi_wp2
        go_roundw
        case rel => exact ⟨k + 1, by omega, by simp, by rw [HS.out]; exact hJs, hnx⟩
        case measure => simp [intOf]; omega
      · have HS := Lib.hid (bitsUpto_yes b k hlt hm)
        obtain ⟨fn, tmps, assign, body, hy, hR⟩ := hY _ ⟨k, hlt⟩ wr hJs (Nat.lt_of_le_of_lt (bitsUpto_length b k) hlt)
        gi_wp2_with (refine ⟨trivial, ?_⟩; gi_at_call 274; refine (callsIn_wide.2 (is_any _ _ h0 h1 _)).mono ?_; rintro e w' ⟨rfl, rfl⟩)
        gi_wp2
        refine hR.mono ?_
        rintro e W3 (⟨rfl, hJ3, hk3⟩ | ⟨rfl, hJx3⟩)
        · gi_wp2
          go_roundw
          case rel => exact ⟨k + 1, by omega, by simp, by rw [HS.out]; exact hJ3, hk3.boxed hnx⟩
          case measure => simp [intOf]; omega
        · gi_wp2
          refine bodyPost_ret (results_none rfl _ _ _) rfl ?_
          exact ⟨⟨_, rfl⟩, .inr ⟨_, ⟨k, hlt, hm, HS.out.symm⟩, hJx3⟩⟩
    · obtain rfl : k = 8 := by omega
      gi_wp2
      go_end0
      exact ⟨⟨_, rfl⟩, .inl ⟨_, rfl, hJs⟩⟩
theorem each_in (n : Nat) (b : Int) (w : World) :
    CallsIn Fence.wide n Tryz.prog 351 #[.int .u8 b] w fun e w' => e = .returned (.func (.func 361) #[] #[.pointer (some ⟨w.heap.size, 0, none⟩)]) ∧ w' = w.alloc (.cells #[.int .u8 b] 5) := by
  refine callsIn_of_wp Tryz.func351 rfl trivial ?_ rfl
  simp only [Tryz.ntmps351, List.size_toArray, List.length_cons, List.length_nil, Nat.reduceAdd, Nat.reduceSub, Array.replicate_succ, Array.replicate_zero, List.push_toArray, List.append_toArray, List.nil_append, List.cons_append]
  gi_wp2
  go_ret
  exact ⟨rfl, rfl⟩
def partOf (b : Int) (pre : List (Fin 8)) : Prop := ∃ k : Nat, k < 8 ∧ isM b (k : Int) = true ∧ pre = bitsUpto b (k + 1)
theorem each_stops (n : Nat) (hn : 1 ≤ n) (Bs : Nat) (b : Int) (h0 : 0 ≤ b) (h1 : b ≤ 255) (w : World) (hc : Boxed w Bs 5 (.int .u8 b)) :
    SeqStopsK Fence.wide n Tryz.prog 361 #[.pointer (some ⟨Bs, 0, none⟩)] (fun x : Fin 8 => #[Value.int .i64 (x.val : Int)]) (KeepsBox Bs) (fun ys => ys = bitsUpto b 8) (partOf b) 8 w := fun l J Jx W hW _ _ hY hJ0 =>
  each1_in n hn l Bs b h0 h1 J Jx hY W ((hW.block Bs hc.lt).trans hc) hJ0
theorem evenFold_snoc (l : List (Fin 8)) (x : Fin 8) : evenFold (l ++ [x]) = !evenFold l := by simp [evenFold]
theorem even_in (b : Int) (h0 : 0 ≤ b) (h1 : b ≤ 255) (w : World) :
    CallsIn Fence.wide 4 Tryz.prog 323 #[.int .u8 b] w fun e W' => e = .returned (.bool (evenM b)) ∧ Below w.heap.size w W' := by
  refine callsIn_of_wp_marks Tryz.func323 rfl trivial ?_ rfl
  simp only [Tryz.ntmps323, List.size_toArray, List.length_cons, List.length_nil, Nat.reduceAdd, Nat.reduceSub, Array.replicate_succ, Array.replicate_zero, List.push_toArray, List.append_toArray, List.nil_append, List.cons_append]
  gi_wp2_with (refine ⟨trivial, ?_⟩; gi_at_call 351; refine (each_in _ _ _).mono ?_; rintro e w' ⟨rfl, rfl⟩)
  have bS := Boxed.new w 4 (.bool true)
  have bN := Boxed.new (w.alloc (.cells #[.bool true] 4)) 5 (.int .u8 b)
  rw [World.size_alloc] at bN
  have hB0 : Below w.heap.size w ((w.alloc (.cells #[.bool true] 4)).alloc (.cells #[.int .u8 b] 5)) := ((Below.refl _ w).alloc (Nat.le_refl _) _).alloc (by simp) _
  refine wpIn_rangeFunc_ownG (F := Fence.wide) rfl (by decide) (gf := 361) (lb := #[.pointer (some ⟨w.heap.size + 1, 0, none⟩)]) rfl trivial (enters_of Tryz.func361 (by kernel_rfl) rfl)
    (each_stops 3 (by omega) (w.heap.size + 1) b h0 h1 _ bN) keepsBox_t (keepsBox_b (by simp)) (Below.refl _ _) (fun _ => rfl)
    (fun pre W => (W.cell? ⟨w.heap.size, 0, none⟩ = some (.bool (evenFold pre)) ∧ W.frozen? ⟨w.heap.size, 0, none⟩ = false) ∧ Below w.heap.size w W)
    (fun _ _ _ => False)
    (OwnFrom.and (Own.from (fun s A B row hs hg hr => ⟨cell_kept hs.1 hg hr, (frozen_kept hs.1 hg hr).trans hs.2⟩) _) (ownFrom_below (Nat.le_refl _) (by simp; omega)))
    (fun _ _ _ _ _ hs _ _ => hs)
    ⟨⟨(bS.alloc _).cell, (bS.alloc _).frozen⟩, hB0⟩
    (fun x => { tmps := #[.int .u8 b, undef, .bool false, .pointer (some ⟨w.heap.size, 0, none⟩), .int .u8 b, .func (.func 361) #[] #[.pointer (some ⟨w.heap.size + 1, 0, none⟩)], .int .i64 (x.val : Int), undef, undef, undef], defers := [] }) ?assign ?body ?done ?stop
  case assign =>
    intro l x W K hK
    gi_wp2
    simpa using hK
  case body =>
    rintro l pre x W ⟨⟨hc, hf⟩, hB⟩ _
    gi_wp2
    exact ⟨(KeepsOthers.setCell _ _ _).from _, keepsBox_set (by omega) W _, ⟨by rw [evenFold_snoc]; exact World.cell?_setCell_same' _ _ _ (by rw [hc]; rfl), by rw [World.frozen?_setCell]; exact hf⟩, hB.setCell (p := ⟨w.heap.size, 0, none⟩) (Nat.le_refl _) _⟩
  case done =>
    rintro D ys W hD rfl ⟨⟨hc, _⟩, hB⟩ hK
    gi_wp2
    refine ⟨by simp, .inl ⟨_, _, rfl, run_takeDeferred hK, ?_⟩⟩
    exact ⟨_, results_tmp rfl _ _ _, by rw [← evenFold_all b h0 h1]; rfl, hB.trans (belowK_b (w := w) (Nat.le_refl _) W D _ _ (by simp at hD; omega) hK rfl rfl)⟩
  case stop =>
    rintro D c pre W _ _ h _
    exact h.elim
theorem even_any (b : Int) (h0 : 0 ≤ b) (h1 : b ≤ 255) (w : World) :
    Calls Tryz.prog 323 #[.int .u8 b] w fun e W' => e = .returned (.bool (evenM b)) ∧ Below w.heap.size w W' := callsIn_wide.1 (even_in b h0 h1 w)
theorem turnFold_snoc (left : Int) (l : List (Fin 8)) (x : Fin 8) : turnFold left (l ++ [x]) = withM (turnFold left l) (((x.val : Int) + left) % 8) true := by simp [turnFold]
theorem turnFold_byte (left : Int) (l : List (Fin 8)) : 0 ≤ turnFold left l ∧ turnFold left l ≤ 255 := by
  unfold turnFold
  have : ∀ (l : List (Fin 8)) (t : Int), 0 ≤ t → t ≤ 255 → 0 ≤ l.foldl (fun t n => withM t (((n.val : Int) + left) % 8) true) t ∧ l.foldl (fun t n => withM t (((n.val : Int) + left) % 8) true) t ≤ 255 := by
    intro l
    induction l with
    | nil => intro t a b; exact ⟨a, b⟩
    | cons x l ih => intro t a b; have := withM_byte t (((x.val : Int) + left) % 8) true a b; exact ih _ this.1 this.2
  exact this l 0 (by decide) (by decide)
theorem and7_i64 (y : Int) : bits BinOp.and IntKind.i64 y 7 = y % 8 := by
  have e : (BitVec.ofInt 64 y &&& BitVec.ofInt 64 7).toNat = (y % 8).toNat := by
    rw [BitVec.toNat_and, show (BitVec.ofInt 64 7).toNat = 2 ^ 3 - 1 by decide, Nat.and_two_pow_sub_one_eq_mod, BitVec.toNat_ofInt]
    omega
  show IntKind.i64.wrap ((BitVec.ofInt 64 y &&& BitVec.ofInt 64 7).toNat : Int) = _
  rw [e, IntKind.wrap_i64]
  omega
theorem turn_in (b y : Int) (h0 : 0 ≤ b) (h1 : b ≤ 255) (w : World) :
    CallsIn Fence.wide 4 Tryz.prog 321 #[.int .u8 b, .int .i64 y] w fun e W' => e = .returned (.int .u8 (turnM b y)) ∧ Below w.heap.size w W' := by
  have hF := turnFold_all b y h0 h1
  have h7 := and7_i64 y
  have t0 : 0 ≤ y % 8 := by omega
  have t1 : y % 8 < 8 := by omega
  generalize y % 8 = t at hF h7 t0 t1
  rw [← hF]
  clear hF
  refine callsIn_of_wp_marks Tryz.func321 rfl trivial ?_ rfl
  simp only [Tryz.ntmps321, List.size_toArray, List.length_cons, List.length_nil, Nat.reduceAdd, Nat.reduceSub, Array.replicate_succ, Array.replicate_zero, List.push_toArray, List.append_toArray, List.nil_append, List.cons_append]
  gi_wp2_with (refine ⟨trivial, ?_⟩; gi_at_call 351; refine (each_in _ _ _).mono ?_; rintro e w' ⟨rfl, rfl⟩)
  clear h7
  have bL := Boxed.new w 3 (.int .i64 t)
  have bT := Boxed.new (w.alloc (.cells #[.int .i64 t] 3)) 5 (.int .u8 0)
  have bN := Boxed.new ((w.alloc (.cells #[.int .i64 t] 3)).alloc (.cells #[.int .u8 0] 5)) 5 (.int .u8 b)
  simp only [World.size_alloc] at bT bN
  have hB0 : Below w.heap.size w (((w.alloc (.cells #[.int .i64 t] 3)).alloc (.cells #[.int .u8 0] 5)).alloc (.cells #[.int .u8 b] 5)) := (((Below.refl _ w).alloc (Nat.le_refl _) _).alloc (by simp) _).alloc (by simp; omega) _
  refine wpIn_rangeFunc_ownG (F := Fence.wide) rfl (by decide) (gf := 361) (lb := #[.pointer (some ⟨w.heap.size + 1 + 1, 0, none⟩)]) rfl trivial (enters_of Tryz.func361 (by kernel_rfl) rfl)
    (each_stops 3 (by omega) (w.heap.size + 1 + 1) b h0 h1 _ bN) keepsBox_t (keepsBox_b (by simp)) (Below.refl _ _) (fun _ => rfl)
    (fun pre W => (W.cell? ⟨w.heap.size + 1, 0, none⟩ = some (.int .u8 (turnFold t pre)) ∧ W.frozen? ⟨w.heap.size + 1, 0, none⟩ = false ∧ Boxed W w.heap.size 3 (.int .i64 t)) ∧ Below w.heap.size w W)
    (fun _ _ _ => False)
    (OwnFrom.and (Own.from (fun s A B row hs hg hr => ⟨cell_kept hs.1 hg hr, (frozen_kept hs.1 hg hr).trans hs.2.1, boxed_own w.heap.size 3 (fun _ => .int .i64 t) s A B row hs.2.2 hg hr⟩) _) (ownFrom_below (Nat.le_refl _) (by simp; omega)))
    (fun _ _ _ _ _ hs _ _ => hs)
    ⟨⟨(bT.alloc _).cell, (bT.alloc _).frozen, (bL.alloc _).alloc _⟩, hB0⟩
    (fun x => { tmps := #[.int .u8 b, .int .i64 y, undef, undef, .int .u8 0, .pointer (some ⟨w.heap.size, 0, none⟩), .pointer (some ⟨w.heap.size + 1, 0, none⟩), .int .i64 (x.val : Int), .int .i64 y, .int .i64 t, .int .u8 b, .func (.func 361) #[] #[.pointer (some ⟨w.heap.size + 1 + 1, 0, none⟩)], .int .i64 (x.val : Int), undef, undef, undef, undef, undef, undef, undef], defers := [] }) ?assign ?body ?done ?stop
  case assign =>
    intro l x W K hK
    gi_wp2
    exact hK
  case body =>
    rintro l pre x W ⟨⟨hc, hf, hL⟩, hB⟩ _
    have hx : (x.val : Int) < 8 := by have := x.isLt; omega
    have hx0 : 0 ≤ (x.val : Int) := by omega
    have hcl := hL.cell
    have hb := turnFold_byte t pre
    gi_wp2_with (refine ⟨trivial, ?_⟩; gi_at_call 227; refine (CallsIn.inRound l (callsIn_wide.2 (with_any _ _ true hb.1 hb.2 _))).mono ?_; rintro e w' ⟨rfl, rfl⟩)
    exact ⟨(KeepsOthers.setCell _ _ _).from _, keepsBox_set (by omega) W _, ⟨by rw [turnFold_snoc]; exact World.cell?_setCell_same' _ _ _ (by rw [hc]; rfl), by rw [World.frozen?_setCell]; exact hf, keepsBox_set (by omega) W _ |>.boxed hL⟩, hB.setCell (p := ⟨w.heap.size + 1, 0, none⟩) (by simp) _⟩
  case done =>
    rintro D ys W hD rfl ⟨⟨hc, _⟩, hB⟩ hK
    gi_wp2
    refine ⟨by simp, .inl ⟨_, _, rfl, run_takeDeferred hK, ?_⟩⟩
    exact ⟨_, results_tmp rfl _ _ _, rfl, hB.trans (belowK_b (w := w) (Nat.le_refl _) W D _ _ (by simp at hD; omega) hK rfl rfl)⟩
  case stop =>
    rintro D c pre W _ _ h _
    exact h.elim
theorem turn_any (b y : Int) (h0 : 0 ≤ b) (h1 : b ≤ 255) (w : World) :
    Calls Tryz.prog 321 #[.int .u8 b, .int .i64 y] w fun e W' => e = .returned (.int .u8 (turnM b y)) ∧ Below w.heap.size w W' := callsIn_wide.1 (turn_in b y h0 h1 w)
end
section
theorem run_index_arr {P : Program} {t e : TypeId} {n : Nat} {cs : Array Value} {k : IntKind} {i : Int} {w : World} {v : Value} (h : P.underlying t = some (.array n e)) (he : P.plainKey e = true) (hs : (sizeOf e).run P w = .ok 1 w) (hi : 0 ≤ i ∧ i < n) (hv : cs[i.toNat]? = some v) :
    (Instr.index t (.agg cs) (.int k i)).run P w = .ok v w := by
  simp [Instr.index, asIntOf, run_underlying h, hi, hs, run_part_plain w he hv]
theorem ix8_0 (a0 a1 a2 a3 a4 a5 a6 a7 : Value) (w : World) : (Instr.index 163 (.agg #[a0, a1, a2, a3, a4, a5, a6, a7]) (.int .i64 0)).run Tryz.prog w = .ok a0 w :=
  run_index_arr Tryz.underlying163 (by kernel_rfl) (by kernel_rfl) (by decide) rfl
theorem ix8_1 (a0 a1 a2 a3 a4 a5 a6 a7 : Value) (w : World) : (Instr.index 163 (.agg #[a0, a1, a2, a3, a4, a5, a6, a7]) (.int .i64 1)).run Tryz.prog w = .ok a1 w :=
  run_index_arr Tryz.underlying163 (by kernel_rfl) (by kernel_rfl) (by decide) rfl
theorem ix8_2 (a0 a1 a2 a3 a4 a5 a6 a7 : Value) (w : World) : (Instr.index 163 (.agg #[a0, a1, a2, a3, a4, a5, a6, a7]) (.int .i64 2)).run Tryz.prog w = .ok a2 w :=
  run_index_arr Tryz.underlying163 (by kernel_rfl) (by kernel_rfl) (by decide) rfl
theorem ix8_3 (a0 a1 a2 a3 a4 a5 a6 a7 : Value) (w : World) : (Instr.index 163 (.agg #[a0, a1, a2, a3, a4, a5, a6, a7]) (.int .i64 3)).run Tryz.prog w = .ok a3 w :=
  run_index_arr Tryz.underlying163 (by kernel_rfl) (by kernel_rfl) (by decide) rfl
theorem ix8_4 (a0 a1 a2 a3 a4 a5 a6 a7 : Value) (w : World) : (Instr.index 163 (.agg #[a0, a1, a2, a3, a4, a5, a6, a7]) (.int .i64 4)).run Tryz.prog w = .ok a4 w :=
  run_index_arr Tryz.underlying163 (by kernel_rfl) (by kernel_rfl) (by decide) rfl
theorem ix8_5 (a0 a1 a2 a3 a4 a5 a6 a7 : Value) (w : World) : (Instr.index 163 (.agg #[a0, a1, a2, a3, a4, a5, a6, a7]) (.int .i64 5)).run Tryz.prog w = .ok a5 w :=
  run_index_arr Tryz.underlying163 (by kernel_rfl) (by kernel_rfl) (by decide) rfl
theorem ix8_6 (a0 a1 a2 a3 a4 a5 a6 a7 : Value) (w : World) : (Instr.index 163 (.agg #[a0, a1, a2, a3, a4, a5, a6, a7]) (.int .i64 6)).run Tryz.prog w = .ok a6 w :=
  run_index_arr Tryz.underlying163 (by kernel_rfl) (by kernel_rfl) (by decide) rfl
theorem ix8_7 (a0 a1 a2 a3 a4 a5 a6 a7 : Value) (w : World) : (Instr.index 163 (.agg #[a0, a1, a2, a3, a4, a5, a6, a7]) (.int .i64 7)).run Tryz.prog w = .ok a7 w :=
  run_index_arr Tryz.underlying163 (by kernel_rfl) (by kernel_rfl) (by decide) rfl
attribute [local go_sem ↓] ix8_0 ix8_1 ix8_2 ix8_3 ix8_4 ix8_5 ix8_6 ix8_7
abbrev v8 (b0 b1 b2 b3 b4 b5 b6 b7 : Bool) : Value := .agg #[.bool b0, .bool b1, .bool b2, .bool b3, .bool b4, .bool b5, .bool b6, .bool b7]
end
theorem isM_nat (a n : Nat) (h : n < 8) : isM (a : Int) (n : Int) = a.testBit n := by
  have e : (a : Int) / 2 ^ n % 2 = ((a / 2 ^ n % 2 : Nat) : Int) := by simp
  unfold isM
  rw [Nat.testBit_eq_decide_div_mod_eq, decide_eq_true (show (0 : Int) ≤ (n : Int) by omega), decide_eq_true (show (n : Int) < 8 by omega), Int.toNat_natCast, e]
  simp only [Bool.true_and]
  congr 1
  apply propext
  omega
theorem bytes2 {Q : Int → Int → Prop} (h : ∀ a b : Nat, a < 256 → b < 256 → Q a b) (a b : Int) (h0 : 0 ≤ a) (h1 : a ≤ 255) (h2 : 0 ≤ b) (h3 : b ≤ 255) : Q a b := by
  have := h a.toNat b.toNat (by omega) (by omega)
  rwa [Int.toNat_of_nonneg h0, Int.toNat_of_nonneg h2] at this
theorem isM_and (a b : Int) (n : Nat) (h : n < 8) (h0 : 0 ≤ a) (h1 : a ≤ 255) (h2 : 0 ≤ b) (h3 : b ≤ 255) : isM (bits .and .u8 a b) n = (isM a n && isM b n) :=
  bytes2 (Q := fun a b => isM (bits .and .u8 a b) n = (isM a n && isM b n)) (fun a b ha hb => by rw [u8_and_nat a b ha hb, isM_nat _ _ h, isM_nat _ _ h, isM_nat _ _ h, Nat.testBit_and]) a b h0 h1 h2 h3
theorem isM_or (a b : Int) (n : Nat) (h : n < 8) (h0 : 0 ≤ a) (h1 : a ≤ 255) (h2 : 0 ≤ b) (h3 : b ≤ 255) : isM (bits .or .u8 a b) n = (isM a n || isM b n) :=
  bytes2 (Q := fun a b => isM (bits .or .u8 a b) n = (isM a n || isM b n)) (fun a b ha hb => by rw [u8_or_nat a b ha hb, isM_nat _ _ h, isM_nat _ _ h, isM_nat _ _ h, Nat.testBit_or]) a b h0 h1 h2 h3
theorem isM_xor (a b : Int) (n : Nat) (h : n < 8) (h0 : 0 ≤ a) (h1 : a ≤ 255) (h2 : 0 ≤ b) (h3 : b ≤ 255) : isM (bits .xor .u8 a b) n = (isM a n ^^ isM b n) :=
  bytes2 (Q := fun a b => isM (bits .xor .u8 a b) n = (isM a n ^^ isM b n)) (fun a b ha hb => by rw [u8_xor_nat a b ha hb, isM_nat _ _ h, isM_nat _ _ h, isM_nat _ _ h, Nat.testBit_xor]) a b h0 h1 h2 h3
theorem not8_bit (b n : Nat) (hb : b < 256) (h : n < 8) : (255 - b).testBit n = !b.testBit n := by
  have := Nat.testBit_two_pow_sub_succ (x := b) (n := 8) (by omega) n
  rw [show 2 ^ 8 - (b + 1) = 255 - b by omega] at this
  simpa [h] using this
theorem isM_andNot (a b : Int) (n : Nat) (h : n < 8) (h0 : 0 ≤ a) (h1 : a ≤ 255) (h2 : 0 ≤ b) (h3 : b ≤ 255) : isM (bits .andNot .u8 a b) n = (isM a n && !isM b n) :=
  bytes2 (Q := fun a b => isM (bits .andNot .u8 a b) n = (isM a n && !isM b n)) (fun a b ha hb => by rw [u8_andNot_nat a b ha hb, isM_nat _ _ h, isM_nat _ _ h, isM_nat _ _ h, Nat.testBit_and, not8_bit b n hb h]) a b h0 h1 h2 h3
theorem and_byte (a b : Int) (h0 : 0 ≤ a) (h1 : a ≤ 255) (h2 : 0 ≤ b) (h3 : b ≤ 255) : 0 ≤ bits .and .u8 a b ∧ bits .and .u8 a b ≤ 255 :=
  bytes2 (Q := fun a b => 0 ≤ bits .and .u8 a b ∧ bits .and .u8 a b ≤ 255) (fun a b ha hb => by rw [u8_and_nat a b ha hb]; have := Nat.and_lt_two_pow (n := 8) a (show b < 2 ^ 8 by omega); omega) a b h0 h1 h2 h3
theorem or_byte (a b : Int) (h0 : 0 ≤ a) (h1 : a ≤ 255) (h2 : 0 ≤ b) (h3 : b ≤ 255) : 0 ≤ bits .or .u8 a b ∧ bits .or .u8 a b ≤ 255 :=
  bytes2 (Q := fun a b => 0 ≤ bits .or .u8 a b ∧ bits .or .u8 a b ≤ 255) (fun a b ha hb => by rw [u8_or_nat a b ha hb]; have := Nat.or_lt_two_pow (n := 8) (show a < 2 ^ 8 by omega) (show b < 2 ^ 8 by omega); omega) a b h0 h1 h2 h3
theorem xor_byte (a b : Int) (h0 : 0 ≤ a) (h1 : a ≤ 255) (h2 : 0 ≤ b) (h3 : b ≤ 255) : 0 ≤ bits .xor .u8 a b ∧ bits .xor .u8 a b ≤ 255 :=
  bytes2 (Q := fun a b => 0 ≤ bits .xor .u8 a b ∧ bits .xor .u8 a b ≤ 255) (fun a b ha hb => by rw [u8_xor_nat a b ha hb]; have := Nat.xor_lt_two_pow (n := 8) (show a < 2 ^ 8 by omega) (show b < 2 ^ 8 by omega); omega) a b h0 h1 h2 h3
theorem andNot_byte (a b : Int) (h0 : 0 ≤ a) (h1 : a ≤ 255) (h2 : 0 ≤ b) (h3 : b ≤ 255) : 0 ≤ bits .andNot .u8 a b ∧ bits .andNot .u8 a b ≤ 255 :=
  bytes2 (Q := fun a b => 0 ≤ bits .andNot .u8 a b ∧ bits .andNot .u8 a b ≤ 255) (fun a b ha hb => by rw [u8_andNot_nat a b ha hb]; have := Nat.and_lt_two_pow (n := 8) a (show 255 - b < 2 ^ 8 by omega); omega) a b h0 h1 h2 h3
theorem byte_ext (a b : Int) (h0 : 0 ≤ a) (h1 : a ≤ 255) (h2 : 0 ≤ b) (h3 : b ≤ 255) (h : ∀ n : Nat, n < 8 → isM a n = isM b n) : a = b := by
  have key : a.toNat = b.toNat := by
    apply Nat.eq_of_testBit_eq
    intro i
    by_cases hi : i < 8
    · have := h i hi
      rw [show a = ((a.toNat : Nat) : Int) from (Int.toNat_of_nonneg h0).symm, show b = ((b.toNat : Nat) : Int) from (Int.toNat_of_nonneg h2).symm, isM_nat _ _ hi, isM_nat _ _ hi] at this
      exact this
    · have p : 2 ^ 8 ≤ 2 ^ i := Nat.pow_le_pow_right (by omega) (by omega)
      rw [Nat.testBit_lt_two_pow (show a.toNat < 2 ^ i by omega), Nat.testBit_lt_two_pow (show b.toNat < 2 ^ i by omega)]
  omega
def Masks (w : World) : Prop := w.cell? ⟨2, 0, none⟩ = some (.int .u8 64) ∧ w.cell? ⟨2, 1, none⟩ = some (.int .u8 1) ∧ w.cell? ⟨2, 2, none⟩ = some (.int .u8 4) ∧ w.cell? ⟨2, 3, none⟩ = some (.int .u8 128)
theorem Masks.below {w w' : World} (h : Masks w) (k : Below w.heap.size w w') : Masks w' :=
  ⟨(k.cell (World.block_lt_of_cell? _ _ h.1)).trans h.1, (k.cell (World.block_lt_of_cell? _ _ h.2.1)).trans h.2.1, (k.cell (World.block_lt_of_cell? _ _ h.2.2.1)).trans h.2.2.1, (k.cell (World.block_lt_of_cell? _ _ h.2.2.2)).trans h.2.2.2⟩
theorem mask_fin : ∀ x : Fin 256, (bits .and .u8 (x.val : Int) 64 != 0) = isM (x.val : Int) 6 ∧ (bits .and .u8 (x.val : Int) 1 != 0) = isM (x.val : Int) 0 ∧ (bits .and .u8 (x.val : Int) 4 != 0) = isM (x.val : Int) 2 ∧ (bits .and .u8 (x.val : Int) 128 != 0) = isM (x.val : Int) 7 := by decide +kernel
theorem mask_all (f : Int) (h0 : 0 ≤ f) (h1 : f ≤ 255) : (bits .and .u8 f 64 != 0) = isM f 6 ∧ (bits .and .u8 f 1 != 0) = isM f 0 ∧ (bits .and .u8 f 4 != 0) = isM f 2 ∧ (bits .and .u8 f 128 != 0) = isM f 7 :=
  byte_all (P := fun f => (bits .and .u8 f 64 != 0) = isM f 6 ∧ (bits .and .u8 f 1 != 0) = isM f 0 ∧ (bits .and .u8 f 4 != 0) = isM f 2 ∧ (bits .and .u8 f 128 != 0) = isM f 7) mask_fin f h0 h1
theorem testM_out (f c : Int) (h : c < 0 ∨ 8 ≤ c) : testM f c = false := by
  unfold testM
  repeat (rw [if_neg (by omega)])
theorem test_any (f c : Int) (h0 : 0 ≤ f) (h1 : f ≤ 255) (w : World) (hm : Masks w) :
    Calls Tryz.prog 315 #[.int .u8 f, .int .i64 c] w fun e w' => e = .returned (.bool (testM f c)) ∧ w = w' := by
  obtain ⟨m0, m1, m2, m3⟩ := hm
  obtain ⟨k0, k1, k2, k3⟩ := mask_all f h0 h1
  by_cases hc : c < 0 ∨ 8 ≤ c
  · rw [testM_out f c hc]
    rcases hc with hc | hc
    · go_enter Tryz.func315, Tryz.ntmps315
      go_wp2
      go_ret
      exact ⟨rfl, rfl⟩
    · go_enter Tryz.func315, Tryz.ntmps315
      go_wp2
      go_ret
      exact ⟨rfl, rfl⟩
  · obtain rfl | rfl | rfl | rfl | rfl | rfl | rfl | rfl : c = 0 ∨ c = 1 ∨ c = 2 ∨ c = 3 ∨ c = 4 ∨ c = 5 ∨ c = 6 ∨ c = 7 := by omega
    all_goals
      clear hc
      go_enter Tryz.func315, Tryz.ntmps315
      go_wp2
      go_ret
      refine ⟨ret_bool ?_, rfl⟩
      simp only [testM]
      simp [k0, k1, k2, k3]
theorem result_fin : ∀ x : Fin 256, x.val ≠ 0 → bits .and .u8 (x.val : Int) 168 = resultM (x.val : Int) := by decide +kernel
theorem result_all (r : Int) (h0 : 0 ≤ r) (h1 : r ≤ 255) (h : r ≠ 0) : bits .and .u8 r 168 = resultM r := by
  have := result_fin ⟨r.toNat, by omega⟩ (by simp; omega)
  simpa [Int.toNat_of_nonneg h0] using this
theorem result_any (r : Int) (h0 : 0 ≤ r) (h1 : r ≤ 255) (w : World) :
    Calls Tryz.prog 322 #[.int .u8 r] w fun e w' => e = .returned (.int .u8 (resultM r)) ∧ w = w' := by
  by_cases h : r = 0
  · subst h
    go_enter Tryz.func322, Tryz.ntmps322
    go_wp2
    go_ret
    exact ⟨ret_int (by decide +kernel), rfl⟩
  · have H := Lib.hid (result_all r h0 h1 h)
    have n0 : (r == 0) = false := by simp; omega
    clear h
    go_enter Tryz.func322, Tryz.ntmps322
    go_wp2
    go_ret
    exact ⟨ret_int H.out, rfl⟩
theorem even_fin : ∀ x : Fin 256, evenFM (x.val : Int) = if evenM (x.val : Int) then bits .or .u8 (resultM (x.val : Int)) 4 else resultM (x.val : Int) := by decide +kernel
theorem even_all (r : Int) (h0 : 0 ≤ r) (h1 : r ≤ 255) : evenFM r = if evenM r then bits .or .u8 (resultM r) 4 else resultM r :=
  byte_all (P := fun r => evenFM r = if evenM r then bits .or .u8 (resultM r) 4 else resultM r) even_fin r h0 h1
theorem evenF_any (r : Int) (h0 : 0 ≤ r) (h1 : r ≤ 255) (w : World) :
    Calls Tryz.prog 270 #[.int .u8 r] w fun e w' => e = .returned (.int .u8 (evenFM r)) ∧ Below w.heap.size w w' := by
  have H := Lib.hid (even_all r h0 h1)
  cases he : evenM r
  all_goals
    go_enter Tryz.func270, Tryz.ntmps270
    go_wp2_with (first | (go_at_call 322; refine (result_any _ h0 h1 _).mono ?_; rintro e w' ⟨rfl, rfl⟩) | (go_at_call 323; refine (even_any _ h0 h1 _).mono ?_; rintro e w' ⟨rfl, hb⟩; have hsz := hb.size))
    go_ret
    exact ⟨ret_int (by rw [H.out, he]; simp), (by repeat (first | exact Below.refl _ _ | assumption | refine bstep ?_ (by assumption) | refine Below.drew ?_ | refine Below.alloc ?_ (by first | (simp; done) | (simp; omega) | omega) _ | refine Below.setCell ?_ (by first | (simp; done) | (simp; omega) | omega) _))⟩
def ArrIs (w : World) (A n : Nat) (v : Nat → Value) : Prop := ∀ j, j < n → w.cell? ⟨A, j, none⟩ = some (v j) ∧ w.frozen? ⟨A, j, none⟩ = false
theorem ArrIs.lt {w : World} {A n : Nat} {v : Nat → Value} (h : ArrIs w A n v) (hn : 0 < n) : A < w.heap.size := World.block_lt_of_cell? _ _ (h 0 hn).1
theorem ArrIs.below {w w' : World} {A n B : Nat} {v : Nat → Value} (h : ArrIs w A n v) (k : Below B w w') (hB : A < B) : ArrIs w' A n v :=
  fun j hj => ⟨(k.cell (p := ⟨A, j, none⟩) hB).trans (h j hj).1, (k.frozen (p := ⟨A, j, none⟩) hB).trans (h j hj).2⟩
theorem ArrIs.kept {w w' : World} {A n : Nat} {v : Nat → Value} (h : ArrIs w A n v) (k : Below w.heap.size w w') : ArrIs w' A n v :=
  fun j hj => h.below k (World.block_lt_of_cell? _ _ (h j hj).1) j hj
theorem ArrIs.alloc {w : World} {A n : Nat} {v : Nat → Value} (h : ArrIs w A n v) (o : Obj) : ArrIs (w.alloc o) A n v :=
  h.kept ((Below.refl _ w).alloc (Nat.le_refl _) o)
theorem ArrIs.set {w : World} {A n k : Nat} {v : Nat → Value} (h : ArrIs w A n v) (u : Value) (hk : k < n) : ArrIs (w.setCell ⟨A, k, none⟩ u) A n (fun j => if j = k then u else v j) := by
  intro j hj
  by_cases e : j = k
  · subst e
    simp only [if_true, World.frozen?_setCell]
    exact ⟨World.cell?_setCell_same _ _ _ (h j hj).1, (h j hj).2⟩
  · simp only [if_neg e, World.frozen?_setCell]
    refine ⟨(World.cell?_setCell_other _ _ _ _ ?_).trans (h j hj).1, (h j hj).2⟩
    intro c
    injection c with _ c2
    exact e c2.symm
theorem ArrIs.congr {w : World} {A n : Nat} {v u : Nat → Value} (h : ArrIs w A n v) (e : ∀ j, j < n → v j = u j) : ArrIs w A n u :=
  fun j hj => ⟨by rw [← e j hj]; exact (h j hj).1, (h j hj).2⟩
theorem ArrIs.new (w : World) (cs : Array Value) (t : TypeId) (lo hi : Nat) (v : Nat → Value) (n : Nat) (hn : n ≤ lo ∨ hi = 0) (hv : ∀ j, j < n → cs[j]? = some (v j)) : ArrIs (w.alloc (.cells cs t (lo, hi))) w.heap.size n v := by
  intro j hj
  have e : (w.alloc (.cells cs t (lo, hi))).heap[w.heap.size]? = some (.cells cs t (lo, hi)) := by
    show (w.heap.push _)[w.heap.size]? = _
    simp
  constructor
  · simp only [World.cell?, e]
    simpa using hv j hj
  · simp only [World.frozen?, e]
    rcases hn with h | h
    · rw [decide_eq_false (by omega)]; rfl
    · rw [h]; simp
theorem nat8 (P : Nat → Prop) (h : P 0 ∧ P 1 ∧ P 2 ∧ P 3 ∧ P 4 ∧ P 5 ∧ P 6 ∧ P 7) (n : Nat) (hn : n < 8) : P n := by
  obtain ⟨h0, h1, h2, h3, h4, h5, h6, h7⟩ := h
  match n, hn with
  | 0, _ => exact h0
  | 1, _ => exact h1
  | 2, _ => exact h2
  | 3, _ => exact h3
  | 4, _ => exact h4
  | 5, _ => exact h5
  | 6, _ => exact h6
  | 7, _ => exact h7
theorem isM_mkM (b0 b1 b2 b3 b4 b5 b6 b7 : Bool) (n : Nat) (hn : n < 8) : isM (mkM b0 b1 b2 b3 b4 b5 b6 b7) (n : Int) = [b7, b6, b5, b4, b3, b2, b1, b0].getD n false := by
  obtain ⟨h0, h1, h2, h3, h4, h5, h6, h7⟩ := of_mkM b0 b1 b2 b3 b4 b5 b6 b7
  exact nat8 (fun n => isM (mkM b0 b1 b2 b3 b4 b5 b6 b7) (n : Int) = [b7, b6, b5, b4, b3, b2, b1, b0].getD n false) ⟨h7, h6, h5, h4, h3, h2, h1, h0⟩ n hn
theorem keep_all (f o m : Int) (h0 : 0 ≤ f) (h1 : f ≤ 255) (h2 : 0 ≤ o) (h3 : o ≤ 255) (h4 : 0 ≤ m) (h5 : m ≤ 255) :
    bits .or .u8 (bits .andNot .u8 f m) (bits .and .u8 o m) = keepM f o m := by
  have a := andNot_byte f m h0 h1 h4 h5
  have b := and_byte o m h2 h3 h4 h5
  have c := or_byte _ _ a.1 a.2 b.1 b.2
  have d := keepM_byte f o m
  refine byte_ext _ _ c.1 c.2 d.1 d.2 fun n hn => ?_
  rw [isM_or _ _ n hn a.1 a.2 b.1 b.2, isM_andNot _ _ n hn h0 h1 h4 h5, isM_and _ _ n hn h2 h3 h4 h5]
  unfold keepM
  rw [isM_mkM _ _ _ _ _ _ _ _ n hn]
  refine nat8 (fun n => ((isM f n && !isM m n) || (isM o n && isM m n)) = [_, _, _, _, _, _, _, _].getD n false) ?_ n hn
  simp only [List.getD_cons_zero, List.getD_cons_succ, sel]
  refine ⟨?_, ?_, ?_, ?_, ?_, ?_, ?_, ?_⟩
  · cases isM m 0 <;> simp
  · cases isM m 1 <;> simp
  · cases isM m 2 <;> simp
  · cases isM m 3 <;> simp
  · cases isM m 4 <;> simp
  · cases isM m 5 <;> simp
  · cases isM m 6 <;> simp
  · cases isM m 7 <;> simp
theorem keep_any (f o m : Int) (h0 : 0 ≤ f) (h1 : f ≤ 255) (h2 : 0 ≤ o) (h3 : o ≤ 255) (h4 : 0 ≤ m) (h5 : m ≤ 255) (w : World) :
    Calls Tryz.prog 273 #[.int .u8 f, .int .u8 o, .int .u8 m] w fun e w' => e = .returned (.int .u8 (keepM f o m)) ∧ w = w' := by
  have H := Lib.hid (keep_all f o m h0 h1 h2 h3 h4 h5)
  go_enter Tryz.func273, Tryz.ntmps273
  go_wp2
  go_ret
  exact ⟨ret_int H.out, rfl⟩
def fl (f : Int) (j : Nat) : Bool := isM f (7 - (j : Int))
def kept (f o m : Int) (k j : Nat) : Bool := if j < k then sel (fl m j) (fl f j) (fl o j) else fl f j
def one (c : Bool) : Int := if c then 1 else 0
theorem one_bounds (c : Bool) : 0 ≤ one c ∧ one c ≤ 1 := by cases c <;> decide
def farM (n : Int) : Bool := decide (n < -128) || decide (127 < n)
def addR (a b : Int) (c : Bool) : Int := (a + b + one c) % 256
def addF (a b : Int) (c : Bool) : Int :=
  mkM (isM (addR a b c) 7) (addR a b c == 0) (isM (addR a b c) 5) (decide (15 < a % 16 + b % 16 + one c)) (isM (addR a b c) 3) (farM (signedM a + signedM b + one c)) false (decide (255 < a + b + one c))
def subR (a b : Int) (c : Bool) : Int := (a - b - one c) % 256
def subF (a b : Int) (c : Bool) : Int :=
  mkM (isM (subR a b c) 7) (subR a b c == 0) (isM (subR a b c) 5) (decide (a % 16 - b % 16 - one c < 0)) (isM (subR a b c) 3) (farM (signedM a - signedM b - one c)) true (decide (a - b - one c < 0))
def cmpF (a b : Int) : Int :=
  mkM (isM (subR a b false) 7) (subR a b false == 0) (isM b 5) (decide (a % 16 - b % 16 - one false < 0)) (isM b 3) (farM (signedM a - signedM b - one false)) true (decide (a - b - one false < 0))
def incF (a f : Int) : Int :=
  mkM (isM (addR a 1 false) 7) (addR a 1 false == 0) (isM (addR a 1 false) 5) (decide (15 < a % 16 + 1 % 16 + one false)) (isM (addR a 1 false) 3) (farM (signedM a + signedM 1 + one false)) false (isM f 0)
def decF (a f : Int) : Int :=
  mkM (isM (subR a 1 false) 7) (subR a 1 false == 0) (isM (subR a 1 false) 5) (decide (a % 16 - 1 % 16 - one false < 0)) (isM (subR a 1 false) 3) (farM (signedM a - signedM 1 - one false)) true (isM f 0)
theorem addR_byte (a b : Int) (c : Bool) : B8 (addR a b c) := by unfold addR B8; omega
theorem subR_byte (a b : Int) (c : Bool) : B8 (subR a b c) := by unfold subR B8; omega
theorem addF_byte (a b : Int) (c : Bool) : B8 (addF a b c) := mkM_byte ..
theorem subF_byte (a b : Int) (c : Bool) : B8 (subF a b c) := mkM_byte ..
theorem cmpF_byte (a b : Int) : B8 (cmpF a b) := mkM_byte ..
theorem incF_byte (a b : Int) : B8 (incF a b) := mkM_byte ..
theorem decF_byte (a b : Int) : B8 (decF a b) := mkM_byte ..
def cK (a b : Int) (c : Bool) (k : Nat) : Bool := decide (2 ^ k ≤ a % 2 ^ k + b % 2 ^ k + one c)
theorem cK_zero (a b : Int) (c : Bool) : cK a b c 0 = c := by
  unfold cK one
  cases c <;> simp <;> omega
theorem cK_step (a b : Int) (c : Bool) (k : Nat) (hk : k < 8) : cK a b c (k + 1) = if cK a b c k then (isM a k || isM b k) else (isM a k && isM b k) := by
  have key := one_bounds c
  refine nat8 (fun k => cK a b c (k + 1) = if cK a b c k then (isM a k || isM b k) else (isM a k && isM b k)) ?_ k hk
  unfold cK isM
  generalize one c = o at key ⊢
  refine ⟨?_, ?_, ?_, ?_, ?_, ?_, ?_, ?_⟩
  all_goals
    rw [Bool.eq_iff_iff]
    simp
    split <;> omega
def outM (a b : Int) (c : Bool) : Nat → Int
  | 0 => 0
  | k + 1 => if cK a b c (k + 1) then withM (outM a b c k) k true else outM a b c k
theorem outM_byte (a b : Int) (c : Bool) : ∀ k, B8 (outM a b c k)
  | 0 => B8.zero
  | k + 1 => by
    unfold outM
    split
    · exact (outM_byte a b c k).with _ _
    · exact outM_byte a b c k
theorem out8_bits : ∀ c1 c2 c3 c4 c5 c6 c7 c8 : Bool,
    let w := fun (x : Int) (k : Int) (c : Bool) => if c then withM x k true else x
    let o := w (w (w (w (w (w (w (w 0 0 c1) 1 c2) 2 c3) 3 c4) 4 c5) 5 c6) 6 c7) 7 c8
    isM o 3 = c4 ∧ isM o 6 = c7 ∧ isM o 7 = c8 := by decide +kernel
theorem out_bits (a b : Int) (c : Bool) : isM (outM a b c 8) 3 = cK a b c 4 ∧ isM (outM a b c 8) 6 = cK a b c 7 ∧ isM (outM a b c 8) 7 = cK a b c 8 :=
  out8_bits (cK a b c 1) (cK a b c 2) (cK a b c 3) (cK a b c 4) (cK a b c 5) (cK a b c 6) (cK a b c 7) (cK a b c 8)
theorem cK_nums (a b : Int) (c : Bool) (ha : B8 a) (hb : B8 b) : cK a b c 4 = decide (15 < a % 16 + b % 16 + one c) ∧ cK a b c 8 = decide (255 < a + b + one c) ∧ (cK a b c 7 != cK a b c 8) = farM (signedM a + signedM b + one c) := by
  obtain ⟨a0, a1⟩ := ha
  obtain ⟨b0, b1⟩ := hb
  have key := one_bounds c
  unfold cK farM signedM
  generalize one c = o at key ⊢
  refine ⟨?_, ?_, ?_⟩
  · rw [Bool.eq_iff_iff]; simp; omega
  · rw [Bool.eq_iff_iff]; simp; omega
  · rw [Bool.eq_iff_iff]
    simp
    split <;> split <;> omega
def W16 (x : Int) : Prop := 0 ≤ x ∧ x ≤ 65535
theorem W16.lo {x : Int} (h : W16 x) : 0 ≤ x := h.1
theorem W16.hi {x : Int} (h : W16 x) : x ≤ 65535 := h.2
theorem W16.low {x : Int} (h : W16 x) : B8 (x % 256) := by unfold B8; omega
theorem W16.high {x : Int} (h : W16 x) : B8 (x / 256) := by obtain ⟨h0, h1⟩ := h; unfold B8; omega
def signedW (w : Int) : Int := if w < 32768 then w else w - 65536
def farW (n : Int) : Bool := decide (n < -32768) || decide (32767 < n)
def adcW (a b : Int) (c : Bool) : Int := (a + b + one c) % 65536
def sbcW (a b : Int) (c : Bool) : Int := (a - b - one c) % 65536
def wideF (r : Int) (half over minus out : Bool) : Int :=
  mkM (isM (r / 256) 7) (r == 0) (isM (r / 256) 5) half (isM (r / 256) 3) over minus out
def adcF (a b : Int) (c : Bool) : Int :=
  wideF (adcW a b c) (decide (4095 < a % 4096 + b % 4096 + one c)) (farW (signedW a + signedW b + one c)) false (decide (65535 < a + b + one c))
def sbcF (a b : Int) (c : Bool) : Int :=
  wideF (sbcW a b c) (decide (a % 4096 - b % 4096 - one c < 0)) (farW (signedW a - signedW b - one c)) true (decide (a - b - one c < 0))
def addWF (a b f : Int) : Int :=
  mkM (isM f 7) (isM f 6) (isM (adcW a b false / 256) 5) (decide (4095 < a % 4096 + b % 4096)) (isM (adcW a b false / 256) 3) (isM f 2) false (decide (65535 < a + b))
def moveM (w y : Int) : Int := (w + y) % 65536
theorem adcF_byte (a b : Int) (c : Bool) : B8 (adcF a b c) := mkM_byte ..
theorem sbcF_byte (a b : Int) (c : Bool) : B8 (sbcF a b c) := mkM_byte ..
theorem addWF_byte (a b f : Int) : B8 (addWF a b f) := mkM_byte ..
def midA (a b : Int) (c : Bool) : Bool := isM (addF (a % 256) (b % 256) c) 0
def midS (a b : Int) (c : Bool) : Bool := isM (subF (a % 256) (b % 256) c) 0
theorem addF_bit0' (a b : Int) (c : Bool) : isM (addF a b c) 0 = decide (255 < a + b + one c) := (of_mkM _ _ _ _ _ _ _ _).2.2.2.2.2.2.2
theorem subF_bit0' (a b : Int) (c : Bool) : isM (subF a b c) 0 = decide (a - b - one c < 0) := (of_mkM _ _ _ _ _ _ _ _).2.2.2.2.2.2.2
theorem one_dec (p : Prop) [Decidable p] : one (decide p) = if p then 1 else 0 := by unfold one; by_cases h : p <;> simp [h]
theorem keepZ (x0 x1 x2 x3 x4 x5 x6 x7 : Bool) (f : Int) : keepM (mkM x0 x1 x2 x3 x4 x5 x6 x7) f 64 = mkM x0 (isM f 6) x2 x3 x4 x5 x6 x7 := by
  unfold keepM
  obtain ⟨h0, h1, h2, h3, h4, h5, h6, h7⟩ := of_mkM x0 x1 x2 x3 x4 x5 x6 x7
  obtain ⟨z0, z1, z2, z3, z4, z5, z6, z7⟩ : isM 64 0 = false ∧ isM 64 1 = false ∧ isM 64 2 = false ∧ isM 64 3 = false ∧ isM 64 4 = false ∧ isM 64 5 = false ∧ isM 64 6 = true ∧ isM 64 7 = false := by decide +kernel
  rw [h0, h1, h2, h3, h4, h5, h6, h7, z0, z1, z2, z3, z4, z5, z6, z7]
  rfl
theorem keepSZP (x0 x1 x2 x3 x4 x5 x6 x7 : Bool) (f : Int) : keepM (mkM x0 x1 x2 x3 x4 x5 x6 x7) f 196 = mkM (isM f 7) (isM f 6) x2 x3 x4 (isM f 2) x6 x7 := by
  unfold keepM
  obtain ⟨h0, h1, h2, h3, h4, h5, h6, h7⟩ := of_mkM x0 x1 x2 x3 x4 x5 x6 x7
  obtain ⟨z0, z1, z2, z3, z4, z5, z6, z7⟩ : isM 196 0 = false ∧ isM 196 1 = false ∧ isM 196 2 = true ∧ isM 196 3 = false ∧ isM 196 4 = false ∧ isM 196 5 = false ∧ isM 196 6 = true ∧ isM 196 7 = true := by decide +kernel
  rw [h0, h1, h2, h3, h4, h5, h6, h7, z0, z1, z2, z3, z4, z5, z6, z7]
  rfl
theorem adc_word (a b : Int) (c : Bool) (ha : W16 a) (hb : W16 b) : 256 * addR (a / 256) (b / 256) (midA a b c) + addR (a % 256) (b % 256) c = adcW a b c := by
  obtain ⟨a0, a1⟩ := ha
  obtain ⟨b0, b1⟩ := hb
  have key := one_bounds c
  unfold midA
  rw [addF_bit0']
  unfold addR adcW
  rw [one_dec]
  split <;> omega
theorem sbc_word (a b : Int) (c : Bool) (ha : W16 a) (hb : W16 b) : 256 * subR (a / 256) (b / 256) (midS a b c) + subR (a % 256) (b % 256) c = sbcW a b c := by
  obtain ⟨a0, a1⟩ := ha
  obtain ⟨b0, b1⟩ := hb
  have key := one_bounds c
  unfold midS
  rw [subF_bit0']
  unfold subR sbcW
  rw [one_dec]
  split <;> omega
theorem zboth (x y : Int) (hx : B8 x) (hy : B8 y) : (x == 0 && y == 0) = (256 * x + y == 0) := by
  obtain ⟨x0, x1⟩ := hx
  obtain ⟨y0, y1⟩ := hy
  rw [Bool.eq_iff_iff]; simp; omega
theorem adc_flags (a b : Int) (c : Bool) (ha : W16 a) (hb : W16 b) :
    keepM (addF (a / 256) (b / 256) (midA a b c)) (bits .and .u8 (addF (a / 256) (b / 256) (midA a b c)) (addF (a % 256) (b % 256) c)) 64 = adcF a b c := by
  have hw := adc_word a b c ha hb
  have r1 := addR_byte (a / 256) (b / 256) (midA a b c)
  have r2 := addR_byte (a % 256) (b % 256) c
  have z : isM (bits .and .u8 (addF (a / 256) (b / 256) (midA a b c)) (addF (a % 256) (b % 256) c)) 6 = (adcW a b c == 0) := by
    rw [← hw, ← zboth _ _ r1 r2]
    have f1 := addF_byte (a / 256) (b / 256) (midA a b c)
    have f2 := addF_byte (a % 256) (b % 256) c
    have := isM_and _ _ 6 (by omega) f1.1 f1.2 f2.1 f2.2
    rw [show ((6 : Nat) : Int) = 6 from rfl] at this
    rw [this]
    exact congr (congrArg _ (of_mkM _ _ _ _ _ _ _ _).2.1) (of_mkM _ _ _ _ _ _ _ _).2.1
  have hh : addR (a / 256) (b / 256) (midA a b c) = adcW a b c / 256 := by
    obtain ⟨x0, x1⟩ := r2
    rw [← hw]; omega
  generalize bits .and .u8 (addF (a / 256) (b / 256) (midA a b c)) (addF (a % 256) (b % 256) c) = y at z ⊢
  unfold addF
  rw [keepZ, z, hh]
  unfold adcF wideF
  obtain ⟨a0, a1⟩ := ha
  obtain ⟨b0, b1⟩ := hb
  have key := one_bounds c
  have m : one (midA a b c) = if 255 < a % 256 + b % 256 + one c then 1 else 0 := by unfold midA; rw [addF_bit0', one_dec]
  have n4 : decide (15 < a / 256 % 16 + b / 256 % 16 + one (midA a b c)) = decide (4095 < a % 4096 + b % 4096 + one c) := by
    rw [m, Bool.eq_iff_iff]; simp; split <;> omega
  have n8 : decide (255 < a / 256 + b / 256 + one (midA a b c)) = decide (65535 < a + b + one c) := by
    rw [m, Bool.eq_iff_iff]; simp; split <;> omega
  have n7 : farM (signedM (a / 256) + signedM (b / 256) + one (midA a b c)) = farW (signedW a + signedW b + one c) := by
    unfold farM farW signedM signedW
    rw [m, Bool.eq_iff_iff]
    simp
    split <;> split <;> split <;> split <;> split <;> omega
  rw [n4, n8, n7]
theorem sbc_flags (a b : Int) (c : Bool) (ha : W16 a) (hb : W16 b) :
    keepM (subF (a / 256) (b / 256) (midS a b c)) (bits .and .u8 (subF (a / 256) (b / 256) (midS a b c)) (subF (a % 256) (b % 256) c)) 64 = sbcF a b c := by
  have hw := sbc_word a b c ha hb
  have r1 := subR_byte (a / 256) (b / 256) (midS a b c)
  have r2 := subR_byte (a % 256) (b % 256) c
  have z : isM (bits .and .u8 (subF (a / 256) (b / 256) (midS a b c)) (subF (a % 256) (b % 256) c)) 6 = (sbcW a b c == 0) := by
    rw [← hw, ← zboth _ _ r1 r2]
    have f1 := subF_byte (a / 256) (b / 256) (midS a b c)
    have f2 := subF_byte (a % 256) (b % 256) c
    have := isM_and _ _ 6 (by omega) f1.1 f1.2 f2.1 f2.2
    rw [show ((6 : Nat) : Int) = 6 from rfl] at this
    rw [this]
    exact congr (congrArg _ (of_mkM _ _ _ _ _ _ _ _).2.1) (of_mkM _ _ _ _ _ _ _ _).2.1
  have hh : subR (a / 256) (b / 256) (midS a b c) = sbcW a b c / 256 := by
    obtain ⟨x0, x1⟩ := r2
    rw [← hw]; omega
  generalize bits .and .u8 (subF (a / 256) (b / 256) (midS a b c)) (subF (a % 256) (b % 256) c) = y at z ⊢
  unfold subF
  rw [keepZ, z, hh]
  unfold sbcF wideF
  obtain ⟨a0, a1⟩ := ha
  obtain ⟨b0, b1⟩ := hb
  have key := one_bounds c
  have m : one (midS a b c) = if a % 256 - b % 256 - one c < 0 then 1 else 0 := by unfold midS; rw [subF_bit0', one_dec]
  have n4 : decide (a / 256 % 16 - b / 256 % 16 - one (midS a b c) < 0) = decide (a % 4096 - b % 4096 - one c < 0) := by
    rw [m, Bool.eq_iff_iff]; simp; split <;> omega
  have n8 : decide (a / 256 - b / 256 - one (midS a b c) < 0) = decide (a - b - one c < 0) := by
    rw [m, Bool.eq_iff_iff]; simp; split <;> omega
  have n7 : farM (signedM (a / 256) - signedM (b / 256) - one (midS a b c)) = farW (signedW a - signedW b - one c) := by
    unfold farM farW signedM signedW
    rw [m, Bool.eq_iff_iff]
    simp
    split <;> split <;> split <;> split <;> split <;> omega
  rw [n4, n8, n7]
theorem add_flags (a b f : Int) : keepM (adcF a b false) f 196 = addWF a b f := by
  unfold adcF wideF
  rw [keepSZP]
  have o : one false = 0 := rfl
  unfold addWF
  rw [o, Int.add_zero, Int.add_zero]
def mergeM (op : Bool → Bool → Bool) (a b : Int) : Int :=
  mkM (op (isM a 7) (isM b 7)) (op (isM a 6) (isM b 6)) (op (isM a 5) (isM b 5)) (op (isM a 4) (isM b 4)) (op (isM a 3) (isM b 3)) (op (isM a 2) (isM b 2)) (op (isM a 1) (isM b 1)) (op (isM a 0) (isM b 0))
theorem mergeM_byte (op : Bool → Bool → Bool) (a b : Int) : B8 (mergeM op a b) := mkM_byte ..
def upM (b0 b1 b2 b3 b4 b5 b6 b7 : Bool) : Int :=
  withM (withM (withM (withM (withM (withM (withM (withM 0 0 b0) 1 b1) 2 b2) 3 b3) 4 b4) 5 b5) 6 b6) 7 b7
theorem up_mk : ∀ b0 b1 b2 b3 b4 b5 b6 b7 : Bool, upM b0 b1 b2 b3 b4 b5 b6 b7 = mkM b7 b6 b5 b4 b3 b2 b1 b0 := by decide +kernel
def andB (x y : Bool) : Bool := x && y
def orB (x y : Bool) : Bool := x || y
def xorB (x y : Bool) : Bool := x != y
def andR (a b : Int) : Int := mergeM andB a b
def orR (a b : Int) : Int := mergeM orB a b
def xorR (a b : Int) : Int := mergeM xorB a b
def andFl (r : Int) : Int := mkM (isM r 7) (r == 0) (isM r 5) true (isM r 3) (evenM r) false false
theorem andFl_byte (r : Int) : B8 (andFl r) := mkM_byte ..
theorem andFl_fin : ∀ x : Fin 256, bits .or .u8 (evenFM (x.val : Int)) 16 = andFl (x.val : Int) := by decide +kernel
theorem andFl_all (r : Int) (h : B8 r) : bits .or .u8 (evenFM r) 16 = andFl r := byte_all (P := fun r => bits .or .u8 (evenFM r) 16 = andFl r) andFl_fin r h.1 h.2
def linesM (f a : Int) (h n c : Bool) : Int := mkM (isM f 7) (isM f 6) (isM a 5) h (isM a 3) (isM f 2) n c
theorem linesM_byte (f a : Int) (h n c : Bool) : B8 (linesM f a h n c) := mkM_byte ..
def cplF (a f : Int) : Int := linesM f (255 - a) true true (isM f 0)
def scfF (a f : Int) : Int := linesM f a false false true
def ccfF (a f : Int) : Int := linesM f a (isM f 0) false (!isM f 0)
theorem kept_math (b f : Int) : keepM (resultM b) f 196 = linesM f b false false false := by
  obtain ⟨z0, z1, z2, z3, z4, z5, z6, z7⟩ : isM 196 0 = false ∧ isM 196 1 = false ∧ isM 196 2 = true ∧ isM 196 3 = false ∧ isM 196 4 = false ∧ isM 196 5 = false ∧ isM 196 6 = true ∧ isM 196 7 = true := by decide +kernel
  obtain ⟨e7, e6, e5, e4, e3, e2, e1, e0⟩ : isM (resultM b) 7 = _ ∧ isM (resultM b) 6 = _ ∧ isM (resultM b) 5 = _ ∧ isM (resultM b) 4 = _ ∧ isM (resultM b) 3 = _ ∧ isM (resultM b) 2 = _ ∧ isM (resultM b) 1 = _ ∧ isM (resultM b) 0 = _ := of_mkM _ _ _ _ _ _ _ _
  unfold keepM linesM
  rw [z0, z1, z2, z3, z4, z5, z6, z7, e0, e1, e3, e4, e5]
  rfl
theorem mk_or : ∀ b0 b1 b2 b3 b4 b5 b6 b7 : Bool, bits .or .u8 (mkM b0 b1 b2 b3 b4 b5 b6 b7) 1 = mkM b0 b1 b2 b3 b4 b5 b6 true ∧ bits .or .u8 (mkM b0 b1 b2 b3 b4 b5 b6 b7) 16 = mkM b0 b1 b2 true b4 b5 b6 b7 ∧ bits .or .u8 (mkM b0 b1 b2 b3 b4 b5 b6 b7) 2 = mkM b0 b1 b2 b3 b4 b5 true b7 ∧ bits .or .u8 (mkM b0 b1 b2 b3 b4 b5 b6 b7) 0 = mkM b0 b1 b2 b3 b4 b5 b6 b7 := by decide +kernel
theorem low_one : ∀ x : Fin 256, bits .and .u8 (x.val : Int) 1 = one (isM (x.val : Int) 0) := by decide +kernel
theorem low_all (f : Int) (h : B8 f) : bits .and .u8 f 1 = one (isM f 0) := byte_all (P := fun f => bits .and .u8 f 1 = one (isM f 0)) low_one f h.1 h.2
theorem or_one (b0 b1 b2 b3 b4 b5 b6 c : Bool) : bits .or .u8 (mkM b0 b1 b2 b3 b4 b5 b6 false) (one c) = mkM b0 b1 b2 b3 b4 b5 b6 c := by
  cases c
  · exact (mk_or b0 b1 b2 b3 b4 b5 b6 false).2.2.2
  · exact (mk_or b0 b1 b2 b3 b4 b5 b6 false).1
theorem cpl_math (a f : Int) (hf : B8 f) : bits .or .u8 (bits .or .u8 (bits .or .u8 (keepM (resultM (255 - a)) f 196) (bits .and .u8 f 1)) 16) 2 = cplF a f := by
  rw [kept_math, low_all f hf]
  unfold linesM cplF linesM
  rw [or_one, (mk_or _ _ _ _ _ _ _ _).2.1, (mk_or _ _ _ _ _ _ _ _).2.2.1]
theorem scf_math (a f : Int) : bits .or .u8 (keepM (resultM a) f 196) 1 = scfF a f := by
  rw [kept_math]
  unfold linesM scfF linesM
  rw [(mk_or _ _ _ _ _ _ _ _).1]
theorem ccf_no (a f : Int) (h : isM f 0 = false) : scfF a f = ccfF a f := by
  unfold scfF ccfF
  rw [h]
  rfl
theorem ccf_yes (a f : Int) (h : isM f 0 = true) : bits .or .u8 (keepM (resultM a) f 196) 16 = ccfF a f := by
  rw [kept_math]
  unfold linesM ccfF linesM
  rw [h, (mk_or _ _ _ _ _ _ _ _).2.1]
  rfl
def wrongLow (a f : Int) : Bool := isM f 4 || decide (9 < a % 16)
def wrongHigh (a f : Int) : Bool := isM f 0 || decide (153 < a)
def byM (a f : Int) : Int := (if wrongLow a f then 6 else 0) + (if wrongHigh a f then 96 else 0)
def daaR (a f : Int) : Int := if isM f 1 then (a - byM a f) % 256 else (a + byM a f) % 256
def daaF (a f : Int) : Int :=
  mkM (isM (daaR a f) 7) (daaR a f == 0) (isM (daaR a f) 5) (isM a 4 != isM (daaR a f) 4) (isM (daaR a f) 3) (evenM (daaR a f)) (isM f 1) (wrongHigh a f)
theorem daaR_byte (a f : Int) : B8 (daaR a f) := by unfold daaR B8; split <;> omega
theorem daaF_byte (a f : Int) : B8 (daaF a f) := mkM_byte ..
theorem byM_byte (a f : Int) : 0 ≤ byM a f ∧ byM a f ≤ 102 := by unfold byM; split <;> split <;> omega
def inM (kind b f : Int) : Bool :=
  if kind = 0 then isM b 7 else if kind = 1 then isM b 0 else if kind = 2 then isM f 0 else if kind = 3 then isM f 0 else
  if kind = 4 then false else if kind = 5 then isM b 7 else if kind = 6 then true else false
def soutM (kind b : Int) : Bool := if kind % 2 = 0 then isM b 7 else isM b 0
def shlM (b : Int) (i : Bool) : Int := withM (turnM b 1) 0 i
def shrM (b : Int) (i : Bool) : Int := withM (turnM b (-1)) 7 i
def shM (kind b f : Int) : Int := if kind % 2 = 0 then shlM b (inM kind b f) else shrM b (inM kind b f)
def doR (kind b f : Int) : Int := if 0 ≤ kind ∧ kind < 8 then shM kind b f else b
def doF (kind b f : Int) : Int := if 0 ≤ kind ∧ kind < 8 then withM (evenFM (shM kind b f)) 0 (soutM kind b) else f
def accR (kind b f : Int) : Int := if 0 ≤ kind ∧ kind < 4 then shM kind b f else b
def accF (kind b f : Int) : Int := if 0 ≤ kind ∧ kind < 4 then linesM f (shM kind b f) false false (soutM kind b) else f
theorem shM_byte (kind b f : Int) (hb : B8 b) : B8 (shM kind b f) := by
  unfold shM shlM shrM
  split
  · exact B8.with (turnM_byte b 1 hb.1 hb.2) _ _
  · exact B8.with (turnM_byte b (-1) hb.1 hb.2) _ _
theorem doR_byte (kind b f : Int) (hb : B8 b) : B8 (doR kind b f) := by
  unfold doR
  split
  · exact shM_byte _ _ _ hb
  · exact hb
theorem doF_byte (kind b f : Int) (hf : B8 f) : B8 (doF kind b f) := by
  unfold doF
  split
  · exact B8.with (evenFM_byte _) _ _
  · exact hf
theorem accR_byte (kind b f : Int) (hb : B8 b) : B8 (accR kind b f) := by
  unfold accR
  split
  · exact shM_byte _ _ _ hb
  · exact hb
theorem accF_byte (kind b f : Int) (hf : B8 f) : B8 (accF kind b f) := by
  unfold accF
  split
  · exact linesM_byte ..
  · exact hf
def evenC (r : Int) (c : Bool) : Int := withM (evenFM r) 0 c
theorem evenC_byte (r : Int) (c : Bool) : B8 (evenC r c) := B8.with (evenFM_byte r) _ _
theorem mk_c : ∀ b0 b1 b2 b3 b4 b5 b6 c : Bool, withM (mkM b0 b1 b2 b3 b4 b5 b6 false) 0 c = mkM b0 b1 b2 b3 b4 b5 b6 c := by decide +kernel
theorem even_or (r : Int) (c : Bool) : bits .or .u8 (evenFM r) (one c) = evenC r c := by
  unfold evenC evenFM
  rw [or_one, mk_c]
theorem lines_or (r f : Int) (c : Bool) : bits .or .u8 (keepM (resultM r) f 196) (one c) = linesM f r false false c := by
  rw [kept_math]
  unfold linesM
  rw [or_one]
def digA (right : Bool) (a b : Int) : Int := a / 16 * 16 + (if right then b % 16 else b / 16)
def digB (right : Bool) (a b : Int) : Int := (if right then a % 16 else b % 16) * 16 + (if right then b / 16 else a % 16)
theorem digA_byte (right : Bool) (a b : Int) (ha : B8 a) (hb : B8 b) : B8 (digA right a b) := by
  have a0 := ha.1; have a1 := ha.2; have b0 := hb.1; have b1 := hb.2
  cases right <;> (simp only [digA, B8, if_true, if_false, Bool.false_eq_true]; omega)
theorem digB_byte (right : Bool) (a b : Int) (ha : B8 a) (hb : B8 b) : B8 (digB right a b) := by
  have a0 := ha.1; have a1 := ha.2; have b0 := hb.1; have b1 := hb.2
  cases right <;> (simp only [digB, B8, if_true, if_false, Bool.false_eq_true]; omega)
theorem low4_fin : ∀ x : Fin 256, bits .and .u8 (x.val : Int) 15 = (x.val : Int) % 16 ∧ bits .andNot .u8 (x.val : Int) 15 = (x.val : Int) / 16 * 16 := by decide +kernel
theorem low4_all (b : Int) (hb : B8 b) : bits .and .u8 b 15 = b % 16 ∧ bits .andNot .u8 b 15 = b / 16 * 16 :=
  byte_all (P := fun b => bits .and .u8 b 15 = b % 16 ∧ bits .andNot .u8 b 15 = b / 16 * 16) low4_fin b hb.1 hb.2
theorem join4_fin : ∀ x y : Fin 16, bits .or .u8 ((x.val : Int) * 16) (y.val : Int) = (x.val : Int) * 16 + (y.val : Int) := by decide +kernel
theorem join4_all (x y : Int) (h0 : 0 ≤ x) (h1 : x < 16) (h2 : 0 ≤ y) (h3 : y < 16) : bits .or .u8 (x * 16) y = x * 16 + y := by
  have := join4_fin ⟨x.toNat, by omega⟩ ⟨y.toNat, by omega⟩
  simpa [Int.toNat_of_nonneg h0, Int.toNat_of_nonneg h2] using this
def bitF (n b lines f : Int) : Int := mkM ((n == 7) && isM b n) (!isM b n) (isM lines 5) true (isM lines 3) (!isM b n) false (isM f 0)
theorem bitF_byte (n b lines f : Int) : B8 (bitF n b lines f) := mkM_byte ..
def bitG (lines f : Int) : Int := mkM false false (isM lines 5) true (isM lines 3) false false (isM f 0)
theorem or16 : ∀ c : Bool, bits .or .u8 16 (one c) = mkM false false false true false false false c := by decide +kernel
theorem bit_math (lines f : Int) (hf : B8 f) : keepM (bits .or .u8 16 (bits .and .u8 f 1)) lines 40 = bitG lines f := by
  obtain ⟨z0, z1, z2, z3, z4, z5, z6, z7⟩ : isM 40 0 = false ∧ isM 40 1 = false ∧ isM 40 2 = false ∧ isM 40 3 = true ∧ isM 40 4 = false ∧ isM 40 5 = true ∧ isM 40 6 = false ∧ isM 40 7 = false := by decide +kernel
  rw [low_all f hf, or16]
  obtain ⟨e7, e6, e5, e4, e3, e2, e1, e0⟩ := of_mkM false false false true false false false (isM f 0)
  unfold keepM bitG
  rw [z0, z1, z2, z3, z4, z5, z6, z7, e0, e1, e2, e4, e6, e7]
  rfl
theorem bit_or : ∀ y x c : Bool, bits .or .u8 (bits .or .u8 (mkM false false y true x false false c) 64) 4 = mkM false true y true x true false c ∧ bits .or .u8 (mkM false false y true x false false c) 128 = mkM true false y true x false false c := by decide +kernel
theorem bit_no (n b lines f : Int) (h : isM b n = false) : bits .or .u8 (bits .or .u8 (bitG lines f) 64) 4 = bitF n b lines f := by
  unfold bitF bitG
  rw [h, (bit_or _ _ _).1]
  simp
theorem bit_seven (b lines f : Int) (h : isM b 7 = true) : bits .or .u8 (bitG lines f) 128 = bitF 7 b lines f := by
  unfold bitF bitG
  rw [h, (bit_or _ _ _).2]
  rfl
theorem bit_yes (n b lines f : Int) (h : isM b n = true) (hn : ¬ n = 7) : bitG lines f = bitF n b lines f := by
  unfold bitF bitG
  rw [h, show (n == 7) = false from by simpa using hn]
  rfl
def plusM (a b : Int) : Int := (a + b) % 256
theorem plusM_byte (a b : Int) : B8 (plusM a b) := by unfold plusM B8; omega
def lessM (a b : Int) : Int := if isM (subF a b false) 4 then (subR a b false + 255) % 256 else subR a b false
theorem lessM_byte (a b : Int) : B8 (lessM a b) := by
  unfold lessM
  split
  · unfold B8; omega
  · exact subR_byte ..
theorem lessM_yes (a b : Int) (h : isM (subF a b false) 4 = true) : (subR a b false + 255) % 256 = lessM a b := by unfold lessM; rw [if_pos h]
theorem lessM_yes' (a b : Int) (h : isM (subF a b false) 4 = true) : (subR a b false - 1) % 256 = lessM a b := by
  rw [← lessM_yes a b h]; omega
theorem lessM_no (a b : Int) (h : isM (subF a b false) 4 = false) : subR a b false = lessM a b := by unfold lessM; rw [if_neg (by simp [h])]
def moveF (a b bc f : Int) : Int := mkM (isM f 7) (isM f 6) (isM (plusM a b) 1) false (isM (plusM a b) 3) (bc != 0) false (isM f 0)
def findF (a b bc f : Int) : Int :=
  mkM (isM (subF a b false) 7) (isM (subF a b false) 6) (isM (lessM a b) 1) (isM (subF a b false) 4) (isM (lessM a b) 3) (bc != 0) true (isM f 0)
def passF (b k left : Int) : Int :=
  mkM (isM left 7) (left == 0) (isM left 5) (decide (255 < k)) (isM left 3) (evenM (xorR (k % 8) left)) (isM b 7) (decide (255 < k))
def byC (c s : Int) : Int := (c + s) % 256
theorem byC_byte (c s : Int) : B8 (byC c s) := by unfold byC B8; omega
theorem moveF_byte (a b bc f : Int) : B8 (moveF a b bc f) := mkM_byte ..
theorem findF_byte (a b bc f : Int) : B8 (findF a b bc f) := mkM_byte ..
theorem passF_byte (b k left : Int) : B8 (passF b k left) := mkM_byte ..
def againM (kind f : Int) : Bool :=
  if kind = 0 then isM f 2 else if kind = 1 then isM f 2 && !isM f 6 else if kind = 2 then !isM f 6 else if kind = 3 then !isM f 6 else false
theorem againM_out (kind f : Int) (h : kind < 0 ∨ 4 ≤ kind) : againM kind f = false := by
  unfold againM
  repeat (rw [if_neg (by omega)])
theorem xorR_bits (a b : Int) (ha : B8 a) (hb : B8 b) : bits .xor .u8 a b = xorR a b := by
  have q := xor_byte a b ha.1 ha.2 hb.1 hb.2
  have r : B8 (xorR a b) := mergeM_byte ..
  refine byte_ext _ _ q.1 q.2 r.1 r.2 fun n hn => ?_
  rw [isM_xor a b n hn ha.1 ha.2 hb.1 hb.2]
  unfold xorR mergeM
  rw [isM_mkM _ _ _ _ _ _ _ _ n hn]
  refine nat8 (fun n => (isM a n ^^ isM b n) = [_, _, _, _, _, _, _, _].getD n false) ?_ n hn
  simp only [List.getD_cons_zero, List.getD_cons_succ, xorB]
  exact ⟨rfl, rfl, rfl, rfl, rfl, rfl, rfl, rfl⟩
structure Ms where
  r : Rg
  plane : Int
  x : Int
  y : Int
  z : Int
  p : Int
  q : Int
  spot : Int
  near : Bool
structure MsB (s : Ms) : Prop where
  r : RgB s.r
  plane : s.plane = 0 ∨ s.plane = 3 ∨ s.plane = 4
  x : 0 ≤ s.x ∧ s.x ≤ 3
  y : 0 ≤ s.y ∧ s.y ≤ 7
  z : 0 ≤ s.z ∧ s.z ≤ 7
  p : 0 ≤ s.p ∧ s.p ≤ 3
  q : 0 ≤ s.q ∧ s.q ≤ 1
  spot : Wd16 s.spot
def askN (c : Cy) (s : Ms) : Tr (Int × Ms) := .ask c fun b => .done (b, s)
def readN (a : Int) (s : Ms) : Tr (Int × Ms) := askN ⟨2, a, 0, 3⟩ s
def writeN (a b : Int) (s : Ms) : Tr Ms := (askN ⟨3, a, b, 3⟩ s).bind fun b => .done b.2
def inN (a : Int) (s : Ms) : Tr (Int × Ms) := askN ⟨4, a, 0, 4⟩ s
def outN (a b : Int) (s : Ms) : Tr Ms := (askN ⟨5, a, b, 4⟩ s).bind fun b => .done b.2
def pauseN (n : Int) (s : Ms) : Tr Ms := (askN ⟨7, 0, 0, n⟩ s).bind fun b => .done b.2
def Ms.pc (s : Ms) (v : Int) : Ms := { s with r := { s.r with pc := v } }
def Ms.sp (s : Ms) (v : Int) : Ms := { s with r := { s.r with sp := v } }
def Ms.wz (s : Ms) (v : Int) : Ms := { s with r := { s.r with wz := v } }
def Ms.af (s : Ms) (a f : Int) : Ms := { s with r := { s.r with af := 256 * a + f } }
def Ms.pcUp (s : Ms) : Ms := s.pc ((s.r.pc + 1) % 65536)
def glanceN (s : Ms) : Tr (Int × Ms) := (askN ⟨1, s.r.pc, 0, 4⟩ s).bind fun b => .done (b.1, { b.2 with r := tickG b.2.r 1 })
def fetchN (s : Ms) : Tr (Int × Ms) := (glanceN s).bind fun b => .done (b.1, b.2.pcUp)
def numberN (s : Ms) : Tr (Int × Ms) := (readN s.r.pc s).bind fun b => .done (b.1, b.2.pcUp)
def wordN (s : Ms) : Tr (Int × Ms) := (numberN s).bind fun l => (numberN l.2).bind fun h => .done (256 * h.1 + l.1, h.2)
def wordAtN (a : Int) (s : Ms) : Tr (Int × Ms) := (readN a s).bind fun l => (readN ((a + 1) % 65536) l.2).bind fun h => .done (256 * h.1 + l.1, h.2)
def Ms.spDown (s : Ms) : Ms := s.sp ((s.r.sp - 1) % 65536)
def pushN (w : Int) (s : Ms) : Tr Ms := (writeN s.spDown.r.sp (w / 256) s.spDown).bind fun s => writeN s.spDown.r.sp (w % 256) s.spDown
def popN (s : Ms) : Tr (Int × Ms) := (wordAtN s.r.sp s).bind fun w => .done (w.1, w.2.sp ((w.2.r.sp + 2) % 65536))
def Ms.goTo (s : Ms) (w : Int) : Ms := (s.pc w).wz w
def Ms.a (s : Ms) : Int := s.r.af / 256
def Ms.f (s : Ms) : Int := s.r.af % 256
def Ms.setA (s : Ms) (a : Int) : Ms := s.af a s.f
def Ms.setF (s : Ms) (f : Int) : Ms := s.af s.a f
def Ms.carry (s : Ms) : Int := one (isM s.f 0)
def Ms.hl (s : Ms) : Int := pairG s.r s.plane 2
def Ms.setHL (s : Ms) (w : Int) : Ms := { s with r := setPairG s.r s.plane 2 w }
def Ms.pair (s : Ms) : Int := pairG s.r s.plane s.p
def Ms.setPair (s : Ms) (w : Int) : Ms := { s with r := setPairG s.r s.plane s.p w }
def getN (k : Int) (s : Ms) : Tr (Int × Ms) := if k = 6 then readN s.spot s else .done (getG s.r s.plane k, s)
def putN (k b : Int) (s : Ms) : Tr Ms := if k = 6 then writeN s.spot b s else .done { s with r := setG s.r s.plane k b }
def Ms.left (s : Ms) : Int := (getG s.r s.plane 0 - 1) % 256
def Ms.lessB (s : Ms) : Ms := { s with r := setG s.r s.plane 0 s.left }
def aimN (s : Ms) : Tr Ms := (numberN s).bind fun n => .done { n.2.wz (moveM s.hl (signedM n.1)) with spot := moveM s.hl (signedM n.1), near := true, plane := 0 }
def Ms.split (s : Ms) (c : Int) : Ms := { s with x := fx c, y := fy c, z := fz c, p := fp c, q := fq c }
def Ms.holds (s : Ms) (c : Int) : Bool := testM s.f c
def jumpByN (holds : Bool) (s : Ms) : Tr Ms := (numberN s).bind fun e => if holds then (pauseN 5 e.2).bind fun s => .done (s.goTo (moveM s.r.pc (signedM e.1))) else .done e.2
def branchN (s : Ms) : Tr Ms :=
  if s.y = 0 then .done s else if s.y = 1 then .done { s with r := swapG s.r } else
  if s.y = 2 then (pauseN 1 s).bind fun s => jumpByN (s.left != 0) s.lessB else
  if s.y = 3 then jumpByN true s else jumpByN (s.holds (s.y - 4)) s
def wholePairN (s : Ms) : Tr Ms :=
  if s.q = 0 then (wordN s).bind fun w => .done (w.2.setPair w.1) else
  (pauseN 7 s).bind fun s =>
    let t := s.wz ((s.hl + 1) % 65536)
    .done ((t.setHL (adcW t.hl t.pair false)).setF (addWF t.hl t.pair t.f))
def trailA (s : Ms) (at_ : Int) : Ms := s.wz (256 * s.a + (at_ % 256 + 1) % 256)
def storeAN (at_ : Int) (s : Ms) : Tr Ms := (writeN at_ s.a s).bind fun s => .done (trailA s at_)
def loadAN (at_ : Int) (s : Ms) : Tr Ms := (readN at_ s).bind fun b => .done ((b.2.setA b.1).wz ((at_ + 1) % 65536))
def storeWordN (at_ w : Int) (s : Ms) : Tr Ms := (writeN at_ (w % 256) s).bind fun s => (writeN ((at_ + 1) % 65536) (w / 256) s).bind fun s => .done (s.wz ((at_ + 1) % 65536))
def loadWordN (at_ : Int) (s : Ms) : Tr (Int × Ms) := (wordAtN at_ s).bind fun w => .done (w.1, w.2.wz ((at_ + 1) % 65536))
def throughPlaceN (s : Ms) : Tr Ms :=
  if s.y = 0 ∨ s.y = 2 then storeAN s.pair s else if s.y = 1 ∨ s.y = 3 then loadAN s.pair s else
  if s.y = 4 then (wordN s).bind fun w => storeWordN w.1 w.2.hl w.2 else
  if s.y = 5 then (wordN s).bind fun w => (loadWordN w.1 w.2).bind fun v => .done (v.2.setHL v.1) else
  if s.y = 6 then (wordN s).bind fun w => storeAN w.1 w.2 else
  if s.y = 7 then (wordN s).bind fun w => loadAN w.1 w.2 else .done s
def stepPairN (s : Ms) : Tr Ms := (pauseN 2 s).bind fun s => if s.q = 0 then .done (s.setPair ((s.pair + 1) % 65536)) else .done (s.setPair ((s.pair - 1) % 65536))
def countN (d : Bool) (s : Ms) : Tr Ms := (getN s.y s).bind fun b => (if b.2.y = 6 then pauseN 1 b.2 else .done b.2).bind fun s =>
  putN s.y (if d then subR b.1 1 false else addR b.1 1 false) (s.setF (if d then decF b.1 s.f else incF b.1 s.f))
def loadNumberN (s : Ms) : Tr Ms := (numberN s).bind fun n => (if n.2.near then pauseN 2 n.2 else .done n.2).bind fun s => putN s.y n.1 s
def adjustN (s : Ms) : Ms :=
  if s.y = 4 then s.af (daaR s.a s.f) (daaF s.a s.f) else if s.y = 5 then s.af (255 - s.a) (cplF s.a s.f) else
  if s.y = 6 then s.af s.a (scfF s.a s.f) else if s.y = 7 then s.af s.a (ccfF s.a s.f) else s.af (accR s.y s.a s.f) (accF s.y s.a s.f)
def arithN (b : Int) (s : Ms) : Ms :=
  if s.y = 0 then s.af (addR s.a b false) (addF s.a b false) else if s.y = 1 then s.af (addR s.a b (s.carry != 0)) (addF s.a b (s.carry != 0)) else
  if s.y = 2 then s.af (subR s.a b false) (subF s.a b false) else if s.y = 3 then s.af (subR s.a b (s.carry != 0)) (subF s.a b (s.carry != 0)) else
  if s.y = 4 then s.af (andR s.a b) (andFl (andR s.a b)) else if s.y = 5 then s.af (xorR s.a b) (evenFM (xorR s.a b)) else
  if s.y = 6 then s.af (orR s.a b) (evenFM (orR s.a b)) else if s.y = 7 then s.af s.a (cmpF s.a b) else s.af s.a s.f
def variousN (s : Ms) : Tr Ms :=
  if s.z = 0 then branchN s else if s.z = 1 then wholePairN s else if s.z = 2 then throughPlaceN s else if s.z = 3 then stepPairN s else
  if s.z = 4 then countN false s else if s.z = 5 then countN true s else if s.z = 6 then loadNumberN s else if s.z = 7 then .done (adjustN s) else .done s
def loadN (s : Ms) : Tr Ms := if s.y = 6 ∧ s.z = 6 then .done { s with r := { s.r with halted := true } } else (getN s.z s).bind fun b => putN s.y b.1 b.2
def reckonN (s : Ms) : Tr Ms := (getN s.z s).bind fun b => .done (arithN b.1 b.2)
def popsN (s : Ms) : Tr Ms :=
  if s.q = 0 then (if s.p = 3 then (popN s).bind fun w => .done { w.2 with r := { w.2.r with af := w.1 } } else (popN s).bind fun w => .done (w.2.setPair w.1)) else
  if s.p = 0 then (popN s).bind fun w => .done (w.2.goTo w.1) else if s.p = 1 then .done { s with r := exxG s.r } else
  if s.p = 2 then .done (s.pc s.hl) else if s.p = 3 then (pauseN 2 s).bind fun s => .done (s.sp s.hl) else .done s
def callN (holds : Bool) (s : Ms) : Tr Ms := (wordN s).bind fun w => if holds then (pauseN 1 (w.2.wz w.1)).bind fun s => (pushN s.r.pc s).bind fun s => .done (s.pc s.r.wz) else .done (w.2.wz w.1)
def pushesN (s : Ms) : Tr Ms := if s.q = 0 then (pauseN 1 s).bind fun s => if s.p = 3 then pushN s.r.af s else pushN s.pair s else callN true s
def exchangeTopN (s : Ms) : Tr Ms := (wordAtN s.r.sp s).bind fun w => (pauseN 1 w.2).bind fun t => (writeN ((t.r.sp + 1) % 65536) (w.2.hl / 256) t).bind fun t =>
  (writeN t.r.sp (w.2.hl % 256) t).bind fun t => (pauseN 2 t).bind fun t => .done ((t.setHL w.1).wz w.1)
def singleN (s : Ms) : Tr Ms :=
  if s.y = 0 then (wordN s).bind fun w => .done (w.2.goTo w.1) else
  if s.y = 2 then (numberN s).bind fun n => (outN (256 * s.a + n.1) n.2.a n.2).bind fun t => .done (trailA t (256 * s.a + n.1)) else
  if s.y = 3 then (numberN s).bind fun n => (inN (256 * s.a + n.1) n.2).bind fun b => .done ((b.2.setA b.1).wz ((256 * s.a + n.1 + 1) % 65536)) else
  if s.y = 4 then exchangeTopN s else if s.y = 5 then .done { s with r := { s.r with de := s.r.hl, hl := s.r.de } } else
  if s.y = 6 then .done { s with r := { s.r with iff1 := false, iff2 := false } } else if s.y = 7 then .done { s with r := { s.r with iff1 := true, iff2 := true, late := true } } else .done s
def controlN (s : Ms) : Tr Ms :=
  if s.z = 0 then (pauseN 1 s).bind fun s => if s.holds s.y then (popN s).bind fun w => .done (w.2.goTo w.1) else .done s else
  if s.z = 1 then popsN s else
  if s.z = 2 then (wordN s).bind fun w => if w.2.holds w.2.y then .done ((w.2.wz w.1).pc w.1) else .done (w.2.wz w.1) else
  if s.z = 3 then singleN s else if s.z = 4 then callN (s.holds s.y) s else if s.z = 5 then pushesN s else
  if s.z = 6 then (numberN s).bind fun n => .done (arithN n.1 n.2) else
  if s.z = 7 then (pauseN 1 s).bind fun s => (pushN s.r.pc s).bind fun s => .done (s.goTo ((8 * s.y) % 65536)) else .done s
def takeInN (s : Ms) : Tr Ms := (inN s.r.bc s).bind fun b =>
  let t := (b.2.wz ((b.2.r.bc + 1) % 65536)).setF (withM (evenFM b.1) 0 (isM b.2.f 0))
  if t.y = 6 then .done t else putN t.y b.1 t
def giveOutN (s : Ms) : Tr Ms := (if s.y = 6 then .done (0, s) else getN s.y s).bind fun b => (outN b.2.r.bc b.1 b.2).bind fun s => .done (s.wz ((s.r.bc + 1) % 65536))
def addCarriedN (s : Ms) : Tr Ms := (pauseN 7 s).bind fun s =>
  let t := s.wz ((s.r.hl + 1) % 65536)
  if t.q = 0 then .done (({ t with r := { t.r with hl := sbcW t.r.hl t.pair (isM t.f 0) } } : Ms).setF (sbcF t.r.hl t.pair (isM t.f 0)))
  else .done (({ t with r := { t.r with hl := adcW t.r.hl t.pair (isM t.f 0) } } : Ms).setF (adcF t.r.hl t.pair (isM t.f 0)))
def pairAtPlaceN (s : Ms) : Tr Ms := (wordN s).bind fun at_ => if at_.2.q = 0 then storeWordN at_.1 at_.2.pair at_.2 else (loadWordN at_.1 at_.2).bind fun w => .done (w.2.setPair w.1)
def showN (b : Int) (s : Ms) : Ms := s.af b (withM (withM (resultM b) 0 (isM s.f 0)) 2 s.r.iff2)
def turnDigitsN (s : Ms) : Tr Ms := (readN s.r.hl s).bind fun b => (pauseN 4 b.2).bind fun s =>
  (writeN s.r.hl (digB (s.y == 4) s.a b.1) (s.af (digA (s.y == 4) s.a b.1) (evenC (digA (s.y == 4) s.a b.1) (isM s.f 0)))).bind fun s => .done (s.wz ((s.r.hl + 1) % 65536))
def specialN (s : Ms) : Tr Ms :=
  if s.y = 0 then (pauseN 1 s).bind fun s => .done { s with r := { s.r with i := s.a } } else
  if s.y = 1 then (pauseN 1 s).bind fun s => .done { s with r := { s.r with r := s.a } } else
  if s.y = 2 then (pauseN 1 s).bind fun s => .done (showN s.r.i s) else
  if s.y = 3 then (pauseN 1 s).bind fun s => .done (showN s.r.r s) else
  if s.y = 4 ∨ s.y = 5 then turnDigitsN s else .done s
def Ms.mode (s : Ms) (m : Int) : Ms := { s with r := { s.r with mode := m } }
def extendedN (s : Ms) : Tr Ms :=
  if s.z = 0 then takeInN s else if s.z = 1 then giveOutN s else if s.z = 2 then addCarriedN s else if s.z = 3 then pairAtPlaceN s else
  if s.z = 4 then .done (s.af (subR 0 s.a false) (subF 0 s.a false)) else
  if s.z = 5 then (popN s).bind fun w => .done { (w.2.goTo w.1) with r := { (w.2.goTo w.1).r with iff1 := w.2.r.iff2 } } else
  if s.z = 6 then (if s.y % 4 = 2 then .done (s.mode 1) else if s.y % 4 = 3 then .done (s.mode 2) else .done (s.mode 0)) else if s.z = 7 then specialN s else .done s
def Ms.hlBy (s : Ms) (d : Int) : Ms := { s with r := { s.r with hl := moveM s.r.hl d } }
def Ms.deBy (s : Ms) (d : Int) : Ms := { s with r := { s.r with de := moveM s.r.de d } }
def Ms.bcDown (s : Ms) : Ms := { s with r := { s.r with bc := (s.r.bc - 1) % 65536 } }
def blockMoveN (d : Int) (s : Ms) : Tr Ms := (readN s.r.hl s).bind fun b => (writeN b.2.r.de b.1 b.2).bind fun s => (pauseN 2 s).bind fun s =>
  let t := ((s.hlBy d).deBy d).bcDown
  .done (t.setF (moveF t.a b.1 t.r.bc t.f))
def blockFindN (d : Int) (s : Ms) : Tr Ms := (readN s.r.hl s).bind fun b => (pauseN 5 b.2).bind fun s =>
  let t := ((s.hlBy d).wz (moveM s.r.wz d)).bcDown
  .done (t.setF (findF t.a b.1 t.r.bc t.f))
def blockTakeN (d : Int) (s : Ms) : Tr Ms := (pauseN 1 s).bind fun s => (inN s.r.bc s).bind fun b =>
  let t := b.2.wz (moveM b.2.r.bc d)
  (writeN t.lessB.r.hl b.1 t.lessB).bind fun s => .done ((s.hlBy d).setF (passF b.1 (b.1 + byC (getG (s.hlBy d).r (s.hlBy d).plane 1) d) t.left))
def blockGiveN (d : Int) (s : Ms) : Tr Ms := (pauseN 1 s).bind fun s => (readN s.r.hl s).bind fun b =>
  let t := b.2.lessB.wz (moveM b.2.lessB.r.bc d)
  (outN t.r.bc b.1 t).bind fun s => .done ((s.hlBy d).setF (passF b.1 (b.1 + (s.hlBy d).r.hl % 256) b.2.left))
def repeatN (s : Ms) : Tr Ms := (pauseN 5 s).bind fun s => if s.z = 0 ∨ s.z = 1 then .done ((s.pc ((s.r.pc - 2) % 65536)).wz (((s.r.pc - 2) % 65536 + 1) % 65536)) else .done (s.pc ((s.r.pc - 2) % 65536))
def blockSel (d : Int) (s : Ms) : Tr Ms := (if s.z = 0 then blockMoveN d s else if s.z = 1 then blockFindN d s else if s.z = 2 then blockTakeN d s else if s.z = 3 then blockGiveN d s else .done s).bind fun s =>
  if 6 ≤ s.y ∧ againM s.z s.f = true then repeatN s else .done s
def blocksN (s : Ms) : Tr Ms := if 4 ≤ s.z ∨ s.y < 4 then .done s else if s.q = 0 then blockSel 1 s else blockSel (-1) s
def Ms.inMem (s : Ms) : Bool := s.near || (s.z == 6)
def operandN (s : Ms) : Tr (Int × Ms) := if s.inMem = true then (readN s.spot s).bind fun b => (pauseN 1 b.2).bind fun t => .done (b.1, t) else getN s.z s
def resultN (b : Int) (s : Ms) : Tr Ms := (if s.inMem = true then writeN s.spot b s else .done s).bind fun s => if s.z = 6 then .done s else putN s.z b s
def shiftedN (s : Ms) : Tr Ms := (operandN s).bind fun b => resultN (doR b.2.y b.1 b.2.f) (b.2.setF (doF b.2.y b.1 b.2.f))
def testedN (s : Ms) : Tr Ms := (operandN s).bind fun b => if b.2.inMem = true then .done (b.2.setF (bitF b.2.y b.1 (b.2.r.wz / 256) b.2.f)) else .done (b.2.setF (bitF b.2.y b.1 b.1 b.2.f))
def changedN (on : Bool) (s : Ms) : Tr Ms := (operandN s).bind fun b => resultN (withM b.1 b.2.y on) b.2
def codeCBN (s : Ms) : Tr (Int × Ms) := if s.plane = 0 then fetchN s else (aimN s).bind fun s => (numberN s).bind fun c => (pauseN 2 c.2).bind fun s => .done (c.1, s)
def aloneHead (c : Int) (s : Ms) : Tr Ms := if nearM s.plane c = true then (aimN (s.split c)).bind fun s => if s.x ≠ 0 ∨ s.z ≠ 6 then pauseN 5 s else .done s else .done (s.split c)
def quarterN (s : Ms) : Tr Ms := if s.x = 0 then variousN s else if s.x = 1 then loadN s else if s.x = 2 then reckonN s else controlN s
def quarterE (s : Ms) : Tr Ms := if s.x = 1 then extendedN s else if s.x = 2 then blocksN s else .done s
def quarterC (s : Ms) : Tr Ms := if s.x = 0 then shiftedN s else if s.x = 1 then testedN s else if s.x = 2 then changedN false s else changedN true s
def Ms.atHL (s : Ms) : Ms := { s with spot := s.r.hl }
def Ms.toPlane (s : Ms) (v : Int) : Ms := { s with plane := v }
def Ms.noLate (s : Ms) : Ms := { s with r := { s.r with late := false } }
def bodyN (c : Int) (s : Ms) : Tr Ms :=
  if c = 203 then ((codeCBN s.atHL).bind fun c => .done (c.2.split c.1)).bind quarterC else
  if c = 237 then ((fetchN (s.atHL.toPlane 0)).bind fun c => .done (c.2.split c.1)).bind quarterE else
  (aloneHead c s.atHL).bind quarterN
def execN : List Int → Int → Ms → Except Cy (Ms × List Int)
  | [], c, s => if c = 221 ∨ c = 253 then .error ⟨1, s.r.pc, 0, 4⟩ else (bodyN c s).run []
  | b :: bs, c, s => if c = 221 ∨ c = 253 then execN bs b ({ s.toPlane (if c = 253 then 4 else 3) with r := tickG s.r 1 } : Ms).pcUp else (bodyN c s).run (b :: bs)
theorem exec_body {c : Int} (h : ¬ (c = 221 ∨ c = 253)) (s : Ms) (xs : List Int) : execN xs c s = (bodyN c s).run xs := by
  cases xs with
  | nil => rw [execN, if_neg h]
  | cons b bs => rw [execN, if_neg h]
theorem exec_pre {c : Int} (h : c = 221 ∨ c = 253) {s t : Ms} (ht : t = s.toPlane (if c = 253 then 4 else 3)) (xs : List Int) : execN xs c s = match (fetchN t).run xs with | .ok ((b, u), ys) => execN ys b u | .error e => .error e := by
  subst ht
  cases xs with
  | nil => rw [execN, if_pos h]; rfl
  | cons b bs =>
    rw [execN, if_pos h]
    have e : (fetchN (s.toPlane (if c = 253 then 4 else 3))).run (b :: bs) = .ok ((b, ({ s.toPlane (if c = 253 then 4 else 3) with r := tickG s.r 1 } : Ms).pcUp), bs) := Tr.run_done _ _
    rw [e]
theorem fetch_len {s s' : Ms} {xs ys : List Int} {b : Int} (h : (fetchN s).run xs = .ok ((b, s'), ys)) : ys.length < xs.length := by
  cases xs with
  | nil => cases h
  | cons c cs =>
    have e : (fetchN s).run (c :: cs) = .ok ((c, ({ s with r := tickG s.r 1 } : Ms).pcUp), cs) := Tr.run_done _ _
    rw [e] at h
    cases h
    simp
section
variable {P : Program} {ops : Array Oper} {md : Region.Mode} {Q : Exit → Act → World → Prop} {S : World → Prop} {n : Nat} {L : Array Bool → Act → World → Prop}
def wpAnyT (P : Program) (md : Region.Mode) (ops : Array Oper) (Q : Exit → Act → World → Prop) (S : World → Prop) (n : Nat) (L : Array Bool → Act → World → Prop) : Nat → Array Bool → Act → World → Prop
  | 0, listed, a, w => L listed a w
  | f + 1, listed, a, w => Region.ready md ops listed ≠ [] ∧
    ∀ i ∈ Region.ready md ops listed, i < n ∧ wpOp P ops Q i (fun a' w' => S w' ∧ wpAnyT P md ops Q S n L f (listed.setIfInBounds i true) a' w') a w
theorem wpAny_of_part {g : Nat} (hL : ∀ listed a w, L listed a w → wpAny P md ops Q g listed a w) :
    ∀ (f : Nat) (listed : Array Bool) (a : Act) (w : World), wpAnyT P md ops Q S n L f listed a w → wpAny P md ops Q (f + g) listed a w
  | 0, listed, a, w, h => by rw [Nat.zero_add]; exact hL _ _ _ h
  | f + 1, listed, a, w, h => by
    rw [show f + 1 + g = (f + g) + 1 by omega]
    exact ⟨fun h0 => absurd h0 h.1, fun i hi => wpOp_mono (fun a' w' h' => wpAny_of_part hL f _ a' w' h'.2) (h.2 i hi).2⟩
theorem wpAnyT_first {i : Nat} {oi : Oper} {v : Value} (hi : ops[i]? = some oi) (hsel : ∀ (j : Nat) (o : Oper) cs b, ops[j]? = some o → o.op ≠ .select cs b)
    (hs : Region.sinkB md ops n = true) (hc : Region.chainB md ops n = true) (hn : n < ops.size) (hin : i < n)
    (hQ : ∀ c a w, Q (.panic c) (a.put oi.dst v) w → Q (.panic c) a w)
    (hdone : ∀ listed a w, L listed a w → ∀ j ∈ Region.ready md ops listed, n ≤ j) :
    ∀ (f : Nat) (listed : Array Bool) (a : Act) (w : World), HeadInv md ops n listed →
      (∀ j oj, ops[j]? = some oj → j ≠ i → listed.getD j true = false → (∀ e ∈ oj.after, Region.binds md e = true → e.on ≠ i) → oi.apart ops oj = true) →
      i ∈ Region.ready md ops listed → YieldsIf P ops S oi v a → S w →
      wpAnyT P md ops Q S n L f (listed.setIfInBounds i true) (a.put oi.dst v) w → wpAnyT P md ops Q S n L (f + 1) listed a w := by
  intro f
  induction f with
  | zero =>
    intro listed a w inv _ hr hy hS H
    refine ⟨fun h => (by rw [h] at hr; cases hr), fun j hj => ?_⟩
    have hjn : j < n := Nat.lt_of_not_le fun h => tail_waits hs hc hn inv _ i rfl hin (mem_ready.1 hr).1 j h hj
    refine ⟨hjn, ?_⟩
    by_cases hji : j = i
    · subst hji; exact hy.wpOp hi hS ⟨hS, H⟩
    · have := hdone _ _ _ H j (ready_mono hj hji)
      omega
  | succ f ih =>
    intro listed a w inv hfree hr hy hS H
    refine ⟨fun h => (by rw [h] at hr; cases hr), fun j hj => ?_⟩
    have hjn : j < n := Nat.lt_of_not_le fun h => tail_waits hs hc hn inv _ i rfl hin (mem_ready.1 hr).1 j h hj
    refine ⟨hjn, ?_⟩
    by_cases hji : j = i
    · subst hji; exact hy.wpOp hi hS ⟨hS, H⟩
    · have h1 := (H.2 j (ready_mono hj hji)).2
      obtain ⟨hjun, oj, hoj, hall⟩ := mem_ready.1 hj
      have hnot : ∀ e ∈ oj.after, Region.binds md e = true → e.on ≠ i := fun e he hb heq => by
        have h1 := hall e he hb
        rw [heq, getD_both (mem_ready.1 hr).1] at h1
        cases h1
      have h2 := wpOp_putIf hoj (hfree j oj hoj hji hjun hnot) (fun cs b => hsel i oi cs b hi) (fun cs b => hsel j oj cs b hoj) hQ hy h1
      have hfree' : ∀ k ok, ops[k]? = some ok → k ≠ i → (listed.setIfInBounds j true).getD k true = false →
          (∀ e ∈ ok.after, Region.binds md e = true → e.on ≠ i) → oi.apart ops ok = true := fun k ok hk hki hun hno => by
        refine hfree k ok hk hki ?_ hno
        by_cases hjk : j = k
        · subst hjk; exact hjun
        · rw [getD_set_ne true hjk] at hun; exact hun
      refine wpOp_mono (fun a' w' h3 => ⟨h3.2.1, ih (listed.setIfInBounds j true) a' w' (inv.set hj hjn) hfree' (ready_mono hr (Ne.symm hji)) h3.1 h3.2.1 ?_⟩) h2
      rw [Array.setIfInBounds_comm _ _ hji]
      exact h3.2.2
def tailL (P : Program) (ops : Array Oper) (Q : Exit → Act → World → Prop) (n : Nat) (listed : Array Bool) (a : Act) (w : World) : Prop :=
  Region.seqB .any ops (ops.size - n) n listed = true ∧ wpList P ops Q (ops.toList.drop n) a w
def partT (P : Program) (ops : Array Oper) (Q : Exit → Act → World → Prop) (S : World → Prop) (n f : Nat) (listed : Array Bool) (a : Act) (w : World) : Prop :=
  HeadInv .any ops n listed → wpAnyT P .any ops Q S n (tailL P ops Q n) f listed a w
def partB (ops : Array Oper) (n : Nat) : Bool := Region.noSelect ops && (decide (n < ops.size) && (Region.sinkB .any ops n && Region.chainB .any ops n))
theorem part_start {id : Nat} {a : Act} {w : World} (n : Nat) (S : World → Prop) (hm : P.follows .mixedOrders = true) (hB : partB ops n = true) (hS : S w.drew)
    (h : ∀ w', w' = w.drew → S w' → partT P ops Q S n n (Array.replicate ops.size false) a w') : (Code.region id ops true).wp P Q a w := by
  simp only [partB, Bool.and_eq_true, decide_eq_true_eq] at hB
  obtain ⟨hsel, hn, hs, hc⟩ := hB
  have inv0 : HeadInv .any ops n (Array.replicate ops.size false) :=
    ⟨by simp, fun j oj _ hl => (by rw [getD_replicate_false] at hl; cases hl), fun t _ ht => getD_in (by simpa using ht) (getD_replicate_false _ _)⟩
  have H := h _ rfl hS inv0
  refine wp_region_any hm ?_
  have := wpAny_of_part (g := ops.size - n) (fun listed a w hL => by
    have := wpAny_of_seq (md := .any) (Q' := Q) (ops.toList.drop n) n listed a w (fun j => by simp [List.getElem?_drop]) (by simpa using hL.1) hL.2
    simpa using this) _ _ _ _ H
  rwa [show n + (ops.size - n) = ops.size by omega] at this
theorem part_take {i f : Nat} {listed : Array Bool} {a : Act} {w : World} {o : Oper} (d : Tmp) (v : Value) (hd : o.dst = some d) (ho : ops[i]? = some o) (hB : partB ops n = true) (hin : decide (i < n) = true) (hf : Region.free .any ops listed i = true)
    (hr : (Region.ready .any ops listed).contains i = true) (hQ : ∀ c a w, Q (.panic c) (a.put o.dst v) w → Q (.panic c) a w) (hw : Region.wanted o (yielded ops a.tmps) = true)
    (he : ∀ w, S w → (execOp a.eval o).run P w = .ok (.value v) w) (hS : S w)
    (h : partT P ops Q S n f (listed.setIfInBounds i true) (a.put (some d) v) w) : partT P ops Q S n (f + 1) listed a w := by
  simp only [partB, Bool.and_eq_true, decide_eq_true_eq] at hB
  obtain ⟨hsel, hn, hs, hc⟩ := hB
  intro inv
  have hr' : i ∈ Region.ready .any ops listed := by simpa using hr
  exact wpAnyT_first ho (Region.noSelect_spec hsel) hs hc hn (of_decide_eq_true hin) hQ (fun listed' a' w' hL => seqB_ready hL.1) f listed a w inv (Region.free_spec ho hf) hr' (.inl ⟨hw, he⟩) hS
    (by rw [hd]; exact h (inv.set hr' (of_decide_eq_true hin)))
theorem part_skip {i f : Nat} {listed : Array Bool} {a : Act} {w : World} {o : Oper} (d : Tmp) (hd : o.dst = some d) (ho : ops[i]? = some o) (hB : partB ops n = true) (hin : decide (i < n) = true) (hf : Region.free .any ops listed i = true)
    (hr : (Region.ready .any ops listed).contains i = true) (hQ : ∀ c a w, Q (.panic c) (a.put o.dst undef) w → Q (.panic c) a w) (hw : Region.wanted o (yielded ops a.tmps) = false) (hS : S w)
    (h : partT P ops Q S n f (listed.setIfInBounds i true) (a.put (some d) undef) w) : partT P ops Q S n (f + 1) listed a w := by
  simp only [partB, Bool.and_eq_true, decide_eq_true_eq] at hB
  obtain ⟨hsel, hn, hs, hc⟩ := hB
  intro inv
  have hr' : i ∈ Region.ready .any ops listed := by simpa using hr
  exact wpAnyT_first ho (Region.noSelect_spec hsel) hs hc hn (of_decide_eq_true hin) hQ (fun listed' a' w' hL => seqB_ready hL.1) f listed a w inv (Region.free_spec ho hf) hr' (.inr ⟨hw, rfl⟩) hS
    (by rw [hd]; exact h (inv.set hr' (of_decide_eq_true hin)))
theorem part_call {i f : Nat} {listed : Array Bool} {a : Act} {w : World} {o : Oper} {g : FuncId} {args : Array Value} {R : Ending → World → Prop} (ho : ops[i]? = some o) (hr : Region.ready .any ops listed = [i]) (hin : decide (i < n) = true)
    (hw : Region.wanted o (yielded ops a.tmps) = true) (he : (execOp a.eval o).run P w = .ok (.enter g args) w) (hc : Calls P g args w R)
    (h : ∀ e w', R e w' → match e with
      | .returned v => S w' ∧ partT P ops Q S n f (listed.setIfInBounds i true) (a.put o.dst v) w'
      | .panicked c => Q (.panic c) a w'
      | .outgrown => False) : partT P ops Q S n (f + 1) listed a w := by
  intro inv
  have hr' : i ∈ Region.ready .any ops listed := by rw [hr]; simp
  refine ⟨by rw [hr]; simp, fun j hj => ?_⟩
  rw [hr] at hj
  have hji : j = i := by simpa using hj
  subst hji
  refine ⟨of_decide_eq_true hin, ?_⟩
  unfold wpOp
  simp only [ho, hw, if_true]
  refine .inl ?_
  unfold Oper.wp
  rw [he, Oper.upon_enter]
  refine hc.mono fun e w' hR => ?_
  have := h e w' hR
  cases e with
  | returned v => exact ⟨this.1, this.2 (inv.set hr' (of_decide_eq_true hin))⟩
  | panicked c => exact this
  | outgrown => exact this.elim
structure WL (P : Program) (ops : Array Oper) (Q : Exit → Act → World → Prop) (l : List Oper) (a : Act) (w : World) : Prop where
  h : wpList P ops Q l a w
theorem regionL {id : Nat} {l : List Oper} {a : Act} {w : World} (h : WL P l.toArray Q l a w) : (Code.region id l.toArray false).wp P Q a w := wp_region_lit h.h
theorem endL {a : Act} {w : World} (h : Q .normal a w) : WL P ops Q [] a w := ⟨wpList_nil h⟩
theorem part_end {listed : Array Bool} {a : Act} {w : World} (hB : Region.seqB .any ops (ops.size - n) n listed = true) (h : WL P ops Q (ops.toList.drop n) a w) : partT P ops Q S n 0 listed a w := fun _ => ⟨hB, h.h⟩
theorem list_call {a : Act} {w : World} {o : Oper} {rest : List Oper} {g : FuncId} {args : Array Value} {R : Ending → World → Prop} (hw : Region.wanted o (yielded ops a.tmps) = true)
    (he : (execOp a.eval o).run P w = .ok (.enter g args) w) (hc : Calls P g args w R)
    (h : ∀ e w', R e w' → match e with
      | .returned v => WL P ops Q rest (a.put o.dst v) w'
      | .panicked c => Q (.panic c) a w'
      | .outgrown => False) : WL P ops Q (o :: rest) a w :=
  ⟨wpList_step fun K hK => by
    rw [if_pos hw]
    unfold Oper.wp
    rw [he, Oper.upon_enter]
    refine hc.mono fun e w' hR => ?_
    have := h e w' hR
    cases e with
    | returned v => exact hK _ _ this.h
    | panicked c => exact this
    | outgrown => exact this.elim⟩
theorem list_take {rest : List Oper} {o : Oper} {a : Act} {w : World} (d : Tmp) (v : Value) (hd : o.dst = some d) (hw : Region.wanted o (yielded ops a.tmps) = true) (he : (execOp a.eval o).run P w = .ok (.value v) w)
    (h : WL P ops Q rest (a.put (some d) v) w) : WL P ops Q (o :: rest) a w :=
  ⟨wpList_step fun K hK => by
    rw [if_pos hw]
    unfold Oper.wp
    rw [he, Oper.upon_value, hd]
    exact hK _ _ h.h⟩
theorem list_skip {rest : List Oper} {o : Oper} {a : Act} {w : World} (d : Tmp) (hd : o.dst = some d) (hw : Region.wanted o (yielded ops a.tmps) = false)
    (h : WL P ops Q rest (a.put (some d) undef) w) : WL P ops Q (o :: rest) a w :=
  ⟨wpList_step fun K hK => by
    rw [if_neg (by rw [hw]; simp), hd]
    exact hK _ _ h.h⟩
theorem list_do {rest : List Oper} {o : Oper} {a : Act} {w w' : World} (hd : o.dst = none) (hw : Region.wanted o (yielded ops a.tmps) = true) (he : (execOp a.eval o).run P w = .ok .skip w')
    (h : WL P ops Q rest (a.put none undef) w') : WL P ops Q (o :: rest) a w :=
  ⟨wpList_step fun K hK => by
    rw [if_pos hw]
    unfold Oper.wp
    rw [he, Oper.upon_skip, hd]
    exact hK _ _ h.h⟩
theorem list_make {rest : List Oper} {o : Oper} {a : Act} {w w' : World} (d : Tmp) (v : Value) (hd : o.dst = some d) (hw : Region.wanted o (yielded ops a.tmps) = true) (he : (execOp a.eval o).run P w = .ok (.value v) w')
    (h : WL P ops Q rest (a.put (some d) v) w') : WL P ops Q (o :: rest) a w :=
  ⟨wpList_step fun K hK => by
    rw [if_pos hw]
    unfold Oper.wp
    rw [he, Oper.upon_value, hd]
    exact hK _ _ h.h⟩
end
section
variable {P : Program} {ops : Array Oper} {md : Region.Mode} {Q : Exit → Act → World → Prop} {S : World → Prop} {q n : Nat} {L : Array Bool → Act → World → Prop}
def wpAnyU (P : Program) (md : Region.Mode) (ops : Array Oper) (Q : Exit → Act → World → Prop) (S : World → Prop) (q n : Nat) (L : Array Bool → Act → World → Prop) : Nat → Array Bool → Act → World → Prop
  | 0, listed, a, w => L listed a w
  | f + 1, listed, a, w => Region.ready md ops listed ≠ [] ∧
    ∀ i ∈ Region.ready md ops listed, i < n ∧ wpOp P ops Q i (fun a' w' => ((listed.setIfInBounds i true).getD q false = false → S w') ∧ wpAnyU P md ops Q S q n L f (listed.setIfInBounds i true) a' w') a w
theorem wpAny_of_turn {g : Nat} (hL : ∀ listed a w, L listed a w → wpAny P md ops Q g listed a w) :
    ∀ (f : Nat) (listed : Array Bool) (a : Act) (w : World), wpAnyU P md ops Q S q n L f listed a w → wpAny P md ops Q (f + g) listed a w
  | 0, listed, a, w, h => by rw [Nat.zero_add]; exact hL _ _ _ h
  | f + 1, listed, a, w, h => by
    rw [show f + 1 + g = (f + g) + 1 by omega]
    exact ⟨fun h0 => absurd h0 h.1, fun i hi => wpOp_mono (fun a' w' h' => wpAny_of_turn hL f _ a' w' h'.2) (h.2 i hi).2⟩
theorem getD_set_same {listed : Array Bool} {i q : Nat} (h : i ≠ q) : (listed.setIfInBounds i true).getD q false = listed.getD q false := getD_set_ne false h
theorem wpAnyU_first {i : Nat} {oi : Oper} {v : Value} {T : World → Prop} (hi : ops[i]? = some oi) (hsel : ∀ (j : Nat) (o : Oper) cs b, ops[j]? = some o → o.op ≠ .select cs b)
    (hs : Region.sinkB md ops n = true) (hc : Region.chainB md ops n = true) (hn : n < ops.size) (hin : i < n) (hiq : i ≠ q)
    (hQ : ∀ c a w, Q (.panic c) (a.put oi.dst v) w → Q (.panic c) a w)
    (hdone : ∀ listed a w, L listed a w → ∀ j ∈ Region.ready md ops listed, n ≤ j)
    (hT : ∀ listed w, HeadInv md ops n listed → listed.getD i true = false → (listed.getD q false = false → S w) → T w) :
    ∀ (f : Nat) (listed : Array Bool) (a : Act) (w : World), HeadInv md ops n listed →
      (∀ j oj, ops[j]? = some oj → j ≠ i → listed.getD j true = false → (∀ e ∈ oj.after, Region.binds md e = true → e.on ≠ i) → oi.apart ops oj = true) →
      i ∈ Region.ready md ops listed → YieldsIf P ops T oi v a → (listed.getD q false = false → S w) →
      wpAnyU P md ops Q S q n L f (listed.setIfInBounds i true) (a.put oi.dst v) w → wpAnyU P md ops Q S q n L (f + 1) listed a w := by
  intro f
  induction f with
  | zero =>
    intro listed a w inv _ hr hy hS H
    refine ⟨fun h => (by rw [h] at hr; cases hr), fun j hj => ?_⟩
    have hjn : j < n := Nat.lt_of_not_le fun h => tail_waits hs hc hn inv _ i rfl hin (mem_ready.1 hr).1 j h hj
    refine ⟨hjn, ?_⟩
    by_cases hji : j = i
    · subst hji
      exact hy.wpOp hi (hT _ _ inv (mem_ready.1 hr).1 hS) ⟨fun h => hS (by rw [← getD_set_same hiq]; exact h), H⟩
    · have := hdone _ _ _ H j (ready_mono hj hji)
      omega
  | succ f ih =>
    intro listed a w inv hfree hr hy hS H
    refine ⟨fun h => (by rw [h] at hr; cases hr), fun j hj => ?_⟩
    have hjn : j < n := Nat.lt_of_not_le fun h => tail_waits hs hc hn inv _ i rfl hin (mem_ready.1 hr).1 j h hj
    refine ⟨hjn, ?_⟩
    by_cases hji : j = i
    · subst hji
      exact hy.wpOp hi (hT _ _ inv (mem_ready.1 hr).1 hS) ⟨fun h => hS (by rw [← getD_set_same hiq]; exact h), H⟩
    · have h1 := (H.2 j (ready_mono hj hji)).2
      obtain ⟨hjun, oj, hoj, hall⟩ := mem_ready.1 hj
      have hnot : ∀ e ∈ oj.after, Region.binds md e = true → e.on ≠ i := fun e he hb heq => by
        have h1 := hall e he hb
        rw [heq, getD_both (mem_ready.1 hr).1] at h1
        cases h1
      have h2 := wpOp_putIf hoj (hfree j oj hoj hji hjun hnot) (fun cs b => hsel i oi cs b hi) (fun cs b => hsel j oj cs b hoj) hQ hy h1
      have hfree' : ∀ k ok, ops[k]? = some ok → k ≠ i → (listed.setIfInBounds j true).getD k true = false →
          (∀ e ∈ ok.after, Region.binds md e = true → e.on ≠ i) → oi.apart ops ok = true := fun k ok hk hki hun hno => by
        refine hfree k ok hk hki ?_ hno
        by_cases hjk : j = k
        · subst hjk; exact hjun
        · rw [getD_set_ne true hjk] at hun; exact hun
      refine wpOp_mono (fun a' w' h3 => ?_) h2
      have hS' : (listed.setIfInBounds j true).getD q false = false → S w' := fun h => h3.2.1 (by
        rw [Array.setIfInBounds_comm _ _ (Ne.symm hji), getD_set_same hiq]
        exact h)
      refine ⟨hS', ih (listed.setIfInBounds j true) a' w' (inv.set hj hjn) hfree' (ready_mono hr (Ne.symm hji)) h3.1 hS' ?_⟩
      rw [Array.setIfInBounds_comm _ _ hji]
      exact h3.2.2
def turnT (P : Program) (ops : Array Oper) (Q : Exit → Act → World → Prop) (S : World → Prop) (q n f : Nat) (listed : Array Bool) (a : Act) (w : World) : Prop :=
  HeadInv .any ops n listed → wpAnyU P .any ops Q S q n (tailL P ops Q n) f listed a w
theorem turn_start {id : Nat} {a : Act} {w : World} (q n : Nat) (S : World → Prop) (hm : P.follows .mixedOrders = true) (hB : partB ops n = true) (hS : S w.drew)
    (h : ∀ w', w' = w.drew → S w' → turnT P ops Q S q n n (Array.replicate ops.size false) a w') : (Code.region id ops true).wp P Q a w := by
  simp only [partB, Bool.and_eq_true, decide_eq_true_eq] at hB
  obtain ⟨hsel, hn, hs, hc⟩ := hB
  have inv0 : HeadInv .any ops n (Array.replicate ops.size false) :=
    ⟨by simp, fun j oj _ hl => (by rw [getD_replicate_false] at hl; cases hl), fun t _ ht => getD_in (by simpa using ht) (getD_replicate_false _ _)⟩
  have H := h _ rfl hS inv0
  refine wp_region_any hm ?_
  have := wpAny_of_turn (g := ops.size - n) (fun listed a w hL => by
    have := wpAny_of_seq (md := .any) (Q' := Q) (ops.toList.drop n) n listed a w (fun j => by simp [List.getElem?_drop]) (by simpa using hL.1) hL.2
    simpa using this) _ _ _ _ H
  rwa [show n + (ops.size - n) = ops.size by omega] at this
theorem turn_take {i f : Nat} {listed : Array Bool} {a : Act} {w : World} {o : Oper} (d : Tmp) (v : Value) (hd : o.dst = some d) (ho : ops[i]? = some o) (hB : partB ops n = true) (hin : decide (i < n) = true) (hq : (decide (i ≠ q) && (decide (q < n) && Region.waitsFor .any ops q i)) = true) (hf : Region.free .any ops listed i = true)
    (hr : (Region.ready .any ops listed).contains i = true) (hQ : ∀ c a w, Q (.panic c) (a.put o.dst v) w → Q (.panic c) a w) (hw : Region.wanted o (yielded ops a.tmps) = true)
    (he : ∀ w, S w → (execOp a.eval o).run P w = .ok (.value v) w) (hS : S w)
    (h : turnT P ops Q S q n f (listed.setIfInBounds i true) (a.put (some d) v) w) : turnT P ops Q S q n (f + 1) listed a w := by
  simp only [partB, Bool.and_eq_true, decide_eq_true_eq] at hB hq
  obtain ⟨hsel, hn, hs, hc⟩ := hB
  intro inv
  have hr' : i ∈ Region.ready .any ops listed := by simpa using hr
  refine wpAnyU_first (T := S) ho (Region.noSelect_spec hsel) hs hc hn (of_decide_eq_true hin) hq.1 hQ (fun listed' a' w' hL => seqB_ready hL.1) ?_ f listed a w inv (Region.free_spec ho hf) hr' (.inl ⟨hw, he⟩) (fun _ => hS)
    (by rw [hd]; exact h (inv.set hr' (of_decide_eq_true hin)))
  intro listed w inv hun hSw
  obtain ⟨oq, hoq, e, hem, hb, hon⟩ := Region.waitsFor_spec hq.2.2
  refine hSw ?_
  cases hl : listed.getD q false with
  | false => rfl
  | true =>
    have := inv.closed q oq hoq hl e hem hb
    rw [hon, getD_both hun] at this
    cases this
theorem turn_free {i f : Nat} {listed : Array Bool} {a : Act} {w : World} {o : Oper} (d : Tmp) (v : Value) (hd : o.dst = some d) (ho : ops[i]? = some o) (hB : partB ops n = true) (hin : decide (i < n) = true) (hq : decide (i ≠ q) = true) (hf : Region.free .any ops listed i = true)
    (hr : (Region.ready .any ops listed).contains i = true) (hQ : ∀ c a w, Q (.panic c) (a.put o.dst v) w → Q (.panic c) a w) (hw : Region.wanted o (yielded ops a.tmps) = true)
    (he : ∀ w, (execOp a.eval o).run P w = .ok (.value v) w) (hS : listed.getD q false = false → S w)
    (h : turnT P ops Q S q n f (listed.setIfInBounds i true) (a.put (some d) v) w) : turnT P ops Q S q n (f + 1) listed a w := by
  simp only [partB, Bool.and_eq_true, decide_eq_true_eq] at hB hq
  obtain ⟨hsel, hn, hs, hc⟩ := hB
  intro inv
  have hr' : i ∈ Region.ready .any ops listed := by simpa using hr
  exact wpAnyU_first (T := fun _ => True) ho (Region.noSelect_spec hsel) hs hc hn (of_decide_eq_true hin) hq hQ (fun listed' a' w' hL => seqB_ready hL.1) (fun _ _ _ _ _ => trivial) f listed a w inv (Region.free_spec ho hf) hr' (.inl ⟨hw, fun w _ => he w⟩) hS
    (by rw [hd]; exact h (inv.set hr' (of_decide_eq_true hin)))
theorem turnO {a : Act} {w : World} {o : Oper} {i f : Nat} {listed : Array Bool} (V : Value) {g : FuncId} {args : Array Value} {N : World → Prop} (ho : ops[i]? = some o) (hr : Region.ready .any ops listed = [i]) (hin : decide (i < n) = true)
    (hw : Region.wanted o (yielded ops a.tmps) = true) (he : (execOp a.eval o).run P w = .ok (.enter g args) w) (hc : Calls P g args w fun e w' => e = .returned V ∧ N w') (hS : ∀ w', N w' → S w')
    (hK : ∀ w', N w' → turnT P ops Q S q n f (listed.setIfInBounds i true) (a.put o.dst V) w') : turnT P ops Q S q n (f + 1) listed a w := by
  intro inv
  have hr' : i ∈ Region.ready .any ops listed := by rw [hr]; simp
  refine ⟨by rw [hr]; simp, fun j hj => ?_⟩
  rw [hr] at hj
  have hji : j = i := by simpa using hj
  subst hji
  refine ⟨of_decide_eq_true hin, ?_⟩
  unfold wpOp
  simp only [ho, hw, if_true]
  refine .inl ?_
  unfold Oper.wp
  rw [he, Oper.upon_enter]
  refine hc.mono fun e w' ⟨h1, h2⟩ => ?_
  subst h1
  exact ⟨fun _ => hS w' h2, hK w' h2 (inv.set hr' (of_decide_eq_true hin))⟩
theorem turn_do {a : Act} {w w' : World} {o : Oper} {f : Nat} {listed : Array Bool} (hd : o.dst = none) (ho : ops[q]? = some o) (hr : Region.ready .any ops listed = [q]) (hin : decide (q < n) = true)
    (hw : Region.wanted o (yielded ops a.tmps) = true) (he : (execOp a.eval o).run P w = .ok .skip w')
    (hK : turnT P ops Q S q n f (listed.setIfInBounds q true) (a.put none undef) w') : turnT P ops Q S q n (f + 1) listed a w := by
  intro inv
  have hr' : q ∈ Region.ready .any ops listed := by rw [hr]; simp
  refine ⟨by rw [hr]; simp, fun j hj => ?_⟩
  rw [hr] at hj
  have hji : j = q := by simpa using hj
  subst hji
  refine ⟨of_decide_eq_true hin, ?_⟩
  unfold wpOp
  simp only [ho, hw, if_true]
  refine .inl ?_
  unfold Oper.wp
  rw [he, Oper.upon_skip, hd]
  refine ⟨fun h => ?_, hK (inv.set hr' (of_decide_eq_true hin))⟩
  have hlt : j < listed.size := by rw [inv.size]; exact (Array.getElem?_eq_some_iff.1 ho).1
  simp [hlt] at h
theorem turn_end {listed : Array Bool} {a : Act} {w : World} (hB : Region.seqB .any ops (ops.size - n) n listed = true) (h : WL P ops Q (ops.toList.drop n) a w) : turnT P ops Q S q n 0 listed a w := fun _ => ⟨hB, h.h⟩
end
theorem add_block (a : Addr) (n : Nat) : (a.add n).block = a.block := by unfold Addr.add; split <;> rfl
theorem add_twice (a : Addr) (i j : Nat) : (a.add i).add j = a.add (i + j) := by
  unfold Addr.add
  by_cases hi : i = 0 <;> by_cases hj : j = 0 <;> simp [hi, hj, Nat.add_assoc]
def BytesIn (w : World) (B : Nat) (A : Option Addr) (xs : List Int) : Prop :=
  ∀ j x, xs[j]? = some x → ∃ ad, A = some ad ∧ ad.block < B ∧ w.cell? (ad.add j) = some (.int .u8 x)
theorem BytesIn.nil (w : World) (B : Nat) (A : Option Addr) : BytesIn w B A [] := fun j x h => by simp at h
theorem BytesIn.keep {w w' : World} {B : Nat} {A : Option Addr} {xs : List Int} (h : BytesIn w B A xs) (k : ∀ b, b < B → w'.heap[b]? = w.heap[b]?) : BytesIn w' B A xs := fun j x hx => by
  obtain ⟨ad, e, hb, hc⟩ := h j x hx
  exact ⟨ad, e, hb, (World.cell?_of_block (by rw [add_block]; exact k _ hb)).trans hc⟩
theorem BytesIn.more {w : World} {B B' : Nat} {A : Option Addr} {xs : List Int} (h : BytesIn w B A xs) (k : B ≤ B') : BytesIn w B' A xs := fun j x hx => by
  obtain ⟨ad, e, hb, hc⟩ := h j x hx
  exact ⟨ad, e, by omega, hc⟩
theorem BytesIn.below {w w' : World} {B : Nat} {A : Option Addr} {xs : List Int} (h : BytesIn w B A xs) (k : Below B w w') : BytesIn w' B A xs := h.keep fun b hb => k.block b hb
theorem BytesIn.drop {w : World} {B : Nat} {A : Option Addr} {xs : List Int} (h : BytesIn w B A xs) {k cap : Nat} (hk : k ≤ xs.length) (hc : xs.length ≤ cap) :
    BytesIn w B (if cap = k then A else A.map (·.add k)) (xs.drop k) := fun j x hx => by
  rw [List.getElem?_drop] at hx
  obtain ⟨ad, rfl, hb, hcell⟩ := h _ x hx
  have hl : k + j < xs.length := (List.getElem?_eq_some_iff.1 hx).1
  rw [if_neg (by omega)]
  exact ⟨ad.add k, rfl, by rw [add_block]; exact hb, by rw [add_twice]; exact hcell⟩
theorem BytesIn.take {w : World} {B : Nat} {A : Option Addr} {xs : List Int} (h : BytesIn w B A xs) (k : Nat) : BytesIn w B A (xs.take k) := fun j x hx => by
  rw [List.getElem?_take] at hx
  split at hx
  · exact h j x hx
  · cases hx
theorem BytesIn.at_ {w : World} {B : Nat} {A : Option Addr} {xs : List Int} (h : BytesIn w B A xs) {k : Nat} (hk : k < xs.length) : ∃ ad, A = some ad ∧ ad.block < B ∧ w.cell? (ad.add k) = some (.int .u8 (xs.getD k 0)) := by
  obtain ⟨ad, e, hb, hc⟩ := h k _ (List.getElem?_eq_getElem hk)
  refine ⟨ad, e, hb, ?_⟩
  rw [hc, List.getD_eq_getElem?_getD, List.getElem?_eq_getElem hk]
  rfl
structure Besides (A S : Nat) (w w' : World) : Prop where
  os : w'.os = w.os
  tape : w'.tape = w.tape
  output : w'.output = w.output
  size : w.heap.size ≤ w'.heap.size
  block : ∀ b, b < w.heap.size → b ≠ A → b ≠ S → w'.heap[b]? = w.heap[b]?
theorem Besides.refl (A S : Nat) (w : World) : Besides A S w w := ⟨rfl, rfl, rfl, Nat.le_refl _, fun _ _ _ _ => rfl⟩
theorem Besides.trans {A S : Nat} {a b c : World} (h : Besides A S a b) (k : Besides A S b c) : Besides A S a c :=
  ⟨k.os.trans h.os, k.tape.trans h.tape, k.output.trans h.output, Nat.le_trans h.size k.size, fun i hi n1 n2 => (k.block i (Nat.lt_of_lt_of_le hi h.size) n1 n2).trans (h.block i hi n1 n2)⟩
theorem Besides.of_below {A S : Nat} {w w' : World} (h : Below w.heap.size w w') : Besides A S w w' := ⟨h.os, h.tape, h.output, h.size, fun b hb _ _ => h.block b hb⟩
theorem Besides.alloc {A S : Nat} {a w : World} (h : Besides A S a w) (o : Obj) : Besides A S a (w.alloc o) :=
  h.trans (.of_below (Below.alloc (Below.refl _ _) (Nat.le_refl _) o))
theorem Besides.setCell {A S : Nat} {a w : World} (h : Besides A S a w) {p : Addr} (hp : p.block = A ∨ p.block = S ∨ a.heap.size ≤ p.block) (u : Value) : Besides A S a (w.setCell p u) :=
  ⟨h.os, h.tape, h.output, by simpa [World.setCell] using h.size, fun b hb n1 n2 => (Below.heap_setCell w p u b (by rcases hp with e | e | e <;> omega)).trans (h.block b hb n1 n2)⟩
theorem Besides.below {A S B : Nat} {w w' : World} (h : Besides A S w w') (hA : B ≤ A) (hS : B ≤ S) (hB : B ≤ w.heap.size) : Below B w w' :=
  ⟨h.os, h.tape, h.output, h.size, fun b hb => h.block b (by omega) (by omega) (by omega)⟩
def Row (w : World) (g : Nat) (t : TypeId) (cs : Array Value) : Prop := w.heap[g]? = some (.cells cs t (0, 0))
theorem Row.lt {w : World} {g : Nat} {t : TypeId} {cs : Array Value} (h : Row w g t cs) : g < w.heap.size := (Array.getElem?_eq_some_iff.1 h).1
theorem Row.cell {w : World} {g : Nat} {t : TypeId} {cs : Array Value} (h : Row w g t cs) (i : Nat) : w.cell? ⟨g, i, none⟩ = cs[i]? := by simp [World.cell?, show w.heap[g]? = _ from h]
theorem Row.frozen {w : World} {g : Nat} {t : TypeId} {cs : Array Value} (h : Row w g t cs) (i : Nat) : w.frozen? ⟨g, i, none⟩ = false := by simp [World.frozen?, show w.heap[g]? = _ from h]
theorem Row.new (w : World) (t : TypeId) (cs : Array Value) : Row (w.alloc (.cells cs t)) w.heap.size t cs := World.alloc_heap_new w _
theorem Row.of {w w' : World} {g : Nat} {t : TypeId} {cs : Array Value} (h : Row w g t cs) (k : w'.heap[g]? = w.heap[g]?) : Row w' g t cs := k.trans h
theorem Row.alloc {w : World} {g : Nat} {t : TypeId} {cs : Array Value} (h : Row w g t cs) (o : Obj) : Row (w.alloc o) g t cs := (Below.heap_alloc w o g h.lt).trans h
theorem Row.set {w : World} {g : Nat} {t : TypeId} {cs : Array Value} (h : Row w g t cs) (i : Nat) (u : Value) : Row (w.setCell ⟨g, i, none⟩ u) g t (cs.setIfInBounds i u) := by
  unfold Row at h ⊢
  simp [World.setCell, Array.getElem?_modify, h]
theorem Row.far {w : World} {g : Nat} {t : TypeId} {cs : Array Value} (h : Row w g t cs) {p : Addr} (hp : g ≠ p.block) (u : Value) : Row (w.setCell p u) g t cs := (Below.heap_setCell w p u g hp).trans h
theorem Row.besides {A S : Nat} {w w' : World} {g : Nat} {t : TypeId} {cs : Array Value} (h : Row w g t cs) (k : Besides A S w w') (hA : g ≠ A) (hS : g ≠ S) : Row w' g t cs := (k.block g h.lt hA hS).trans h
theorem Row.below {B : Nat} {w w' : World} {g : Nat} {t : TypeId} {cs : Array Value} (h : Row w g t cs) (k : Below B w w') (hB : g < B) : Row w' g t cs := (k.block g hB).trans h
def ovr (cs : Array Value) : Nat → List Value → Array Value
  | _, [] => cs
  | o, v :: r => ovr (cs.setIfInBounds o v) (o + 1) r
theorem ovr_get : ∀ (vs : List Value) (o : Nat) (cs : Array Value) (i : Nat), (ovr cs o vs)[i]? = if o ≤ i ∧ i < o + vs.length ∧ i < cs.size then vs[i - o]? else cs[i]?
  | [], o, cs, i => by
    rw [if_neg (by rintro ⟨h1, h2, h3⟩; simp at h2; omega)]
    rfl
  | v :: r, o, cs, i => by
    rw [ovr, ovr_get r (o + 1) (cs.setIfInBounds o v) i, List.length_cons, Array.size_setIfInBounds, Array.getElem?_setIfInBounds]
    by_cases h1 : o = i
    · subst h1
      rw [if_neg (by omega), if_pos rfl]
      by_cases h3 : o < cs.size
      · rw [if_pos h3, if_pos (by omega), Nat.sub_self]
        rfl
      · rw [if_neg h3, if_neg (by omega), Array.getElem?_eq_none (by omega)]
    · rw [if_neg h1]
      by_cases h2 : o + 1 ≤ i ∧ i < o + 1 + r.length ∧ i < cs.size
      · rw [if_pos h2, if_pos (by omega), show i - o = (i - (o + 1)) + 1 by omega, List.getElem?_cons_succ]
      · rw [if_neg h2, if_neg (by omega)]
theorem ovr_all (cs vs : Array Value) (h : cs.size = vs.size) : ovr cs 0 vs.toList = vs := by
  apply Array.ext_getElem?
  intro i
  rw [ovr_get, Nat.zero_add, Array.length_toList, Nat.sub_zero]
  by_cases hi : i < vs.size
  · rw [if_pos ⟨Nat.zero_le _, hi, by omega⟩]
    simp
  · rw [if_neg (by omega), Array.getElem?_eq_none (by omega), Array.getElem?_eq_none (by omega)]
theorem setCells_top (w : World) (t : TypeId) : ∀ (vs : List Value) (o : Nat) (cs : Array Value), (w.alloc (.cells cs t)).setCells w.heap.size o vs = w.alloc (.cells (ovr cs o vs) t)
  | [], _, _ => rfl
  | v :: r, o, cs => by
    rw [World.setCells, World.setCell_alloc_new, setCells_top w t r (o + 1)]
    rfl
theorem setCells_new (w : World) (t : TypeId) (cs vs : Array Value) (h : cs.size = vs.size) : (w.alloc (.cells cs t)).setCells w.heap.size 0 vs.toList = w.alloc (.cells vs t) := by
  rw [setCells_top, ovr_all cs vs h]
theorem Row.range {w : World} {b : Nat} {cs : Array Value} {t : TypeId} (h : Row w b t cs) : w.rangeAt b 0 cs.toList := fun j v hv => by
  rw [Nat.zero_add, h.cell j]
  simpa using hv
theorem Row.there {w : World} {b : Nat} {cs : Array Value} {t : TypeId} (h : Row w b t cs) : w.there b 0 cs.size := fun j hj => by
  rw [Nat.zero_add, h.cell j]
  exact ⟨by simp [hj], h.frozen j⟩
section
variable {P : Program}
theorem load_row {t u : TypeId} {w : World} {g : Nat} {cs : Array Value} {d : TypeDesc} (h : Row w g u cs) (hu : P.underlying t = some d) (hd : d.isRow = true) (hi : (P.info? t).map (·.size) = some cs.size) :
    (Instr.loadAt t (.pointer (some ⟨g, 0, none⟩))).run P w = .ok (.agg cs) w :=
  run_loadAt_mid w g 0 t cs.toList d h.range hu hd (by simpa using hi)
theorem loadVar_row {t u : TypeId} {w : World} {g : Nat} {cs : Array Value} {d : TypeDesc} (h : Row w g u cs) (hu : P.underlying t = some d) (hd : d.isRow = true) (hi : (P.info? t).map (·.size) = some cs.size) :
    (loadVar t ⟨g, 0, none⟩).run P w = .ok (.agg cs) w :=
  run_loadVar_mid w g 0 t cs.toList d h.range hu hd (by simpa using hi)
theorem wpList_store_top {ops : Array Oper} {rest : List Oper} {op : Oper} {a : Act} {Q : Exit → Act → World → Prop} (hgd : op.guard = none) (ty : TypeId) (x y : Operand) (ho : op.op = .store ty x y)
    (w : World) (g : Nat) (u : TypeId) (cs vs : Array Value) (hx : a.eval x = .pointer (some ⟨g, 0, none⟩)) (hy : a.eval y = .agg vs) (hg : g = w.heap.size) (h : cs.size = vs.size) (hi : (P.info? ty).map (·.size) = some vs.size) (h1 : vs.toList.all (·.oneCell') = true)
    (hK : wpList P ops Q rest (a.put op.dst undef) (w.alloc (.cells vs u))) : wpList P ops Q (op :: rest) a (w.alloc (.cells cs u)) := by
  subst hg
  refine wpList_store_mid hgd ty x y ho w.heap.size 0 vs hx hy (by rw [← h]; exact (Row.new w u cs).there) hi (by rw [← Array.all_toList]; exact h1) ?_
  rw [setCells_new _ _ _ _ h]
  exact hK
theorem wpList_load_row {ops : Array Oper} {rest : List Oper} {op : Oper} {a : Act} {w : World} {Q : Exit → Act → World → Prop} (hgd : op.guard = none) (ty : TypeId) (x : Operand) (ho : op.op = .load ty x)
    (g : Nat) (u : TypeId) (cs : Array Value) (hx : a.eval x = .pointer (some ⟨g, 0, none⟩)) (h : Row w g u cs) (d : TypeDesc) (hu : P.underlying ty = some d) (hd : d.isRow = true) (hi : (P.info? ty).map (·.size) = some cs.size)
    (hK : wpList P ops Q rest (a.put op.dst (.agg cs)) w) : wpList P ops Q (op :: rest) a w :=
  wpList_load_mid hgd ty x ho g 0 hx cs.toList d h.range hu hd (by simpa using hi) hK
theorem results_row {fn : Func} {t : Tmp} {ty u : TypeId} (h : fn.results = #[.cell t ty]) {tmps : Array Value} {w : World} {g : Nat} {cs : Array Value} (ht : tmps.getD t undef = .pointer (some ⟨g, 0, none⟩)) (hr : Row w g u cs)
    (d : TypeDesc) (hu : P.underlying ty = some d) (hd : d.isRow = true) (hi : (P.info? ty).map (·.size) = some cs.size) : (results fn tmps).run P w = .ok (.agg cs) w := by
  have ht' : tmps[t]?.getD undef = .pointer (some ⟨g, 0, none⟩) := by simpa using ht
  simp [results, h, ht', asAddr, loadVar_row hr hu hd hi]
end
theorem Below.setCellsAll {n : Nat} {w w' : World} (h : Below n w w') {b : Nat} (hb : n ≤ b) : ∀ (vs : List Value) (o : Nat), Below n w (w'.setCells b o vs) := by
  intro vs
  induction vs generalizing w' with
  | nil => intro o; exact h
  | cons v r ih => intro o; exact ih (Go.RowKit.Below.setCell h hb _) (o + 1)
theorem Row.setOver {w : World} {g : Nat} {t : TypeId} : ∀ (vs : List Value) (o : Nat) {w : World} {cs : Array Value}, Row w g t cs → Row (w.setCells g o vs) g t (ovr cs o vs)
  | [], _, _, _, h => h
  | v :: r, o, _, _, h => Row.setOver (w := w) r (o + 1) (h.set o v)
theorem Row.setAll {w : World} {g : Nat} {t : TypeId} {cs vs : Array Value} (h : Row w g t cs) (hs : cs.size = vs.size) : Row (w.setCells g 0 vs.toList) g t vs := by
  have := Row.setOver (w := w) vs.toList 0 h
  rwa [ovr_all cs vs hs] at this
theorem Row.setFar {g b : Nat} {t : TypeId} {cs : Array Value} (hb : g ≠ b) : ∀ (vs : List Value) (o : Nat) {w : World}, Row w g t cs → Row (w.setCells b o vs) g t cs
  | [], _, _, h => h
  | v :: r, o, _, h => Row.setFar hb r (o + 1) (h.far (p := ⟨b, o, none⟩) hb v)
section
variable {P : Program}
theorem wpList_store_row {ops : Array Oper} {rest : List Oper} {op : Oper} {a : Act} {w : World} {Q : Exit → Act → World → Prop} (hgd : op.guard = none) (ty : TypeId) (x y : Operand) (ho : op.op = .store ty x y)
    (g : Nat) (u : TypeId) (cs vs : Array Value) (hx : a.eval x = .pointer (some ⟨g, 0, none⟩)) (hy : a.eval y = .agg vs) (hr : Row w g u cs) (h : cs.size = vs.size) (hi : (P.info? ty).map (·.size) = some vs.size) (h1 : vs.toList.all (·.oneCell') = true)
    (hK : wpList P ops Q rest (a.put op.dst undef) (w.setCells g 0 vs.toList)) : wpList P ops Q (op :: rest) a w :=
  wpList_store_mid hgd ty x y ho g 0 vs hx hy (by rw [← h]; exact hr.there) hi (by rw [← Array.all_toList]; exact h1) hK
end
section
variable {P : Program} {a : Act} {o : Oper} {x y : Operand} {V W R : Value}
theorem heMove (ho : o.op = .move x ∨ o.op = .assign x) (hx : a.eval x = V) (w : World) : (execOp a.eval o).run P w = .ok (.value V) w := by
  unfold execOp
  rcases ho with ho | ho <;> simp only [ho, hx, Sem.run_pure]
theorem heNil {ad : Addr} (ho : o.op = .nilCheck x) (hx : a.eval x = .pointer (some ad)) (w : World) : (execOp a.eval o).run P w = .ok (.value (.pointer (some ad))) w := by
  unfold execOp
  simp only [ho, hx, Sem.run_pure]
theorem heField {t : TypeId} {f : Nat} (ho : o.op = .fieldAddr t x f) (hx : a.eval x = V) (hf : ∀ w, (Instr.fieldAt t V f).run P w = .ok R w) (w : World) : (execOp a.eval o).run P w = .ok (.value R) w := by
  unfold execOp
  simp only [ho, hx, Sem.run_bind, Sem.run_pure, hf, Result.andThen_ok]
theorem heLoad {t : TypeId} {ad : Addr} {w : World} (ho : o.op = .load t x) (hx : a.eval x = .pointer (some ad)) (hl : (Instr.loadAt t (.pointer (some ad))).run P w = .ok V w) : (execOp a.eval o).run P w = .ok (.value V) w := by
  unfold execOp
  simp only [ho, hx, Sem.run_bind, Sem.run_pure, hl, Result.andThen_ok]
theorem heStore {t : TypeId} {ad : Addr} {w w' : World} (ho : o.op = .store t x y) (hx : a.eval x = .pointer (some ad)) (hy : a.eval y = V) (hl : (Instr.storeAt t (.pointer (some ad)) V).run P w = .ok () w') : (execOp a.eval o).run P w = .ok .skip w' := by
  unfold execOp
  simp only [ho, hx, hy, Sem.run_bind, Sem.run_pure, hl, Result.andThen_ok]
theorem heBin {op : BinOp} {t r : TypeId} (ho : o.op = .binOp op t x y r) (hx : a.eval x = V) (hy : a.eval y = W) (hg : ∀ w, (eqGuard op t x y V W).run P w = .ok () w) (hb : ∀ w, (binOp op t V W).run P w = .ok R w) (w : World) : (execOp a.eval o).run P w = .ok (.value R) w := by
  unfold execOp
  simp only [ho, hx, hy, Sem.run_bind, Sem.run_pure, hg, hb, Result.andThen_ok]
theorem hePick {c : Operand} {b : Bool} (ho : o.op = .pick c x y) (hc : a.eval c = .bool b) (hv : (if b = true then a.eval x else a.eval y) = V) (w : World) : (execOp a.eval o).run P w = .ok (.value V) w := by
  unfold execOp
  simp only [ho, hc, ← hv, asBool, Sem.run_bind, Sem.run_pure, Result.andThen_ok]
theorem heBuild {t : TypeId} {parts : Array (Nat × Operand)} {cells : Array Value} (ho : o.op = .build t parts) (hc : P.built t (parts.map fun (i, x) => (i, a.eval x)).toList = some cells) (w : World) : (execOp a.eval o).run P w = .ok (.value (.agg cells)) w := by
  unfold execOp
  simp only [ho, Sem.run_bind, run_build w t _ cells hc, Result.andThen_ok, Sem.run_pure]
theorem heExtract {i : Nat} {vs : Array Value} (ho : o.op = .extract x i) (hx : a.eval x = .tuple vs) (hi : vs[i]? = some V) (w : World) : (execOp a.eval o).run P w = .ok (.value V) w := by
  unfold execOp
  simp [ho, hx, Instr.extract, hi]
theorem heIndex {t : TypeId} {w : World} (ho : o.op = .indexAddr t x y) (hx : a.eval x = V) (hy : a.eval y = W) (hl : (Instr.indexAt t V W).run P w = .ok R w) : (execOp a.eval o).run P w = .ok (.value R) w := by
  unfold execOp
  simp only [ho, hx, hy, Sem.run_bind, Sem.run_pure, hl, Result.andThen_ok]
end
theorem ld8 {w : World} {ad : Addr} {V : Value} (h : w.cell? ad = some V) : (Instr.loadAt 5 (.pointer (some ad))).run Tryz.prog w = .ok V w := by simp [go_sem, h]
theorem ld16 {w : World} {ad : Addr} {V : Value} (h : w.cell? ad = some V) : (Instr.loadAt 22 (.pointer (some ad))).run Tryz.prog w = .ok V w := by simp [go_sem, h]
theorem ldI {w : World} {ad : Addr} {V : Value} (h : w.cell? ad = some V) : (Instr.loadAt 3 (.pointer (some ad))).run Tryz.prog w = .ok V w := by simp [go_sem, h]
theorem ldB {w : World} {ad : Addr} {V : Value} (h : w.cell? ad = some V) : (Instr.loadAt 4 (.pointer (some ad))).run Tryz.prog w = .ok V w := by simp [go_sem, h]
theorem st16 {w : World} {ad : Addr} {V : Value} {v : Int} (h : w.cell? ad = some V) (hz : w.frozen? ad = false) : (Instr.storeAt 22 (.pointer (some ad)) (.int .u16 v)).run Tryz.prog w = .ok () (w.setCell ad (.int .u16 v)) := by simp [go_sem, h, hz]
theorem stI {w : World} {ad : Addr} {V : Value} {v : Int} (h : w.cell? ad = some V) (hz : w.frozen? ad = false) : (Instr.storeAt 3 (.pointer (some ad)) (.int .i64 v)).run Tryz.prog w = .ok () (w.setCell ad (.int .i64 v)) := by simp [go_sem, h, hz]
theorem stB {w : World} {ad : Addr} {V : Value} {v : Bool} (h : w.cell? ad = some V) (hz : w.frozen? ad = false) : (Instr.storeAt 4 (.pointer (some ad)) (.bool v)).run Tryz.prog w = .ok () (w.setCell ad (.bool v)) := by simp [go_sem, h, hz]
theorem infoRg : (Tryz.prog.info? 24).map (·.size) = some 20 := by kernel_rfl
theorem ldR {w : World} {b o : Nat} {g : Rg} (h : w.rangeAt b o (regsC g).toList) : (Instr.loadAt 24 (.pointer (some ⟨b, o, none⟩))).run Tryz.prog w = .ok (regsV g) w :=
  run_loadAt_mid w b o 24 (regsC g).toList _ h Tryz.underlying24 rfl infoRg
theorem stR {w : World} {b o : Nat} {g : Rg} (h : w.there b o (regsC g).size) : (Instr.storeAt 24 (.pointer (some ⟨b, o, none⟩)) (regsV g)).run Tryz.prog w = .ok () (w.setCells b o (regsC g).toList) :=
  run_storeAt_mid w b o 24 (regsC g) h infoRg (by simp [regsC, Value.oneCell'])
theorem egI (op : BinOp) (x y : Operand) (a b : Int) (w : World) : (eqGuard op 3 x y (.int .i64 a) (.int .i64 b)).run Tryz.prog w = .ok () w := by simp [go_sem]
theorem eg8 (op : BinOp) (x y : Operand) (a b : Int) (w : World) : (eqGuard op 5 x y (.int .u8 a) (.int .u8 b)).run Tryz.prog w = .ok () w := by simp [go_sem]
theorem eg16 (op : BinOp) (x y : Operand) (a b : Int) (w : World) : (eqGuard op 22 x y (.int .u16 a) (.int .u16 b)).run Tryz.prog w = .ok () w := by simp [go_sem]
theorem bEqI (x y : Int) (w : World) : (binOp .eql 3 (.int .i64 x) (.int .i64 y)).run Tryz.prog w = .ok (.bool (x == y)) w := by simp [go_sem]
theorem bNeI (x y : Int) (w : World) : (binOp .neq 3 (.int .i64 x) (.int .i64 y)).run Tryz.prog w = .ok (.bool (x != y)) w := by simp [go_sem, bne]
theorem bEq8 (x y : Int) (w : World) : (binOp .eql 5 (.int .u8 x) (.int .u8 y)).run Tryz.prog w = .ok (.bool (x == y)) w := by simp [go_sem]
theorem bAdd16 (x y : Int) (w : World) : (binOp .add 22 (.int .u16 x) (.int .u16 y)).run Tryz.prog w = .ok (.int .u16 ((x + y) % 65536)) w := by simp [go_sem, IntKind.wrap_u16]
theorem bAnd8 (x y : Int) (w : World) : (binOp .and 5 (.int .u8 x) (.int .u8 y)).run Tryz.prog w = .ok (.int .u8 (bits .and .u8 x y)) w := by simp [go_sem]
theorem bOr8 (x y : Int) (w : World) : (binOp .or 5 (.int .u8 x) (.int .u8 y)).run Tryz.prog w = .ok (.int .u8 (bits .or .u8 x y)) w := by simp [go_sem]
theorem bSubI (x y : Int) (h : -9223372036854775808 ≤ x - y) (h' : x - y ≤ 9223372036854775807) (w : World) : (binOp .sub 3 (.int .i64 x) (.int .i64 y)).run Tryz.prog w = .ok (.int .i64 (x - y)) w := by
  have e : IntKind.i64.wrap (x - y) = x - y := by rw [IntKind.wrap_i64]; omega
  simp [go_sem, e]
theorem bMulI (x y : Int) (h : -9223372036854775808 ≤ x * y) (h' : x * y ≤ 9223372036854775807) (w : World) : (binOp .mul 3 (.int .i64 x) (.int .i64 y)).run Tryz.prog w = .ok (.int .i64 (x * y)) w := by
  have e : IntKind.i64.wrap (x * y) = x * y := by rw [IntKind.wrap_i64]; omega
  simp [go_sem, e]
section
variable {P : Program} {ops : Array Oper} {Q : Exit → Act → World → Prop} {a : Act} {w : World} {o : Oper} {rest : List Oper} {x y : Operand} {W : Value}
theorem wantedN (hg : o.guard = none) : Region.wanted o (yielded ops a.tmps) = true := by simp only [Region.wanted, hg]
theorem sMove (d : Tmp) (V : Value) (hd : o.dst = some d) (hg : o.guard = none) (ho : o.op = .move x ∨ o.op = .assign x) (hx : a.eval x = V) (h : WL P ops Q rest (a.put (some d) V) w) : WL P ops Q (o :: rest) a w :=
  list_take d V hd (wantedN hg) (heMove ho hx w) h
theorem sNil (d : Tmp) (ad : Addr) (hd : o.dst = some d) (hg : o.guard = none) (ho : o.op = .nilCheck x) (hx : a.eval x = .pointer (some ad)) (h : WL P ops Q rest (a.put (some d) (.pointer (some ad))) w) : WL P ops Q (o :: rest) a w :=
  list_take d _ hd (wantedN hg) (heNil ho hx w) h
theorem sField (d : Tmp) (V R : Value) {t : TypeId} {f : Nat} (hd : o.dst = some d) (hg : o.guard = none) (ho : o.op = .fieldAddr t x f) (hx : a.eval x = V) (hf : ∀ w, (Instr.fieldAt t V f).run P w = .ok R w) (h : WL P ops Q rest (a.put (some d) R) w) : WL P ops Q (o :: rest) a w :=
  list_take d R hd (wantedN hg) (heField ho hx hf w) h
theorem sLoad (d : Tmp) (ad : Addr) (V : Value) {t : TypeId} (hd : o.dst = some d) (hg : o.guard = none) (ho : o.op = .load t x) (hx : a.eval x = .pointer (some ad)) (hl : (Instr.loadAt t (.pointer (some ad))).run P w = .ok V w) (h : WL P ops Q rest (a.put (some d) V) w) : WL P ops Q (o :: rest) a w :=
  list_take d V hd (wantedN hg) (heLoad ho hx hl) h
theorem sStore (ad : Addr) (V : Value) {t : TypeId} {w' : World} (hd : o.dst = none) (hg : o.guard = none) (ho : o.op = .store t x y) (hx : a.eval x = .pointer (some ad)) (hy : a.eval y = V) (hl : (Instr.storeAt t (.pointer (some ad)) V).run P w = .ok () w') (h : WL P ops Q rest (a.put none undef) w') : WL P ops Q (o :: rest) a w :=
  list_do hd (wantedN hg) (heStore ho hx hy hl) h
theorem sBin (d : Tmp) (V W R : Value) {op : BinOp} {t r : TypeId} (hd : o.dst = some d) (hg : o.guard = none) (ho : o.op = .binOp op t x y r) (hx : a.eval x = V) (hy : a.eval y = W) (hgd : ∀ w, (eqGuard op t x y V W).run P w = .ok () w) (hb : ∀ w, (binOp op t V W).run P w = .ok R w) (h : WL P ops Q rest (a.put (some d) R) w) : WL P ops Q (o :: rest) a w :=
  list_take d R hd (wantedN hg) (heBin ho hx hy hgd hb w) h
theorem sPick (d : Tmp) (V : Value) (b : Bool) {c : Operand} (hd : o.dst = some d) (hg : o.guard = none) (ho : o.op = .pick c x y) (hc : a.eval c = .bool b) (hv : (if b = true then a.eval x else a.eval y) = V) (h : WL P ops Q rest (a.put (some d) V) w) : WL P ops Q (o :: rest) a w :=
  list_take d V hd (wantedN hg) (hePick ho hc hv w) h
theorem sBuild (d : Tmp) (cells : Array Value) {t : TypeId} {parts : Array (Nat × Operand)} (hd : o.dst = some d) (hg : o.guard = none) (ho : o.op = .build t parts) (hc : P.built t (parts.map fun (i, x) => (i, a.eval x)).toList = some cells) (h : WL P ops Q rest (a.put (some d) (.agg cells)) w) : WL P ops Q (o :: rest) a w :=
  list_take d _ hd (wantedN hg) (heBuild ho hc w) h
theorem sExtract (d : Tmp) (vs : Array Value) (V : Value) {i : Nat} (hd : o.dst = some d) (hg : o.guard = none) (ho : o.op = .extract x i) (hx : a.eval x = .tuple vs) (hi : vs[i]? = some V) (h : WL P ops Q rest (a.put (some d) V) w) : WL P ops Q (o :: rest) a w :=
  list_take d V hd (wantedN hg) (heExtract ho hx hi w) h
theorem sIndex (d : Tmp) (V W R : Value) {t : TypeId} (hd : o.dst = some d) (hg : o.guard = none) (ho : o.op = .indexAddr t x y) (hx : a.eval x = V) (hy : a.eval y = W) (hl : (Instr.indexAt t V W).run P w = .ok R w) (h : WL P ops Q rest (a.put (some d) R) w) : WL P ops Q (o :: rest) a w :=
  list_take d R hd (wantedN hg) (heIndex ho hx hy hl) h
theorem sCallO (V : Value) {g : FuncId} {args : Array Value} {N : World → Prop} (hg : o.guard = none) (he : (execOp a.eval o).run P w = .ok (.enter g args) w) (hc : Calls P g args w fun e w' => e = .returned V ∧ N w')
    (h : ∀ w', N w' → WL P ops Q rest (a.put o.dst V) w') : WL P ops Q (o :: rest) a w :=
  list_call (wantedN hg) he hc fun e w' ⟨h1, h2⟩ => by subst h1; exact h w' h2
theorem thenN {next : Act → World → Prop} (h : next a w) : Exit.then next Q .normal a w := h
theorem thenR {next : Act → World → Prop} (h : Q .ret a w) : Exit.then next Q .ret a w := h
theorem thenX {next : Act → World → Prop} {c : List PanicEntry} (h : Q (.panic c) a w) : Exit.then next Q (.panic c) a w := h
theorem thenE {next : Act → World → Prop} {i : Nat} (h : Q (.exit i) a w) : Exit.then next Q (.exit i) a w := h
theorem blockN {i : Nat} (h : Q .normal a w) : Exit.inBlock i Q .normal a w := h
theorem blockX {i : Nat} {c : List PanicEntry} (h : Q (.panic c) a w) : Exit.inBlock i Q (.panic c) a w := h
theorem blockE {i : Nat} (h : Q .normal a w) : Exit.inBlock i Q (.exit i) a w := by simp only [Exit.inBlock, if_true]; exact h
theorem endV {fn : Func} {R : Ending → World → Prop} (h : fn.results = #[]) (hd : a.defers = []) (hR : R (.returned (.tuple #[])) w) : bodyPost P fn R .normal a w := bodyPost_end (results_none h _ _ _) hd hR
theorem retI {fn : Func} {R : Ending → World → Prop} (t : Tmp) (V : Value) (h : fn.results = #[.tmp t]) (hv : a.tmps.getD t undef = V) (hd : a.defers = []) (hR : R (.returned V) w) : bodyPost P fn R .ret a w := bodyPost_ret (by rw [results_tmp h, hv]) hd hR
theorem panicP {fn : Func} {R : Ending → World → Prop} {c : List PanicEntry} (hd : a.defers = []) (hR : R (.panicked c) w) : bodyPost P fn R (.panic c) a w := ⟨hd, hR⟩
end
section
variable {α β : Type}
theorem run_if_pos {c : Prop} [Decidable c] {t e : Tr α} {xs : List Int} (hc : c) : (if c then t else e).run xs = t.run xs := by rw [if_pos hc]
theorem run_if_neg {c : Prop} [Decidable c] {t e : Tr α} {xs : List Int} (hc : ¬ c) : (if c then t else e).run xs = e.run xs := by rw [if_neg hc]
theorem run_bif_pos {c : Prop} [Decidable c] {t e : Tr α} {f : α → Tr β} {xs : List Int} (hc : c) : ((if c then t else e).bind f).run xs = (t.bind f).run xs := by rw [if_pos hc]
theorem run_bif_neg {c : Prop} [Decidable c] {t e : Tr α} {f : α → Tr β} {xs : List Int} (hc : ¬ c) : ((if c then t else e).bind f).run xs = (e.bind f).run xs := by rw [if_neg hc]
theorem Wd16.mod (x : Int) : Wd16 (x % 65536) := ⟨by omega, by omega⟩
theorem B8.mod (x : Int) : B8 (x % 256) := ⟨by omega, by omega⟩
end
@[reducible] def pT (b k : Nat) : Value := .pointer (some ⟨b, k, none⟩)
theorem sA {α : Type} (l : List α) (i : Nat) (a : α) : l.toArray.setIfInBounds i a = (l.set i a).toArray := List.setIfInBounds_toArray l i a
theorem sB {α : Type} (x a : α) (l : List α) : (x :: l).set 0 a = a :: l := List.set_cons_zero
theorem sC {α : Type} (x a : α) (l : List α) (i : Nat) : (x :: l).set (i + 1) a = x :: l.set i a := List.set_cons_succ
section
variable {P : Program} {ops : Array Oper} {Q : Exit → Act → World → Prop} {a : Act} {w : World} {o : Oper} {rest : List Oper} {x y : Operand} {V W R : Value} {t r : TypeId}
theorem oM (d : Tmp) (V : Value) (h : WL P ops Q rest (a.put (some d) V) w) (hd : o.dst = some d := by exact rfl) (hg : o.guard = none := by exact rfl) (ho : o.op = .move x := by exact rfl) (hx : a.eval x = V := by kernel_rfl) : WL P ops Q (o :: rest) a w := sMove d V hd hg (.inl ho) hx h
theorem oA (d : Tmp) (V : Value) (h : WL P ops Q rest (a.put (some d) V) w) (hd : o.dst = some d := by exact rfl) (hg : o.guard = none := by exact rfl) (ho : o.op = .assign x := by exact rfl) (hx : a.eval x = V := by kernel_rfl) : WL P ops Q (o :: rest) a w := sMove d V hd hg (.inr ho) hx h
theorem oN (d : Tmp) (p k : Nat) (h : WL P ops Q rest (a.put (some d) (pT p k)) w) (hd : o.dst = some d := by exact rfl) (hg : o.guard = none := by exact rfl) (ho : o.op = .nilCheck x := by exact rfl) (hx : a.eval x = pT p k := by kernel_rfl) : WL P ops Q (o :: rest) a w := sNil d ⟨p, k, none⟩ hd hg ho hx h
theorem oF (d : Tmp) {f : Nat} (hf : ∀ w, (Instr.fieldAt t V f).run P w = .ok R w) (h : WL P ops Q rest (a.put (some d) R) w) (hd : o.dst = some d := by exact rfl) (hg : o.guard = none := by exact rfl) (ho : o.op = .fieldAddr t x f := by exact rfl) (hx : a.eval x = V := by kernel_rfl) : WL P ops Q (o :: rest) a w := sField d V R hd hg ho hx hf h
theorem oL (d : Tmp) {ad : Addr} (hl : (Instr.loadAt t (.pointer (some ad))).run P w = .ok V w) (h : WL P ops Q rest (a.put (some d) V) w) (hd : o.dst = some d := by exact rfl) (hg : o.guard = none := by exact rfl) (ho : o.op = .load t x := by exact rfl) (hx : a.eval x = .pointer (some ad) := by kernel_rfl) : WL P ops Q (o :: rest) a w := sLoad d ad V hd hg ho hx hl h
theorem oB (d : Tmp) {op : BinOp} (hgd : ∀ w, (eqGuard op t x y V W).run P w = .ok () w) (hb : ∀ w, (binOp op t V W).run P w = .ok R w) (h : WL P ops Q rest (a.put (some d) R) w) (hd : o.dst = some d := by exact rfl) (hg : o.guard = none := by exact rfl) (ho : o.op = .binOp op t x y r := by exact rfl) (hx : a.eval x = V := by kernel_rfl) (hy : a.eval y = W := by kernel_rfl) : WL P ops Q (o :: rest) a w := sBin d V W R hd hg ho hx hy hgd hb h
theorem oP (d : Tmp) (V : Value) (b : Bool) {c : Operand} (h : WL P ops Q rest (a.put (some d) V) w) (hd : o.dst = some d := by exact rfl) (hg : o.guard = none := by exact rfl) (ho : o.op = .pick c x y := by exact rfl) (hc : a.eval c = .bool b := by kernel_rfl) (hv : (if b = true then a.eval x else a.eval y) = V := by kernel_rfl) : WL P ops Q (o :: rest) a w := sPick d V b hd hg ho hc hv h
theorem oX (d : Tmp) (vs : Array Value) (V : Value) {i : Nat} (h : WL P ops Q rest (a.put (some d) V) w) (hd : o.dst = some d := by exact rfl) (hg : o.guard = none := by exact rfl) (ho : o.op = .extract x i := by exact rfl) (hx : a.eval x = .tuple vs := by kernel_rfl) (hi : vs[i]? = some V := by kernel_rfl) : WL P ops Q (o :: rest) a w := sExtract d vs V hd hg ho hx hi h
theorem oS (ad : Addr) (V : Value) {w' : World} (hl : (Instr.storeAt t (.pointer (some ad)) V).run P w = .ok () w') (h : WL P ops Q rest (a.put none undef) w') (hd : o.dst = none := by exact rfl) (hg : o.guard = none := by exact rfl) (ho : o.op = .store t x y := by exact rfl) (hx : a.eval x = .pointer (some ad) := by kernel_rfl) (hy : a.eval y = V := by kernel_rfl) : WL P ops Q (o :: rest) a w := sStore ad V hd hg ho hx hy hl h
theorem oU (d : Tmp) (cells : Array Value) {parts : Array (Nat × Operand)} (h : WL P ops Q rest (a.put (some d) (.agg cells)) w) (hd : o.dst = some d := by exact rfl) (hg : o.guard = none := by exact rfl) (ho : o.op = .build t parts := by exact rfl) (hc : P.built t (parts.map fun (i, x) => (i, a.eval x)).toList = some cells := by kernel_rfl) : WL P ops Q (o :: rest) a w := sBuild d cells hd hg ho hc h
theorem oI (d : Tmp) (V W R : Value) (hl : (Instr.indexAt t V W).run P w = .ok R w) (h : WL P ops Q rest (a.put (some d) R) w) (hd : o.dst = some d := by exact rfl) (hg : o.guard = none := by exact rfl) (ho : o.op = .indexAddr t x y := by exact rfl) (hx : a.eval x = V := by kernel_rfl) (hy : a.eval y = W := by kernel_rfl) : WL P ops Q (o :: rest) a w := sIndex d V W R hd hg ho hx hy hl h
theorem oZ (d : Tmp) (h : WL P ops Q rest (a.put (some d) undef) w) (hd : o.dst = some d := by exact rfl) (hw : Region.wanted o (yielded ops a.tmps) = false := by kernel_rfl) : WL P ops Q (o :: rest) a w := list_skip d hd hw h
theorem oT (d : Tmp) (V : Value) (he : (execOp a.eval o).run P w = .ok (.value V) w) (h : WL P ops Q rest (a.put (some d) V) w) (hd : o.dst = some d := by exact rfl) (hw : Region.wanted o (yielded ops a.tmps) = true := by kernel_rfl) : WL P ops Q (o :: rest) a w := list_take d V hd hw he h
theorem oY (d : Tmp) (V : Value) (h : WL P ops Q rest (a.put (some d) V) w) (hd : o.dst = some d := by exact rfl) (hw : Region.wanted o (yielded ops a.tmps) = true := by kernel_rfl) (ho : o.op = .move x := by exact rfl) (hx : a.eval x = V := by kernel_rfl) : WL P ops Q (o :: rest) a w := list_take d V hd hw (heMove (.inl ho) hx _) h
theorem oC (V : Value) {g : FuncId} {args : Array Value} {N : World → Prop} (hc : Calls P g args w fun e w' => e = .returned V ∧ N w') (h : ∀ w', N w' → WL P ops Q rest (a.put o.dst V) w') (hg : o.guard = none := by exact rfl) (he : (execOp a.eval o).run P w = .ok (.enter g args) w := by kernel_rfl) : WL P ops Q (o :: rest) a w := sCallO V hg he hc h
end
section
variable {P : Program} {ops : Array Oper} {Q : Exit → Act → World → Prop} {a : Act} {w : World} {o : Oper} {S : World → Prop} {n f : Nat} {listed : Array Bool} {x y : Operand} {V W R : Value} {t r : TypeId}
theorem yG (i : Nat) (d : Tmp) (v : Value) (ho : ops[i]? = some o) (he : ∀ w, S w → (execOp a.eval o).run P w = .ok (.value v) w) (hS : S w) (h : partT P ops Q S n f (listed.setIfInBounds i true) (a.put (some d) v) w) (hd : o.dst = some d := by exact rfl) (hB : partB ops n = true := by kernel_rfl) (hin : decide (i < n) = true := by kernel_rfl)
    (hf : Region.free .any ops listed i = true := by kernel_rfl) (hr : (Region.ready .any ops listed).contains i = true := by kernel_rfl) (hQ : ∀ c a w, Q (.panic c) (a.put o.dst v) w → Q (.panic c) a w := by exact fun _ _ _ h => h) (hw : Region.wanted o (yielded ops a.tmps) = true := by kernel_rfl) : partT P ops Q S n (f + 1) listed a w :=
  part_take d v hd ho hB hin hf hr hQ hw he hS h
theorem yM (i : Nat) (d : Tmp) (v : Value) (hS : S w) (h : partT P ops Q S n f (listed.setIfInBounds i true) (a.put (some d) v) w) (ho : ops[i]? = some o := by exact rfl) (hd : o.dst = some d := by exact rfl) (hB : partB ops n = true := by kernel_rfl) (hin : decide (i < n) = true := by kernel_rfl)
    (hf : Region.free .any ops listed i = true := by kernel_rfl) (hr : (Region.ready .any ops listed).contains i = true := by kernel_rfl) (hQ : ∀ c a w, Q (.panic c) (a.put o.dst v) w → Q (.panic c) a w := by exact fun _ _ _ h => h) (hw : Region.wanted o (yielded ops a.tmps) = true := by kernel_rfl)
    (hp : o.op = .move x := by exact rfl) (hx : a.eval x = v := by kernel_rfl) : partT P ops Q S n (f + 1) listed a w :=
  part_take d v hd ho hB hin hf hr hQ hw (fun w _ => heMove (.inl hp) hx w) hS h
theorem yN (i : Nat) (d : Tmp) (p k : Nat) (hS : S w) (h : partT P ops Q S n f (listed.setIfInBounds i true) (a.put (some d) (pT p k)) w) (ho : ops[i]? = some o := by exact rfl) (hd : o.dst = some d := by exact rfl) (hB : partB ops n = true := by kernel_rfl) (hin : decide (i < n) = true := by kernel_rfl)
    (hf : Region.free .any ops listed i = true := by kernel_rfl) (hr : (Region.ready .any ops listed).contains i = true := by kernel_rfl) (hQ : ∀ c a w, Q (.panic c) (a.put o.dst (pT p k)) w → Q (.panic c) a w := by exact fun _ _ _ h => h) (hw : Region.wanted o (yielded ops a.tmps) = true := by kernel_rfl)
    (hp : o.op = .nilCheck x := by exact rfl) (hx : a.eval x = pT p k := by kernel_rfl) : partT P ops Q S n (f + 1) listed a w :=
  part_take d (pT p k) hd ho hB hin hf hr hQ hw (fun w _ => heNil hp hx w) hS h
theorem yF (i : Nat) (d : Tmp) {j : Nat} (hl : ∀ w, (Instr.fieldAt t V j).run P w = .ok R w) (hS : S w) (h : partT P ops Q S n f (listed.setIfInBounds i true) (a.put (some d) R) w) (ho : ops[i]? = some o := by exact rfl) (hd : o.dst = some d := by exact rfl) (hB : partB ops n = true := by kernel_rfl) (hin : decide (i < n) = true := by kernel_rfl)
    (hf : Region.free .any ops listed i = true := by kernel_rfl) (hr : (Region.ready .any ops listed).contains i = true := by kernel_rfl) (hQ : ∀ c a w, Q (.panic c) (a.put o.dst R) w → Q (.panic c) a w := by exact fun _ _ _ h => h) (hw : Region.wanted o (yielded ops a.tmps) = true := by kernel_rfl)
    (hp : o.op = .fieldAddr t x j := by exact rfl) (hx : a.eval x = V := by kernel_rfl) : partT P ops Q S n (f + 1) listed a w :=
  part_take d R hd ho hB hin hf hr hQ hw (fun w _ => heField hp hx hl w) hS h
theorem yL (i : Nat) (d : Tmp) {ad : Addr} (V : Value) (hl : ∀ w, S w → (Instr.loadAt t (.pointer (some ad))).run P w = .ok V w) (hS : S w) (h : partT P ops Q S n f (listed.setIfInBounds i true) (a.put (some d) V) w) (ho : ops[i]? = some o := by exact rfl) (hd : o.dst = some d := by exact rfl) (hB : partB ops n = true := by kernel_rfl) (hin : decide (i < n) = true := by kernel_rfl)
    (hf : Region.free .any ops listed i = true := by kernel_rfl) (hr : (Region.ready .any ops listed).contains i = true := by kernel_rfl) (hQ : ∀ c a w, Q (.panic c) (a.put o.dst V) w → Q (.panic c) a w := by exact fun _ _ _ h => h) (hw : Region.wanted o (yielded ops a.tmps) = true := by kernel_rfl)
    (hp : o.op = .load t x := by exact rfl) (hx : a.eval x = .pointer (some ad) := by kernel_rfl) : partT P ops Q S n (f + 1) listed a w :=
  part_take d V hd ho hB hin hf hr hQ hw (fun w hS => heLoad hp hx (hl w hS)) hS h
end
def whenM (h : Bool) (v : Int) : Int := if h then v else 0
theorem when_any (h : Bool) (v : Int) (h0 : 0 ≤ v) (h1 : v ≤ 255) (w : World) :
    Calls Tryz.prog 336 #[.bool h, .int .u8 v] w fun e w' => e = .returned (.int .u8 (whenM h v)) ∧ w = w' := by
  cases h
  all_goals
    go_enter Tryz.func336, Tryz.ntmps336
    go_wp2
    go_ret
    exact ⟨rfl, rfl⟩
theorem pow_fin : ∀ k : Fin 8, (2 : Int) ^ k.val % 256 = 2 ^ k.val ∧ (1 : Int) ≤ 2 ^ k.val ∧ (2 : Int) ^ k.val ≤ 128 ∧ (2 ^ k.val * 2 : Int) % 256 = 2 ^ (k.val + 1) % 256 := by decide +kernel
theorem pow_facts (k : Nat) (hk : k < 8) : (2 : Int) ^ k % 256 = 2 ^ k ∧ (1 : Int) ≤ 2 ^ k ∧ (2 : Int) ^ k ≤ 128 ∧ (2 ^ k * 2 : Int) % 256 = 2 ^ (k + 1) % 256 := pow_fin ⟨k, hk⟩
theorem or_and_bit (a b : Int) (ha : B8 a) (hb : B8 b) (k : Nat) (hk : k < 8) : (bits .and .u8 (bits .or .u8 a b) (2 ^ k) != 0) = (isM a k || isM b k) := by
  have h := or_byte a b ha.1 ha.2 hb.1 hb.2
  have e := and_bit (bits .or .u8 a b) (k : Int) h.1 h.2 (by omega) (by omega)
  rw [Int.toNat_natCast, (pow_facts k hk).1] at e
  rw [e, isM_or a b k hk ha.1 ha.2 hb.1 hb.2]
theorem and_and_bit (a b : Int) (ha : B8 a) (hb : B8 b) (k : Nat) (hk : k < 8) : (bits .and .u8 (bits .and .u8 a b) (2 ^ k) != 0) = (isM a k && isM b k) := by
  have h := and_byte a b ha.1 ha.2 hb.1 hb.2
  have e := and_bit (bits .and .u8 a b) (k : Int) h.1 h.2 (by omega) (by omega)
  rw [Int.toNat_natCast, (pow_facts k hk).1] at e
  rw [e, isM_and a b k hk ha.1 ha.2 hb.1 hb.2]
theorem or_pow (x : Int) (hx : B8 x) (k : Nat) (hk : k < 8) : bits .or .u8 x (2 ^ k) = withM x k true := by
  have e := or_bit x (k : Int) hx.1 hx.2 (by omega) (by omega)
  rwa [Int.toNat_natCast, (pow_facts k hk).1] at e
theorem bit_down (B : Int) (h1 : 1 ≤ B) (h2 : B ≤ 128) : (if B * 2 % 256 = 0 then 0 else 256 - (B * 2 % 256).toNat) < if B = 0 then 0 else 256 - B.toNat := by
  rw [if_neg (show ¬ B = 0 by omega)]
  by_cases h : B * 2 % 256 = 0
  · rw [if_pos h]; omega
  · rw [if_neg h]; omega
theorem carries_any (a b : Int) (c : Bool) (ha : B8 a) (hb : B8 b) (w : World) :
    Calls Tryz.prog 337 #[.int .u8 a, .int .u8 b, .bool c] w fun e w' => e = .returned (.int .u8 (outM a b c 8)) ∧ w = w' := by
  go_enter Tryz.func337, Tryz.ntmps337
  go_wp2
  go_loop [2, 7, 8] (fun cc o i => ∃ k : Nat, k ≤ 8 ∧ cc = .bool (cK a b c k) ∧ o = .int .u8 (outM a b c k) ∧ i = .int .u8 (2 ^ k % 256)) (fun _ _ i => if intOf i = 0 then 0 else 256 - (intOf i).toNat)
  case atStart => exact ⟨0, by omega, by rw [cK_zero], rfl, rfl⟩
  case round =>
    obtain ⟨k, hk, rfl, rfl, rfl⟩ := hrel
    by_cases hlt : k < 8
    · obtain ⟨p0, p1, p2, p3⟩ := pow_facts k hlt
      have hs := cK_step a b c k hlt
      have o0 := or_and_bit a b ha hb k hlt
      have o1 := and_and_bit a b ha hb k hlt
      have o2 := Lib.hid (or_pow _ (outM_byte a b c k) k hlt)
      have e2 : outM a b c (k + 1) = if cK a b c (k + 1) then withM (outM a b c k) k true else outM a b c k := rfl
      rw [p0]
      have P0 := Lib.hid p0
      have P3 := Lib.hid p3
      clear p0 p3
      generalize hB : (2 : Int) ^ k = B at *
      have nz : (B != 0) = true := by simp; omega
      cases hc : cK a b c k
      · rw [hc] at hs
        simp only [Bool.false_eq_true, if_false, if_true] at hs
        rw [← hs] at o1
        cases hd : cK a b c (k + 1)
        · rw [hd] at o1 e2
          have HC := Lib.hid hc
          have HD := Lib.hid hd
          have E2 := Lib.hid e2
          clear hs o0 hc hd e2
          go_wp2
          refine ⟨⟨k + 1, by omega, by rw [HD.out], ?_, by rw [P3.out]⟩, ?_⟩
          · rw [E2.out]; rfl
          · exact bit_down B p1 p2
        · rw [hd] at o1 e2
          have HC := Lib.hid hc
          have HD := Lib.hid hd
          have E2 := Lib.hid e2
          clear hs o0 hc hd e2
          go_wp2
          refine ⟨⟨k + 1, by omega, by rw [HD.out], ?_, by rw [P3.out]⟩, ?_⟩
          · rw [E2.out, o2.out]; rfl
          · exact bit_down B p1 p2
      · rw [hc] at hs
        simp only [Bool.false_eq_true, if_false, if_true] at hs
        rw [← hs] at o0
        cases hd : cK a b c (k + 1)
        · rw [hd] at o0 e2
          have HC := Lib.hid hc
          have HD := Lib.hid hd
          have E2 := Lib.hid e2
          clear hs o1 hc hd e2
          go_wp2
          refine ⟨⟨k + 1, by omega, by rw [HD.out], ?_, by rw [P3.out]⟩, ?_⟩
          · rw [E2.out]; rfl
          · exact bit_down B p1 p2
        · rw [hd] at o0 e2
          have HC := Lib.hid hc
          have HD := Lib.hid hd
          have E2 := Lib.hid e2
          clear hs o1 hc hd e2
          go_wp2
          refine ⟨⟨k + 1, by omega, by rw [HD.out], ?_, by rw [P3.out]⟩, ?_⟩
          · rw [E2.out, o2.out]; rfl
          · exact bit_down B p1 p2
    · obtain rfl : k = 8 := by omega
      go_wp2
      go_ret
      exact ⟨rfl, rfl⟩
def joinUpto (zs : List Int) : Nat → Int
  | 0 => 0
  | k + 1 => bits .or .u8 (joinUpto zs k) (zs.getD k 0)
theorem join_any (b off len cap : Nat) (zs : List Int) (w : World) (hz : len ≤ zs.length) (hbig : len ≤ 100) (hc : ∀ j, j < zs.length → w.cell? ⟨b, off + j, none⟩ = some (.int .u8 (zs.getD j 0))) :
    Calls Tryz.prog 329 #[.slice (some ⟨b, off, none⟩) len cap] w fun e w' => e = .returned (.int .u8 (joinUpto zs len)) ∧ w = w' := by
  go_enter Tryz.func329, Tryz.ntmps329
  go_wp2
  go_loop [3, 8] (fun t i => ∃ k : Nat, k ≤ len ∧ i = .int .i64 k ∧ t = .int .u8 (joinUpto zs k)) (fun _ i => len - (intOf i).toNat)
  case atStart => exact ⟨0, Nat.zero_le _, rfl, rfl⟩
  case round =>
    obtain ⟨k, hk, rfl, rfl⟩ := hrel
    by_cases hlt : k < len
    · have hk0 : (0 : Int) ≤ (k : Int) := by omega
      have hk1 : (k : Int) < (len : Int) := by omega
      have hcell := hc k (by omega)
      have hc := Lib.hid hc
      go_wp2
      go_round
      case rel => exact ⟨k + 1, by omega, by go_num, rfl⟩
      case measure => simp [intOf]; omega
    · obtain rfl : k = len := by omega
      go_wp2
      go_ret
      exact ⟨rfl, rfl⟩
abbrev two (r f : Int) : Value := .tuple #[.int .u8 r, .int .u8 f]
theorem keep2 {w w' : World} {A B : Nat} {u v : Value} (k : Below w.heap.size w w') (h : w.cell? ⟨A, 0, none⟩ = some u ∧ w.cell? ⟨B, 0, none⟩ = some v) :
    w'.cell? ⟨A, 0, none⟩ = some u ∧ w'.cell? ⟨B, 0, none⟩ = some v :=
  ⟨(k.cell (World.block_lt_of_cell? _ _ h.1)).trans h.1, (k.cell (World.block_lt_of_cell? _ _ h.2)).trans h.2⟩
theorem cell_new (w : World) (v : Value) (t : TypeId) : (w.alloc (.cells #[v] t)).cell? ⟨w.heap.size, 0, none⟩ = some v := by
  have e : ∀ o : Obj, (w.alloc o).heap[w.heap.size]? = some o := fun o => by
    show (w.heap.push _)[w.heap.size]? = _
    simp
  simp only [World.cell?, e]; rfl
theorem cell_kept {w w' : World} {p : Addr} {v : Value} (h : w.cell? p = some v) (k : Below w.heap.size w w') : w'.cell? p = some v :=
  (k.cell (World.block_lt_of_cell? _ _ h)).trans h
theorem cell_under (w : World) (o : Obj) {p : Addr} {v : Value} (h : w.cell? p = some v) : (w.alloc o).cell? p = some v :=
  cell_kept h (Below.alloc (Below.refl _ _) (Nat.le_refl _) _)
theorem join_add_fin : ∀ (x : Fin 256) (h v c : Bool), joinUpto [resultM (x.val : Int), whenM h 16, whenM v 4, whenM c 1] 4 = mkM (isM (x.val : Int) 7) ((x.val : Int) == 0) (isM (x.val : Int) 5) h (isM (x.val : Int) 3) v false c := by decide +kernel
theorem join_add (x : Int) (hx : B8 x) (h v c : Bool) : joinUpto [resultM x, whenM h 16, whenM v 4, whenM c 1] 4 = mkM (isM x 7) (x == 0) (isM x 5) h (isM x 3) v false c :=
  byte_all (P := fun x => joinUpto [resultM x, whenM h 16, whenM v 4, whenM c 1] 4 = mkM (isM x 7) (x == 0) (isM x 5) h (isM x 3) v false c) (fun x => join_add_fin x h v c) x hx.1 hx.2
theorem add_math (a b : Int) (c : Bool) (ha : B8 a) (hb : B8 b) :
    joinUpto [resultM (addR a b c), whenM (isM (outM a b c 8) 3) 16, whenM (!isM (outM a b c 8) 6 == isM (outM a b c 8) 7) 4, whenM (isM (outM a b c 8) 7) 1] 4 = addF a b c := by
  obtain ⟨e3, e6, e7⟩ := out_bits a b c
  obtain ⟨n4, n8, n7⟩ := cK_nums a b c ha hb
  change joinUpto [_, _, whenM (isM (outM a b c 8) 6 != isM (outM a b c 8) 7) 4, _] 4 = _
  rw [join_add _ (addR_byte a b c), e3, e6, e7, n7, n4, n8]
  rfl
theorem cells4 (w : World) (t : TypeId) (x0 x1 x2 x3 : Int) (n : Nat × Nat) : ∀ j, j < [x0, x1, x2, x3].length → (w.alloc (.cells #[.int .u8 x0, .int .u8 x1, .int .u8 x2, .int .u8 x3] t n)).cell? ⟨w.heap.size, 0 + j, none⟩ = some (.int .u8 ([x0, x1, x2, x3].getD j 0)) := by
  have e : ∀ o : Obj, (w.alloc o).heap[w.heap.size]? = some o := fun o => by
    show (w.heap.push _)[w.heap.size]? = _
    simp
  intro j hj
  match j, hj with
  | 0, _ => simp only [World.cell?, Nat.zero_add, e]; rfl
  | 1, _ => simp only [World.cell?, Nat.zero_add, e]; rfl
  | 2, _ => simp only [World.cell?, Nat.zero_add, e]; rfl
  | 3, _ => simp only [World.cell?, Nat.zero_add, e]; rfl
theorem cells2 (w : World) (t : TypeId) (x0 x1 : Int) (n : Nat × Nat) : ∀ j, j < [x0, x1].length → (w.alloc (.cells #[.int .u8 x0, .int .u8 x1] t n)).cell? ⟨w.heap.size, 0 + j, none⟩ = some (.int .u8 ([x0, x1].getD j 0)) := by
  have e : ∀ o : Obj, (w.alloc o).heap[w.heap.size]? = some o := fun o => by
    show (w.heap.push _)[w.heap.size]? = _
    simp
  intro j hj
  match j, hj with
  | 0, _ => simp only [World.cell?, Nat.zero_add, e]; rfl
  | 1, _ => simp only [World.cell?, Nat.zero_add, e]; rfl
theorem add_any (a b : Int) (c : Bool) (ha : B8 a) (hb : B8 b) (w : World) :
    Calls Tryz.prog 303 #[.int .u8 a, .int .u8 b, .bool c] w fun e w' => e = .returned (two (addR a b c) (addF a b c)) ∧ Below w.heap.size w w' := by
  have hm := Lib.hid (add_math a b c ha hb)
  have hr := Lib.hid (addR_byte a b c)
  have ho := Lib.hid (outM_byte a b c 8)
  have ha := Lib.hid ha
  have hb := Lib.hid hb
  have a0 := ha.out.1
  have a1 := ha.out.2
  have b0 := hb.out.1
  have b1 := hb.out.2
  go_enter Tryz.func303, Tryz.ntmps303
  go_wp2_with (first
    | (go_at_call 336; refine (when_any _ _ (by omega) (by omega) _).mono ?_; rintro e w' ⟨rfl, rfl⟩)
    | (go_at_call 337; refine (carries_any _ _ _ ha.out hb.out _).mono ?_; rintro e w' ⟨rfl, rfl⟩)
    | (go_at_call 274; refine (is_any _ _ ho.out.1 ho.out.2 _).mono ?_; rintro e w' ⟨rfl, rfl⟩)
    | (go_at_call 322; refine (result_any _ (by omega) (by omega) _).mono ?_; rintro e w' ⟨rfl, rfl⟩)
    | (go_at_call 329; refine (join_any _ 0 4 4 [resultM (addR a b c), whenM (isM (outM a b c 8) 3) 16, whenM (!isM (outM a b c 8) 6 == isM (outM a b c 8) 7) 4, whenM (isM (outM a b c 8) 7) 1] _ (by simp) (by omega) (cells4 _ _ _ _ _ _ _)).mono ?_; rintro e w' ⟨rfl, rfl⟩))
  go_ret2
  exact ⟨by rw [hm.out]; rfl, (by repeat (first | exact Below.refl _ _ | assumption | refine bstep ?_ (by assumption) | refine Below.drew ?_ | refine Below.alloc ?_ (by first | (simp; done) | (simp; omega) | omega) _ | refine Below.setCell ?_ (by first | (simp; done) | (simp; omega) | omega) _))⟩
theorem opAnd_any (x y : Bool) (w : World) :
    Calls Tryz.prog 343 #[.bool x, .bool y] w fun e w' => e = .returned (.bool (andB x y)) ∧ w = w' := by
  cases x
  all_goals
    go_enter Tryz.func343, Tryz.ntmps343
    go_wp2
    go_ret
    exact ⟨rfl, rfl⟩
theorem opOr_any (x y : Bool) (w : World) :
    Calls Tryz.prog 345 #[.bool x, .bool y] w fun e w' => e = .returned (.bool (orB x y)) ∧ w = w' := by
  cases x
  all_goals
    go_enter Tryz.func345, Tryz.ntmps345
    go_wp2
    go_ret
    exact ⟨rfl, rfl⟩
theorem opXor_any (x y : Bool) (w : World) :
    Calls Tryz.prog 344 #[.bool x, .bool y] w fun e w' => e = .returned (.bool (xorB x y)) ∧ w = w' := by
  go_enter Tryz.func344, Tryz.ntmps344
  go_wp2
  go_ret
  exact ⟨rfl, rfl⟩
theorem mergeAnd_any (a b : Int) (ha : B8 a) (hB : B8 b) (w : World) :
    Calls Tryz.prog 342 #[.int .u8 a, .int .u8 b, .func (.func 343) #[] #[]] w fun e w' => e = .returned (.int .u8 (andR a b)) ∧ Below w.heap.size w w' := by
  go_enter Tryz.func342, Tryz.ntmps342
  go_wp2
  refine wp_loop_rounds 9 ?_
  iterate 9 (rw [rounds_succ]; go_wp2_with (first
    | (go_at_call 274; refine (is_any _ _ (B8.lo (by assumption)) (B8.hi (by assumption)) _).mono ?_; rintro e w' ⟨rfl, rfl⟩)
    | (go_at_call 343; refine (opAnd_any _ _ _).mono ?_; rintro e w' ⟨rfl, rfl⟩)
    | (go_at_call 227; refine (with_any _ _ _ (B8.lo (by repeat (first | exact B8.zero | apply B8.with))) (B8.hi (by repeat (first | exact B8.zero | apply B8.with))) _).mono ?_; rintro e w' ⟨rfl, rfl⟩)))
  go_ret
  exact ⟨ret_int (up_mk _ _ _ _ _ _ _ _), (by repeat (first | exact Below.refl _ _ | assumption | refine bstep ?_ (by assumption) | refine Below.drew ?_ | refine Below.alloc ?_ (by first | (simp; done) | (simp; omega) | omega) _ | refine Below.setCell ?_ (by first | (simp; done) | (simp; omega) | omega) _))⟩
theorem mergeOr_any (a b : Int) (ha : B8 a) (hB : B8 b) (w : World) :
    Calls Tryz.prog 342 #[.int .u8 a, .int .u8 b, .func (.func 345) #[] #[]] w fun e w' => e = .returned (.int .u8 (orR a b)) ∧ Below w.heap.size w w' := by
  go_enter Tryz.func342, Tryz.ntmps342
  go_wp2
  refine wp_loop_rounds 9 ?_
  iterate 9 (rw [rounds_succ]; go_wp2_with (first
    | (go_at_call 274; refine (is_any _ _ (B8.lo (by assumption)) (B8.hi (by assumption)) _).mono ?_; rintro e w' ⟨rfl, rfl⟩)
    | (go_at_call 345; refine (opOr_any _ _ _).mono ?_; rintro e w' ⟨rfl, rfl⟩)
    | (go_at_call 227; refine (with_any _ _ _ (B8.lo (by repeat (first | exact B8.zero | apply B8.with))) (B8.hi (by repeat (first | exact B8.zero | apply B8.with))) _).mono ?_; rintro e w' ⟨rfl, rfl⟩)))
  go_ret
  exact ⟨ret_int (up_mk _ _ _ _ _ _ _ _), (by repeat (first | exact Below.refl _ _ | assumption | refine bstep ?_ (by assumption) | refine Below.drew ?_ | refine Below.alloc ?_ (by first | (simp; done) | (simp; omega) | omega) _ | refine Below.setCell ?_ (by first | (simp; done) | (simp; omega) | omega) _))⟩
theorem mergeXor_any (a b : Int) (ha : B8 a) (hB : B8 b) (w : World) :
    Calls Tryz.prog 342 #[.int .u8 a, .int .u8 b, .func (.func 344) #[] #[]] w fun e w' => e = .returned (.int .u8 (xorR a b)) ∧ Below w.heap.size w w' := by
  go_enter Tryz.func342, Tryz.ntmps342
  go_wp2
  refine wp_loop_rounds 9 ?_
  iterate 9 (rw [rounds_succ]; go_wp2_with (first
    | (go_at_call 274; refine (is_any _ _ (B8.lo (by assumption)) (B8.hi (by assumption)) _).mono ?_; rintro e w' ⟨rfl, rfl⟩)
    | (go_at_call 344; refine (opXor_any _ _ _).mono ?_; rintro e w' ⟨rfl, rfl⟩)
    | (go_at_call 227; refine (with_any _ _ _ (B8.lo (by repeat (first | exact B8.zero | apply B8.with))) (B8.hi (by repeat (first | exact B8.zero | apply B8.with))) _).mono ?_; rintro e w' ⟨rfl, rfl⟩)))
  go_ret
  exact ⟨ret_int (up_mk _ _ _ _ _ _ _ _), (by repeat (first | exact Below.refl _ _ | assumption | refine bstep ?_ (by assumption) | refine Below.drew ?_ | refine Below.alloc ?_ (by first | (simp; done) | (simp; omega) | omega) _ | refine Below.setCell ?_ (by first | (simp; done) | (simp; omega) | omega) _))⟩
theorem and_any (a b : Int) (ha : B8 a) (hB : B8 b) (w : World) :
    Calls Tryz.prog 311 #[.int .u8 a, .int .u8 b] w fun e w' => e = .returned (two (andR a b) (andFl (andR a b))) ∧ Below w.heap.size w w' := by
  have hr : B8 (andR a b) := mergeM_byte ..
  have hm := Lib.hid (andFl_all _ hr)
  go_enter Tryz.func311, Tryz.ntmps311
  go_wp2_with (first
    | (go_at_call 342; refine (mergeAnd_any _ _ (by assumption) (by assumption) _).mono ?_; rintro e w' ⟨rfl, hb⟩; have hsz := hb.size)
    | (go_at_call 270; refine (evenF_any _ (B8.lo (by assumption)) (B8.hi (by assumption)) _).mono ?_; rintro e w' ⟨rfl, hb⟩; have hsz := hb.size))
  go_ret2
  exact ⟨by rw [hm.out]; rfl, (by repeat (first | exact Below.refl _ _ | assumption | refine bstep ?_ (by assumption) | refine Below.drew ?_ | refine Below.alloc ?_ (by first | (simp; done) | (simp; omega) | omega) _ | refine Below.setCell ?_ (by first | (simp; done) | (simp; omega) | omega) _))⟩
theorem or_any (a b : Int) (ha : B8 a) (hB : B8 b) (w : World) :
    Calls Tryz.prog 313 #[.int .u8 a, .int .u8 b] w fun e w' => e = .returned (two (orR a b) (evenFM (orR a b))) ∧ Below w.heap.size w w' := by
  have hr : B8 (orR a b) := mergeM_byte ..
  go_enter Tryz.func313, Tryz.ntmps313
  go_wp2_with (first
    | (go_at_call 342; refine (mergeOr_any _ _ (by assumption) (by assumption) _).mono ?_; rintro e w' ⟨rfl, hb⟩; have hsz := hb.size)
    | (go_at_call 270; refine (evenF_any _ (B8.lo (by assumption)) (B8.hi (by assumption)) _).mono ?_; rintro e w' ⟨rfl, hb⟩; have hsz := hb.size))
  go_ret2
  exact ⟨rfl, (by repeat (first | exact Below.refl _ _ | assumption | refine bstep ?_ (by assumption) | refine Below.drew ?_ | refine Below.alloc ?_ (by first | (simp; done) | (simp; omega) | omega) _ | refine Below.setCell ?_ (by first | (simp; done) | (simp; omega) | omega) _))⟩
theorem xor_any (a b : Int) (ha : B8 a) (hB : B8 b) (w : World) :
    Calls Tryz.prog 312 #[.int .u8 a, .int .u8 b] w fun e w' => e = .returned (two (xorR a b) (evenFM (xorR a b))) ∧ Below w.heap.size w w' := by
  have hr : B8 (xorR a b) := mergeM_byte ..
  go_enter Tryz.func312, Tryz.ntmps312
  go_wp2_with (first
    | (go_at_call 342; refine (mergeXor_any _ _ (by assumption) (by assumption) _).mono ?_; rintro e w' ⟨rfl, hb⟩; have hsz := hb.size)
    | (go_at_call 270; refine (evenF_any _ (B8.lo (by assumption)) (B8.hi (by assumption)) _).mono ?_; rintro e w' ⟨rfl, hb⟩; have hsz := hb.size))
  go_ret2
  exact ⟨rfl, (by repeat (first | exact Below.refl _ _ | assumption | refine bstep ?_ (by assumption) | refine Below.drew ?_ | refine Below.alloc ?_ (by first | (simp; done) | (simp; omega) | omega) _ | refine Below.setCell ?_ (by first | (simp; done) | (simp; omega) | omega) _))⟩
theorem lkeep_any (b f : Int) (hb : B8 b) (hf : B8 f) (w : World) :
    Calls Tryz.prog 339 #[.int .u8 b, .int .u8 f] w fun e w' => e = .returned (.int .u8 (keepM (resultM b) f 196)) ∧ w = w' := by
  have hr := resultM_byte b
  go_enter Tryz.func339, Tryz.ntmps339
  go_wp2_with (first
    | (go_at_call 322; refine (result_any _ (B8.lo (by assumption)) (B8.hi (by assumption)) _).mono ?_; rintro e w' ⟨rfl, rfl⟩)
    | (go_at_call 273; refine (keep_any _ _ _ (B8.lo (by assumption)) (B8.hi (by assumption)) (B8.lo (by assumption)) (B8.hi (by assumption)) (by omega) (by omega) _).mono ?_; rintro e w' ⟨rfl, rfl⟩))
  go_ret
  exact ⟨rfl, rfl⟩
theorem lnot8_fin : ∀ x : Fin 256, bits .xor .u8 IntKind.u8.max (x.val : Int) = 255 - (x.val : Int) := by decide +kernel
theorem lnot8 (b : Int) (hb : B8 b) : bits .xor .u8 IntKind.u8.max b = 255 - b :=
  byte_all (P := fun b => bits .xor .u8 IntKind.u8.max b = 255 - b) lnot8_fin b hb.1 hb.2
theorem cpl_any (a f : Int) (ha : B8 a) (hf : B8 f) (w : World) :
    Calls Tryz.prog 305 #[.int .u8 a, .int .u8 f] w fun e w' => e = .returned (two (255 - a) (cplF a f)) ∧ w = w' := by
  have hr : B8 (255 - a) := ⟨by have := ha.2; omega, by have := ha.1; omega⟩
  have hx := lnot8 a ha
  have hm := Lib.hid (cpl_math a f hf)
  go_enter Tryz.func305, Tryz.ntmps305
  go_wp2_with (first
    | (go_at_call 339; refine (lkeep_any _ _ (by assumption) (by assumption) _).mono ?_; rintro e w' ⟨rfl, rfl⟩))
  go_ret2
  exact ⟨by rw [← hm.out]; rfl, rfl⟩
theorem scf_any (a f : Int) (ha : B8 a) (hf : B8 f) (w : World) :
    Calls Tryz.prog 306 #[.int .u8 a, .int .u8 f] w fun e w' => e = .returned (.int .u8 (scfF a f)) ∧ w = w' := by
  have hm := Lib.hid (scf_math a f)
  go_enter Tryz.func306, Tryz.ntmps306
  go_wp2_with (first
    | (go_at_call 339; refine (lkeep_any _ _ (by assumption) (by assumption) _).mono ?_; rintro e w' ⟨rfl, rfl⟩))
  go_ret
  exact ⟨ret_int hm.out, rfl⟩
theorem ccf_any (a f : Int) (ha : B8 a) (hf : B8 f) (w : World) :
    Calls Tryz.prog 307 #[.int .u8 a, .int .u8 f] w fun e w' => e = .returned (.int .u8 (ccfF a f)) ∧ w = w' := by
  have k := low_all f hf
  cases hc : isM f 0
  · have hm := Lib.hid (ccf_no a f hc)
    have k0 : bits .and .u8 f 1 = 0 := by rw [k, hc]; rfl
    clear k hc
    go_enter Tryz.func307, Tryz.ntmps307
    go_wp2_with (first
      | (go_at_call 306; refine (scf_any _ _ (by assumption) (by assumption) _).mono ?_; rintro e w' ⟨rfl, rfl⟩))
    go_ret
    exact ⟨ret_int hm.out, rfl⟩
  · have hm := Lib.hid (ccf_yes a f hc)
    have k0 : bits .and .u8 f 1 = 1 := by rw [k, hc]; rfl
    clear k hc
    go_enter Tryz.func307, Tryz.ntmps307
    go_wp2_with (first
      | (go_at_call 339; refine (lkeep_any _ _ (by assumption) (by assumption) _).mono ?_; rintro e w' ⟨rfl, rfl⟩))
    go_ret
    exact ⟨ret_int hm.out, rfl⟩
section
def Digits (w : World) : Prop := w.cell? ⟨3, 0, none⟩ = some (.int .u8 16) ∧ w.cell? ⟨3, 1, none⟩ = some (.int .u8 15) ∧ w.cell? ⟨3, 2, none⟩ = some (.int .u8 9) ∧ w.cell? ⟨3, 3, none⟩ = some (.int .u8 6) ∧ w.cell? ⟨3, 4, none⟩ = some (.int .u8 1) ∧ w.cell? ⟨3, 5, none⟩ = some (.int .u8 255) ∧ w.cell? ⟨3, 6, none⟩ = some (.int .u8 153) ∧ w.cell? ⟨3, 7, none⟩ = some (.int .u8 96)
theorem Digits.below {w w' : World} (h : Digits w) (k : Below w.heap.size w w') : Digits w' := by
  obtain ⟨h0, h1, h2, h3, h4, h5, h6, h7⟩ := h
  exact ⟨(k.cell (World.block_lt_of_cell? _ _ h0)).trans h0, (k.cell (World.block_lt_of_cell? _ _ h1)).trans h1, (k.cell (World.block_lt_of_cell? _ _ h2)).trans h2, (k.cell (World.block_lt_of_cell? _ _ h3)).trans h3, (k.cell (World.block_lt_of_cell? _ _ h4)).trans h4, (k.cell (World.block_lt_of_cell? _ _ h5)).trans h5, (k.cell (World.block_lt_of_cell? _ _ h6)).trans h6, (k.cell (World.block_lt_of_cell? _ _ h7)).trans h7⟩
theorem run_index_row {P : Program} {t e : TypeId} {n m : Nat} {fs : Array Field} {cs : Array Value} {k : IntKind} {i : Int} {w : World} (h : P.underlying t = some (.array n e)) (he : P.underlying e = some (.struct fs)) (hs : (sizeOf e).run P w = .ok m w) (hi : 0 ≤ i ∧ i < n) :
    (Instr.index t (.agg cs) (.int k i)).run P w = .ok (.agg (cs.extract (i.toNat * m) (i.toNat * m + m))) w := by
  simp [Instr.index, asIntOf, run_underlying h, hi, hs, part, isAgg, run_underlying he]
theorem ixd_0 (a0 a1 a2 a3 a4 a5 a6 a7 : Value) (w : World) : (Instr.index 246 (.agg #[a0, a1, a2, a3, a4, a5, a6, a7]) (.int .i64 0)).run Tryz.prog w = .ok (.agg #[a0, a1, a2, a3]) w :=
  run_index_row (m := 4) Tryz.underlying246 Tryz.underlying245 (by kernel_rfl) (by decide)
theorem ixd_1 (a0 a1 a2 a3 a4 a5 a6 a7 : Value) (w : World) : (Instr.index 246 (.agg #[a0, a1, a2, a3, a4, a5, a6, a7]) (.int .i64 1)).run Tryz.prog w = .ok (.agg #[a4, a5, a6, a7]) w :=
  run_index_row (m := 4) Tryz.underlying246 Tryz.underlying245 (by kernel_rfl) (by decide)
attribute [local go_sem ↓] ixd_0 ixd_1
theorem flag_fin : ∀ x : Fin 256, bits .and .u8 (x.val : Int) 16 = (if isM (x.val : Int) 4 then 16 else 0) ∧ bits .and .u8 (x.val : Int) 1 = (if isM (x.val : Int) 0 then 1 else 0) ∧ bits .and .u8 (x.val : Int) 15 = (x.val : Int) % 16 ∧ bits .and .u8 (x.val : Int) 255 = (x.val : Int) ∧ bits .and .u8 (x.val : Int) 2 = (if isM (x.val : Int) 1 then 2 else 0) := by decide +kernel
theorem flag_all (f : Int) (h : B8 f) : bits .and .u8 f 16 = (if isM f 4 then 16 else 0) ∧ bits .and .u8 f 1 = (if isM f 0 then 1 else 0) ∧ bits .and .u8 f 15 = f % 16 ∧ bits .and .u8 f 255 = f ∧ bits .and .u8 f 2 = (if isM f 1 then 2 else 0) :=
  byte_all (P := fun f => bits .and .u8 f 16 = (if isM f 4 then 16 else 0) ∧ bits .and .u8 f 1 = (if isM f 0 then 1 else 0) ∧ bits .and .u8 f 15 = f % 16 ∧ bits .and .u8 f 255 = f ∧ bits .and .u8 f 2 = (if isM f 1 then 2 else 0)) flag_fin f h.1 h.2
def wrongM (a f : Int) : Int := (if wrongLow a f then 16 else 0) + (if wrongHigh a f then 1 else 0)
theorem or_17 : bits .or .u8 0 16 = 16 ∧ bits .or .u8 16 1 = 17 ∧ bits .or .u8 0 1 = 1 := by decide +kernel
theorem correct_any (a f : Int) (ha : B8 a) (hf : B8 f) (w : World) (hd : Digits w) :
    Calls Tryz.prog 338 #[.int .u8 a, .int .u8 f] w fun e w' => e = .returned (two (byM a f) (wrongM a f)) ∧ Below w.heap.size w w' := by
  obtain ⟨d0, d1, d2, d3, d4, d5, d6, d7⟩ := hd
  obtain ⟨k1, k2, _, _, _⟩ := flag_all f hf
  obtain ⟨_, _, k3, k4, _⟩ := flag_all a ha
  obtain ⟨o1, o2, o3⟩ := or_17
  have a0 := ha.1
  have a1 := ha.2
  by_cases c2 : 9 < a % 16 <;> by_cases c4 : 153 < a <;> cases c1 : isM f 4 <;> cases c3 : isM f 0
  all_goals
    rw [c1] at k1
    rw [c3] at k2
    simp only [if_true, if_false, Bool.false_eq_true] at k1 k2
    have hb : byM a f = (if isM f 4 || decide (9 < a % 16) then 6 else 0) + (if isM f 0 || decide (153 < a) then 96 else 0) := rfl
    have hw : wrongM a f = (if isM f 4 || decide (9 < a % 16) then 16 else 0) + (if isM f 0 || decide (153 < a) then 1 else 0) := rfl
    first | rw [c1, c3, decide_eq_true c2, decide_eq_true c4] at hb hw | rw [c1, c3, decide_eq_true c2, decide_eq_false c4] at hb hw | rw [c1, c3, decide_eq_false c2, decide_eq_true c4] at hb hw | rw [c1, c3, decide_eq_false c2, decide_eq_false c4] at hb hw
    have hb := Lib.hid hb
    have hw := Lib.hid hw
    clear c1 c3
    go_enter Tryz.func338, Tryz.ntmps338
    go_wp2
    refine wp_loop_rounds 3 ?_
    iterate 3 (rw [rounds_succ]; go_wp2)
    go_ret2
    exact ⟨by rw [hb.out, hw.out]; rfl, (by repeat (first | exact Below.refl _ _ | assumption | refine bstep ?_ (by assumption) | refine Below.drew ?_ | refine Below.alloc ?_ (by first | (simp; done) | (simp; omega) | omega) _ | refine Below.setCell ?_ (by first | (simp; done) | (simp; omega) | omega) _))⟩
theorem daa_bits : ∀ b0 b1 b2 b4 b5 n h c : Bool, bits .or .u8 (bits .or .u8 (bits .or .u8 (mkM b0 b1 b2 false b4 b5 false false) (if n then 2 else 0)) (if h then 16 else 0)) (if c then 1 else 0) = mkM b0 b1 b2 h b4 b5 n c := by decide +kernel
theorem wrong_low (a f : Int) : bits .and .u8 (wrongM a f) 1 = if wrongHigh a f then 1 else 0 := by
  unfold wrongM
  generalize wrongLow a f = x
  generalize wrongHigh a f = y
  revert x y
  decide +kernel
theorem daa_math (a f : Int) (ha : B8 a) (hf : B8 f) :
    bits .or .u8 (bits .or .u8 (bits .or .u8 (evenFM (daaR a f)) (bits .and .u8 f 2)) (bits .and .u8 (bits .xor .u8 a (daaR a f)) 16)) (bits .and .u8 (wrongM a f) 1) = daaF a f := by
  have hr := daaR_byte a f
  have hx := xor_byte a (daaR a f) ha.1 ha.2 hr.1 hr.2
  rw [(flag_all f hf).2.2.2.2, (flag_all _ hx).1, wrong_low]
  have i := isM_xor a (daaR a f) 4 (by omega) ha.1 ha.2 hr.1 hr.2
  rw [show isM (bits .xor .u8 a (daaR a f)) 4 = (isM a 4 != isM (daaR a f) 4) from by simpa using i]
  exact daa_bits _ _ _ _ _ _ _ _
theorem daa_any (a f : Int) (ha : B8 a) (hf : B8 f) (w : World) (hd : Digits w) :
    Calls Tryz.prog 304 #[.int .u8 a, .int .u8 f] w fun e w' => e = .returned (two (daaR a f) (daaF a f)) ∧ Below w.heap.size w w' := by
  have hm := daa_math a f ha hf
  have hr := daaR_byte a f
  have hy := byM_byte a f
  have k := (flag_all f hf).2.2.2.2
  have a0 := ha.1
  have a1 := ha.2
  cases c : isM f 1
  · have e : daaR a f = (a + byM a f) % 256 := by unfold daaR; rw [c]; rfl
    rw [c] at k
    simp only [if_false, Bool.false_eq_true] at k
    rw [k, e] at hm
    rw [e] at hr ⊢
    have hm := Lib.hid hm
    clear e c
    go_enter Tryz.func304, Tryz.ntmps304
    go_wp2_with (first
      | (go_at_call 338; refine (correct_any _ _ (by assumption) (by assumption) _ hd).mono ?_; rintro e w' ⟨rfl, hb⟩; have hsz := hb.size)
      | (go_at_call 270; refine (evenF_any _ (B8.lo (by assumption)) (B8.hi (by assumption)) _).mono ?_; rintro e w' ⟨rfl, hb⟩; have hsz := hb.size))
    go_ret2
    exact ⟨by rw [← hm.out]; rfl, (by repeat (first | exact Below.refl _ _ | assumption | refine bstep ?_ (by assumption) | refine Below.drew ?_ | refine Below.alloc ?_ (by first | (simp; done) | (simp; omega) | omega) _ | refine Below.setCell ?_ (by first | (simp; done) | (simp; omega) | omega) _))⟩
  · have e : daaR a f = (a - byM a f) % 256 := by unfold daaR; rw [c]; rfl
    rw [c] at k
    simp only [if_true] at k
    rw [k, e] at hm
    rw [e] at hr ⊢
    have hm := Lib.hid hm
    clear e c
    go_enter Tryz.func304, Tryz.ntmps304
    go_wp2_with (first
      | (go_at_call 338; refine (correct_any _ _ (by assumption) (by assumption) _ hd).mono ?_; rintro e w' ⟨rfl, hb⟩; have hsz := hb.size)
      | (go_at_call 270; refine (evenF_any _ (B8.lo (by assumption)) (B8.hi (by assumption)) _).mono ?_; rintro e w' ⟨rfl, hb⟩; have hsz := hb.size))
    go_ret2
    exact ⟨by rw [← hm.out]; rfl, (by repeat (first | exact Below.refl _ _ | assumption | refine bstep ?_ (by assumption) | refine Below.drew ?_ | refine Below.alloc ?_ (by first | (simp; done) | (simp; omega) | omega) _ | refine Below.setCell ?_ (by first | (simp; done) | (simp; omega) | omega) _))⟩
end
theorem setBlock_top (W : World) (o o' : Obj) : ({ W.alloc o with heap := (W.alloc o).heap.setIfInBounds W.heap.size o' } : World) = W.alloc o' := by
  have e : (W.heap.push o).setIfInBounds W.heap.size o' = W.heap.push o' := by
    apply Array.ext
    · simp
    · intro i h1 h2
      simp at h1 h2
      by_cases hi : i = W.heap.size
      · subst hi; simp
      · rw [Array.getElem_setIfInBounds, Array.getElem_push_lt (by omega), Array.getElem_push_lt (by omega), if_neg (by omega)]
        simpa using h1
  show ({ W with heap := (W.heap.push o).setIfInBounds W.heap.size o' } : World) = { W with heap := W.heap.push o' }
  rw [e]
theorem run_insert_top {P : Program} (W : World) (t kt et : TypeId) (ht : P.underlying t = some (.map kt et)) (hk : P.underlying kt = some (.int .i64)) (es : List MapEntry) (clock : Nat) (n : Int) (val : Value) (b : Nat)
    (hb : b = W.heap.size) (hnew : Instr.findNow (.int .i64) (.int .i64 n) es 0 = some none) :
    (Instr.mapUpdate t (.map (some b)) (.int .i64 n) val).run P (W.alloc (.map es.toArray clock)) = .ok () (W.alloc (.map (es ++ [({ key := .int .i64 n, val := val, born := clock } : MapEntry)]).toArray (clock + 1))) := by
  subst hb
  have hb := (MapKept.heap_alloc W (.map es.toArray clock)).1
  simp [Instr.mapUpdate, run_underlying ht, MapKept.run_getObj_map hb, MapKept.run_checkKey hk (k := .int .i64 n) (by simp [MapKept.IsKey]) false 9999, MapKept.run_findKey hk hnew, MapKept.run_setObj_map _ hb, Result.andThen]
  exact setBlock_top W _ _
theorem run_look {P : Program} {W : World} {t kt et : TypeId} (ht : P.underlying t = some (.map kt et)) (hk : P.underlying kt = some (.int .i64)) {es : Array MapEntry} {clock M : Nat} (hb : W.heap[M]? = some (.map es clock)) {n : Int} {j : Nat} {v : Value}
    (hf : Instr.findNow (.int .i64) (.int .i64 n) es.toList 0 = some (some (j, v))) : (Instr.lookup t (.map (some M)) (.int .i64 n) true).run P W = .ok (.tuple #[v, .bool true]) W := by
  simp [Instr.lookup, run_underlying ht, MapKept.run_getObj_map hb, MapKept.run_checkKey hk (k := .int .i64 n) (by simp [MapKept.IsKey]) _ 9999, MapKept.run_findKey hk hf, Result.andThen]
theorem run_look_no {P : Program} {W : World} {t kt et : TypeId} (ht : P.underlying t = some (.map kt et)) (hk : P.underlying kt = some (.int .i64)) {es : Array MapEntry} {clock M : Nat} (hb : W.heap[M]? = some (.map es clock)) {n : Int} {z : Value}
    (hf : Instr.findNow (.int .i64) (.int .i64 n) es.toList 0 = some none) (hz : (zeroValue et).run P W = .ok z W) : (Instr.lookup t (.map (some M)) (.int .i64 n) true).run P W = .ok (.tuple #[z, .bool false]) W := by
  simp [Instr.lookup, run_underlying ht, MapKept.run_getObj_map hb, MapKept.run_checkKey hk (k := .int .i64 n) (by simp [MapKept.IsKey]) _ 9999, MapKept.run_findKey hk hf, hz, Result.andThen]
end Go.Proofs.YtkgaeamdhhceiaaGreatDoor
