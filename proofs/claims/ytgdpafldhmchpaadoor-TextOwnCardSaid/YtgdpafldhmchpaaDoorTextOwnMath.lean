/- Layer 9 (text): the texts of the plane Plain differ from one another, those through IX and IY differ in one letter alone. Nothing of the program. -/
import Derived.Test.YtgdpafldhmchpaaDoorTextMath
namespace Go.Proofs.YtgdpafldhmchpaaDoor
set_option linter.unusedVariables false

/-- signs; 300: any digit of 16; 301: anything from here on -/
def patOf (l : List Nat) : List Nat := l.flatMap fun k => if k = 256 then [300, 300, 104] else if k = 257 then [300, 300, 300, 300, 104] else if k = 258 then [36, 301] else [k]
def hexD (n : Nat) : Bool := (48 ≤ n && n ≤ 57) || (97 ≤ n && n ≤ 102)
def okAt (k : Nat) (b : UInt8) : Bool := if k = 300 then hexD b.toNat else k == b.toNat
def fits : List Nat → List UInt8 → Bool
  | [], bs => bs.isEmpty
  | k :: l, bs => if k = 301 then true else match bs with
    | [] => false
    | b :: bs => okAt k b && fits l bs
/-- no sign serves both -/
def clash (k j : Nat) : Bool := if k = 300 then (if j = 300 then false else !hexD j) else if j = 300 then !hexD k else !(k == j)
/-- no text fits both -/
def parted : List Nat → List Nat → Bool
  | [], [] => false
  | [], j :: m => if j = 301 then false else true
  | k :: l, [] => if k = 301 then false else true
  | k :: l, j :: m => if k = 301 then false else if j = 301 then false else clash k j || parted l m
theorem clash_ok {k j : Nat} {b : UInt8} (h : clash k j = true) (h1 : okAt k b = true) (h2 : okAt j b = true) : False := by
  unfold clash at h
  unfold okAt at h1 h2
  split at h
  · rename_i hk
    rw [if_pos hk] at h1
    split at h
    · cases h
    · rename_i hj
      rw [if_neg hj] at h2
      have : j = b.toNat := by simpa using h2
      rw [this, h1] at h
      cases h
  · rename_i hk
    rw [if_neg hk] at h1
    have e1 : k = b.toNat := by simpa using h1
    split at h
    · rename_i hj
      rw [if_pos hj] at h2
      rw [e1, h2] at h
      cases h
    · rename_i hj
      rw [if_neg hj] at h2
      have e2 : j = b.toNat := by simpa using h2
      simp [e1, e2] at h
theorem parted_ok : ∀ (l m : List Nat) (bs : List UInt8), parted l m = true → fits l bs = true → fits m bs = true → False
  | [], [], _, h, _, _ => by cases h
  | [], j :: m, bs, h, h1, h2 => by
    unfold parted at h
    split at h
    · cases h
    · rename_i hj
      have e : bs = [] := by simpa [fits] using h1
      subst e
      simp [fits, hj] at h2
  | k :: l, [], bs, h, h1, h2 => by
    unfold parted at h
    split at h
    · cases h
    · rename_i hk
      have e : bs = [] := by simpa [fits] using h2
      subst e
      simp [fits, hk] at h1
  | k :: l, j :: m, bs, h, h1, h2 => by
    unfold parted at h
    split at h
    · cases h
    · rename_i hk
      split at h
      · cases h
      · rename_i hj
        cases bs with
        | nil => simp [fits, hk] at h1
        | cons b bs =>
          simp only [fits, if_neg hk, Bool.and_eq_true] at h1
          simp only [fits, if_neg hj, Bool.and_eq_true] at h2
          rw [Bool.or_eq_true] at h
          rcases h with h | h
          · exact clash_ok h h1.1 h2.1
          · exact parted_ok l m bs h h1.2 h2.2
theorem fits_app : ∀ (a b : List Nat) (x y : List UInt8), fits a x = true → fits b y = true → fits (a ++ b) (x ++ y) = true
  | [], b, x, y, h1, h2 => by
    have e : x = [] := by simpa [fits] using h1
    subst e
    exact h2
  | k :: a, b, x, y, h1, h2 => by
    show fits (k :: (a ++ b)) (x ++ y) = true
    by_cases hk : k = 301
    · simp [fits, hk]
    · cases x with
      | nil => simp [fits, hk] at h1
      | cons c x =>
        simp only [fits, if_neg hk, Bool.and_eq_true] at h1
        show fits (k :: (a ++ b)) (c :: (x ++ y)) = true
        simp only [fits, if_neg hk, Bool.and_eq_true]
        exact ⟨h1.1, fits_app a b x y h1.2 h2⟩
theorem dg_fin : ∀ k : Fin 16, okAt 300 (dg (k.val : Int)) = true := by decide +kernel
theorem dg_ok (k : Int) (h0 : 0 ≤ k) (h1 : k < 16) : okAt 300 (dg k) = true := by
  have := dg_fin ⟨k.toNat, by omega⟩
  rwa [show (((⟨k.toNat, by omega⟩ : Fin 16).val : Nat) : Int) = k by show (k.toNat : Int) = k; omega] at this
theorem fits_tok (p d m : Int) (hm : 0 ≤ m ∧ m ≤ 65535) (k : Nat) (hk : k < 259) : fits (if k = 256 then [300, 300, 104] else if k = 257 then [300, 300, 300, 300, 104] else if k = 258 then [36, 301] else [k]) (tok p d m k) = true := by
  unfold tok
  by_cases h1 : k = 256
  · rw [if_pos h1, if_pos h1]
    simp only [hex2, fits, if_neg (show ¬ (300 = 301) by omega), if_neg (show ¬ (104 = 301) by omega), Bool.and_eq_true]
    exact ⟨dg_ok _ (by omega) (by omega), dg_ok _ (by omega) (by omega), by decide, rfl⟩
  rw [if_neg h1, if_neg h1]
  by_cases h2 : k = 257
  · rw [if_pos h2, if_pos h2]
    simp only [hex4, fits, if_neg (show ¬ (300 = 301) by omega), if_neg (show ¬ (104 = 301) by omega), Bool.and_eq_true]
    exact ⟨dg_ok _ (by omega) (by omega), dg_ok _ (by omega) (by omega), dg_ok _ (by omega) (by omega), dg_ok _ (by omega) (by omega), by decide, rfl⟩
  rw [if_neg h2, if_neg h2]
  by_cases h3 : k = 258
  · rw [if_pos h3, if_pos h3]
    simp [toL, fits, okAt]
  rw [if_neg h3, if_neg h3, if_neg (by omega)]
  simp only [fits, if_neg (show ¬ k = 301 by omega), Bool.and_eq_true]
  refine ⟨?_, rfl⟩
  unfold okAt
  rw [if_neg (by omega)]
  simp only [UInt8.toNat_ofNat']
  rw [Nat.mod_eq_of_lt (by omega)]
  simp
theorem fits_say (p d m : Int) (hm : 0 ≤ m ∧ m ≤ 65535) (l : List Nat) (hl : ∀ k ∈ l, k < 259) : fits (patOf l) (say p d m l) = true := by
  induction l with
  | nil => rfl
  | cons k l ih =>
    have e : patOf (k :: l) = (if k = 256 then [300, 300, 104] else if k = 257 then [300, 300, 300, 300, 104] else if k = 258 then [36, 301] else [k]) ++ patOf l := by simp [patOf]
    rw [e, say_cons]
    exact fits_app _ _ _ _ (fits_tok p d m hm k (hl k (by simp))) (ih fun x hx => hl x (by simp [hx]))
/-- the codes that are prefixes -/
def pre4 (c : Nat) : Bool := c == 203 || c == 221 || c == 237 || c == 253
def ownL : List (List Nat) := (List.range 256).map fun (c : Nat) => patOf (showT 0 (c : Int))
/-- each differs from all that stand ahead of it -/
def allApart : List (Nat × List Nat) → List (List Nat) → Bool
  | [], _ => true
  | a :: l, seen => (pre4 a.1 || seen.all (fun s => parted a.2 s)) && allApart l (if pre4 a.1 then seen else a.2 :: seen)
theorem own_lt : ∀ c : Fin 256, (showT 0 (c.val : Int)).all (fun k => decide (k < 259)) = true := by decide +kernel
theorem own_ne : ∀ p : Fin 7, ∀ c : Fin 256, (showT (p.val : Int) (c.val : Int)).isEmpty = false := by decide +kernel
set_option maxRecDepth 100000 in
theorem own_chk : allApart ((List.range 256).zip ownL) [] = true := by decide +kernel
theorem apart_of : ∀ (l : List (Nat × List Nat)) (seen : List (List Nat)), allApart l seen = true → ∀ i (hi : i < l.length), pre4 l[i].1 = false →
    (∀ s ∈ seen, parted l[i].2 s = true) ∧ ∀ j (hj : j < i), pre4 (l[j]'(by omega)).1 = false → parted l[i].2 (l[j]'(by omega)).2 = true
  | [], _, _, i, hi, _ => by simp at hi
  | a :: l, seen, h, i, hi, hp => by
    unfold allApart at h
    rw [Bool.and_eq_true] at h
    obtain ⟨h1, h2⟩ := h
    cases i with
    | zero =>
      refine ⟨fun s hs => ?_, fun j hj => absurd hj (by omega)⟩
      simp only [List.getElem_cons_zero] at hp ⊢
      rw [hp, Bool.false_or] at h1
      exact List.all_eq_true.1 h1 s hs
    | succ i =>
      have hi' : i < l.length := by simpa using hi
      have ih := apart_of l _ h2 i hi' (by simpa using hp)
      simp only [List.getElem_cons_succ]
      refine ⟨fun s hs => ih.1 s ?_, fun j hj hq => ?_⟩
      · split
        · exact hs
        · exact List.mem_cons_of_mem _ hs
      · cases j with
        | zero =>
          simp only [List.getElem_cons_zero] at hq ⊢
          refine ih.1 _ ?_
          rw [hq]
          simp
        | succ j =>
          simp only [List.getElem_cons_succ] at hq ⊢
          exact ih.2 j (by omega) hq
theorem own_parted (c e : Nat) (hc : c < 256) (he : e < c) (h1 : pre4 c = false) (h2 : pre4 e = false) : parted (patOf (showT 0 (c : Int))) (patOf (showT 0 (e : Int))) = true := by
  have hl : ((List.range 256).zip ownL).length = 256 := by simp [ownL]
  have g : ∀ k (hk : k < ((List.range 256).zip ownL).length), ((List.range 256).zip ownL)[k] = (k, patOf (showT 0 (k : Int))) := fun k hk => by
    rw [List.getElem_zip]
    simp [ownL]
  have := (apart_of _ _ own_chk c (by omega) (by rw [g]; exact h1)).2 e he (by rw [g]; exact h2)
  rwa [g, g] at this
theorem own_tok (c : Nat) (hc : c < 256) : ∀ k ∈ showT 0 (c : Int), k < 259 := fun k hk => by
  have := List.all_eq_true.1 (own_lt ⟨c, hc⟩) k hk
  simpa using this
theorem own_differ (d m : Int) (hm : 0 ≤ m ∧ m ≤ 65535) (c e : Nat) (hc : c < 256) (he : e < c) (h1 : pre4 c = false) (h2 : pre4 e = false) : say 0 d m (showT 0 (e : Int)) ≠ say 0 d m (showT 0 (c : Int)) := by
  intro h
  have f1 := fits_say 0 d m hm _ (own_tok c hc)
  have f2 := fits_say 0 d m hm _ (own_tok e (by omega))
  rw [h] at f2
  exact parted_ok _ _ _ (own_parted c e hc he h1 h2) f1 f2
theorem tok_ne (p d m : Int) (k : Nat) : tok p d m k ≠ [] := by
  unfold tok
  split
  · simp [hex2]
  split
  · simp [hex4]
  split
  · simp [toL]
  split
  · simp [indexL]
  · simp
theorem show_ne (p c d m : Int) (hp : 0 ≤ p ∧ p ≤ 6) (hc : B8 c) : say p d m (showT p c) ≠ [] := by
  have h := own_ne ⟨p.toNat, by omega⟩ ⟨c.toNat, by have := hc.1; have := hc.2; omega⟩
  simp only at h
  rw [show ((p.toNat : Nat) : Int) = p by omega, show ((c.toNat : Nat) : Int) = c by have := hc.1; omega] at h
  cases e : showT p c with
  | nil => rw [e] at h; cases h
  | cons k l =>
    rw [say_cons]
    intro h2
    exact tok_ne p d m k (List.append_eq_nil_iff.1 h2).1
/-- the same signs, but for an x in place of which a y stands -/
def xy : List Nat → List Nat → Bool
  | [], [] => true
  | k :: l, j :: m => (k == j || (k == 120 && j == 121)) && xy l m
  | _, _ => false
theorem xy_fin : ∀ c : Fin 256, xy (showT 3 (c.val : Int)) (showT 4 (c.val : Int)) = true := by decide +kernel
def Alike : List UInt8 → List UInt8 → Prop
  | [], [] => True
  | x :: a, y :: b => (x = y ∨ (x = 120 ∧ y = 121)) ∧ Alike a b
  | _, _ => False
theorem Alike.refl : ∀ a, Alike a a
  | [] => trivial
  | x :: a => ⟨.inl rfl, Alike.refl a⟩
theorem Alike.app {c d : List UInt8} (k : Alike c d) : ∀ {a b : List UInt8} (h : Alike a b), Alike (a ++ c) (b ++ d)
  | [], [], _ => k
  | x :: a, y :: b, h => ⟨h.1, Alike.app k (a := a) (b := b) h.2⟩
  | [], y :: b, h => h.elim
  | x :: a, [], h => h.elim
theorem tok_same (d m : Int) (k : Nat) : Alike (tok 3 d m k) (tok 4 d m k) := by
  unfold tok
  split
  · exact Alike.refl _
  split
  · exact Alike.refl _
  split
  · exact Alike.refl _
  split
  · unfold indexL
    exact Alike.app (Alike.refl _) (a := [40, 105, UInt8.ofNat (ixC 3)]) (b := [40, 105, UInt8.ofNat (ixC 4)]) ⟨.inl rfl, .inl rfl, .inr ⟨rfl, rfl⟩, trivial⟩
  · exact Alike.refl _
theorem say_alike (d m : Int) : ∀ a b, xy a b = true → Alike (say 3 d m a) (say 4 d m b)
  | [], [], _ => trivial
  | k :: a, j :: b, h => by
    unfold xy at h
    simp only [Bool.and_eq_true, Bool.or_eq_true, beq_iff_eq] at h
    obtain ⟨h1, h2⟩ := h
    rw [say_cons, say_cons]
    refine Alike.app (say_alike d m a b h2) ?_
    rcases h1 with rfl | ⟨rfl, rfl⟩
    · exact tok_same d m k
    · exact ⟨.inr ⟨rfl, rfl⟩, trivial⟩
  | [], j :: b, h => by cases h
  | k :: a, [], h => by cases h
theorem show_alike (c d m : Int) (hc : B8 c) : Alike (say 3 d m (showT 3 c)) (say 4 d m (showT 4 c)) :=
  say_alike d m _ _ (byte_all (P := fun c => xy (showT 3 c) (showT 4 c) = true) xy_fin c hc.1 hc.2)
theorem Alike.len : ∀ {a b : List UInt8} (h : Alike a b), a.length = b.length
  | [], [], _ => rfl
  | x :: a, y :: b, h => by rw [List.length_cons, List.length_cons, Alike.len (a := a) (b := b) h.2]
  | [], y :: b, h => h.elim
  | x :: a, [], h => h.elim
theorem Alike.at_ : ∀ {a b : List UInt8} (h : Alike a b) (i : Nat) (h1 : i < a.length) (h2 : i < b.length), a[i] = b[i] ∨ (a[i] = 120 ∧ b[i] = 121)
  | [], _, _, i, h1, _ => by simp at h1
  | x :: a, y :: b, h, 0, _, _ => h.1
  | x :: a, y :: b, h, i + 1, h1, h2 => Alike.at_ (a := a) (b := b) h.2 i (by simpa using h1) (by simpa using h2)
  | x :: a, [], h, _, _, _ => h.elim
end Go.Proofs.YtgdpafldhmchpaaDoor
