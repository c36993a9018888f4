/- Layer 14 (cells): memories as lists of cells, sorted by their addresses. Nothing of the program. -/
import Derived.Maps.RangeWalk
import Derived.KernelRfl
namespace Go.Proofs.Ytahnejcfengljaa
open Go.RowKit
set_option linter.unusedVariables false
set_option linter.unusedSimpArgs false

/-- the byte at an address: the last cell counts -/
def getC (l : List (Int × Int)) (a : Int) : Int := l.foldl (fun b c => if c.1 = a then c.2 else b) 0
def insS (x : Int × Int) : List (Int × Int) → List (Int × Int)
  | [] => [x]
  | y :: r => if x.1 < y.1 then x :: y :: r else y :: insS x r
def delS (a : Int) (m : List (Int × Int)) : List (Int × Int) := m.filter fun p => !decide (p.1 = a)
def putS (a b : Int) (m : List (Int × Int)) : List (Int × Int) := insS (a, b) (delS a m)
def stepS (m : List (Int × Int)) (c : Int × Int) : List (Int × Int) := if c.2 = 0 then delS c.1 m else putS c.1 c.2 m
/-- the memory of any cells -/
def mkS (l : List (Int × Int)) : List (Int × Int) := l.foldl stepS []
def Srt (m : List (Int × Int)) : Prop := m.Pairwise fun x y => x.1 < y.1
/-- cells as Go has them -/
def Cells16 (l : List (Int × Int)) : Prop := ∀ c ∈ l, 0 ≤ c.1 ∧ c.1 ≤ 65535 ∧ 0 ≤ c.2 ∧ c.2 ≤ 255
def NoZero (m : List (Int × Int)) : Prop := ∀ c ∈ m, c.2 ≠ 0

theorem mem_insS {x p : Int × Int} : ∀ {m : List (Int × Int)}, p ∈ insS x m ↔ p = x ∨ p ∈ m
  | [] => by simp [insS]
  | y :: r => by
    unfold insS
    split
    · simp
    · simp only [List.mem_cons, mem_insS (m := r)]
      constructor
      · rintro (h | h | h)
        · exact .inr (.inl h)
        · exact .inl h
        · exact .inr (.inr h)
      · rintro (h | h | h)
        · exact .inr (.inl h)
        · exact .inl h
        · exact .inr (.inr h)
theorem mem_delS {a : Int} {m : List (Int × Int)} {p : Int × Int} : p ∈ delS a m ↔ p ∈ m ∧ p.1 ≠ a := by
  unfold delS
  rw [List.mem_filter]
  simp
theorem mem_putS {a b : Int} {m : List (Int × Int)} {p : Int × Int} : p ∈ putS a b m ↔ p = (a, b) ∨ (p ∈ m ∧ p.1 ≠ a) := by
  unfold putS
  rw [mem_insS, mem_delS]
theorem srt_insS {x : Int × Int} : ∀ {m : List (Int × Int)}, Srt m → (∀ p ∈ m, p.1 ≠ x.1) → Srt (insS x m)
  | [], _, _ => by simp [insS, Srt]
  | y :: r, h, hn => by
    obtain ⟨h1, h2⟩ := List.pairwise_cons.1 h
    unfold insS
    split
    · rename_i hb
      refine List.pairwise_cons.2 ⟨fun q hq => ?_, h⟩
      rcases List.mem_cons.1 hq with rfl | hq
      · exact hb
      · exact Int.lt_trans hb (h1 q hq)
    · rename_i hb
      have hyx : y.1 < x.1 := by have := hn y (by simp); omega
      refine List.pairwise_cons.2 ⟨fun q hq => ?_, srt_insS h2 fun p hp => hn p (by simp [hp])⟩
      rcases mem_insS.1 hq with rfl | hq
      · exact hyx
      · exact h1 q hq
theorem srt_delS {a : Int} {m : List (Int × Int)} (h : Srt m) : Srt (delS a m) := h.filter _
theorem srt_putS {a b : Int} {m : List (Int × Int)} (h : Srt m) : Srt (putS a b m) := srt_insS (srt_delS h) fun p hp => (mem_delS.1 hp).2
theorem srt_stepS {m : List (Int × Int)} (h : Srt m) (c : Int × Int) : Srt (stepS m c) := by
  unfold stepS
  split
  · exact srt_delS h
  · exact srt_putS h
theorem srt_foldl : ∀ (l : List (Int × Int)) {m : List (Int × Int)}, Srt m → Srt (l.foldl stepS m)
  | [], _, h => h
  | c :: r, _, h => srt_foldl r (srt_stepS h c)
theorem srt_mkS (l : List (Int × Int)) : Srt (mkS l) := srt_foldl l List.Pairwise.nil
theorem nz_stepS {m : List (Int × Int)} (h : NoZero m) (c : Int × Int) : NoZero (stepS m c) := by
  unfold stepS
  split
  · exact fun p hp => h p (mem_delS.1 hp).1
  · rename_i hc
    intro p hp
    rcases mem_putS.1 hp with rfl | hp
    · exact hc
    · exact h p hp.1
theorem nz_foldl : ∀ (l : List (Int × Int)) {m : List (Int × Int)}, NoZero m → NoZero (l.foldl stepS m)
  | [], _, h => h
  | c :: r, _, h => nz_foldl r (nz_stepS h c)
theorem nz_mkS (l : List (Int × Int)) : NoZero (mkS l) := nz_foldl l fun _ h => by cases h
theorem c16_step {m : List (Int × Int)} (h : Cells16 m) {c : Int × Int} (hc : 0 ≤ c.1 ∧ c.1 ≤ 65535 ∧ 0 ≤ c.2 ∧ c.2 ≤ 255) : Cells16 (stepS m c) := by
  unfold stepS
  split
  · exact fun p hp => h p (mem_delS.1 hp).1
  · intro p hp
    rcases mem_putS.1 hp with rfl | hp
    · exact hc
    · exact h p hp.1
theorem c16_foldl : ∀ (l : List (Int × Int)) {m : List (Int × Int)}, Cells16 l → Cells16 m → Cells16 (l.foldl stepS m)
  | [], _, _, h => h
  | c :: r, _, hl, h => c16_foldl r (fun p hp => hl p (by simp [hp])) (c16_step h (hl c (by simp)))
theorem c16_mkS {l : List (Int × Int)} (h : Cells16 l) : Cells16 (mkS l) := c16_foldl l h fun _ h => by cases h
theorem len_delS (a : Int) (m : List (Int × Int)) : (delS a m).length ≤ m.length := List.length_filter_le _ _
theorem len_insS (x : Int × Int) : ∀ m : List (Int × Int), (insS x m).length = m.length + 1
  | [] => rfl
  | y :: r => by
    unfold insS
    split
    · rfl
    · simp [len_insS x r]
theorem len_stepS (m : List (Int × Int)) (c : Int × Int) : (stepS m c).length ≤ m.length + 1 := by
  unfold stepS
  split
  · have := len_delS c.1 m; omega
  · unfold putS
    rw [len_insS]
    have := len_delS c.1 m
    omega
theorem len_foldl : ∀ (l m : List (Int × Int)), (l.foldl stepS m).length ≤ m.length + l.length
  | [], m => by simp
  | c :: r, m => by
    have h1 := len_foldl r (stepS m c)
    have h2 := len_stepS m c
    simp only [List.foldl_cons, List.length_cons]
    omega
theorem len_mkS (l : List (Int × Int)) : (mkS l).length ≤ l.length := by have := len_foldl l []; unfold mkS; simpa using this
/-- two sorted lists with the same members are one -/
theorem eq_of_mem : ∀ {l m : List (Int × Int)}, Srt l → Srt m → (∀ p, p ∈ l ↔ p ∈ m) → l = m
  | [], [], _, _, _ => rfl
  | [], b :: s, _, _, h => by have := (h b).2 (by simp); simp at this
  | a :: r, [], _, _, h => by have := (h a).1 (by simp); simp at this
  | a :: r, b :: s, h1, h2, h => by
    obtain ⟨a1, a2⟩ := List.pairwise_cons.1 h1
    obtain ⟨b1, b2⟩ := List.pairwise_cons.1 h2
    have hab : a = b := by
      rcases List.mem_cons.1 ((h a).1 (by simp)) with e | ha
      · exact e
      · rcases List.mem_cons.1 ((h b).2 (by simp)) with e | hb
        · exact e.symm
        · have := a1 b hb; have := b1 a ha; omega
    subst hab
    rw [eq_of_mem a2 b2 fun p => ⟨fun hp => by
      rcases List.mem_cons.1 ((h p).1 (by simp [hp])) with e | hp'
      · have := a1 p hp; rw [e] at this; omega
      · exact hp', fun hp => by
      rcases List.mem_cons.1 ((h p).2 (by simp [hp])) with e | hp'
      · have := b1 p hp; rw [e] at this; omega
      · exact hp'⟩]
/-- in a sorted list an address stands once -/
theorem srt_one {m : List (Int × Int)} (h : Srt m) : ∀ {p q : Int × Int}, p ∈ m → q ∈ m → p.1 = q.1 → p = q := by
  induction m with
  | nil => intro p q hp; cases hp
  | cons a r ih =>
    obtain ⟨a1, a2⟩ := List.pairwise_cons.1 h
    intro p q hp hq e
    rcases List.mem_cons.1 hp with e1 | hp' <;> rcases List.mem_cons.1 hq with e2 | hq'
    · rw [e1, e2]
    · have := a1 q hq'; rw [e1] at e; omega
    · have := a1 p hp'; rw [e2] at e; omega
    · exact ih a2 hp' hq' e
theorem getC_snoc (l : List (Int × Int)) (c : Int × Int) (a : Int) : getC (l ++ [c]) a = if c.1 = a then c.2 else getC l a := by unfold getC; rw [List.foldl_append]; rfl
theorem mkS_snoc (l : List (Int × Int)) (c : Int × Int) : mkS (l ++ [c]) = stepS (mkS l) c := by unfold mkS; rw [List.foldl_append]; rfl
/-- what a memory holds -/
theorem mem_mkS (l : List (Int × Int)) : ∀ p : Int × Int, p ∈ mkS l ↔ getC l p.1 = p.2 ∧ p.2 ≠ 0 := by
  have key : ∀ (n : Nat) (l : List (Int × Int)), l.length = n → ∀ p : Int × Int, p ∈ mkS l ↔ getC l p.1 = p.2 ∧ p.2 ≠ 0 := by
    intro n
    induction n with
    | zero =>
      intro l hl p
      obtain rfl := List.eq_nil_of_length_eq_zero hl
      constructor
      · intro h; cases h
      · rintro ⟨h1, h2⟩; exact absurd h1.symm h2
    | succ n ih =>
      intro l hl p
      obtain ⟨l', c, rfl⟩ : ∃ l' c, l = l' ++ [c] := ⟨l.dropLast, l.getLast (by intro h; rw [h] at hl; cases hl), (List.dropLast_concat_getLast _).symm⟩
      have ih := ih l' (by simpa using hl)
      rw [mkS_snoc, getC_snoc]
      unfold stepS
      by_cases hc : c.1 = p.1
      · rw [if_pos hc]
        split
        · rename_i h0
          rw [mem_delS]
          constructor
          · rintro ⟨-, h⟩; exact absurd hc.symm h
          · rintro ⟨h1, h2⟩; exact absurd (h1.symm.trans h0) h2
        · rename_i h0
          rw [mem_putS]
          constructor
          · rintro (rfl | ⟨-, h⟩)
            · exact ⟨rfl, h0⟩
            · exact absurd hc.symm h
          · rintro ⟨h1, h2⟩
            exact .inl (Prod.ext hc.symm h1.symm)
      · rw [if_neg hc]
        have hne : p.1 ≠ c.1 := fun e => hc e.symm
        split
        · rw [mem_delS, ih]
          exact ⟨fun h => h.1, fun h => ⟨h, hne⟩⟩
        · rw [mem_putS, ih]
          constructor
          · rintro (rfl | h)
            · exact absurd rfl hc
            · exact h.1
          · exact fun h => .inr ⟨h, hne⟩
  exact key _ l rfl
theorem getC_mem (l : List (Int × Int)) (a : Int) (h : getC l a ≠ 0) : ∃ c ∈ l, c.1 = a := by
  have key : ∀ (n : Nat) (l : List (Int × Int)), l.length = n → getC l a ≠ 0 → ∃ c ∈ l, c.1 = a := by
    intro n
    induction n with
    | zero =>
      intro l hl h
      obtain rfl := List.eq_nil_of_length_eq_zero hl
      exact absurd rfl h
    | succ n ih =>
      intro l hl h
      obtain ⟨l', c, rfl⟩ : ∃ l' c, l = l' ++ [c] := ⟨l.dropLast, l.getLast (by intro h; rw [h] at hl; cases hl), (List.dropLast_concat_getLast _).symm⟩
      rw [getC_snoc] at h
      split at h
      · rename_i e; exact ⟨c, by simp, e⟩
      · obtain ⟨d, hd, e⟩ := ih l' (by simpa using hl) h
        exact ⟨d, by simp [hd], e⟩
  exact key _ l rfl h
/-- a memory is its own -/
theorem getC_srt {m : List (Int × Int)} (h : Srt m) {p : Int × Int} (hp : p ∈ m) : getC m p.1 = p.2 := by
  have key : ∀ (n : Nat) (m : List (Int × Int)), m.length = n → Srt m → p ∈ m → getC m p.1 = p.2 := by
    intro n
    induction n with
    | zero =>
      intro m hm _ hp
      obtain rfl := List.eq_nil_of_length_eq_zero hm
      cases hp
    | succ n ih =>
      intro m hm hs hp
      obtain ⟨l', c, rfl⟩ : ∃ l' c, m = l' ++ [c] := ⟨m.dropLast, m.getLast (by intro h; rw [h] at hm; cases hm), (List.dropLast_concat_getLast _).symm⟩
      rw [getC_snoc]
      have hs' := List.pairwise_append.1 hs
      by_cases hc : c.1 = p.1
      · rw [if_pos hc, srt_one hs (p := c) (q := p) (by simp) hp hc]
      · rw [if_neg hc]
        refine ih l' (by simpa using hm) hs'.1 ?_
        rcases List.mem_append.1 hp with h | h
        · exact h
        · simp at h; exact absurd (congrArg Prod.fst h).symm hc
  exact key _ m rfl h hp
theorem mkS_get {l : List (Int × Int)} {m : List (Int × Int)} (h : Srt m) (hn : NoZero m) (hg : ∀ a, getC m a = getC l a) : mkS l = m :=
  eq_of_mem (srt_mkS l) h fun p => by
    rw [mem_mkS, ← hg]
    constructor
    · rintro ⟨h1, h2⟩
      obtain ⟨c, hc, e⟩ := getC_mem m p.1 (by rw [h1]; exact h2)
      have := getC_srt h hc
      rw [e, h1] at this
      have : c = p := Prod.ext e this.symm
      exact this ▸ hc
    · exact fun hp => ⟨getC_srt h hp, hn p hp⟩
theorem mkS_self {m : List (Int × Int)} (h : Srt m) (hn : NoZero m) : mkS m = m := mkS_get h hn fun _ => rfl
theorem getC_mkS (l : List (Int × Int)) (a : Int) : getC (mkS l) a = getC l a := by
  by_cases h : getC l a = 0
  · rw [h]
    by_cases h2 : getC (mkS l) a = 0
    · exact h2
    · obtain ⟨c, hc, rfl⟩ := getC_mem _ _ h2
      exact absurd ((mem_mkS l c).1 hc).1 (by rw [h]; exact fun e => (nz_mkS l c hc) e.symm)
  · exact getC_srt (srt_mkS l) (p := (a, getC l a)) ((mem_mkS l _).2 ⟨rfl, h⟩)
theorem mkS_mkS (l : List (Int × Int)) : mkS (mkS l) = mkS l := mkS_self (srt_mkS l) (nz_mkS l)
theorem mkS_congr {l l' : List (Int × Int)} (h : ∀ a, getC l a = getC l' a) : mkS l = mkS l' := mkS_get (srt_mkS l') (nz_mkS l') fun a => by rw [getC_mkS, h]
theorem getC_append (l l' : List (Int × Int)) (a : Int) : getC (l ++ l') a = l'.foldl (fun b c => if c.1 = a then c.2 else b) (getC l a) := by unfold getC; rw [List.foldl_append]
theorem getC_b8 {l : List (Int × Int)} (h : Cells16 l) (a : Int) : 0 ≤ getC l a ∧ getC l a ≤ 255 := by
  have key : ∀ (l : List (Int × Int)) (b : Int), Cells16 l → 0 ≤ b ∧ b ≤ 255 → 0 ≤ l.foldl (fun b c => if c.1 = a then c.2 else b) b ∧ l.foldl (fun b c => if c.1 = a then c.2 else b) b ≤ 255 := by
    intro l
    induction l with
    | nil => intro b _ hb; exact hb
    | cons c r ih =>
      intro b hl hb
      refine ih _ (fun p hp => hl p (by simp [hp])) ?_
      have := hl c (by simp)
      show 0 ≤ (if c.1 = a then c.2 else b) ∧ (if c.1 = a then c.2 else b) ≤ 255
      by_cases e : c.1 = a
      · rw [if_pos e]; exact ⟨this.2.2.1, this.2.2.2⟩
      · rw [if_neg e]; exact hb
  exact key l 0 h ⟨by omega, by omega⟩
/-- are these cells a memory, if the addresses are 'least' at least? -/
def okC (least : Int) : List (Int × Int) → Bool
  | [] => true
  | c :: r => !(decide (c.1 < least) || c.2 == 0) && okC (c.1 + 1) r
theorem okC_srt : ∀ {m : List (Int × Int)} (least : Int), Srt m → NoZero m → (∀ c ∈ m, least ≤ c.1) → okC least m = true
  | [], _, _, _, _ => rfl
  | c :: r, least, h, hn, hl => by
    obtain ⟨h1, h2⟩ := List.pairwise_cons.1 h
    have e1 := hl c (by simp)
    have e2 := hn c (by simp)
    have ih := okC_srt (c.1 + 1) h2 (fun p hp => hn p (by simp [hp])) (fun p hp => by have := h1 p hp; omega)
    simp only [okC, ih, Bool.and_true, Bool.not_eq_true', Bool.or_eq_false_iff, decide_eq_false_iff_not, beq_eq_false_iff_ne]
    exact ⟨by omega, e2⟩
/-- the least address that may come behind k cells -/
def lstC (l : List (Int × Int)) (k : Nat) : Int := if k = 0 then 0 else (l.getD (k - 1) (0, 0)).1 + 1
theorem lstC_succ (l : List (Int × Int)) (k : Nat) (h : k < l.length) : lstC l (k + 1) = l[k].1 + 1 := by
  unfold lstC
  rw [if_neg (by omega)]
  simp [List.getD_eq_getElem?_getD, List.getElem?_eq_getElem h]
/- the lowest address above the last one that has a byte -/
def pickB (l0 : List (Int × Int)) (last best : Int) (c : Int × Int) : Int := if decide (c.1 > last) && decide (c.1 < best) && (getC l0 c.1 != 0) then c.1 else best
def nextB (l0 : List (Int × Int)) (last : Int) (l : List (Int × Int)) : Int := l.foldl (pickB l0 last) 65536
theorem foldB_spec (l0 : List (Int × Int)) (last : Int) : ∀ (l : List (Int × Int)) (b : Int), l.foldl (pickB l0 last) b ≤ b ∧ (l.foldl (pickB l0 last) b = b ∨ ∃ c ∈ l, c.1 = l.foldl (pickB l0 last) b ∧ c.1 > last ∧ getC l0 c.1 ≠ 0) ∧ ∀ c ∈ l, c.1 > last → getC l0 c.1 ≠ 0 → l.foldl (pickB l0 last) b ≤ c.1
  | [], b => ⟨Int.le_refl _, .inl rfl, fun _ h => by cases h⟩
  | c :: r, b => by
    obtain ⟨h1, h2, h3⟩ := foldB_spec l0 last r (pickB l0 last b c)
    simp only [List.foldl_cons]
    generalize hg : r.foldl (pickB l0 last) (pickB l0 last b c) = g at h1 h2 h3 ⊢
    by_cases hc : (decide (c.1 > last) && decide (c.1 < b) && (getC l0 c.1 != 0)) = true
    · have e : pickB l0 last b c = c.1 := if_pos hc
      simp only [Bool.and_eq_true, decide_eq_true_eq, bne_iff_ne] at hc
      rw [e] at h1 h2
      refine ⟨by omega, .inr ?_, fun d hd a1 a2 => ?_⟩
      · rcases h2 with h2 | ⟨d, hd, e1, e2⟩
        · exact ⟨c, by simp, h2.symm, hc.1.1, hc.2⟩
        · exact ⟨d, by simp [hd], e1, e2⟩
      · rcases List.mem_cons.1 hd with rfl | hd
        · exact h1
        · exact h3 d hd a1 a2
    · have e : pickB l0 last b c = b := if_neg hc
      rw [e] at h1 h2
      refine ⟨h1, ?_, fun d hd a1 a2 => ?_⟩
      · rcases h2 with h2 | ⟨d, hd, e1, e2⟩
        · exact .inl h2
        · exact .inr ⟨d, by simp [hd], e1, e2⟩
      · rcases List.mem_cons.1 hd with rfl | hd
        · have : ¬ (d.1 < b) := fun hlt => hc (by simp [a1, a2, hlt])
          omega
        · exact h3 d hd a1 a2
theorem nextB_snoc (l0 : List (Int × Int)) (last : Int) (l : List (Int × Int)) (k : Nat) (h : k < l.length) : nextB l0 last (l.take (k + 1)) = pickB l0 last (nextB l0 last (l.take k)) l[k] := by
  unfold nextB
  rw [← List.take_append_getElem h, List.foldl_append]
  rfl
theorem nextB_nil {l out rest : List (Int × Int)} {last : Int} (h16 : Cells16 l) (hm : mkS l = out ++ rest) (ho : ∀ p ∈ out, p.1 ≤ last) (hr : ∀ p ∈ rest, last < p.1) :
    nextB l last l = (match rest with | [] => 65536 | c :: _ => c.1) := by
  obtain ⟨h1, h2, h3⟩ := foldB_spec l last l 65536
  unfold nextB
  generalize l.foldl (pickB l last) 65536 = b at h1 h2 h3 ⊢
  have inM : ∀ a, getC l a ≠ 0 → (a, getC l a) ∈ out ++ rest := fun a ha => by rw [← hm]; exact (mem_mkS l _).2 ⟨rfl, ha⟩
  have hs : Srt (out ++ rest) := by rw [← hm]; exact srt_mkS l
  cases rest with
  | nil =>
    rcases h2 with h2 | ⟨c, hc, e1, e2, e3⟩
    · exact h2
    · have := inM _ e3
      rw [List.append_nil] at this
      have := ho _ this
      simp at this
      omega
  | cons d r =>
    show b = d.1
    have hd : d ∈ mkS l := by rw [hm]; simp
    obtain ⟨g1, g2⟩ := (mem_mkS l d).1 hd
    have hb : b ≤ d.1 := by
      obtain ⟨c, hc, e⟩ := getC_mem l d.1 (by rw [g1]; exact g2)
      have := h3 c hc (by rw [e]; exact hr d (by simp)) (by rw [e, g1]; exact g2)
      rw [e] at this
      exact this
    have h65 := (c16_mkS h16 d hd).2.1
    rcases h2 with h2 | ⟨c, hc, e1, e2, e3⟩
    · omega
    · have hin := inM _ e3
      rcases List.mem_append.1 hin with hin | hin
      · have := ho _ hin
        simp at this
        omega
      · rcases List.mem_cons.1 hin with e | hin
        · rw [← e1, ← e]
        · have := (List.pairwise_cons.1 (List.pairwise_append.1 hs).2.1).1 _ hin
          simp at this
          omega
/- bytes one behind the other, from an address on -/
def loadL (a : Int) : List Int → List (Int × Int)
  | [] => []
  | b :: r => (a, b) :: loadL ((a + 1) % 65536) r
theorem loadL_append : ∀ (bs cs : List Int) (a : Int), 0 ≤ a ∧ a ≤ 65535 → loadL a (bs ++ cs) = loadL a bs ++ loadL ((a + (bs.length : Int)) % 65536) cs
  | [], cs, a, h => by simp only [List.nil_append, loadL, List.length_nil]; congr 1; omega
  | b :: r, cs, a, h => by
    simp only [List.cons_append, loadL]
    have e : ((a + 1) % 65536 + (r.length : Int)) % 65536 = (a + ((b :: r).length : Int)) % 65536 := by rw [List.length_cons]; omega
    rw [loadL_append r cs _ (by omega), e]
theorem loadL_take (bs : List Int) (a : Int) (h : 0 ≤ a ∧ a ≤ 65535) (k : Nat) (hk : k < bs.length) : loadL a (bs.take (k + 1)) = loadL a (bs.take k) ++ [((a + (k : Int)) % 65536, bs[k])] := by
  rw [← List.take_append_getElem hk, loadL_append _ _ _ h, List.length_take, Nat.min_eq_left (by omega)]
  rfl
theorem loadL_length : ∀ (bs : List Int) (a : Int), (loadL a bs).length = bs.length
  | [], _ => rfl
  | b :: r, a => by simp only [loadL, List.length_cons, loadL_length r]
theorem c16_loadL : ∀ (bs : List Int) (a : Int), (∀ b ∈ bs, 0 ≤ b ∧ b ≤ 255) → 0 ≤ a ∧ a ≤ 65535 → Cells16 (loadL a bs)
  | [], _, _, _ => fun _ h => by cases h
  | b :: r, a, hb, ha => by
    intro c hc
    rcases List.mem_cons.1 hc with rfl | hc
    · have := hb b (by simp)
      exact ⟨ha.1, ha.2, this.1, this.2⟩
    · exact c16_loadL r _ (fun x hx => hb x (by simp [hx])) (by omega) c hc
theorem c16_append {l m : List (Int × Int)} (h : Cells16 l) (k : Cells16 m) : Cells16 (l ++ m) := fun c hc => (List.mem_append.1 hc).elim (h c) (k c)
/-- so many bytes -/
def dumpN (l : List (Int × Int)) (a : Int) (N : Nat) : List Int := (List.range N).map fun (i : Nat) => getC l ((a + (i : Int)) % 65536)
def dumpL (l : List (Int × Int)) (a n : Int) : List Int := dumpN l a (min n.toNat 4096)
theorem dumpN_length (l : List (Int × Int)) (a : Int) (N : Nat) : (dumpN l a N).length = N := by simp [dumpN]
theorem dumpN_b8 {l : List (Int × Int)} (h : Cells16 l) (a : Int) (N : Nat) : ∀ x ∈ dumpN l a N, 0 ≤ x ∧ x ≤ 255 := by
  intro x hx
  obtain ⟨i, -, rfl⟩ := List.mem_map.1 hx
  exact getC_b8 h _
theorem dumpN_nil (a : Int) (N : Nat) : dumpN [] a N = List.replicate N 0 := by
  unfold dumpN
  apply List.ext_getElem
  · simp
  · intro i h1 h2
    simp [getC]
theorem dumpN_set (l : List (Int × Int)) (c : Int × Int) (a : Int) (N : Nat) (ha : 0 ≤ a ∧ a ≤ 65535) (hc : 0 ≤ c.1 ∧ c.1 ≤ 65535) (hN : N ≤ 65536) : dumpN (l ++ [c]) a N = (dumpN l a N).set ((c.1 - a) % 65536).toNat c.2 := by
  apply List.ext_getElem
  · simp [dumpN]
  · intro i h1 h2
    rw [List.getElem_set]
    have hi : i < N := by simpa [dumpN] using h1
    simp only [dumpN, List.getElem_map, List.getElem_range, getC_snoc]
    by_cases e : c.1 = (a + (i : Int)) % 65536
    · rw [if_pos e, if_pos (by omega)]
    · rw [if_neg e, if_neg (by omega)]
theorem dumpN_snoc (l : List (Int × Int)) (a : Int) (N : Nat) : dumpN l a (N + 1) = dumpN l a N ++ [getC l ((a + (N : Int)) % 65536)] := by
  unfold dumpN
  rw [List.range_succ, List.map_append]
  rfl
/-- what was loaded is dumped -/
theorem dump_load (l : List (Int × Int)) (a : Int) (bs : List Int) (ha : 0 ≤ a ∧ a ≤ 65535) (hb : bs.length ≤ 65536) : dumpN (l ++ loadL a bs) a bs.length = bs := by
  have key : ∀ k, k ≤ bs.length → ∀ i, i < k → getC (l ++ loadL a (bs.take k)) ((a + (i : Int)) % 65536) = bs.getD i 0 := by
    intro k
    induction k with
    | zero => intro _ i hi; omega
    | succ k ih =>
      intro hk i hi
      rw [loadL_take bs a ha k (by omega), ← List.append_assoc, getC_snoc]
      by_cases e : i = k
      · subst e
        rw [if_pos rfl]
        simp [List.getD_eq_getElem?_getD, List.getElem?_eq_getElem (show i < bs.length by omega)]
      · rw [if_neg (by show ¬ ((a + (k : Int)) % 65536 = (a + (i : Int)) % 65536); omega)]
        exact ih (by omega) i (by omega)
  apply List.ext_getElem
  · simp [dumpN]
  · intro i h1 h2
    have := key bs.length (Nat.le_refl _) i h2
    rw [List.take_length] at this
    simp only [dumpN, List.getElem_map, List.getElem_range]
    rw [this]
    simp [List.getD_eq_getElem?_getD, List.getElem?_eq_getElem h2]
theorem dumpN_mkS (l : List (Int × Int)) (a : Int) (N : Nat) : dumpN (mkS l) a N = dumpN l a N := by
  unfold dumpN
  congr 1
  funext i
  exact getC_mkS _ _
/- the cells in which a memory has become another one -/
def markL (l : List (Int × Int)) : List (Int × Int) := l.map fun c => (c.1, 1)
theorem getC_markL (l : List (Int × Int)) (x : Int) : getC (markL l) x ≠ 0 ↔ ∃ c ∈ l, c.1 = x := by
  constructor
  · intro h
    obtain ⟨c, hc, e⟩ := getC_mem _ _ h
    obtain ⟨d, hd, rfl⟩ := List.mem_map.1 hc
    exact ⟨d, hd, e⟩
  · rintro ⟨c, hc, rfl⟩
    have key : ∀ (l : List (Int × Int)) (b : Int), (b ≠ 0 ∨ ∃ d ∈ l, d.1 = c.1) → (l.map fun c => (c.1, (1 : Int))).foldl (fun b d => if d.1 = c.1 then d.2 else b) b ≠ 0 := by
      intro l
      induction l with
      | nil => rintro b (h | ⟨d, hd, -⟩)
               · exact h
               · cases hd
      | cons d r ih =>
        intro b h
        refine ih _ ?_
        by_cases e : d.1 = c.1
        · exact .inl (by show (if d.1 = c.1 then (1 : Int) else b) ≠ 0; rw [if_pos e]; decide)
        · have : (if d.1 = c.1 then (1 : Int) else b) = b := if_neg e
          rcases h with h | ⟨q, hq, eq⟩
          · exact .inl (by show (if d.1 = c.1 then (1 : Int) else b) ≠ 0; rw [this]; exact h)
          · rcases List.mem_cons.1 hq with rfl | hq
            · exact absurd eq e
            · exact .inr ⟨q, hq, eq⟩
    exact key l 0 (.inr ⟨c, hc, rfl⟩)
def diffP (a b : List (Int × Int)) (m : List (Int × Int)) : List (Int × Int) := (m.filter fun p => getC a p.1 != getC b p.1).map fun p => (p.1, getC b p.1)
def diffL (a b : List (Int × Int)) : List (Int × Int) := diffP a b (mkS (markL a ++ markL b))
theorem srt_diffL (a b : List (Int × Int)) : Srt (diffL a b) := by
  unfold diffL diffP Srt
  rw [List.pairwise_map]
  exact (srt_mkS _).filter _
theorem mem_diffL (a b : List (Int × Int)) (p : Int × Int) : p ∈ diffL a b ↔ getC a p.1 ≠ getC b p.1 ∧ p.2 = getC b p.1 := by
  unfold diffL diffP
  rw [List.mem_map]
  constructor
  · rintro ⟨q, hq, rfl⟩
    have := (List.mem_filter.1 hq).2
    exact ⟨by simpa using this, rfl⟩
  · rintro ⟨h1, h2⟩
    have hex : ∃ c ∈ a ++ b, c.1 = p.1 := by
      by_cases h0 : getC a p.1 = 0
      · obtain ⟨c, hc, e⟩ := getC_mem b p.1 (by rw [h0] at h1; exact fun e => h1 e.symm)
        exact ⟨c, by simp [hc], e⟩
      · obtain ⟨c, hc, e⟩ := getC_mem a p.1 h0
        exact ⟨c, by simp [hc], e⟩
    have hm : (p.1, getC (markL (a ++ b)) p.1) ∈ mkS (markL a ++ markL b) := by
      have e : markL a ++ markL b = markL (a ++ b) := by simp [markL]
      rw [e]
      exact (mem_mkS _ _).2 ⟨rfl, (getC_markL _ _).2 hex⟩
    refine ⟨_, List.mem_filter.2 ⟨hm, by simpa using h1⟩, Prod.ext rfl h2.symm⟩
theorem c16_markL {l : List (Int × Int)} (h : Cells16 l) : Cells16 (markL l) := by
  intro c hc
  obtain ⟨d, hd, rfl⟩ := List.mem_map.1 hc
  have := h d hd
  exact ⟨this.1, this.2.1, by show (0 : Int) ≤ 1; omega, by show (1 : Int) ≤ 255; omega⟩
theorem c16_diffL {a b : List (Int × Int)} (ha : Cells16 a) (hb : Cells16 b) : Cells16 (diffL a b) := by
  intro c hc
  unfold diffL diffP at hc
  obtain ⟨q, hq, rfl⟩ := List.mem_map.1 hc
  have := c16_mkS (c16_append (c16_markL ha) (c16_markL hb)) q (List.mem_filter.1 hq).1
  exact ⟨this.1, this.2.1, (getC_b8 hb q.1).1, (getC_b8 hb q.1).2⟩
theorem len_diffL (a b : List (Int × Int)) : (diffL a b).length ≤ a.length + b.length := by
  unfold diffL diffP
  rw [List.length_map]
  refine Nat.le_trans (List.length_filter_le _ _) (Nat.le_trans (len_mkS _) ?_)
  simp [markL]
theorem getC_app (a : List (Int × Int)) (x : Int) : ∀ (n : Nat) (d : List (Int × Int)), d.length = n → ((∃ c ∈ d, c.1 = x) → getC (a ++ d) x = getC d x) ∧ ((¬ ∃ c ∈ d, c.1 = x) → getC (a ++ d) x = getC a x) := by
  intro n
  induction n with
  | zero =>
    intro d hd
    obtain rfl := List.eq_nil_of_length_eq_zero hd
    exact ⟨fun ⟨c, hc, _⟩ => by (cases hc), fun _ => by rw [List.append_nil]⟩
  | succ n ih =>
    intro d hd
    obtain ⟨d', c, rfl⟩ : ∃ d' c, d = d' ++ [c] := ⟨d.dropLast, d.getLast (by intro h; rw [h] at hd; cases hd), (List.dropLast_concat_getLast _).symm⟩
    have ih := ih d' (by simpa using hd)
    rw [← List.append_assoc, getC_snoc, getC_snoc]
    by_cases hc : c.1 = x
    · rw [if_pos hc, if_pos hc]
      exact ⟨fun _ => rfl, fun h => absurd ⟨c, by simp, hc⟩ h⟩
    · rw [if_neg hc, if_neg hc]
      refine ⟨fun ⟨e, he, ee⟩ => ih.1 ?_, fun h => ih.2 fun ⟨e, he, ee⟩ => h ⟨e, by simp [he], ee⟩⟩
      rcases List.mem_append.1 he with he | he
      · exact ⟨e, he, ee⟩
      · simp at he; rw [he] at ee; exact absurd ee hc
theorem getC_on (a d : List (Int × Int)) (x : Int) (h : ∃ c ∈ d, c.1 = x) : getC (a ++ d) x = getC d x := (getC_app a x _ d rfl).1 h
theorem getC_off (a d : List (Int × Int)) (x : Int) (h : ¬ ∃ c ∈ d, c.1 = x) : getC (a ++ d) x = getC a x := (getC_app a x _ d rfl).2 h
/-- put into the memory one by one, they make it the other one -/
theorem diff_goes (a b : List (Int × Int)) : mkS (a ++ diffL a b) = mkS b := by
  refine mkS_get (srt_mkS b) (nz_mkS b) fun x => ?_
  rw [getC_mkS]
  by_cases h : getC a x = getC b x
  · rw [getC_off a (diffL a b) x, h]
    rintro ⟨c, hc, rfl⟩
    exact ((mem_diffL a b c).1 hc).1 h
  · have hin : (x, getC b x) ∈ diffL a b := (mem_diffL a b _).2 ⟨h, rfl⟩
    rw [getC_on a (diffL a b) x ⟨_, hin, rfl⟩, getC_srt (srt_diffL a b) hin]
theorem diff_self (a : List (Int × Int)) : diffL a a = [] := by
  cases h : diffL a a with
  | nil => rfl
  | cons c r => exact absurd rfl ((mem_diffL a a c).1 (by rw [h]; simp)).1
theorem diff_len (a b : List (Int × Int)) : (diffL a b).length = (diffL b a).length := by
  have e : (diffL a b).map (·.1) = (diffL b a).map (·.1) := by
    have h1 : (diffL a b).map (fun p => (p.1, (1 : Int))) = (diffL b a).map (fun p => (p.1, (1 : Int))) := by
      refine eq_of_mem ?_ ?_ fun p => ?_
      · unfold Srt; rw [List.pairwise_map]; exact srt_diffL a b
      · unfold Srt; rw [List.pairwise_map]; exact srt_diffL b a
      · have key : ∀ a b : List (Int × Int), p ∈ (diffL a b).map (fun p => (p.1, (1 : Int))) ↔ getC a p.1 ≠ getC b p.1 ∧ p.2 = 1 := by
          intro a b
          rw [List.mem_map]
          constructor
          · rintro ⟨q, hq, rfl⟩
            exact ⟨((mem_diffL a b q).1 hq).1, rfl⟩
          · rintro ⟨h1, h2⟩
            exact ⟨(p.1, getC b p.1), (mem_diffL a b _).2 ⟨h1, rfl⟩, Prod.ext rfl h2.symm⟩
        rw [key, key]
        exact ⟨fun h => ⟨Ne.symm h.1, h.2⟩, fun h => ⟨Ne.symm h.1, h.2⟩⟩
    have := congrArg (List.map (·.1)) h1
    simpa [List.map_map, Function.comp_def] using this
  have := congrArg List.length e
  simpa using this
/- as the reader's datum -/
def dm (m : List (Int × Int)) : DataW Unit := .map (m.map fun c => (Lit.int .u16 c.1, .lit (.int .u8 c.2)))
theorem same16 (a b : Int) : (Lit.int .u16 a).sameKey (.int .u16 b) = decide (a = b) := by simp [Lit.sameKey]
theorem dm_insert (x : Int × Int) : ∀ m : List (Int × Int), DataW.insert (Lit.int .u16 x.1, (DataW.lit (.int .u8 x.2) : DataW Unit)) (m.map fun c => (Lit.int .u16 c.1, .lit (.int .u8 c.2))) = (insS x m).map fun c => (Lit.int .u16 c.1, .lit (.int .u8 c.2))
  | [] => rfl
  | y :: r => by
    unfold insS
    rw [List.map_cons, DataW.insert]
    by_cases h : x.1 < y.1
    · rw [if_pos h]
      exact if_pos (decide_eq_true h)
    · rw [if_neg h, List.map_cons, ← dm_insert x r]
      exact if_neg (fun e => h (of_decide_eq_true e))
theorem dm_filter (a : Int) : ∀ m : List (Int × Int), ((m.map fun c => (Lit.int .u16 c.1, (DataW.lit (.int .u8 c.2) : DataW Unit))).filter fun p => !p.1.sameKey (.int .u16 a)) = (delS a m).map fun c => (Lit.int .u16 c.1, .lit (.int .u8 c.2))
  | [] => rfl
  | y :: r => by
    have ih := dm_filter a r
    unfold delS at ih ⊢
    simp only [List.map_cons, List.filter_cons, same16]
    split
    · rw [List.map_cons, ih]
    · exact ih
theorem dm_put (m : List (Int × Int)) (a b : Int) : (dm m).put (.int .u16 a) (.lit (.int .u8 b)) = dm (putS a b m) := by
  unfold dm putS
  show DataW.map _ = DataW.map _
  rw [dm_filter]
  exact congrArg DataW.map (dm_insert (a, b) (delS a m))
theorem dm_del (m : List (Int × Int)) (a : Int) : (dm m).del (.int .u16 a) = dm (delS a m) := by
  unfold dm
  show DataW.map _ = DataW.map _
  rw [dm_filter]
theorem dm_has (m : List (Int × Int)) (a : Int) : Maps.has (dm m) (.int .u16 a) = m.any fun p => decide (p.1 = a) := by
  unfold dm
  rw [Maps.has_eq, List.any_map]
  congr 1
  funext p
  exact same16 _ _
theorem dm_size (m : List (Int × Int)) : Maps.size (dm m) = m.length := by unfold dm; rw [Maps.size_eq, List.length_map]
theorem dm_at {m : List (Int × Int)} (h : Srt m) (a : Int) : (dm m).atKey (.int .u16 a) (.lit (.int .u8 0)) = .lit (.int .u8 (getC m a)) := by
  unfold dm DataW.atKey
  simp only
  split
  · rename_i p hp
    obtain ⟨c, hc, e⟩ := List.mem_map.1 (List.mem_of_find?_eq_some hp)
    subst e
    have hk := List.find?_some hp
    simp only [same16, decide_eq_true_eq] at hk
    rw [← hk, getC_srt h hc]
  · rename_i hp
    have : getC m a = 0 := by
      by_cases h2 : getC m a = 0
      · exact h2
      · obtain ⟨c, hc, rfl⟩ := getC_mem _ _ h2
        have := List.find?_eq_none.1 hp _ (List.mem_map.2 ⟨c, hc, rfl⟩)
        simp [same16] at this
    rw [this]
theorem dm_mem {m : List (Int × Int)} {x c : Int} (h : ∀ zd, (dm m).atKey (.int .u16 x) zd = .lit (.int .u8 c)) : (x, c) ∈ m := by
  have h1 := h (.lit (.bool true))
  unfold dm DataW.atKey at h1
  simp only at h1
  split at h1
  · rename_i p hp
    obtain ⟨d, hd, e⟩ := List.mem_map.1 (List.mem_of_find?_eq_some hp)
    subst e
    have hk := List.find?_some hp
    simp only [same16, decide_eq_true_eq] at hk
    simp at h1
    have : d = (x, c) := Prod.ext hk h1
    exact this ▸ hd
  · cases h1
end Go.Proofs.Ytahnejcfengljaa
