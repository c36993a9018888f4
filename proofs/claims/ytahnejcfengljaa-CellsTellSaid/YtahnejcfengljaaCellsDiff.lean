/- Layer 14 (cells): Diff. -/
import Derived.Test.YtahnejcfengljaaCellsDump
namespace Go.Proofs.Ytahnejcfengljaa
open Go.RowKit
set_option linter.unusedVariables false
set_option linter.unusedSimpArgs false
set_option maxRecDepth 20000

theorem mkS_at (l : List (Int × Int)) {p : Int × Int} (h : p ∈ mkS l) : getC l p.1 = p.2 := ((mem_mkS l p).1 h).1
structure DiffS where
  mC : List (Int × Int)
  left : Int → Bool
  cnt : Nat
  y : Nat → Value
def cdiffB (A : Option Addr) (n cap : Nat) (A' : Option Addr) (n' cap' : Nat) (ba bb bc r : Nat) (x : DiffS) : List Value := [.slice A n cap, .slice A' n' cap', x.y 2, x.y 3, x.y 4, .map (some ba), .map (some bb), .map (some bc), x.y 8, x.y 9, x.y 10, x.y 11, x.y 12, x.y 13, x.y 14, x.y 15, x.y 16, .pointer (some ⟨r, 0, none⟩), x.y 18, x.y 19, x.y 20, x.y 21, x.y 22, x.y 23, x.y 24, x.y 25, x.y 26, x.y 27, x.y 28, x.y 29, x.y 30, x.y 31, x.y 32, x.y 33, x.y 34, x.y 35, x.y 36, x.y 37, x.y 38, x.y 39, x.y 40, x.y 41, x.y 42, x.y 43, x.y 44]
def cdiffC (A : Option Addr) (n cap : Nat) (A' : Option Addr) (n' cap' : Nat) (ba bb bc r : Nat) (x : DiffS) : List Value := [.slice A n cap, .slice A' n' cap', x.y 2, x.y 3, x.y 4, .map (some ba), .map (some bb), .map (some bc), x.y 8, x.y 9, x.y 10, x.y 11, x.y 12, x.y 13, x.y 14, x.y 15, x.y 16, x.y 17, x.y 18, x.y 19, x.y 20, x.y 21, x.y 22, x.y 23, x.y 24, x.y 25, x.y 26, x.y 27, x.y 28, x.y 29, x.y 30, x.y 31, .pointer (some ⟨r, 0, none⟩), x.y 33, x.y 34, x.y 35, x.y 36, x.y 37, x.y 38, x.y 39, x.y 40, x.y 41, x.y 42, x.y 43, x.y 44]
def cdiffI (w : World) (a b : List (Int × Int)) (ba bb bc r na nb : Nat) (x : DiffS) (W : World) : Prop := Below w.heap.size w W ∧ MapAt W ba na (mkS a) ∧ RangeAt W bb r nb (mkS b) x.left x.cnt ∧ Srt x.mC ∧ (∃ nC, MapAt W bc nC x.mC ∧ nC + x.cnt ≤ (mkS b).length) ∧ ∀ p, p ∈ x.mC ↔ (p ∈ mkS b ∧ getC a p.1 ≠ p.2) ∧ x.left p.1 = false
def cdiffJ (w : World) (a b : List (Int × Int)) (ba bb bc r na nb : Nat) (x : DiffS) (W : World) : Prop := Below w.heap.size w W ∧ MapAt W bb nb (mkS b) ∧ RangeAt W ba r na (mkS a) x.left x.cnt ∧ Srt x.mC ∧ (∃ nC, MapAt W bc nC x.mC ∧ nC + x.cnt ≤ (mkS b).length + (mkS a).length) ∧ ∀ p, p ∈ x.mC ↔ (p ∈ mkS b ∧ getC a p.1 ≠ p.2) ∨ (((∃ v, (p.1, v) ∈ mkS a) ∧ getC b p.1 = 0 ∧ p.2 = 0) ∧ x.left p.1 = false)
theorem cdiff_any (A : Option Addr) (cap : Nat) (a : List (Int × Int)) (A' : Option Addr) (cap' : Nat) (b : List (Int × Int)) (hl : a.length ≤ 10000000) (hl' : b.length ≤ 10000000) (h16 : Cells16 a) (h16' : Cells16 b) (w : World) (hin : CellsIn w w.heap.size A a) (hin' : CellsIn w w.heap.size A' b) :
    Calls Try.prog 21 #[.slice A a.length cap, .slice A' b.length cap'] w (Gives w (diffL a b)) := by
  go_enter Try.func21, Try.ntmps21
  refine coStart <| qQ [] (Many.begin w) fun w1 k1 => coR <| qR 1 [] k1 fun w2 k2 => kX (ccollect_any A cap a (by omega) h16 w2 ((hin.below k2.touch.below).more k2.touch.size)) ?_
  rintro e w3 ⟨ba, hba, rfl, hMa, hB⟩
  have hB3 : Below w.heap.size w w3 := k2.touch.below.trans (hB.mono k2.touch.size)
  have hwa : w.heap.size ≤ ba := Nat.le_trans k2.touch.size hba
  refine ⟨_, rfl, qR 1 [] (Many.begin w3) fun w4 k4 => kX (ccollect_any A' cap' b (by omega) h16' w4 ((hin'.below (bOn hB3 k4)).more (bOn hB3 k4).size)) ?_⟩
  rintro e w5 ⟨bb, hbb, rfl, hMb, hB5⟩
  have hMa4 := hMa.below k4.touch.below
  have hMa5 := hMa4.below hB5
  have hab : ba < bb := Nat.lt_of_lt_of_le hMa4.lt hbb
  have hB5w : Below w.heap.size w w5 := (bOn hB3 k4).trans (hB5.mono (bOn hB3 k4).size)
  refine ⟨_, rfl, qE [] (Many.begin w5) fun w6 k6 => coR <| wM (xMakeMap (run_makeMap _ w6)) <| qE [] (Many.begin _) fun w7 k7 => coS <| coR <| qR 1 [] k7 fun w8 k8 => ?_⟩
  obtain ⟨bc, hbc⟩ : ∃ bc, bc = w6.heap.size := ⟨_, rfl⟩
  have hMa6 := hMa5.below k6.touch.below
  have hMb6 := hMb.below k6.touch.below
  have hbbc : bb < bc := by rw [hbc]; exact hMb6.lt
  have hAl : Below w6.heap.size w6 (w6.alloc (.map #[] 0)) := Below.alloc (Below.refl _ _) (Nat.le_refl _) _
  have hMa8 := (hMa6.below hAl).below k8.touch.below
  have hMb8 := (hMb6.below hAl).below k8.touch.below
  have hMc8 : MapAt w8 bc 0 [] := by rw [hbc]; exact (MapAt.made w6).below k8.touch.below
  have hB8 : Below w.heap.size w w8 := bOn (bAlloc (bOn hB5w k6) _) k8
  obtain ⟨w9, r1, r2, r3⟩ := hMb8.range
  obtain ⟨r, hr⟩ : ∃ r, r = w8.heap.size := ⟨_, rfl⟩
  have hcr : bc < r := by rw [hr]; exact hMc8.lt
  rw [← hr] at r2
  have hB9 : Below w.heap.size w w9 := hB8.trans (r3.mono hB8.size)
  refine wM (xRange r1) <| qE [] (Many.begin w9) fun w10 k10 => coB <| coLoop (cdiffB A a.length cap A' b.length cap' ba bb bc r) (cdiffI w a b ba bb bc r a.length b.length) (fun x => x.cnt) (fun y => ⟨[], fun x => (mkS b).any fun p => decide (p.1 = x), (mkS b).length, y⟩) ⟨bOn hB9 k10, (hMa8.below r3).below k10.touch.below, r2.below k10.touch.below, List.Pairwise.nil, ⟨0, (hMc8.below r3).below k10.touch.below, by show 0 + (mkS b).length ≤ _; omega⟩, ?_⟩ ?_ (by rw [hr, hbc]; kernel_rfl)
  · intro p
    constructor
    · intro h; cases h
    · rintro ⟨⟨h1, -⟩, h2⟩
      rw [List.any_eq_false] at h2
      exact absurd (decide_eq_true rfl) (h2 p h1)
  have hwr : w.heap.size ≤ r := by omega
  clear r1 r2 r3 hB9 hB8 hMc8 hMb8 hMa8 hAl hMb6 hMa6 hB5w hMa5 hMa4 hMb hB5 hMa hB3 hB hbc hr k10 k8 k7 k6 k4 k2 k1
  rintro ⟨mC, left, cnt, y⟩ W ⟨hB, hMa, hR, hsC, ⟨nC, hMC, hnC⟩, hmem⟩
  have hR : RangeAt W bb r b.length (mkS b) left cnt := hR
  have hsC : Srt mC := hsC
  have hMC : MapAt W bc nC mC := hMC
  have hnC : nC + cnt ≤ (mkS b).length := hnC
  have hlb := len_mkS b
  have hla := len_mkS a
  have hmem : ∀ p, p ∈ mC ↔ (p ∈ mkS b ∧ getC a p.1 ≠ p.2) ∧ left p.1 = false := hmem
  rcases hR.next 0 with ⟨hl0, hrun⟩ | ⟨x, c, w6, cnt', hx, hc, hlx, hxm, hrun, hR6, hlt, hg6, hen⟩
  · refine coR <| wM (xNext hrun) <| qE [] (Many.begin W) fun wa ka => coS <| coF <| coX <| eoTx <| eoTx <| eoBx <| eoT <| coS <| coR <| qR 1 [] ka fun w8 k8 => ?_
    have hMa8 := hMa.below k8.touch.below
    have hMb8 := hR.map.below k8.touch.below
    have hMc8 := hMC.below k8.touch.below
    obtain ⟨w9, r1, r2, r3⟩ := hMa8.range
    obtain ⟨q, hq⟩ : ∃ q, q = w8.heap.size := ⟨_, rfl⟩
    have hcq : bc < q := by rw [hq]; exact hMc8.lt
    rw [← hq] at r2
    have hB9 : Below w.heap.size w w9 := (bOn hB k8).trans (r3.mono (bOn hB k8).size)
    refine wM (xRange r1) <| qE [] (Many.begin w9) fun w10 k10 => coB <| coLoop (cdiffC A a.length cap A' b.length cap' ba bb bc q) (cdiffJ w a b ba bb bc q a.length b.length) (fun x => x.cnt) (fun y => ⟨mC, fun x => (mkS a).any fun p => decide (p.1 = x), (mkS a).length, y⟩) ⟨bOn hB9 k10, (hMb8.below r3).below k10.touch.below, r2.below k10.touch.below, hsC, ⟨nC, (hMc8.below r3).below k10.touch.below, by show nC + (mkS a).length ≤ _; omega⟩, ?_⟩ ?_ (by rw [hq]; kernel_rfl)
    · intro p
      show p ∈ mC ↔ _
      rw [hmem]
      constructor
      · rintro ⟨h1, -⟩; exact .inl h1
      · rintro (h1 | ⟨⟨⟨v, hv⟩, -⟩, h2⟩)
        · exact ⟨h1, hl0 _⟩
        · rw [List.any_eq_false] at h2
          exact absurd (by simp) (h2 (p.1, v) hv)
    have hwq : w.heap.size ≤ q := by omega
    clear r1 r2 r3 hB9 hMc8 hMb8 hMa8 hq k10 k8 ka hmem hnC hMC hsC hR hMa hB hrun hl0
    rintro ⟨mC, left, cnt, y⟩ W ⟨hB, hMb, hR, hsC, ⟨nC, hMC, hnC⟩, hmem⟩
    have hR : RangeAt W ba q a.length (mkS a) left cnt := hR
    have hsC : Srt mC := hsC
    have hMC : MapAt W bc nC mC := hMC
    have hnC : nC + cnt ≤ (mkS b).length + (mkS a).length := hnC
    have hmem : ∀ p, p ∈ mC ↔ (p ∈ mkS b ∧ getC a p.1 ≠ p.2) ∨ (((∃ v, (p.1, v) ∈ mkS a) ∧ getC b p.1 = 0 ∧ p.2 = 0) ∧ left p.1 = false) := hmem
    rcases hR.next 0 with ⟨hl0, hrun⟩ | ⟨x, c, w6, cnt', hx, hc, hlx, hxm, hrun, hR6, hlt, hg6, hen⟩
    · have hfin : mC = diffL a b := eq_of_mem hsC (srt_diffL a b) fun p => by
        rw [hmem, mem_diffL]
        constructor
        · rintro (⟨h1, h2⟩ | ⟨⟨⟨v, hv⟩, h2, h3⟩, -⟩)
          · have := mkS_at b h1
            exact ⟨by rw [this]; exact h2, this.symm⟩
          · refine ⟨?_, by rw [h2]; exact h3⟩
            rw [mkS_at a hv, h2]
            exact nz_mkS a _ hv
        · rintro ⟨h1, h2⟩
          by_cases h0 : getC b p.1 = 0
          · refine .inr ⟨⟨⟨getC a p.1, (mem_mkS a _).2 ⟨rfl, ?_⟩⟩, h0, by rw [h2, h0]⟩, hl0 _⟩
            show getC a p.1 ≠ 0
            rw [h0] at h1
            exact h1
          · exact .inl ⟨(mem_mkS b p).2 ⟨h2.symm, by rw [h2]; exact h0⟩, by rw [h2]; exact h1⟩
      subst hfin
      refine coR <| wM (xNext hrun) <| qE [] (Many.begin W) fun wa ka => coS <| coF <| coX <| eoTx <| eoTx <| eoBx <| eoT <| coR <| qR 1 [] ka fun wb kb => kX (clist_any bc _ (diffL a b) (srt_diffL a b) (by have := len_diffL a b; omega) wb (hMC.below kb.touch.below)) ?_
      rintro e wc ⟨D, c, rfl, g1, g2, g3, g4⟩
      exact ⟨_, rfl, qE [] (Many.begin wc) fun wd kd => coRet <| eoIr (.slice D (diffL a b).length c) ⟨D, c, rfl, (g1.below kd.touch.below).more kd.touch.size, g2, g3, bOn ((bOn hB kb).trans (g4.mono (bOn hB kb).size)) kd⟩⟩
    · refine coR <| wM (xNext hrun) <| wM (xExtract (.bool true) #[.bool true, .int .u16 x, .int .u8 c]) <| wT <| coS <| coT <| coSkip <| eoT <| coB <| coR <| wM (xEntry hen) <| qE [] (Many.begin w6) fun wa ka => coR <| qR 2 [] ka fun wb kb => ?_
      have hB6 : Below w.heap.size w w6 := below_some hB hg6 hwq hB.size
      have hMb6 := (hMb.grown hg6 (by intro e; cases e; omega)).below kb.touch.below
      have hMC6 := (hMC.grown hg6 (by intro e; cases e; omega)).below kb.touch.below
      have hRb := hR6.below kb.touch.below
      have hlook := hMb6.look (srt_mkS b) hx
      rw [getC_mkS] at hlook
      refine wM (xLookup hlook) <| qE [] kb fun wc kc => coI (getC b x == 0) (fun h => coZ <| qR 2 [] kc fun wd kd => ?_) fun h => coSkip <| eoB <| eoRound (fun y => ⟨mC, fun z => left z && !decide (z = x), cnt', y⟩) ⟨bOn hB6 kc, (hMb.grown hg6 (by intro e; cases e; omega)).below kc.touch.below, hR6.below kc.touch.below, hsC, ⟨nC, (hMC.grown hg6 (by intro e; cases e; omega)).below kc.touch.below, by show nC + cnt' ≤ _; omega⟩, ?_⟩ hlt
      · have h : getC b x = 0 := by simpa using h
        obtain ⟨we, s1, s2, s3⟩ := ((hMC.grown hg6 (by intro e; cases e; omega)).below kd.touch.below).store (by simp only [maxLen]; omega) hx (v := 0) ⟨by omega, by omega⟩
        have hBe := below_some (bOn hB6 kd) s3 (by omega) (bOn hB6 kd).size
        refine wD (xUpdate s1) <| woE <| eoB <| eoRound (fun y => ⟨putS x 0 mC, fun z => left z && !decide (z = x), cnt', y⟩) ⟨hBe, ((hMb.grown hg6 (by intro e; cases e; omega)).below kd.touch.below).grown s3 (by intro e; cases e; omega), (hR6.below kd.touch.below).grown s3 (by intro e; cases e; omega) (by intro e; cases e; omega), srt_putS hsC, ⟨nC + 1, s2, by show nC + 1 + cnt' ≤ _; omega⟩, ?_⟩ hlt
        intro p
        show p ∈ putS x 0 mC ↔ (p ∈ mkS b ∧ getC a p.1 ≠ p.2) ∨ (((∃ v, (p.1, v) ∈ mkS a) ∧ getC b p.1 = 0 ∧ p.2 = 0) ∧ (left p.1 && !decide (p.1 = x)) = false)
        rw [mem_putS, hmem]
        constructor
        · rintro (rfl | ⟨h1 | ⟨h1, h2⟩, hne⟩)
          · exact .inr ⟨⟨⟨c, hxm⟩, h, rfl⟩, by simp⟩
          · exact .inl h1
          · exact .inr ⟨h1, by rw [h2]; rfl⟩
        · rintro (h1 | ⟨h1, h2⟩)
          · refine .inr ⟨.inl h1, fun e => ?_⟩
            have e1 := mkS_at b h1.1
            rw [e, h] at e1
            exact nz_mkS b p h1.1 e1.symm
          · by_cases e : p.1 = x
            · exact .inl (Prod.ext e h1.2.2)
            · rw [decide_eq_false e] at h2
              exact .inr ⟨.inr ⟨h1, by simpa using h2⟩, e⟩
      · have h : getC b x ≠ 0 := by simpa using h
        intro p
        show p ∈ mC ↔ (p ∈ mkS b ∧ getC a p.1 ≠ p.2) ∨ (((∃ v, (p.1, v) ∈ mkS a) ∧ getC b p.1 = 0 ∧ p.2 = 0) ∧ (left p.1 && !decide (p.1 = x)) = false)
        rw [hmem]
        constructor
        · rintro (h1 | ⟨h1, h2⟩)
          · exact .inl h1
          · exact .inr ⟨h1, by rw [h2]; rfl⟩
        · rintro (h1 | ⟨h1, h2⟩)
          · exact .inl h1
          · by_cases e : p.1 = x
            · exact absurd (e ▸ h1.2.1) h
            · rw [decide_eq_false e] at h2
              exact .inr ⟨h1, by simpa using h2⟩
  · refine coR <| wM (xNext hrun) <| wM (xExtract (.bool true) #[.bool true, .int .u16 x, .int .u8 c]) <| wT <| coS <| coT <| coSkip <| eoT <| coB <| coR <| wM (xEntry hen) <| qE [] (Many.begin w6) fun wa ka => coR <| qR 3 [] ka fun wb kb => ?_
    have hB6 : Below w.heap.size w w6 := below_some hB hg6 hwr hB.size
    have hMa6 := hMa.grown hg6 (by intro e; cases e; omega)
    have hMC6 := hMC.grown hg6 (by intro e; cases e; omega)
    have hlook := (hMa6.below kb.touch.below).look (srt_mkS a) hx
    rw [getC_mkS] at hlook
    have hbx := mkS_at b hxm
    refine wM (xLookup hlook) <| qE [] kb fun wc kc => coI (c != getC a x) (fun h => coZ <| qR 3 [] kc fun wd kd => ?_) fun h => coSkip <| eoB <| eoRound (fun y => ⟨mC, fun z => left z && !decide (z = x), cnt', y⟩) ⟨bOn hB6 kc, hMa6.below kc.touch.below, hR6.below kc.touch.below, hsC, ⟨nC, hMC6.below kc.touch.below, by show nC + cnt' ≤ _; omega⟩, ?_⟩ hlt
    · have h : c ≠ getC a x := by simpa using h
      obtain ⟨we, s1, s2, s3⟩ := (hMC6.below kd.touch.below).store (by simp only [maxLen]; omega) hx hc
      have hBe := below_some (bOn hB6 kd) s3 (by omega) (bOn hB6 kd).size
      refine wD (xUpdate s1) <| woE <| eoB <| eoRound (fun y => ⟨putS x c mC, fun z => left z && !decide (z = x), cnt', y⟩) ⟨hBe, (hMa6.below kd.touch.below).grown s3 (by intro e; cases e; omega), (hR6.below kd.touch.below).grown s3 (by intro e; cases e; omega) (by intro e; cases e; omega), srt_putS hsC, ⟨nC + 1, s2, by show nC + 1 + cnt' ≤ _; omega⟩, ?_⟩ hlt
      intro p
      show p ∈ putS x c mC ↔ (p ∈ mkS b ∧ getC a p.1 ≠ p.2) ∧ (left p.1 && !decide (p.1 = x)) = false
      rw [mem_putS, hmem]
      constructor
      · rintro (rfl | ⟨⟨h1, h2⟩, hne⟩)
        · exact ⟨⟨hxm, Ne.symm h⟩, by simp⟩
        · exact ⟨h1, by rw [h2]; rfl⟩
      · rintro ⟨h1, h2⟩
        by_cases e : p.1 = x
        · exact .inl (srt_one (srt_mkS b) h1.1 hxm e)
        · rw [decide_eq_false e] at h2
          exact .inr ⟨⟨h1, by simpa using h2⟩, e⟩
    · have h : c = getC a x := by simpa using h
      intro p
      show p ∈ mC ↔ (p ∈ mkS b ∧ getC a p.1 ≠ p.2) ∧ (left p.1 && !decide (p.1 = x)) = false
      rw [hmem]
      constructor
      · rintro ⟨h1, h2⟩
        exact ⟨h1, by rw [h2]; rfl⟩
      · rintro ⟨h1, h2⟩
        by_cases e : p.1 = x
        · have := srt_one (srt_mkS b) h1.1 hxm e
          subst this
          exact absurd h.symm h1.2
        · rw [decide_eq_false e] at h2
          exact ⟨h1, by simpa using h2⟩
end Go.Proofs.Ytahnejcfengljaa
