/- Layer 14 (cells): list, Make, Put, Load. -/
import Derived.Test.YtahnejcfengljaaCellsSort
namespace Go.Proofs.Ytahnejcfengljaa
open Go.RowKit
set_option linter.unusedVariables false
set_option linter.unusedSimpArgs false
set_option maxRecDepth 20000

theorem xExtract {P : Program} {ρ : Operand → Value} {o : Oper} {x : Operand} {w : World} (V : Value) (vs : Array Value) {i : Nat} (hx : ρ x = .tuple vs := by kernel_rfl) (hi : vs[i]? = some V := by kernel_rfl) (ho : o.op = .extract x i := by exact rfl) : (execOp ρ o).run P w = .ok (.value V) w := by
  unfold execOp
  simp [ho, hx, Instr.extract, hi]
theorem xSlice {P : Program} {ρ : Operand → Value} {o : Oper} {x : Operand} {V R : Value} {t : TypeId} {lo hi mx : Option Operand} {l m n : Option Value} {w : World} (h : (Instr.sliceAt t V l m n).run P w = .ok R w) (ho : o.op = .slice t x lo hi mx := by exact rfl) (hx : ρ x = V := by kernel_rfl) (hl : lo.map ρ = l := by kernel_rfl) (hh : hi.map ρ = m := by kernel_rfl) (hm : mx.map ρ = n := by kernel_rfl) : (execOp ρ o).run P w = .ok (.value R) w := by
  unfold execOp
  simp only [ho, hx, hl, hh, hm, Sem.run_bind, Sem.run_pure, h, Result.andThen_ok]
theorem slAll (A : Option Addr) (n c : Nat) (h : n ≤ c) (w : World) : (Instr.sliceAt 22 (.slice A n c) none (some (.int .i64 (n : Int))) (some (.int .i64 (n : Int)))).run Try.prog w = .ok (.slice A n n) w := by
  have h1 : ¬ ((n : Int) < 0) := by omega
  have h2 : ¬ (c < n) := by omega
  simp [go_sem, h1, h2]
/-- SortFunc of a row of the call's own -/
theorem csort_own {base n : Nat} {v : Value} {l : List (Int × Int)} (hl : l.length ≤ 1000000000) (w : World) (hown : w.ownsRow base 38 2 v l.length (cvs l)) :
    Calls Try.prog 26 #[v, .func (.func 27) #[] #[]] w fun e w' => e = .returned (.tuple #[]) ∧ ∃ (A : Option Addr) (c : Nat) (d : List (Int × Int)), v = .slice A l.length c ∧ d.Perm l ∧ d.Pairwise (fun x y => x.1 ≤ y.1) ∧ CellsIn w' w'.heap.size A d ∧ l.length ≤ c ∧ (A = none → l.length = 0) ∧ w.grownBy w' v.ownBlock := by
  by_cases h0 : l = []
  · subst h0
    obtain ⟨A, c, rfl, hc, hci, hn⟩ := own_cslice hown
    refine (AnyF.slices_SortFunc_none (P := Try.prog) (ρ := Sh.sortC_ren) { Sh.sortC with } A c _ w).mono ?_
    rintro e w' ⟨rfl, rfl⟩
    exact ⟨rfl, A, c, [], rfl, .refl _, .nil, CellsIn.nil _ _ _, hc, fun _ => rfl, ⟨rfl, rfl, rfl, Nat.le_refl _, fun _ _ _ => rfl⟩⟩
  · have hpos : 0 < l.length := by cases l with
                                     | nil => exact absurd rfl h0
                                     | cons c r => simp
    rcases hown.2 with ⟨-, e2⟩ | ⟨g, cap, cur, e1, -, hh, hle, -⟩
    · omega
    · subst e1
      refine (csort_any g cap l hl w (own_holds hown) (Array.getElem?_eq_some_iff.1 hh).1).mono ?_
      rintro e w' ⟨rfl, d, hp, hs, hci, hg⟩
      exact ⟨rfl, _, cap, d, rfl, hp, hs, hci, hle, (fun e => by cases e), hg⟩

structure ListS where
  ss : List (Int × Int)
  v : Value
  left : Int → Bool
  cnt : Nat
  y : Nat → Value
def clistB (b r : Nat) (x : ListS) : List Value := [.map (some b), x.y 1, x.y 2, x.v, x.y 4, x.y 5, x.y 6, .pointer (some ⟨r, 0, none⟩), x.y 8, x.y 9, x.y 10, x.y 11, x.y 12, x.y 13, x.y 14, x.y 15, x.y 16, x.y 17, x.y 18, x.y 19, x.y 20, x.y 21, x.y 22, x.y 23, x.y 24, x.y 25, x.y 26]
def clistI (w : World) (b r n : Nat) (m : List (Int × Int)) (x : ListS) (W : World) : Prop := Below w.heap.size w W ∧ W.ownsRow (r + 1) 38 2 x.v x.ss.length (cvs x.ss) ∧ RangeAt W b r n m x.left x.cnt ∧ (∀ p, p ∈ x.ss ↔ p ∈ m ∧ x.left p.1 = false) ∧ x.ss.Pairwise (fun p q => p.1 ≠ q.1) ∧ x.ss.length + x.cnt ≤ m.length
theorem clist_any (b n : Nat) (m : List (Int × Int)) (hs : Srt m) (hl : m.length ≤ 100000000) (w : World) (hM : MapAt w b n m) :
    Calls Try.prog 24 #[.map (some b)] w (Gives w m) := by
  go_enter Try.func24, Try.ntmps24
  refine coStart <| qQ [] (Many.begin w) fun w1 k1 => qQ [] k1 fun w2 k2 => coS <| coR <| qR 1 [] k2 fun w3 k3 => ?_
  have hM3 := hM.below k3.touch.below
  obtain ⟨w4, r1, r2, r3⟩ := hM3.range
  obtain ⟨r, hr⟩ : ∃ r, r = w3.heap.size := ⟨_, rfl⟩
  have hB4 : Below w.heap.size w w4 := k3.touch.below.trans (r3.mono k3.touch.size)
  have hbr : b < r := by rw [hr]; exact hM3.lt
  have hwr : w.heap.size ≤ r := by rw [hr]; exact k3.touch.size
  rw [← hr] at r2
  refine wM (xRange r1) <| qE [] (Many.begin w4) fun w5 k5 => coB <| coLoop (clistB b r) (clistI w b r n m) (fun x => x.cnt) (fun y => ⟨[], .slice none 0 0, fun x => m.any fun p => decide (p.1 = x), m.length, y⟩) ⟨bOn hB4 k5, World.ownsRow_nil .., r2.below k5.touch.below, ?_, List.Pairwise.nil, by show 0 + m.length ≤ m.length; omega⟩ ?_ (by rw [hr]; kernel_rfl)
  · intro p
    constructor
    · intro h; cases h
    · rintro ⟨h1, h2⟩
      rw [List.any_eq_false] at h2
      exact absurd (decide_eq_true rfl) (h2 p h1)
  clear r1 r2 r3 hB4 hM3 k5 k3 hr
  rintro ⟨ss, v, left, cnt, y⟩ W ⟨hB, hown, hR, hmem, hpw, hlen⟩
  have hown : W.ownsRow (r + 1) 38 2 v ss.length (cvs ss) := hown
  have hR : RangeAt W b r n m left cnt := hR
  have hmem : ∀ p, p ∈ ss ↔ p ∈ m ∧ left p.1 = false := hmem
  have hpw : ss.Pairwise (fun p q => p.1 ≠ q.1) := hpw
  have hlen : ss.length + cnt ≤ m.length := hlen
  rcases hR.next 0 with ⟨hl0, hrun⟩ | ⟨x, c, w6, cnt', hx, hc, hlx, hxm, hrun, hR6, hlt, hg6, hen⟩
  · refine coR <| wM (xNext hrun) <| qE [] (Many.begin W) fun wa ka => coS <| coF <| coX <| eoTx <| eoTx <| eoBx <| eoT <| coR <| qR 1 [] ka fun wb kb => ?_
    have hownb := own_below hown kb.touch.below
    refine kO (csort_own (n := 0) (by omega) wb hownb) ?_
    rintro wc ⟨A, cp, d, rfl, hp, hsd, hci, hcp, hA, hg⟩
    have hBc : Below w.heap.size w wc := below_own (bOn hB kb) hg hownb (by omega) (bOn hB kb).size
    have hds : Srt d := by
      have h1 : d.Pairwise (fun p q => p.1 ≠ q.1) := (hp.pairwise_iff (fun {a b} (h : a.1 ≠ b.1) => h.symm)).2 hpw
      have h2 := hsd.and h1
      exact h2.imp fun {a b} ⟨h3, h4⟩ => by omega
    have hdm : d = m := eq_of_mem hds hs fun p => by
      rw [hp.mem_iff, hmem]
      exact ⟨fun h => h.1, fun h => ⟨h, hl0 _⟩⟩
    have hln : ss.length = m.length := by rw [← hdm, hp.length_eq]
    subst hdm
    refine qE [] (Many.begin wc) fun wd kd => coR <| qR 5 [] kd fun we ke => ?_
    refine wM (xSlice (slAll A ss.length cp hcp _)) <| qE [] ke fun wf kf => coRet <| eoIr (.slice A ss.length ss.length) ⟨A, d.length, ?_, (hci.below kf.touch.below).more kf.touch.size, Nat.le_refl _, fun e => hln ▸ hA e, bOn hBc kf⟩
    rw [hln]
  · refine coR <| wM (xNext hrun) <| wM (xExtract (.bool true) #[.bool true, .int .u16 x, .int .u8 c]) <| wT <| coS <| coT <| coSkip <| eoT <| coB <| coR <| wM (xEntry hen) <| qE [] (Many.begin w6) fun wa ka => ?_
    have hB6 : Below w.heap.size w w6 := below_some hB hg6 hwr hB.size
    have hown6 : w6.ownsRow (r + 1) 38 2 v ss.length (cvs ss) := hown.kept hg6 (by
      cases h : v.ownBlock with
      | none => exact .inl rfl
      | some g => exact .inr fun e => by cases e; have := (hown.lt _ h).1; omega)
    refine coZ <| qR 4 [] ka fun wb kb => wM (xBuildS (bsC x c wb)) <| ?_
    have hownb := (own_below hown6 kb.touch.below).alloc (.cells #[.int .u16 x, .int .u8 c] 38)
    have hRb := (hR6.below kb.touch.below)
    have hRb' : RangeAt (wb.alloc (.cells #[.int .u16 x, .int .u8 c] 38)) b r n m _ cnt' := hRb.below (Below.alloc (Below.refl _ _) (Nat.le_refl _) _)
    refine qAc (.tmp 13) (.tmp 17) (r + 1) _ v ss.length ss (some ⟨wb.heap.size, 0, none⟩) 1 [(x, c)] hRb'.lt hownb (ccell_new wb x c _) (fun e => by cases e) (by show ss.length + 1 ≤ _; omega) fun v' wc own' g' => ?_
    have hne : ∀ q, q ≤ r → some q ≠ v.ownBlock := fun q hq e => by have := (hownb.lt q e.symm).1; omega
    have hBc := below_own (bAlloc (bOn hB6 kb) _) g' hownb (by omega) (bAlloc (bOn hB6 kb) _).size
    refine qF [] (Many.begin wc) fun wd kd => eoB <| eoRound (fun y => ⟨ss ++ [(x, c)], v', fun z => left z && !decide (z = x), cnt', y⟩) ⟨bOn hBc kd, ?_, (hRb'.grown g' (hne b (by omega)) (hne r (Nat.le_refl _))).below kd.touch.below, ?_, ?_, ?_⟩ hlt
    · show wd.ownsRow _ _ _ v' (ss ++ [(x, c)]).length _
      rw [List.length_append]
      exact own_below own' kd.touch.below
    · intro p
      show p ∈ ss ++ [(x, c)] ↔ p ∈ m ∧ (left p.1 && !decide (p.1 = x)) = false
      rw [List.mem_append, hmem, List.mem_singleton]
      constructor
      · rintro (⟨h1, h2⟩ | rfl)
        · exact ⟨h1, by rw [h2]; rfl⟩
        · exact ⟨hxm, by simp⟩
      · rintro ⟨h1, h2⟩
        by_cases e : p.1 = x
        · exact .inr (srt_one hs h1 hxm e)
        · rw [decide_eq_false e] at h2
          exact .inl ⟨h1, by simpa using h2⟩
    · show (ss ++ [(x, c)]).Pairwise _
      rw [List.pairwise_append]
      refine ⟨hpw, List.pairwise_singleton _ _, fun p hp q hq => ?_⟩
      rw [List.mem_singleton] at hq
      subst hq
      intro e
      have e : p.1 = x := e
      have := ((hmem p).1 hp).2
      rw [e, hlx] at this
      cases this
    · show (ss ++ [(x, c)]).length + cnt' ≤ m.length
      simp
      omega
theorem Gives.on {w w1 w2 : World} {m : List (Int × Int)} {e : Ending} (hB : Below w.heap.size w w1) (h : Gives w1 m e w2) : Gives w m e w2 := by
  obtain ⟨A', c, h1, h2, h3, h4, h5⟩ := h
  exact ⟨A', c, h1, h2, h3, h4, hB.trans (h5.mono hB.size)⟩
/- Make -/
theorem cmake_any (A : Option Addr) (cap : Nat) (l : List (Int × Int)) (hl : l.length ≤ 100000000) (h16 : Cells16 l) (w : World) (hin : CellsIn w w.heap.size A l) :
    Calls Try.prog 11 #[.slice A l.length cap] w (Gives w (mkS l)) := by
  go_enter Try.func11, Try.ntmps11
  refine coStart <| qQ [] (Many.begin w) fun w1 k1 => coR <| qR 1 [] k1 fun w2 k2 => kX (ccollect_any A cap l (by omega) h16 w2 ((hin.below k2.touch.below).more k2.touch.size)) ?_
  rintro e w3 ⟨b, hb, rfl, hM, hB⟩
  have hB3 : Below w.heap.size w w3 := k2.touch.below.trans (hB.mono k2.touch.size)
  refine ⟨_, rfl, kX (clist_any b _ (mkS l) (srt_mkS l) (Nat.le_trans (len_mkS l) hl) w3 hM) ?_⟩
  rintro e w4 ⟨A', c, rfl, g1, g2, g3, g4⟩
  refine ⟨_, rfl, qE [] (Many.begin w4) fun w5 k5 => coRet <| eoIr (.slice A' (mkS l).length c) ⟨A', c, rfl, (g1.below k5.touch.below).more k5.touch.size, g2, g3, bOn (hB3.trans (g4.mono hB3.size)) k5⟩⟩
/- Put -/
theorem cput_any (A : Option Addr) (cap : Nat) (l : List (Int × Int)) (a b : Int) (hl : l.length ≤ 10000000) (h16 : Cells16 l) (ha : 0 ≤ a ∧ a ≤ 65535) (hb : 0 ≤ b ∧ b ≤ 255) (w : World) (hin : CellsIn w w.heap.size A l) :
    Calls Try.prog 15 #[.slice A l.length cap, .int .u16 a, .int .u8 b] w (Gives w (mkS (l ++ [(a, b)]))) := by
  go_enter Try.func15, Try.ntmps15
  refine coStart <| qQ [] (Many.begin w) fun w1 k1 => coR <| qR 1 [] k1 fun w2 k2 => kX (ccollect_any A cap l (by omega) h16 w2 ((hin.below k2.touch.below).more k2.touch.size)) ?_
  rintro e w3 ⟨q, hq, rfl, hM, hB⟩
  have hB3 : Below w.heap.size w w3 := k2.touch.below.trans (hB.mono k2.touch.size)
  have hwq : w.heap.size ≤ q := Nat.le_trans k2.touch.size hq
  refine ⟨_, rfl, qE [] (Many.begin w3) fun w4 k4 => coR <| qR 3 [] k4 fun w5 k5 => kO (cstore_any w5 q _ (mkS l) a b ha hb (hM.below k5.touch.below) (by simp only [maxLen]; omega)) fun w6 ⟨hM6, hg6⟩ => wT <| ?_⟩
  have hB6 := below_some (bOn hB3 k5) hg6 hwq (bOn hB3 k5).size
  have e6 : stepS (mkS l) (a, b) = mkS (l ++ [(a, b)]) := (mkS_snoc l (a, b)).symm
  rw [e6] at hM6
  refine coR <| qR 1 [] (Many.begin w6) fun w7 k7 => kX (clist_any q _ (mkS (l ++ [(a, b)])) (srt_mkS _) (by have := len_mkS (l ++ [(a, b)]); simp at this; omega) w7 (hM6.below k7.touch.below)) ?_
  rintro e w8 ⟨A', c, rfl, g1, g2, g3, g4⟩
  refine ⟨_, rfl, qE [] (Many.begin w8) fun w9 k9 => coRet <| eoIr (.slice A' (mkS (l ++ [(a, b)])).length c) ⟨A', c, rfl, (g1.below k9.touch.below).more k9.touch.size, g2, g3, bOn ((bOn hB6 k7).trans (g4.mono (bOn hB6 k7).size)) k9⟩⟩
/- Load -/
def cloadB (A : Option Addr) (n cap : Nat) (A' : Option Addr) (n' cap' : Nat) (q : Nat) (x : LoopV) : List Value := [.slice A n cap, .int .u16 x.v, .slice A' n' cap', x.y 3, x.y 4, x.y 5, x.y 6, .map (some q), x.y 8, x.y 9, x.y 10, x.y 11, .slice A' n' cap', .int .i64 (n' : Int), .int .i64 (x.k : Int), x.y 15, x.y 16, x.y 17, x.y 18, x.y 19, x.y 20, x.y 21, x.y 22, x.y 23, x.y 24, x.y 25, x.y 26]
def cloadI (w : World) (q n : Nat) (l : List (Int × Int)) (at_ : Int) (bs : List Int) (x : LoopV) (W : World) : Prop := Below w.heap.size w W ∧ MapAt W q (n + x.k) (mkS (l ++ loadL at_ (bs.take x.k))) ∧ x.v = (at_ + (x.k : Int)) % 65536 ∧ x.k ≤ bs.length
theorem cload_any (A : Option Addr) (cap : Nat) (l : List (Int × Int)) (at_ : Int) (A' : Option Addr) (cap' : Nat) (bs : List Int) (hl : l.length ≤ 10000000) (h16 : Cells16 l) (ha : 0 ≤ at_ ∧ at_ ≤ 65535) (hbl : bs.length ≤ 65000) (hb : ∀ b ∈ bs, 0 ≤ b ∧ b ≤ 255) (w : World) (hin : CellsIn w w.heap.size A l) (hy : BytesIn w w.heap.size A' bs) :
    Calls Try.prog 17 #[.slice A l.length cap, .int .u16 at_, .slice A' bs.length cap'] w (Gives w (mkS (l ++ loadL at_ bs))) := by
  go_enter Try.func17, Try.ntmps17
  refine coStart <| qQ [] (Many.begin w) fun w1 k1 => coR <| qR 1 [] k1 fun w2 k2 => kX (ccollect_any A cap l (by omega) h16 w2 ((hin.below k2.touch.below).more k2.touch.size)) ?_
  rintro e w3 ⟨q, hq, rfl, hM, hB⟩
  have hB3 : Below w.heap.size w w3 := k2.touch.below.trans (hB.mono k2.touch.size)
  have hwq : w.heap.size ≤ q := Nat.le_trans k2.touch.size hq
  refine ⟨_, rfl, qE [] (Many.begin w3) fun w4 k4 => coS <| qQ [] k4 fun w5 k5 => coB <| coLoop (cloadB A l.length cap A' bs.length cap' q) (cloadI w q l.length l at_ bs) (fun x => bs.length - x.k) (fun y => ⟨0, at_, y⟩) ⟨bOn hB3 k5, ?_, by show at_ = (at_ + 0) % 65536; omega, Nat.zero_le _⟩ ?_⟩
  · show MapAt w5 q (l.length + 0) (mkS (l ++ loadL at_ (bs.take 0)))
    have := hM.below k5.touch.below
    simpa [loadL] using this
  clear k5 k4 hB3 hB hM
  rintro ⟨k, v, y⟩ W ⟨hB, hM, hv, hk⟩
  have hk : k ≤ bs.length := hk
  have hv : v = (at_ + (k : Int)) % 65536 := hv
  have hM : MapAt W q (l.length + k) (mkS (l ++ loadL at_ (bs.take k))) := hM
  refine qQ [] (Many.begin W) fun wa ka => coS <| coI (decide ((k : Int) < (bs.length : Int))) (fun hlt => coSkip <| eoT <| coS <| coB <| ?_) fun hge => coX <| eoTx <| eoTx <| eoBx <| eoT ?_
  · have hlt : k < bs.length := by have : (k : Int) < (bs.length : Int) := by simpa using hlt
                                   omega
    obtain ⟨p, rfl⟩ := hy.addr hlt
    refine coR <| wM (xIndex (ixB p bs.length cap' k hlt _)) <| wM (xLoad ((hy.below (bOn hB ka)).ld hlt)) <| qE [] ka fun wb kb => coR <| qR 3 [] kb fun wc kc => kO (cstore_any wc q _ _ v bs[k] (by omega) (hb _ (List.getElem_mem hlt)) (hM.below kc.touch.below) (by simp only [maxLen]; omega)) fun wd ⟨hMd, hgd⟩ => wT <| ?_
    have hBd := below_some (bOn hB kc) hgd hwq (bOn hB kc).size
    refine coZ <| qR 1 [] (Many.begin wd) fun we ke => wM (xBin (guard16 _ _ _ v 1 _) (add16 v 1 _)) <| qF [] ke fun wf kf => eoB <| eoT <| coZ <| wM (xInc k (by omega)) <| qF [] kf fun wg kg => eoRound (fun y => ⟨k + 1, (v + 1) % 65536, y⟩) ⟨bOn hBd kg, ?_, ?_, hlt⟩ (by show bs.length - (k + 1) < bs.length - k; omega)
    · show MapAt wg q (l.length + (k + 1)) (mkS (l ++ loadL at_ (bs.take (k + 1))))
      rw [loadL_take bs at_ ha k hlt, ← List.append_assoc, mkS_snoc, ← hv]
      exact hMd.below kg.touch.below
    · show (v + 1) % 65536 = (at_ + ((k + 1 : Nat) : Int)) % 65536
      omega
  · have hkl : k = bs.length := by have : ¬ ((k : Int) < (bs.length : Int)) := by simpa using hge
                                   omega
    subst hkl
    rw [List.take_length] at hM
    refine coR <| qR 1 [] ka fun w7 k7 => kX (clist_any q _ (mkS (l ++ loadL at_ bs)) (srt_mkS _) (by have := len_mkS (l ++ loadL at_ bs); rw [List.length_append, loadL_length] at this; omega) w7 (hM.below k7.touch.below)) ?_
    rintro e w8 ⟨A', c, rfl, g1, g2, g3, g4⟩
    refine ⟨_, rfl, qE [] (Many.begin w8) fun w9 k9 => coRet <| eoIr (.slice A' (mkS (l ++ loadL at_ bs)).length c) ⟨A', c, rfl, (g1.below k9.touch.below).more k9.touch.size, g2, g3, bOn ((bOn hB k7).trans (g4.mono (bOn hB k7).size)) k9⟩⟩
end Go.Proofs.Ytahnejcfengljaa
