/- Layer 14 (cells): the document's own Make and Put. -/
import Derived.Test.YtahnejcfengljaaCellsChk
namespace Go.Proofs.Ytahnejcfengljaa
open Go.RowKit
set_option linter.unusedVariables false
set_option linter.unusedSimpArgs false
set_option maxRecDepth 20000

theorem cvI16 (a : Int) (h : 0 ≤ a ∧ a ≤ 65535) (w : World) : (convert 3 23 (.int .i64 a)).run Try.prog w = .ok (.int .u16 a) w := by
  have e : IntKind.u16.wrap a = a := by rw [IntKind.wrap_u16]; omega
  simp [go_sem, e]
theorem bsC (a b : Int) (w : World) : (Instr.buildSlice 22 1 #[(0, .agg #[.int .u16 a, .int .u8 b])]).run Try.prog w = .ok (.slice (some ⟨w.heap.size, 0, none⟩) 1 1) (w.alloc (.cells #[.int .u16 a, .int .u8 b] 38)) := by simp [go_sem]
theorem ccell_new (w : World) (a b : Int) (t : TypeId) : CellsIn (w.alloc (.cells #[.int .u16 a, .int .u8 b] t)) (w.heap.size + 1) (some ⟨w.heap.size, 0, none⟩) [(a, b)] :=
  CellsIn.of_values (by simp) (cells_list_new' w [.int .u16 a, .int .u8 b] t)
section
variable {P : Program} {ρ : Operand → Value} {o : Oper} {V : Value}
theorem xBuildS {t : TypeId} {n : Nat} {parts : Array (Nat × Operand)} {ps : Array (Nat × Value)} {w w' : World} (h : (Instr.buildSlice t n ps).run P w = .ok V w') (ho : o.op = .buildSlice t n parts := by exact rfl) (hx : (parts.map fun (i, x) => (i, ρ x)) = ps := by kernel_rfl) : (execOp ρ o).run P w = .ok (.value V) w' := by
  unfold execOp
  simp only [ho, hx, Sem.run_bind, Sem.run_pure, h, Result.andThen_ok]
end
theorem below_own {n : Nat} {w W w1 : World} {base : Nat} {e : TypeId} {size : Nat} {v : Value} {m : Nat} {xs : List Value} (h : Below n w W) (hg : W.grownBy w1 v.ownBlock) (ho : W.ownsRow base e size v m xs) (hb : n ≤ base) (hn : n ≤ W.heap.size) : Below n w w1 :=
  h.grown hg hn fun k e => Nat.le_trans hb (ho.lt k e).1
theorem bAlloc {w W : World} (h : Below w.heap.size w W) (o : Obj) : Below w.heap.size w (W.alloc o) := Below.alloc h h.size _

structure RMakeO where
  out : List (Int × Int)
  last : Int
  v : Value
  y : Nat → Value
structure RMakeI where
  k : Nat
  best : Int
  y : Nat → Value
def rcmakeB (A : Option Addr) (n cap : Nat) (x : RMakeO) : List Value := [.slice A n cap, x.y 1, x.y 2, x.v, .int .i64 x.last, x.y 5, x.y 6, x.y 7, x.y 8, x.y 9, x.y 10, x.y 11, x.y 12, x.y 13, x.y 14, x.y 15, x.y 16, x.y 17, x.y 18, x.y 19, x.y 20, x.y 21, x.y 22, x.y 23, x.y 24, x.y 25, x.y 26, x.y 27, x.y 28, x.y 29, x.y 30, x.y 31, x.y 32, x.y 33, x.y 34, x.y 35, x.y 36, x.y 37, x.y 38, x.y 39, x.y 40, x.y 41, x.y 42, x.y 43, x.y 44, x.y 45, x.y 46, x.y 47, x.y 48, x.y 49, x.y 50, x.y 51, x.y 52]
def rcmakeC (A : Option Addr) (n cap : Nat) (v : Value) (last : Int) (x : RMakeI) : List Value := [.slice A n cap, x.y 1, x.y 2, v, .int .i64 last, .int .i64 x.best, .int .i64 (x.k : Int), x.y 7, x.y 8, x.y 9, x.y 10, x.y 11, x.y 12, x.y 13, x.y 14, x.y 15, x.y 16, x.y 17, x.y 18, x.y 19, x.y 20, x.y 21, x.y 22, x.y 23, x.y 24, x.y 25, x.y 26, x.y 27, x.y 28, x.y 29, x.y 30, x.y 31, x.y 32, x.y 33, x.y 34, x.y 35, x.y 36, x.y 37, x.y 38, x.y 39, x.y 40, x.y 41, x.y 42, x.y 43, x.y 44, x.y 45, x.y 46, x.y 47, x.y 48, x.y 49, x.y 50, x.y 51, x.y 52]
def rcmakeI (w w0 : World) (l : List (Int × Int)) (x : RMakeO) (W : World) : Prop := Below w.heap.size w W ∧ W.ownsRow w.heap.size 38 2 x.v x.out.length (cvs x.out) ∧ (-1 ≤ x.last ∧ x.last ≤ 65535) ∧ ∃ rest, mkS l = x.out ++ rest ∧ (∀ p ∈ x.out, p.1 ≤ x.last) ∧ ∀ p ∈ rest, x.last < p.1
def rcmakeJ (w w0 : World) (l out : List (Int × Int)) (v : Value) (last : Int) (x : RMakeI) (W : World) : Prop := Below w.heap.size w W ∧ W.ownsRow w.heap.size 38 2 v out.length (cvs out) ∧ x.best = nextB l last (l.take x.k) ∧ x.k ≤ l.length
theorem rcmake_any (A : Option Addr) (cap : Nat) (l : List (Int × Int)) (hl : l.length ≤ 1000000000) (h16 : Cells16 l) (w : World) (hin : CellsIn w w.heap.size A l) :
    Calls Try.prog 12 #[.slice A l.length cap] w fun e w' => ∃ A' c, e = .returned (.slice A' (mkS l).length c) ∧ CellsIn w' w'.heap.size A' (mkS l) ∧ (mkS l).length ≤ c ∧ (A' = none → c = 0) ∧ Below w.heap.size w w' := by
  go_enter Try.func12, Try.ntmps12
  refine coStart <| qQ [] (Many.begin w) fun w1 k1 => qQ [] k1 fun w2 k2 => qQ [] k2 fun w3 k3 => coB <| coLoop (rcmakeB A l.length cap) (rcmakeI w w l) (fun x => (mkS l).length - x.out.length) (fun y => ⟨[], -1, .slice none 0 0, y⟩) ⟨k3.touch.below, World.ownsRow_nil .., ⟨by show (-1 : Int) ≤ -1; omega, by show (-1 : Int) ≤ 65535; omega⟩, mkS l, rfl, fun _ h => (by cases h), fun p hp => (by have := (c16_mkS h16 p hp).1; show -1 < p.1; omega)⟩ ?_
  rintro ⟨out, last, v, y⟩ W ⟨hB, hown, hlast, rest, hm, ho, hr⟩
  have hown : W.ownsRow w.heap.size 38 2 v out.length (cvs out) := hown
  have hlast : -1 ≤ last ∧ last ≤ 65535 := hlast
  have hm : mkS l = out ++ rest := hm
  have ho : ∀ p ∈ out, p.1 ≤ last := ho
  have hr : ∀ p ∈ rest, last < p.1 := hr
  refine coB <| qQ [] (Many.begin W) fun wa ka => coS <| qQ [] ka fun wb kb => coB <| coLoop (rcmakeC A l.length cap v last) (rcmakeJ w w l out v last) (fun x => l.length - x.k) (fun y => ⟨0, 65536, y⟩) ⟨bOn hB kb, own_below hown kb.touch.below, rfl, Nat.zero_le _⟩ ?_
  rintro ⟨k, best, y2⟩ W2 ⟨hB2, hown2, hbest, hk⟩
  have hk : k ≤ l.length := hk
  have hown2 : W2.ownsRow w.heap.size 38 2 v out.length (cvs out) := hown2
  have hbest : best = nextB l last (l.take k) := hbest
  refine coS <| qQ [] (Many.begin W2) fun wc kc => coI (decide ((k : Int) < (l.length : Int))) (fun hlt => coSkip <| eoT <| coS <| coB <| ?_) fun hge => coX <| eoTx <| eoTx <| eoBx <| eoT ?_
  · have hlt : k < l.length := by have : (k : Int) < (l.length : Int) := by simpa using hlt
                                  omega
    obtain ⟨p, rfl, -⟩ := hin.at_ hlt
    have hc := h16 _ (List.getElem_mem hlt)
    have hB3 := bOn hB2 kc
    have hown3 := own_below hown2 kc.touch.below
    refine coR <| qR 2 [] kc fun wd kd => wM (xIndex (cixC p l.length cap k hlt _)) <| wM (xField (fldC0 (p.add (k * 2)) _)) <| wM (xLoad ((hin.below (bOn hB2 kd)).ld0 hlt)) <| wM (xConv (cv16 l[k].1 ⟨hc.1, hc.2.1⟩ _)) <| qE [] kd fun we ke => coR <| qR 4 [] ke fun wf kf => ?_
    have key : ∀ (y' : Nat → Value) (W3 : World) (b : Int), Below W2.heap.size W2 W3 → b = pickB l last best l[k] → rcmakeJ w w l out v last ⟨k + 1, b, y'⟩ W3 := fun y' W3 b h e => ⟨hB2.trans (h.mono hB2.size), own_below hown2 h, by
      show b = nextB l last (l.take (k + 1))
      rw [nextB_snoc l last l k hlt, ← hbest, e], hlt⟩
    by_cases g1 : l[k].1 > last
    · refine tell 23 (decide_eq_true g1) <| qR 5 [] kf fun wg kg => ?_
      by_cases g2 : l[k].1 < best
      · refine tell 28 (decide_eq_true g2) <| qR 3 [] kg fun wh kh => wM (xIndex (cixC p l.length cap k hlt _)) <| wM (xField (fldC0 (p.add (k * 2)) _)) <| wM (xLoad ((hin.below (bOn hB2 kh)).ld0 hlt)) <| kO (rcget_any (some p) cap l l[k].1 hl _ ((hin.below (bOn hB2 kh)).more (bOn hB2 kh).size)) fun wi hbi => qE [] (kh.below hbi) fun wj kj => coI (getC l l[k].1 != 0) (fun g3 => coZ <| qF [] kj fun wk kk => eoB <| eoT <| coZ <| qR 1 [] kk fun wx kx => wM (xInc k (by omega)) <| qF [] kx fun wy ky => eoRound (fun y => ⟨k + 1, l[k].1, y⟩) (key _ _ _ ky.touch.below ?_) (by show l.length - (k + 1) < l.length - k; omega)) fun g3 => coSkip <| eoB <| eoT <| coZ <| qR 1 [] kj fun wx kx => wM (xInc k (by omega)) <| qF [] kx fun wy ky => eoRound (fun y => ⟨k + 1, best, y⟩) (key _ _ _ ky.touch.below ?_) (by show l.length - (k + 1) < l.length - k; omega)
        · exact (if_pos (by rw [decide_eq_true g1, decide_eq_true g2, g3]; rfl)).symm
        · exact (if_neg (by rw [g3]; simp)).symm
      · refine tell 28 (decide_eq_false g2) <| qE [] kg fun wh kh => coF <| coSkip <| eoB <| eoT <| coZ <| qR 1 [] kh fun wx kx => wM (xInc k (by omega)) <| qF [] kx fun wy ky => eoRound (fun y => ⟨k + 1, best, y⟩) (key _ _ _ ky.touch.below ?_) (by show l.length - (k + 1) < l.length - k; omega)
        exact (if_neg (by rw [decide_eq_false g2]; simp)).symm
    · refine tell 23 (decide_eq_false g1) <| qE [] kf fun wh kh => coF <| coSkip <| eoB <| eoT <| coZ <| qR 1 [] kh fun wx kx => wM (xInc k (by omega)) <| qF [] kx fun wy ky => eoRound (fun y => ⟨k + 1, best, y⟩) (key _ _ _ ky.touch.below ?_) (by show l.length - (k + 1) < l.length - k; omega)
      exact (if_neg (by rw [decide_eq_false g1]; simp)).symm
  · have hkl : k = l.length := by have : ¬ ((k : Int) < (l.length : Int)) := by simpa using hge
                                  omega
    subst hkl
    rw [List.take_length, nextB_nil h16 hm ho hr] at hbest
    have hB3 := bOn hB2 kc
    have hown3 := own_below hown2 kc.touch.below
    refine coS <| qQ [] kc fun wd kd => coI (best == 65536) (fun g => ?_) fun g => coSkip <| eoT ?_
    · have hrest : rest = [] := by
        have g : best = 65536 := by simpa using g
        cases rest with
        | nil => rfl
        | cons d r =>
          have h := (c16_mkS h16 d (by rw [hm]; simp)).2.1
          rw [g] at hbest
          simp only at hbest
          omega
      subst hrest
      rw [List.append_nil] at hm
      rw [hm]
      refine qQ [] kd fun we ke => ?_
      obtain ⟨A', c, rfl, hc, hci, hn⟩ := own_cslice (own_below hown2 ke.touch.below)
      exact coRet <| eoTr <| eoBr <| eoTr <| eoBr <| eoIr (.slice A' out.length c) ⟨A', c, rfl, hci, hc, hn, bOn hB2 ke⟩
    · obtain ⟨d, r, rfl⟩ : ∃ d r, rest = d :: r := by
        cases rest with
        | nil => simp only at hbest; rw [hbest] at g; simp at g
        | cons d r => exact ⟨d, r, rfl⟩
      simp only at hbest
      subst hbest
      have hd : d ∈ mkS l := by rw [hm]; simp
      have hc := c16_mkS h16 d hd
      have hg : getC l d.1 = d.2 := ((mem_mkS l d).1 hd).1
      refine coR <| qR 2 [] kd fun we ke => wM (xConv (cvI16 d.1 ⟨hc.1, hc.2.1⟩ _)) <| qR 2 [] ke fun wf kf => wM (xConv (cvI16 d.1 ⟨hc.1, hc.2.1⟩ _)) <| kO (rcget_any A cap l d.1 hl _ ((hin.below (bOn hB2 kf)).more (bOn hB2 kf).size)) fun wg hbg => qR 1 [] (kf.below hbg) fun wh kh => wM (xBuildS (bsC d.1 (getC l d.1) wh)) <| ?_
      have hlen : out.length + 1 ≤ 1000000000 := by
        have h1 := len_mkS l
        rw [hm] at h1
        simp at h1
        omega
      refine qAc (.tmp 42) (.tmp 50) w.heap.size _ v out.length out (some ⟨wh.heap.size, 0, none⟩) 1 [(d.1, getC l d.1)] (bAlloc (bOn hB2 kh) _).size ((own_below hown2 kh.touch.below).alloc _) (ccell_new wh d.1 (getC l d.1) _) (fun e => by cases e) (by show out.length + 1 ≤ _; omega) fun v' wi own' hgr => ?_
      have hBi := below_own (bAlloc (bOn hB2 kh) _) hgr ((own_below hown2 kh.touch.below).alloc _) (Nat.le_refl _) (bAlloc (bOn hB2 kh) _).size
      refine qE [] (Many.begin wi) fun wj kj => coZ <| qF [] kj fun wk kk => eoB <| eoRound (fun y => ⟨out ++ [d], d.1, v', y⟩) ⟨bOn hBi kk, ?_, ⟨by show -1 ≤ d.1; have := hc.1; omega, hc.2.1⟩, r, ?_, ?_, ?_⟩ ?_
      · rw [hg] at own'
        show wk.ownsRow _ _ _ v' (out ++ [d]).length _
        rw [List.length_append]
        exact own_below own' kk.touch.below
      · show mkS l = (out ++ [d]) ++ r
        rw [hm, List.append_assoc]; rfl
      · intro p hp
        show p.1 ≤ d.1
        rcases List.mem_append.1 hp with hp | hp
        · have h1 := ho p hp
          have h2 := hr d (by simp)
          omega
        · simp at hp; rw [hp]; omega
      · intro p hp
        have hs : Srt (out ++ d :: r) := by rw [← hm]; exact srt_mkS l
        exact (List.pairwise_cons.1 (List.pairwise_append.1 hs).2.1).1 p hp
      · show (mkS l).length - (out ++ [d]).length < (mkS l).length - out.length
        rw [hm]
        simp
        omega
end Go.Proofs.Ytahnejcfengljaa
