/- Layer 14 (cells): the document's own Put, Load, Dump, Diff. -/
import Derived.Test.YtahnejcfengljaaCellsRef
namespace Go.Proofs.Ytahnejcfengljaa
open Go.RowKit
set_option linter.unusedVariables false
set_option linter.unusedSimpArgs false
set_option maxRecDepth 20000

/-- what is handed back: these cells -/
def Gives (w : World) (m : List (Int × Int)) (e : Ending) (w' : World) : Prop := ∃ A' c, e = .returned (.slice A' m.length c) ∧ CellsIn w' w'.heap.size A' m ∧ m.length ≤ c ∧ (A' = none → c = 0) ∧ Below w.heap.size w w'
theorem rcput_any (A : Option Addr) (cap : Nat) (l : List (Int × Int)) (a b : Int) (hl : l.length ≤ 100000000) (h16 : Cells16 l) (ha : 0 ≤ a ∧ a ≤ 65535) (hb : 0 ≤ b ∧ b ≤ 255) (w : World) (hin : CellsIn w w.heap.size A l) (hn : A = none → cap = 0) :
    Calls Try.prog 16 #[.slice A l.length cap, .int .u16 a, .int .u8 b] w (Gives w (mkS (l ++ [(a, b)]))) := by
  go_enter Try.func16, Try.ntmps16
  refine coStart <| qQ [] (Many.begin w) fun w1 k1 => qQ [] k1 fun w2 k2 => coR <| qR 2 [] k2 fun w3 k3 => qAc (.tmp 8) (.tmp 9) w.heap.size _ (.slice none 0 0) 0 [] A cap l k3.touch.size (World.ownsRow_nil ..) ((hin.below k3.touch.below).more k3.touch.size) hn (by omega) fun v4 w4 own4 g4 => ?_
  have hB4 : Below w.heap.size w w4 := below_own k3.touch.below g4 (World.ownsRow_nil _ w.heap.size 38 2) (Nat.le_refl _) k3.touch.size
  rw [Nat.zero_add, List.nil_append] at own4
  refine qE [] (Many.begin w4) fun w5 k5 => coR <| qR 4 [] k5 fun w6 k6 => wM (xBuildS (bsC a b w6)) <| qAc (.tmp 11) (.tmp 15) w.heap.size _ v4 l.length l (some ⟨w6.heap.size, 0, none⟩) 1 [(a, b)] (bAlloc (bOn hB4 k6) _).size ((own_below own4 k6.touch.below).alloc _) (ccell_new w6 a b _) (fun e => by cases e) (by show l.length + 1 ≤ _; omega) fun v7 w7 own7 g7 => ?_
  have hB7 := below_own (bAlloc (bOn hB4 k6) _) g7 ((own_below own4 k6.touch.below).alloc _) (Nat.le_refl _) (bAlloc (bOn hB4 k6) _).size
  have e7 : l.length + [(a, b)].length = (l ++ [(a, b)]).length := by simp
  rw [e7] at own7
  refine qE [] (Many.begin w7) fun w8 k8 => coR <| qR 1 [] k8 fun w9 k9 => ?_
  obtain ⟨A9, c9, rfl, hc9, hci9, hn9⟩ := own_cslice (own_below own7 k9.touch.below)
  refine kX (rcmake_any A9 c9 (l ++ [(a, b)]) (by simp; omega) (c16_append h16 fun c hc => by simp at hc; rw [hc]; exact ⟨ha.1, ha.2, hb.1, hb.2⟩) w9 hci9) ?_
  rintro e wA ⟨A', c, rfl, g1, g2, g3, g4⟩
  refine ⟨_, rfl, qE [] (Many.begin wA) fun wB kB => coRet <| eoIr (.slice A' (mkS (l ++ [(a, b)])).length c) ⟨A', c, rfl, (g1.below kB.touch.below).more kB.touch.size, g2, g3, bOn ((bOn hB7 k9).trans (g4.mono (bOn hB7 k9).size)) kB⟩⟩
/- Load -/
theorem rem_i64 (k : Nat) (h : k < 65536) (w : World) : (binOp .rem 3 (.int .i64 (k : Int)) (.int .i64 65536)).run Try.prog w = .ok (.int .i64 (k : Int)) w := by
  have e1 : (k : Int).tmod 65536 = k := Int.tmod_eq_of_lt (by omega) (by omega)
  have e : IntKind.i64.wrap (k : Int) = (k : Int) := by rw [IntKind.wrap_i64]; omega
  simp [go_sem, e1, e]
theorem add16 (a b : Int) (w : World) : (binOp .add 23 (.int .u16 a) (.int .u16 b)).run Try.prog w = .ok (.int .u16 ((a + b) % 65536)) w := by simp [go_sem, IntKind.wrap_u16]
theorem guard16 (op : BinOp) (x y : Operand) (a b : Int) (w : World) : (eqGuard op 23 x y (.int .u16 a) (.int .u16 b)).run Try.prog w = .ok () w := by simp [go_sem]
theorem BytesIn.ld {w : World} {B : Nat} {p : Addr} {xs : List Int} (h : BytesIn w B (some p) xs) {k : Nat} (hk : k < xs.length) : (Instr.loadAt 5 (.pointer (some (p.add k)))).run Try.prog w = .ok (.int .u8 xs[k]) w := by
  obtain ⟨q, e, -, h1⟩ := h k _ (List.getElem?_eq_getElem hk)
  cases e
  exact ldD h1
theorem BytesIn.addr {w : World} {B : Nat} {A : Option Addr} {xs : List Int} (h : BytesIn w B A xs) {k : Nat} (hk : k < xs.length) : ∃ p, A = some p := by
  obtain ⟨q, e, -⟩ := h k _ (List.getElem?_eq_getElem hk)
  exact ⟨q, e⟩
structure LoopO where
  k : Nat
  v : Value
  y : Nat → Value
def rcloadB (A : Option Addr) (n cap : Nat) (at_ : Int) (A' : Option Addr) (n' cap' : Nat) (x : LoopO) : List Value := [.slice A n cap, .int .u16 at_, .slice A' n' cap', x.y 3, x.y 4, x.y 5, x.y 6, x.v, .int .i64 (x.k : Int), x.y 9, x.y 10, x.y 11, x.y 12, x.y 13, x.y 14, x.y 15, x.y 16, x.y 17, x.y 18, x.y 19, x.y 20, x.y 21, x.y 22, x.y 23, x.y 24, x.y 25, x.y 26, x.y 27, x.y 28, x.y 29, x.y 30, x.y 31, x.y 32]
def rcloadI (w : World) (l : List (Int × Int)) (at_ : Int) (bs : List Int) (x : LoopO) (W : World) : Prop := Below w.heap.size w W ∧ W.ownsRow w.heap.size 38 2 x.v (l.length + x.k) (cvs (l ++ loadL at_ (bs.take x.k))) ∧ x.k ≤ bs.length
theorem rcload_any (A : Option Addr) (cap : Nat) (l : List (Int × Int)) (at_ : Int) (A' : Option Addr) (cap' : Nat) (bs : List Int) (hl : l.length ≤ 100000000) (h16 : Cells16 l) (ha : 0 ≤ at_ ∧ at_ ≤ 65535) (hbl : bs.length ≤ 65000) (hb : ∀ b ∈ bs, 0 ≤ b ∧ b ≤ 255) (w : World) (hin : CellsIn w w.heap.size A l) (hn : A = none → cap = 0) (hy : BytesIn w w.heap.size A' bs) :
    Calls Try.prog 18 #[.slice A l.length cap, .int .u16 at_, .slice A' bs.length cap'] w (Gives w (mkS (l ++ loadL at_ bs))) := by
  go_enter Try.func18, Try.ntmps18
  refine coStart <| qQ [] (Many.begin w) fun w1 k1 => qQ [] k1 fun w2 k2 => coR <| qR 2 [] k2 fun w3 k3 => qAc (.tmp 9) (.tmp 10) w.heap.size _ (.slice none 0 0) 0 [] A cap l k3.touch.size (World.ownsRow_nil ..) ((hin.below k3.touch.below).more k3.touch.size) hn (by omega) fun v4 w4 own4 g4 => ?_
  have hB4 : Below w.heap.size w w4 := below_own k3.touch.below g4 (World.ownsRow_nil _ w.heap.size 38 2) (Nat.le_refl _) k3.touch.size
  rw [Nat.zero_add, List.nil_append] at own4
  refine qE [] (Many.begin w4) fun w5 k5 => coS <| qQ [] k5 fun w6 k6 => coB <| coLoop (rcloadB A l.length cap at_ A' bs.length cap') (rcloadI w l at_ bs) (fun x => bs.length - x.k) (fun y => ⟨0, v4, y⟩) ⟨bOn hB4 k6, ?_, Nat.zero_le _⟩ ?_
  · have := own_below own4 k6.touch.below
    show w6.ownsRow _ _ _ v4 (l.length + 0) (cvs (l ++ loadL at_ (bs.take 0)))
    simpa [loadL] using this
  rintro ⟨k, v, y⟩ W ⟨hB, hown, hk⟩
  have hk : k ≤ bs.length := hk
  have hown : W.ownsRow w.heap.size 38 2 v (l.length + k) (cvs (l ++ loadL at_ (bs.take k))) := hown
  refine coS <| qQ [] (Many.begin W) fun wa ka => coI (decide ((k : Int) < (bs.length : Int))) (fun hlt => coSkip <| eoT <| coS <| coB <| ?_) fun hge => coX <| eoTx <| eoTx <| eoBx <| eoT ?_
  · have hlt : k < bs.length := by have : (k : Int) < (bs.length : Int) := by simpa using hlt
                                   omega
    obtain ⟨p, rfl⟩ := hy.addr hlt
    refine coZ <| qR 3 [] ka fun wb kb => wM (xBin (guardI _ _ _ (k : Int) 65536 _) (rem_i64 k (by omega) _)) <| wM (xConv (cvI16 (k : Int) (by omega) _)) <| wM (xBin (guard16 _ _ _ at_ (k : Int) _) (add16 at_ (k : Int) _)) <| qR 2 [] kb fun wc kc => wM (xIndex (ixB p bs.length cap' k hlt _)) <| wM (xLoad ((hy.below (bOn hB kc)).ld hlt)) <| qR 1 [] kc fun wd kd => wM (xBuildS (bsC ((at_ + (k : Int)) % 65536) bs[k] wd)) <| qAc (.tmp 18) (.tmp 29) w.heap.size _ v (l.length + k) (l ++ loadL at_ (bs.take k)) (some ⟨wd.heap.size, 0, none⟩) 1 [((at_ + (k : Int)) % 65536, bs[k])] (bAlloc (bOn hB kd) _).size ((own_below hown kd.touch.below).alloc _) (ccell_new wd _ _ _) (fun e => by cases e) (by show l.length + k + 1 ≤ _; omega) fun v' we own' g' => ?_
    have hBe := below_own (bAlloc (bOn hB kd) _) g' ((own_below hown kd.touch.below).alloc _) (Nat.le_refl _) (bAlloc (bOn hB kd) _).size
    refine qF [] (Many.begin we) fun wf kf => eoB <| eoT <| coZ <| qR 1 [] kf fun wg kg => wM (xInc k (by omega)) <| qF [] kg fun wh kh => eoRound (fun y => ⟨k + 1, v', y⟩) ⟨bOn hBe kh, ?_, hlt⟩ (by show bs.length - (k + 1) < bs.length - k; omega)
    show wh.ownsRow _ _ _ v' (l.length + (k + 1)) (cvs (l ++ loadL at_ (bs.take (k + 1))))
    rw [loadL_take bs at_ ha k hlt, ← List.append_assoc]
    exact own_below own' kh.touch.below
  · have hkl : k = bs.length := by have : ¬ ((k : Int) < (bs.length : Int)) := by simpa using hge
                                   omega
    subst hkl
    rw [List.take_length] at hown
    have e7 : l.length + bs.length = (l ++ loadL at_ bs).length := by rw [List.length_append, loadL_length]
    rw [e7] at hown
    refine coR <| qR 1 [] ka fun wb kb => ?_
    obtain ⟨A9, c9, rfl, hc9, hci9, hn9⟩ := own_cslice (own_below hown kb.touch.below)
    refine kX (rcmake_any A9 c9 (l ++ loadL at_ bs) (by rw [← e7]; omega) (c16_append h16 (c16_loadL bs at_ hb ha)) wb hci9) ?_
    rintro e wA ⟨A', c, rfl, g1, g2, g3, g4⟩
    refine ⟨_, rfl, qE [] (Many.begin wA) fun wB kB => coRet <| eoIr (.slice A' (mkS (l ++ loadL at_ bs)).length c) ⟨A', c, rfl, (g1.below kB.touch.below).more kB.touch.size, g2, g3, bOn ((bOn hB kb).trans (g4.mono (bOn hB kb).size)) kB⟩⟩
end Go.Proofs.Ytahnejcfengljaa
