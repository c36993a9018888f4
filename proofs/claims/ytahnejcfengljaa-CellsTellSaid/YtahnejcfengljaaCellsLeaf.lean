/- Layer 14 (cells): store, collect, Get, Check. -/
import Derived.Test.YtahnejcfengljaaCellsMap
namespace Go.Proofs.Ytahnejcfengljaa
open Go.RowKit
set_option linter.unusedVariables false
set_option maxRecDepth 20000

theorem grown_of_below {w w' : World} (h : Below w.heap.size w w') (row : Option Nat) : w.grownBy w' row := ⟨h.os, h.tape, h.output, h.size, fun i hi _ => h.block i hi⟩
theorem below_some {n b : Nat} {w W w1 : World} (h : Below n w W) (hg : W.grownBy w1 (some b)) (hb : n ≤ b) (hn : n ≤ W.heap.size) : Below n w w1 := h.grown hg hn fun k e => by cases e; exact hb
theorem Many.allocO {w0 w : World} {L : List Nat} {rs : List RowK} (h : Many w0 L rs w) (o : Obj) : Many w0 L rs (w.alloc o) := h.below (Below.alloc (Below.refl _ _) (Nat.le_refl _) _)
theorem take_snoc {α : Type} (l : List α) (k : Nat) (h : k < l.length) : l.take (k + 1) = l.take k ++ [l[k]] := (List.take_append_getElem h).symm
theorem bOn {w W W' : World} {rs : List RowK} (h : Below w.heap.size w W) (k : Many W [] rs W') : Below w.heap.size w W' := h.trans (k.touch.below.mono h.size)
/-- what a loop over a slice carries -/
structure LoopK where
  k : Nat
  y : Nat → Value
structure LoopV where
  k : Nat
  v : Int
  y : Nat → Value

theorem cstore_any (w : World) (b n : Nat) (m : List (Int × Int)) (a v : Int) (ha : 0 ≤ a ∧ a ≤ 65535) (hv : 0 ≤ v ∧ v ≤ 255) (hM : MapAt w b n m) (hn : n < maxLen) :
    Calls Try.prog 25 #[.map (some b), .int .u16 a, .int .u8 v] w fun e w' => e = .returned (.tuple #[]) ∧ (MapAt w' b (n + 1) (stepS m (a, v)) ∧ w.grownBy w' (some b)) := by
  go_enter Try.func25, Try.ntmps25
  refine coStart <| coS <| qQ [] (Many.begin w) fun w1 k1 => coI (v == 0) (fun h => coR <| qR 2 [] k1 fun w2 k2 => ?_) fun h => coSkip <| eoT <| coZ <| qR 3 [] k1 fun w2 k2 => ?_
  · have h0 : v = 0 := by simpa using h
    obtain ⟨w3, r1, r2, r3⟩ := (hM.below k2.touch.below).drop ha 0
    refine wM (xDelete r1) <| wT <| coRet <| eoTr <| eoVr ⟨rfl, ?_, (grown_of_below k2.touch.below _).trans r3⟩
    unfold stepS
    rw [if_pos h0]
    exact World.ownsMap.mono r2 (Nat.le_succ _)
  · have h0 : v ≠ 0 := by simpa using h
    obtain ⟨w3, r1, r2, r3⟩ := (hM.below k2.touch.below).store hn ha hv
    refine wD (xUpdate r1) <| woE <| eoV ⟨rfl, ?_, (grown_of_below k2.touch.below _).trans r3⟩
    unfold stepS
    rw [if_neg h0]
    exact r2

def collB (A : Option Addr) (n cap b : Nat) (x : LoopK) : List Value := [.slice A n cap, x.y 1, x.y 2, .map (some b), x.y 4, x.y 5, x.y 6, .slice A n cap, .int .i64 (n : Int), .int .i64 (x.k : Int), x.y 10, x.y 11, x.y 12, x.y 13, x.y 14, x.y 15, x.y 16, x.y 17, x.y 18, x.y 19, x.y 20]
def collI (w : World) (b : Nat) (l : List (Int × Int)) (x : LoopK) (W : World) : Prop := Below w.heap.size w W ∧ MapAt W b x.k (mkS (l.take x.k)) ∧ x.k ≤ l.length
theorem ccollect_any (A : Option Addr) (cap : Nat) (l : List (Int × Int)) (hl : l.length ≤ 1000000000) (h16 : Cells16 l) (w : World) (hin : CellsIn w w.heap.size A l) :
    Calls Try.prog 23 #[.slice A l.length cap] w fun e w' => ∃ b, w.heap.size ≤ b ∧ e = .returned (.map (some b)) ∧ MapAt w' b l.length (mkS l) ∧ Below w.heap.size w w' := by
  go_enter Try.func23, Try.ntmps23
  refine coStart <| qQ [] (Many.begin w) fun w1 k1 => coR <| wM (xMakeMap (run_makeMap _ w1)) <| qE [] (Many.begin _) fun w2 k2 => coS <| qQ [] (Many.begin w2) fun w3 k3 => coB <| ?_
  obtain ⟨b, hb⟩ : ∃ b, b = w1.heap.size := ⟨_, rfl⟩
  have hwb : w.heap.size ≤ b := by rw [hb]; exact k1.touch.size
  have hB1 : Below w.heap.size w (w1.alloc (.map #[] 0)) := k1.touch.below.trans ((Below.alloc (Below.refl _ _) (Nat.le_refl _) _).mono k1.touch.size)
  have hB3 := bOn (bOn hB1 k2) k3
  have hM3 : MapAt w3 b 0 [] := by rw [hb]; exact ((MapAt.made w1).below k2.touch.below).below k3.touch.below
  refine coLoop (collB A l.length cap b) (collI w b l) (fun x => l.length - x.k) (fun y => ⟨0, y⟩) ⟨hB3, hM3, Nat.zero_le _⟩ ?_ (by rw [hb]; kernel_rfl)
  clear hM3 hB3 hB1 k3 k2 k1 hb
  rintro ⟨k, y⟩ W ⟨hB, hM, hk⟩
  have hk : k ≤ l.length := hk
  have hM : MapAt W b k (mkS (l.take k)) := hM
  refine qQ [] (Many.begin W) fun wa ka => coS <| coI (decide ((k : Int) < (l.length : Int))) (fun hlt => coSkip <| eoT <| coS <| coB <| ?_) fun hge => coX <| eoTx <| eoTx <| eoBx <| eoT ?_
  · have hlt : k < l.length := by have : (k : Int) < (l.length : Int) := by simpa using hlt
                                  omega
    obtain ⟨p, rfl, hp, h1, h2⟩ := (hin.below (bOn hB ka)).at_ hlt
    have hc := h16 _ (List.getElem_mem hlt)
    refine coR <| wM (xIndex (cixC p l.length cap k hlt _)) <| wM (xLoad (ldCell h1 h2)) <| qE [0] ka fun wb kb => coZ <| qR 5 [0, 0] kb fun wc kc => ?_
    refine kO (cstore_any _ b k _ l[k].1 l[k].2 ⟨hc.1, hc.2.1⟩ ⟨hc.2.2.1, hc.2.2.2⟩ (hM.below kc.touch.below) (by simp only [maxLen]; omega)) fun wd ⟨hMd, hgd⟩ => woE <| eoB <| eoT <| coZ <| wM (xInc k (by omega)) <| qF [] (Many.begin wd) fun we ke => eoRound (fun y => ⟨k + 1, y⟩) ⟨bOn (below_some (bOn hB kc) hgd hwb (bOn hB kc).size) ke, ?_, hlt⟩ (by show l.length - (k + 1) < l.length - k; omega)
    show MapAt we b (k + 1) (mkS (l.take (k + 1)))
    rw [take_snoc l k hlt, mkS_snoc]
    exact hMd.below ke.touch.below
  · have hkl : k = l.length := by have : ¬ ((k : Int) < (l.length : Int)) := by simpa using hge
                                  omega
    subst hkl
    refine qQ [] (Many.begin wa) fun wz kz => coRet <| eoIr (.map (some b)) ⟨b, hwb, rfl, ?_, bOn (bOn hB ka) kz⟩
    rw [List.take_length] at hM
    exact (hM.below ka.touch.below).below kz.touch.below

/- Get -/
def cgetB (A : Option Addr) (n cap : Nat) (at_ : Int) (x : LoopV) : List Value := [.slice A n cap, .int .u16 at_, x.y 2, x.y 3, x.y 4, .int .u8 x.v, x.y 6, x.y 7, .slice A n cap, .int .i64 (n : Int), .int .i64 (x.k : Int), x.y 11, x.y 12, x.y 13, x.y 14, x.y 15, x.y 16, x.y 17, x.y 18, x.y 19, x.y 20, x.y 21]
def cgetI (w : World) (l : List (Int × Int)) (at_ : Int) (x : LoopV) (W : World) : Prop := Below w.heap.size w W ∧ x.v = getC (l.take x.k) at_ ∧ x.k ≤ l.length
theorem getC_take (l : List (Int × Int)) (at_ : Int) (k : Nat) (h : k < l.length) : getC (l.take (k + 1)) at_ = if l[k].1 = at_ then l[k].2 else getC (l.take k) at_ := by rw [take_snoc l k h, getC_snoc]
theorem cget_any (A : Option Addr) (cap : Nat) (l : List (Int × Int)) (at_ : Int) (hl : l.length ≤ 1000000000) (w : World) (hin : CellsIn w w.heap.size A l) :
    Calls Try.prog 13 #[.slice A l.length cap, .int .u16 at_] w fun e w' => e = .returned (.int .u8 (getC l at_)) ∧ Below w.heap.size w w' := by
  go_enter Try.func13, Try.ntmps13
  refine coStart <| qQ [] (Many.begin w) fun w1 k1 => qQ [] k1 fun w2 k2 => coS <| qQ [] k2 fun w3 k3 => coB <| coLoop (cgetB A l.length cap at_) (cgetI w l at_) (fun x => l.length - x.k) (fun y => ⟨0, 0, y⟩) ⟨k3.touch.below, rfl, Nat.zero_le _⟩ ?_
  rintro ⟨k, v, y⟩ W ⟨hB, hv, hk⟩
  have hk : k ≤ l.length := hk
  have hv : v = getC (l.take k) at_ := hv
  refine qQ [] (Many.begin W) fun wa ka => coS <| coI (decide ((k : Int) < (l.length : Int))) (fun hlt => coSkip <| eoT <| coS <| coB <| ?_) fun hge => coX <| eoTx <| eoTx <| eoBx <| eoT ?_
  · have hlt : k < l.length := by have : (k : Int) < (l.length : Int) := by simpa using hlt
                                  omega
    obtain ⟨p, rfl, hp, h1, h2⟩ := (hin.below (bOn hB ka)).at_ hlt
    refine coR <| wM (xIndex (cixC p l.length cap k hlt _)) <| wM (xLoad (ldCell h1 h2)) <| qE [0] ka fun wb kb => qQ [0] kb fun wc kc => coI (l[k].1 == at_) (fun h => coZ <| qF [0] kc fun wd kd => eoB <| eoT <| coZ <| wM (xInc k (by omega)) <| qF [] kd fun we ke => eoRound (fun y => ⟨k + 1, l[k].2, y⟩) ⟨bOn hB ke, ?_, hlt⟩ (by show l.length - (k + 1) < l.length - k; omega)) fun h => coSkip <| eoB <| eoT <| coZ <| wM (xInc k (by omega)) <| qF [] kc fun we ke => eoRound (fun y => ⟨k + 1, v, y⟩) ⟨bOn hB ke, ?_, hlt⟩ (by show l.length - (k + 1) < l.length - k; omega)
    · show l[k].2 = getC (l.take (k + 1)) at_
      rw [getC_take l at_ k hlt, if_pos (by simpa using h)]
    · show v = getC (l.take (k + 1)) at_
      rw [getC_take l at_ k hlt, if_neg (by simpa using h)]
      exact hv
  · have hkl : k = l.length := by have : ¬ ((k : Int) < (l.length : Int)) := by simpa using hge
                                  omega
    subst hkl
    rw [List.take_length] at hv
    subst hv
    exact qQ [] ka fun wz kz => coRet <| eoIr (.int .u8 (getC l at_)) ⟨rfl, bOn hB kz⟩
/- the document's own Get -/
def rcgetB (A : Option Addr) (n cap : Nat) (at_ : Int) (x : LoopV) : List Value := [.slice A n cap, .int .u16 at_, x.y 2, x.y 3, x.y 4, .int .u8 x.v, .int .i64 (x.k : Int), x.y 7, x.y 8, x.y 9, x.y 10, x.y 11, x.y 12, x.y 13, x.y 14, x.y 15, x.y 16, x.y 17, x.y 18, x.y 19, x.y 20, x.y 21, x.y 22, x.y 23, x.y 24, x.y 25]
theorem rcget_any (A : Option Addr) (cap : Nat) (l : List (Int × Int)) (at_ : Int) (hl : l.length ≤ 1000000000) (w : World) (hin : CellsIn w w.heap.size A l) :
    Calls Try.prog 14 #[.slice A l.length cap, .int .u16 at_] w fun e w' => e = .returned (.int .u8 (getC l at_)) ∧ Below w.heap.size w w' := by
  go_enter Try.func14, Try.ntmps14
  refine coStart <| qQ [] (Many.begin w) fun w1 k1 => qQ [] k1 fun w2 k2 => coS <| qQ [] k2 fun w3 k3 => coB <| coLoop (rcgetB A l.length cap at_) (cgetI w l at_) (fun x => l.length - x.k) (fun y => ⟨0, 0, y⟩) ⟨k3.touch.below, rfl, Nat.zero_le _⟩ ?_
  rintro ⟨k, v, y⟩ W ⟨hB, hv, hk⟩
  have hk : k ≤ l.length := hk
  have hv : v = getC (l.take k) at_ := hv
  refine coS <| qQ [] (Many.begin W) fun wa ka => coI (decide ((k : Int) < (l.length : Int))) (fun hlt => coSkip <| eoT <| coS <| coB <| ?_) fun hge => coX <| eoTx <| eoTx <| eoBx <| eoT ?_
  · have hlt : k < l.length := by have : (k : Int) < (l.length : Int) := by simpa using hlt
                                  omega
    obtain ⟨p, rfl, -⟩ := hin.at_ hlt
    refine coR <| qR 2 [] ka fun wb kb => wM (xIndex (cixC p l.length cap k hlt _)) <| wM (xField (fldC0 (p.add (k * 2)) _)) <| wM (xLoad ((hin.below (bOn hB kb)).ld0 hlt)) <| qE [] kb fun wc kc => coI (l[k].1 == at_) (fun h => coZ <| qR 2 [] kc fun wd kd => wM (xIndex (cixC p l.length cap k hlt _)) <| wM (xField (fldC1 (p.add (k * 2)) _)) <| wM (xLoad ((hin.below (bOn hB kd)).ld1 hlt)) <| qF [] kd fun we ke => eoB <| eoT <| coZ <| qR 1 [] ke fun wf kf => wM (xInc k (by omega)) <| qF [] kf fun wg kg => eoRound (fun y => ⟨k + 1, l[k].2, y⟩) ⟨bOn hB kg, ?_, hlt⟩ (by show l.length - (k + 1) < l.length - k; omega)) fun h => coSkip <| eoB <| eoT <| coZ <| qR 1 [] kc fun we ke => wM (xInc k (by omega)) <| qF [] ke fun wf kf => eoRound (fun y => ⟨k + 1, v, y⟩) ⟨bOn hB kf, ?_, hlt⟩ (by show l.length - (k + 1) < l.length - k; omega)
    · show l[k].2 = getC (l.take (k + 1)) at_
      rw [getC_take l at_ k hlt, if_pos (by simpa using h)]
    · show v = getC (l.take (k + 1)) at_
      rw [getC_take l at_ k hlt, if_neg (by simpa using h)]
      exact hv
  · have hkl : k = l.length := by have : ¬ ((k : Int) < (l.length : Int)) := by simpa using hge
                                  omega
    subst hkl
    rw [List.take_length] at hv
    subst hv
    exact qQ [] ka fun wz kz => coRet <| eoIr (.int .u8 (getC l at_)) ⟨rfl, bOn hB kz⟩
end Go.Proofs.Ytahnejcfengljaa
