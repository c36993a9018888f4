/- Contracts and facts that the claim's proof wants (several texts in one). -/
import Derived.WalkKit
import Derived.ProofKit
import Derived.OpenShut
import Derived.ChangeSlices
import Derived.Lib.SmallJoins
import Derived.ChangeArms
import Derived.Deep.Fields
import Derived.LaidLaws
import Derived.FnData
import Derived.Test.YtmnddlkhgajenaaGreatDoorAcG1
import Derived.Test.YtmnddlkhgajenaaGreatDoorAcG7
import Derived.Test.YtmnddlkhgajenaaGreatDoorAcG16
import Derived.Test.YtmnddlkhgajenaaGreatDoorAcG17
import Derived.Test.YtmnddlkhgajenaaGreatDoorAcG18
namespace Go.Proofs.YtmnddlkhgajenaaGreatDoor
open Go.RowKit
set_option linter.unusedVariables false
set_option linter.unusedSimpArgs false
set_option maxRecDepth 20000
set_option maxHeartbeats 20000000
theorem eoBy {Q : Exit → Act → World → Prop} {base : List Value} {l : Slots} {w : World} {i j : Nat} (h : EO Q (.exit j) base l w) (hne : (j == i) = false := by rfl) : EO (Exit.inBlock i Q) (.exit j) base l w := ⟨fun hi => by
  have : j ≠ i := by simpa using hne
  simp only [Exit.inBlock]
  rw [if_neg this]
  exact h.h hi⟩
structure AcS where
  ans : List Int
  got : List Int
  n : Int
  A : Option Addr
  cap : Nat
  v : Value
  y : Nat → Value
def acB (h : Nat) (which : Int) (x : AcS) : List Value := [x.y 0, .int .i64 which, .slice x.A x.ans.length x.cap, .pointer (some ⟨h, 0, none⟩), x.y 4, x.y 5, x.y 6, .int .i64 x.n, x.v, x.y 9, x.y 10, x.y 11, x.y 12, x.y 13, x.y 14, x.y 15, x.y 16, x.y 17, x.y 18, x.y 19, x.y 20, x.y 21, x.y 22, x.y 23, x.y 24, x.y 25, x.y 26, x.y 27, x.y 28, x.y 29, x.y 30, x.y 31, x.y 32, x.y 33, x.y 34, x.y 35, x.y 36, x.y 37, x.y 38, x.y 39, x.y 40, x.y 41, x.y 42, x.y 43, x.y 44, x.y 45, x.y 46]
def acI (w : World) (g : Rg) (which : Int) (ans0 : List Int) (x : AcS) (W : World) : Prop := (Below w.heap.size w W ∧ W.ownsRow w.heap.size 5 1 x.v x.got.length (bvs x.got)) ∧ (BytesIn w w.heap.size x.A x.ans ∧ x.ans.length ≤ x.cap ∧ Bytes8 x.ans ∧ Bytes8 x.got) ∧ (x.got.length ≤ 200 ∧ 0 ≤ x.n ∧ x.n ≤ 7 * x.got.length) ∧ takesGo readsA (acF g which) (200 - x.got.length) x.got x.ans x.n = takesGo readsA (acF g which) 200 [] ans0 0
theorem acgo_done (rd : Int → Bool) (f : List Int → Cy × Bool) (k : Nat) (got ans : List Int) (n : Int) (h : (f got).2 = true) : (takesGo rd f k got ans n).1 = n := by
  cases k with
  | zero => rfl
  | succ k => unfold takesGo; rw [if_pos h]
theorem acgo_step (rd : Int → Bool) (f : List Int → Cy × Bool) (k : Nat) (got ans : List Int) (n : Int) (h : (f got).2 = false) : takesGo rd f (k + 1) got ans n = if rd (f got).1.kind = true then takesGo rd f k (got ++ [ans.headD 0]) ans.tail (n + (f got).1.t) else takesGo rd f k (got ++ [0]) ans (n + (f got).1.t) := by
  rw [takesGo, if_neg (by rw [h]; simp)]
theorem acI_step {w W : World} {g : Rg} {which : Int} {xs ans got : List Int} {n : Int} {T : T3} (hT : T = accOf g which got) (hb : T.b = false) (hlt : got.length < 200) (hn0 : 0 ≤ n) (hn7 : n ≤ 7 * got.length) (hgo : takesGo readsA (acF g which) (200 - got.length) got ans n = takesGo readsA (acF g which) 200 [] xs 0)
    (hg8 : Bytes8 got) (bt : Int) (hbt : B8 bt) (ans' : List Int) (A' : Option Addr) (cap' : Nat) (v' : Value) (y : Nat → Value) (hB : Below w.heap.size w W) (own : W.ownsRow w.heap.size 5 1 v' (got.length + 1) (bvs (got ++ [bt]))) (hby : BytesIn w w.heap.size A' ans') (hc : ans'.length ≤ cap') (ha8 : Bytes8 ans')
    (he : (readsA T.c.kind = true ∧ bt = ans.headD 0 ∧ ans' = ans.tail) ∨ (readsA T.c.kind = false ∧ bt = 0 ∧ ans' = ans)) : acI w g which xs ⟨ans', got ++ [bt], n + T.c.t, A', cap', v', y⟩ W := by
  have ht := acc_t g which got (by rw [← hT]; exact hb)
  rw [← hT] at ht
  have hl : (got ++ [bt]).length = got.length + 1 := by simp
  refine ⟨⟨hB, ?_⟩, ⟨hby, hc, ha8, ?_⟩, ⟨?_, ?_, ?_⟩, ?_⟩
  · show W.ownsRow _ _ _ v' (got ++ [bt]).length (bvs (got ++ [bt]))
    rw [hl]; exact own
  · intro x hx
    rcases List.mem_append.1 hx with h | h
    · exact hg8 x h
    · rw [List.mem_singleton.1 h]; exact hbt
  · show (got ++ [bt]).length ≤ 200
    omega
  · show 0 ≤ n + T.c.t
    omega
  · show n + T.c.t ≤ 7 * ((got ++ [bt]).length : Int)
    rw [hl]; push_cast; omega
  · show takesGo readsA (acF g which) (200 - (got ++ [bt]).length) (got ++ [bt]) ans' (n + T.c.t) = _
    rw [← hgo, hl]
    obtain ⟨k, hk⟩ : ∃ k, 200 - got.length = k + 1 := ⟨199 - got.length, by omega⟩
    have hf2 : (acF g which got).2 = false := by show (accOf g which got).b = false; rw [← hT]; exact hb
    have hf1 : (acF g which got).1 = T.c := by rw [hT]; rfl
    rw [hk, acgo_step _ _ _ _ _ _ hf2, hf1, show 200 - (got.length + 1) = k by omega]
    rcases he with ⟨h1, h2, h3⟩ | ⟨h1, h2, h3⟩
    · rw [if_pos h1, h2, h3]
    · rw [if_neg (by rw [h1]; simp), h2, h3]
theorem astates_any (g : Rg) (hg : RgB g) (which : Int) (A : Option Addr) (cap : Nat) (xs : List Int) (hc : xs.length ≤ cap) (h8 : Bytes8 xs) (hl : xs.length ≤ 1000000000) (w : World) (hin : BytesIn w w.heap.size A xs) (ht : Tabs w w.heap.size) : Calls Tryz.prog 13 #[regsV g, .int .i64 which, .slice A xs.length cap] w fun e w' => e = .returned (.int .i64 (accTakes g which xs)) ∧ Below w.heap.size w w' := by
  go_enter Tryz.func13, Tryz.ntmps13
  refine coStart <| qQ [] (Many.begin w) fun w1 k1 => qQ [] k1 fun w2 k2 => qQ [] k2 fun w3 k3 => coS <| coB <| coLoop (acB w.heap.size which) (acI w3 g which xs) (fun x => 200 - x.got.length) (fun y => ⟨xs, [], 0, A, cap, .slice none 0 0, y⟩) ⟨⟨Below.refl .., World.ownsRow_nil ..⟩, ⟨(hin.below k3.touch.below).more k3.touch.size, hc, h8, fun x hx => by cases hx⟩, ⟨Nat.zero_le _, Int.le_refl _, by simp⟩, rfl⟩ ?_
  have hR3 : Row w3 w.heap.size 24 (regsC g) := k3.row 0 (regsC g).toList (by kernel_rfl)
  have hB3 := k3.touch.below
  have ht3 := ht.below hB3
  clear k3 k2 k1 hin
  rintro ⟨ans, got, n, A', cap', v, y⟩ W ⟨⟨hB, hown⟩, ⟨hby, hca, ha8, hg8⟩, ⟨h200, hn0, hn7⟩, hgo⟩
  have hB : Below w3.heap.size w3 W := hB
  have hown : W.ownsRow w3.heap.size 5 1 v got.length (bvs got) := hown
  have hby : BytesIn w3 w3.heap.size A' ans := hby
  have hca : ans.length ≤ cap' := hca
  have ha8 : Bytes8 ans := ha8
  have hg8 : Bytes8 got := hg8
  have h200 : got.length ≤ 200 := h200
  have hn0 : 0 ≤ n := hn0
  have hn7 : n ≤ 7 * got.length := hn7
  have hgo : takesGo readsA (acF g which) (200 - got.length) got ans n = takesGo readsA (acF g which) 200 [] xs 0 := hgo
  obtain ⟨Av, cv, rfl, hcv, hbg, hnn⟩ := own_slice hown
  have fin : ∀ (m : Int) wz, (takesGo readsA (acF g which) (200 - got.length) got ans n).1 = m → Below w3.heap.size w3 wz → Ending.returned (.int .i64 m) = Ending.returned (.int .i64 (accTakes g which xs)) ∧ Below w.heap.size w wz := fun m wz e hb => ⟨by unfold accTakes; rw [← hgo, e], hB3.trans (hb.mono hB3.size)⟩
  refine coS <| qQ [] (Many.begin W) fun wa ka => coI (decide ((got.length : Int) < 200)) (fun hlt => coSkip <| eoT <| coB <| coR <| wM (xLoad (ldR ((hR3.below hB hR3.lt).below ka.touch.below (Nat.lt_of_lt_of_le hR3.lt hB.size)).range)) <| qR 2 [] ka fun wb kb => ?_) fun hge => coX <| eoTx <| eoTx <| eoBx <| eoT ?_
  · have hlt : got.length < 200 := by have : (got.length : Int) < 200 := by simpa using hlt
                                      omega
    obtain ⟨T, hT⟩ : ∃ T, T = accOf g which got := ⟨_, rfl⟩
    have hbb := bOn hB kb
    have KN := accept_any g hg which Av cv got hcv hg8 (by omega) wb ((hbg.below kb.touch.below).more kb.touch.size) (ht3.below hbb)
    rw [← hT] at KN
    refine qC KN kb fun wc kc => qE [0, 1] kc fun wd kd => coS <| qQ [] kd fun we ke => coI T.b (fun hd => coX <| eoTx <| eoBy <| eoTx <| eoBx <| eoT <| qQ [] ke fun wf kf => coRet <| eoIr (.int .i64 n) (fin n wf (acgo_done _ _ _ _ _ _ (by show (accOf g which got).b = true; rw [← hT]; exact hd)) (bOn hB kf))) fun hd => coSkip <| eoT <| coR <| qR 3 [0] ke fun wf kf => ?_
    have htt := acc_t g which got (by rw [← hT]; exact hd)
    rw [← hT] at htt
    refine kBj 28 (.int .i64 n) (.int .i64 T.c.t) (.int .i64 (n + T.c.t)) (egI _ _ _ _ _) (bAddI' _ _ (by omega) (by omega)) <| qE [] kf fun wg kg => qQ [] kg fun wh kh => coS <| coR <| qR 2 [0] kh fun wi ki => qC (areads_any T.c.kind wi) ki fun wj kj => ?_
    by_cases hr : readsA T.c.kind = true
    · refine tell 31 hr <| qE [] kj fun wk kk => coI (decide ((ans.length : Int) > 0)) (fun hp => ?_) fun hp => coSkip <| eoT <| coZ <| qR 3 [] kk fun wl kl => ?_
      · cases ans with
        | nil => cases hp
        | cons x r =>
          obtain ⟨p, rfl⟩ := hby.addr (k := 0) (by simp)
          have hrc : r.length ≤ cap' - 1 := by
            have h : r.length + 1 ≤ cap' := hca
            omega
          refine qPz 6 kk fun wl kl => qM [0, 3] kl <| qT 1 kl (fun w' _ => xIndex (ixB p (x :: r).length cap' 0 (by simp) _)) <| qT 2 kl (fun w' hS => xLoad (BytesIn.ld (hby.below (bOn hB hS)) (k := 0) (by simp))) <| qT 4 kl (fun w' _ => xSlice (slFrom1 (some p) (x :: r).length cap' (by simp) hca _)) <| qM [5] kl <| poE <| qF [] kl fun wm km => eoT <| coZ <| qR 3 [] km fun wn kn => ?_
          refine qA (.tmp 42) (.tmp 44) w3 w3.heap.size wn.heap.size (.slice Av got.length cv) got.length got (some ⟨wm.heap.size, 0, none⟩) 1 [x] (bOn hB kn) (Nat.le_refl _) (bOn hB kn).size (own_below hown kn.touch.below) (kn.byte (t := 5) 2 (by kernel_rfl)) (fun e => by cases e) (by show got.length + 1 ≤ _; omega) fun v' w' own' hB' hs' => qF [] (Many.begin w') fun w'' k'' => eoB <| eoRound (fun y => ⟨r, got ++ [x], n + T.c.t, if cap' = 1 then some p else (some p).map (·.add 1), cap' - 1, v', y⟩) (acI_step hT hd hlt hn0 hn7 hgo hg8 x ha8.head r _ _ _ _ (bOn hB' k'') (own_below own' k''.touch.below) (hby.drop (k := 1) (by simp) hca) hrc ha8.tail (.inl ⟨hr, rfl, rfl⟩)) (by show 200 - (got ++ [x]).length < 200 - got.length; simp; omega)
      · have ha : ans = [] := by
          cases ans with
          | nil => rfl
          | cons x r => exact absurd hp (by simp)
        subst ha
        refine qA (.tmp 42) (.tmp 44) w3 w3.heap.size wl.heap.size (.slice Av got.length cv) got.length got (some ⟨wk.heap.size, 0, none⟩) 1 [0] (bOn hB kl) (Nat.le_refl _) (bOn hB kl).size (own_below hown kl.touch.below) (kl.byte (t := 5) 2 (by kernel_rfl)) (fun e => by cases e) (by show got.length + 1 ≤ _; omega) fun v' w' own' hB' hs' => qF [] (Many.begin w') fun w'' k'' => eoB <| eoRound (fun y => ⟨[], got ++ [0], n + T.c.t, A', cap', v', y⟩) (acI_step hT hd hlt hn0 hn7 hgo hg8 0 B8.zero [] _ _ _ _ (bOn hB' k'') (own_below own' k''.touch.below) hby hca ha8 (.inl ⟨hr, rfl, rfl⟩)) (by show 200 - (got ++ [0]).length < 200 - got.length; simp; omega)
    · have hr : readsA T.c.kind = false := by simpa using hr
      refine tell 31 hr <| qE [] kj fun wk kk => coF <| coSkip <| eoT <| coZ <| qR 3 [] kk fun wl kl => ?_
      refine qA (.tmp 42) (.tmp 44) w3 w3.heap.size wl.heap.size (.slice Av got.length cv) got.length got (some ⟨wk.heap.size, 0, none⟩) 1 [0] (bOn hB kl) (Nat.le_refl _) (bOn hB kl).size (own_below hown kl.touch.below) (kl.byte (t := 5) 2 (by kernel_rfl)) (fun e => by cases e) (by show got.length + 1 ≤ _; omega) fun v' w' own' hB' hs' => qF [] (Many.begin w') fun w'' k'' => eoB <| eoRound (fun y => ⟨ans, got ++ [0], n + T.c.t, A', cap', v', y⟩) (acI_step hT hd hlt hn0 hn7 hgo hg8 0 B8.zero ans _ _ _ _ (bOn hB' k'') (own_below own' k''.touch.below) hby hca ha8 (.inr ⟨hr, rfl, rfl⟩)) (by show 200 - (got ++ [0]).length < 200 - got.length; simp; omega)
  · have h0 : 200 - got.length = 0 := by have : ¬ (got.length : Int) < 200 := by simpa using hge
                                         omega
    refine qQ [] ka fun wb kb => coRet <| eoIr (.int .i64 n) (fin n wb (by rw [h0]; rfl) (bOn hB kb))
def gaw : Rg := { zeroRg with pc := 5, sp := 2, mode := 1, iff1 := true }
def gbw : Rg := { zeroRg with pc := 56, wz := 56, r := 1, mode := 1 }
theorem gaw_b : RgB gaw := by constructor <;> first | exact ⟨by decide, by decide⟩ | decide
theorem aw_0 : (accOf gaw 2 []).v = .tuple #[cyV ⟨6, 5, 0, 6⟩, regsV zeroRg, .bool false] := by kernel_rfl
theorem aw_1 : (accOf gaw 2 [9, 0, 0, 0]).v = .tuple #[cyV zeroCy, regsV gbw, .bool true] := by kernel_rfl
theorem awake13_any (w : World) (ht : Tabs w w.heap.size) : Calls Tryz.prog 8 #[] w fun e w' => e = .returned (.bool true) ∧ Below w.heap.size w w' := by
  go_enter Tryz.func8, Tryz.ntmps8
  have K1 := fun (W : World) (hW : Below w.heap.size w W) => accept_any gaw gaw_b 2 none 0 [] (Nat.le_refl _) (fun x hx => by cases hx) (by simp) W (BytesIn.nil _ _ _) (ht.below hW)
  rw [aw_0] at K1
  have K2 := fun (W : World) (hW : Below w.heap.size w W) (b : Nat) (hb : BytesIn W W.heap.size (some ⟨b, 0, none⟩) [9, 0, 0, 0]) => accept_any gaw gaw_b 2 (some ⟨b, 0, none⟩) 4 [9, 0, 0, 0] (by decide) (fun x hx => by simp at hx; rcases hx with rfl | rfl <;> exact ⟨by decide, by decide⟩) (by simp) W hb (ht.below hW)
  rw [aw_1] at K2
  have K3 := fun (W : World) (hW : Below w.heap.size w W) => astates_any gaw gaw_b 2 none 0 [] (Nat.le_refl _) (fun x hx => by cases hx) (by simp) W (BytesIn.nil _ _ _) (ht.below hW)
  rw [acc_one (show gaw.mode = 1 from rfl)] at K3
  refine coStart <| qQ [] (Many.begin w) fun w1 k1 => qQ [0] k1 fun w2 k2 => coR <| qR 1 [0] k2 fun w3 k3 => qC (K1 w3 k3.touch.below) k3 fun w4 k4 => qE [1, 2] k4 fun w5 k5 => coR <| qR 2 [0] k5 fun w6 k6 => ?_
  have hb6 := plane_row (k6.row 3 (b := w5.heap.size) (t := 5) (bvs [9, 0, 0, 0]) (by kernel_rfl))
  refine qC (K2 w6 k6.touch.below w5.heap.size hb6) k6 fun w7 k7 => qE [4, 5] k7 fun w8 k8 => coR <| qR 1 [0] k8 fun w9 k9 => qC (which_any gaw false true w9) k9 fun wa ka => qR 3 [0] ka fun wb kb => qC (which_any gaw true true wb) kb fun wc kc => qR 9 [1] kc fun wd kd => kBj 37 (cyV ⟨6, 5, 0, 6⟩) (cyV ⟨6, 5, 0, 6⟩) (.bool true) (cy_guard _ _ _ _ _) (cy_eql _) <| qR 7 [5] kd fun we ke => kBj 45 (regsV gbw) (regsV gbw) (.bool true) (regs_guard _ _ _ _ _) (regs_eql gbw) <| qR 3 [0] ke fun wf kf => qC (K3 wf kf.touch.below) kf fun wg kg => qE [] kg fun wh kh => coRet <| eoIr (.bool true) ⟨rfl, kh.touch.below⟩
theorem ac_and3 (y : Int) : bits BinOp.and IntKind.i64 y 3 = y % 4 := by
  have e : (BitVec.ofInt 64 y &&& BitVec.ofInt 64 3).toNat = (y % 4).toNat := by
    rw [BitVec.toNat_and, show (BitVec.ofInt 64 3).toNat = 2 ^ 2 - 1 by decide, Nat.and_two_pow_sub_one_eq_mod, BitVec.toNat_ofInt]
    omega
  show IntKind.i64.wrap ((BitVec.ofInt 64 y &&& BitVec.ofInt 64 3).toNat : Int) = _
  rw [e, IntKind.wrap_i64]
  omega
theorem ac_bAnd3 (y : Int) (w : World) : (binOp .and 3 (.int .i64 y) (.int .i64 3)).run Tryz.prog w = .ok (.int .i64 (y % 4)) w := by
  rw [← ac_and3]; kernel_rfl
theorem ac_ne (x : Int) (w : World) : (binOp .neq 3 (.int .i64 x) (.int .i64 x)).run Tryz.prog w = .ok (.bool false) w := by simp [go_sem]
theorem ac_neB (b : Bool) (w : World) : (binOp .neq 4 (.bool b) (.bool b)).run Tryz.prog w = .ok (.bool false) w := by cases b <;> simp [go_sem]
theorem ac_eqB (b : Bool) (w : World) : (binOp .eql 4 (.bool b) (.bool b)).run Tryz.prog w = .ok (.bool true) w := by cases b <;> simp [go_sem]
theorem ac_egB (op : BinOp) (x y : Operand) (a b : Bool) (w : World) : (eqGuard op 4 x y (.bool a) (.bool b)).run Tryz.prog w = .ok () w := by simp [go_sem]
theorem ac_two_ne {a b x : Nat} {t u : TypeId} {cs ds : Cells} (h : a ≠ x) (k : b ≠ x) : ∀ (i : Nat) (r : RowK), ([⟨a, t, cs⟩, ⟨b, u, ds⟩] : List RowK)[i]? = some r → r.b ≠ x := fun i r hi => by
  match i with
  | 0 => cases hi; exact h
  | 1 => cases hi; exact k
  | i + 2 => cases hi
theorem ac_rnext (g : Rg) (hg : RgB g) (A : Option Addr) (cap : Nat) (xs : List Int) (hc : xs.length ≤ cap) (h8 : Bytes8 xs) (hl : xs.length ≤ 1000000000) (W : World) (hin : BytesIn W W.heap.size A xs) : Calls Tryz.prog 17 #[regsV g, .slice A xs.length cap] W fun e w' => e = .returned (ofX (nextOf g xs)).v ∧ Below W.heap.size W w' := by
  have := rnnext_any g hg A cap xs hc h8 (by omega) W hin
  rw [← next_tell hg h8, tellV_eq] at this
  exact this
theorem ac_and1b (y : Int) : bits BinOp.and IntKind.i64 y 1 = y % 2 := by
  have e : (BitVec.ofInt 64 y &&& BitVec.ofInt 64 1).toNat = (y % 2).toNat := by
    rw [BitVec.toNat_and, show (BitVec.ofInt 64 1).toNat = 2 ^ 1 - 1 by decide, Nat.and_two_pow_sub_one_eq_mod, BitVec.toNat_ofInt]
    omega
  show IntKind.i64.wrap ((BitVec.ofInt 64 y &&& BitVec.ofInt 64 1).toNat : Int) = _
  rw [e, IntKind.wrap_i64]
  omega
theorem ac_and1 (y : Int) (w : World) : (binOp .and 3 (.int .i64 y) (.int .i64 1)).run Tryz.prog w = .ok (.int .i64 (y % 2)) w := by
  rw [← ac_and1b]; kernel_rfl
theorem ac_ne16 (x : Int) (w : World) : (binOp .neq 22 (.int .u16 x) (.int .u16 x)).run Tryz.prog w = .ok (.bool false) w := by simp [go_sem]
theorem ac_cv (x : Int) (h : B8 x) (w : World) : (convert 5 22 (.int .u8 x)).run Tryz.prog w = .ok (.int .u16 x) w := by
  have e : IntKind.u16.wrap x = x := by rw [IntKind.wrap_u16]; have := h.1; have := h.2; omega
  simp [go_sem, e]
theorem ac_mul (x : Int) (h : B8 x) (w : World) : (binOp .mul 22 (.int .u16 x) (.int .u16 256)).run Tryz.prog w = .ok (.int .u16 (x * 256)) w := by
  have e : IntKind.u16.wrap (x * 256) = x * 256 := by rw [IntKind.wrap_u16]; have := h.1; have := h.2; omega
  simp [go_sem, e]
theorem ac_add (x y : Int) (h : 0 ≤ x + y ∧ x + y ≤ 65535) (w : World) : (binOp .add 22 (.int .u16 x) (.int .u16 y)).run Tryz.prog w = .ok (.int .u16 (x + y)) w := by
  have e : IntKind.u16.wrap (x + y) = x + y := by rw [IntKind.wrap_u16]; omega
  simp [go_sem, e]
section
open Go.ChangeShapes Go.WideShapes Go.ChangeAt Go.RowKit
theorem open_bytes {H : Type} {enc : TypeId × Value → H} {P : Program} {w : World} {r : Reach} {b0 base : Nat} {sp : Nat → Bool} {held : Bool} {t e : TypeId} {v : Value} {d : DataW H} {ps : List MemPlace}
    (ht : P.underlying t = some (.slice e)) (he : P.underlying e = some (.int .u8)) (hc : P.cellsOf e = 1) (hv : Value.okWide P w r b0 t v) (h : DataW.Trod enc P w base sp held t v d ps) :
    ∃ (A : Option Addr) (cap : Nat) (xs : List Int), v = .slice A xs.length cap ∧ xs.length ≤ cap ∧ cap ≤ maxLen ∧ Bytes8 xs ∧ BytesIn w w.heap.size A xs ∧ (A = none → cap = 0) := by
  obtain ⟨a, len, cap, rfl⟩ := okWide_slice ht hv
  obtain ⟨fuel, hf⟩ := h
  rcases open_ints ht he hc hf with ⟨e1, -⟩ | ⟨ad, len', cap', zs, e1, hb, hle, hm, hz, -, hcell, hwf⟩
  · have e1' : (Value.slice a len cap).cells.toList = [.slice none 0 0] := e1
    have e2 : Value.slice a len cap = .slice none 0 0 := by simpa [Value.cells] using e1'
    refine ⟨none, 0, [], e2, Nat.le_refl _, Nat.zero_le _, fun x hx => by simp at hx, BytesIn.nil _ _ _, fun _ => rfl⟩
  · have e1' : (Value.slice a len cap).cells.toList = [.slice (some ad) len' cap'] := e1
    have e2 : Value.slice a len cap = .slice (some ad) len' cap' := by simpa [Value.cells] using e1'
    have hzl : len' ≤ zs.length := by rw [hz]; split <;> omega
    have htl : (zs.take len').length = len' := by rw [List.length_take]; omega
    refine ⟨some ad, cap', zs.take len', by rw [htl]; exact e2, by omega, hm, fun x hx => ?_, fun j x hx => ?_, fun h => by cases h⟩
    · have hw := hwf x (List.mem_of_mem_take hx)
      have := bounds_u8 hw
      exact ⟨by omega, by omega⟩
    · rw [List.getElem?_take] at hx
      split at hx
      · rename_i hj
        have hj2 : j < zs.length := by omega
        have hce := hcell j hj2
        rw [List.getD_eq_getElem?_getD, hx] at hce
        refine ⟨ad, rfl, ?_, hce⟩
        have := World.block_lt_of_cell? _ _ hce
        rw [add_block] at this
        exact this
      · cases hx
end
section
open Go.ChangeShapes Go.WideShapes Go.ChangeAt Go.RowKit Go.Deep
theorem list20 {α : Type} (l : List α) (h : l.length = 20) : ∃ a0 a1 a2 a3 a4 a5 a6 a7 a8 a9 a10 a11 a12 a13 a14 a15 a16 a17 a18 a19, l = [a0, a1, a2, a3, a4, a5, a6, a7, a8, a9, a10, a11, a12, a13, a14, a15, a16, a17, a18, a19] := by
  match l, h with
  | [a0, a1, a2, a3, a4, a5, a6, a7, a8, a9, a10, a11, a12, a13, a14, a15, a16, a17, a18, a19], _ => exact ⟨a0, a1, a2, a3, a4, a5, a6, a7, a8, a9, a10, a11, a12, a13, a14, a15, a16, a17, a18, a19, rfl⟩
theorem open_regs {H : Type} {enc : TypeId × Value → H} {P : Program} {w : World} {r : Reach} {b0 base : Nat} {sp : Nat → Bool} {held : Bool} {t : TypeId} {f0 f1 f2 f3 f4 f5 f6 f7 f8 f9 f10 f11 f12 f13 f14 f15 f16 f17 f18 f19 : Field} {v : Value} {d : DataW H} {ps : List MemPlace}
    (hs : P.underlying t = some (.struct #[f0, f1, f2, f3, f4, f5, f6, f7, f8, f9, f10, f11, f12, f13, f14, f15, f16, f17, f18, f19])) (hone : oneCellFields P #[f0, f1, f2, f3, f4, f5, f6, f7, f8, f9, f10, f11, f12, f13, f14, f15, f16, f17, f18, f19] = true) (hC : P.cellsOf t = 20)
    (u0 : P.underlying f0.type = some (.int .u16)) (u1 : P.underlying f1.type = some (.int .u16)) (u2 : P.underlying f2.type = some (.int .u16)) (u3 : P.underlying f3.type = some (.int .u16)) (u4 : P.underlying f4.type = some (.int .u16)) (u5 : P.underlying f5.type = some (.int .u16)) (u6 : P.underlying f6.type = some (.int .u16)) (u7 : P.underlying f7.type = some (.int .u16)) (u8 : P.underlying f8.type = some (.int .u16)) (u9 : P.underlying f9.type = some (.int .u16)) (u10 : P.underlying f10.type = some (.int .u16)) (u11 : P.underlying f11.type = some (.int .u16)) (u12 : P.underlying f12.type = some (.int .u16)) (u13 : P.underlying f13.type = some (.int .u8)) (u14 : P.underlying f14.type = some (.int .u8)) (u15 : P.underlying f15.type = some .bool) (u16 : P.underlying f16.type = some .bool) (u17 : P.underlying f17.type = some .bool) (u18 : P.underlying f18.type = some .bool) (u19 : P.underlying f19.type = some (.int .i64))
    (hv : Value.okWide P w r b0 t v) (h : DataW.Trod enc P w base sp held t v d ps) : ∃ g : Rg, v = regsV g ∧ RgB g := by
  obtain ⟨cs, rfl, hsz⟩ := okWide_struct hs hv
  obtain ⟨fuel, hf⟩ := h
  obtain ⟨xs, n, -, -, -, hlen, hg⟩ := DataW.trod_struct hs hf
  rw [hC] at hsz
  have hlen : xs.length = 20 := hlen
  have cell : ∀ (k : Nat) (f : Field), #[f0, f1, f2, f3, f4, f5, f6, f7, f8, f9, f10, f11, f12, f13, f14, f15, f16, f17, f18, f19][k]? = some f → ∃ u z, cs[k]? = some u ∧ DataW.trod enc P w base sp held n f.type [u] = some z := by
    intro k f hk
    obtain ⟨ho, h1⟩ := hone_of hone k f hk
    have hkl : k < 20 := (Array.getElem?_eq_some_iff.1 hk).1
    have h2 := hg k f hk
    rw [ho, h1] at h2
    have e1 : ((Value.agg cs).cells.toList.drop k).take 1 = [cs[k]'(by omega)] := by
      have e : (Value.agg cs).cells.toList = cs.toList := rfl
      rw [e, List.drop_eq_getElem_cons (by simp; omega)]
      simp
    rw [e1, List.getElem?_eq_getElem (by omega)] at h2
    exact ⟨_, _, Array.getElem?_eq_getElem (by omega), h2⟩
  have one : ∀ (k : Nat) (f : Field) (K : IntKind), #[f0, f1, f2, f3, f4, f5, f6, f7, f8, f9, f10, f11, f12, f13, f14, f15, f16, f17, f18, f19][k]? = some f → P.underlying f.type = some (.int K) → ∃ z, cs[k]? = some (.int K z) ∧ (Lit.int K z).wf = true := by
    intro k f K hk hu
    obtain ⟨u, z, hc, h2⟩ := cell k f hk
    obtain ⟨z, e2, -, hw⟩ := DataW.trod_int hu h2
    injection e2 with e3
    exact ⟨z, by rw [hc, e3], hw⟩
  have oneB : ∀ (k : Nat) (f : Field), #[f0, f1, f2, f3, f4, f5, f6, f7, f8, f9, f10, f11, f12, f13, f14, f15, f16, f17, f18, f19][k]? = some f → P.underlying f.type = some .bool → ∃ z, cs[k]? = some (.bool z) := by
    intro k f hk hu
    obtain ⟨u, z, hc, h2⟩ := cell k f hk
    obtain ⟨z, e2, -⟩ := DataW.trod_bool hu h2
    injection e2 with e3
    exact ⟨z, by rw [hc, e3]⟩
  clear hg hlen hf hone
  obtain ⟨z0, e0, w0⟩ := one 0 f0 .u16 rfl u0
  have b0 := bounds_u16 w0
  obtain ⟨z1, e1, w1⟩ := one 1 f1 .u16 rfl u1
  have b1 := bounds_u16 w1
  obtain ⟨z2, e2, w2⟩ := one 2 f2 .u16 rfl u2
  have b2 := bounds_u16 w2
  obtain ⟨z3, e3, w3⟩ := one 3 f3 .u16 rfl u3
  have b3 := bounds_u16 w3
  obtain ⟨z4, e4, w4⟩ := one 4 f4 .u16 rfl u4
  have b4 := bounds_u16 w4
  obtain ⟨z5, e5, w5⟩ := one 5 f5 .u16 rfl u5
  have b5 := bounds_u16 w5
  obtain ⟨z6, e6, w6⟩ := one 6 f6 .u16 rfl u6
  have b6 := bounds_u16 w6
  obtain ⟨z7, e7, w7⟩ := one 7 f7 .u16 rfl u7
  have b7 := bounds_u16 w7
  obtain ⟨z8, e8, w8⟩ := one 8 f8 .u16 rfl u8
  have b8 := bounds_u16 w8
  obtain ⟨z9, e9, w9⟩ := one 9 f9 .u16 rfl u9
  have b9 := bounds_u16 w9
  obtain ⟨z10, e10, w10⟩ := one 10 f10 .u16 rfl u10
  have b10 := bounds_u16 w10
  obtain ⟨z11, e11, w11⟩ := one 11 f11 .u16 rfl u11
  have b11 := bounds_u16 w11
  obtain ⟨z12, e12, w12⟩ := one 12 f12 .u16 rfl u12
  have b12 := bounds_u16 w12
  obtain ⟨z13, e13, w13⟩ := one 13 f13 .u8 rfl u13
  have b13 := bounds_u8 w13
  obtain ⟨z14, e14, w14⟩ := one 14 f14 .u8 rfl u14
  have b14 := bounds_u8 w14
  obtain ⟨z15, e15⟩ := oneB 15 f15 rfl u15
  obtain ⟨z16, e16⟩ := oneB 16 f16 rfl u16
  obtain ⟨z17, e17⟩ := oneB 17 f17 rfl u17
  obtain ⟨z18, e18⟩ := oneB 18 f18 rfl u18
  obtain ⟨z19, e19, w19⟩ := one 19 f19 .i64 rfl u19
  have b19 := bounds_i64 w19
  clear one oneB cell
  refine ⟨⟨z0, z1, z2, z3, z4, z5, z6, z7, z8, z9, z10, z11, z12, z13, z14, z15, z16, z17, z18, z19⟩, ?_, ⟨b0, b1, b2, b3, b4, b5, b6, b7, b8, b9, b10, b11, b12, b13, b14, b19⟩⟩
  obtain ⟨l⟩ := cs
  obtain ⟨a0, a1, a2, a3, a4, a5, a6, a7, a8, a9, a10, a11, a12, a13, a14, a15, a16, a17, a18, a19, rfl⟩ := list20 l hsz
  simp only [List.getElem?_toArray, List.getElem?_cons_zero, List.getElem?_cons_succ, Option.some.injEq] at e0 e1 e2 e3 e4 e5 e6 e7 e8 e9 e10 e11 e12 e13 e14 e15 e16 e17 e18 e19
  rw [e0, e1, e2, e3, e4, e5, e6, e7, e8, e9, e10, e11, e12, e13, e14, e15, e16, e17, e18, e19]
end
def flats {H : Type} (F : TypeId → DataW H → Option (List Value)) : List (TypeId × Nat) → List (DataW H) → Nat → Option (List Value)
  | [], [], _ => some []
  | (e, o) :: L, d :: ds, cur => if o = cur then (F e d).bind fun a => (flats F L ds (cur + a.length)).map fun b => a ++ b else none
  | _, _, _ => none
def flat {H : Type} (P : Program) : Nat → TypeId → DataW H → Option (List Value)
  | 0, _, _ => none
  | k + 1, t, d => match P.underlying t, d with
    | some (.int q), .lit (.int q' n) => if q = q' then some [.int q n] else none
    | some .bool, .lit (.bool b) => some [.bool b]
    | some .string, .lit (.string bs) => some [.string ⟨bs.toArray⟩]
    | some (.array n e), .agg ds => (flats (flat P k) ((List.range n).map fun i => (e, i * P.cellsOf e)) ds 0).bind fun out => if out.length = P.cellsOf t then some out else none
    | some (.struct fs), .agg ds => (flats (flat P k) (fs.toList.map fun f => (f.type, f.offset)) ds 0).bind fun out => if out.length = P.cellsOf t then some out else none
    | _, _ => none
section
variable {H : Type} {enc : TypeId × Value → H} {P : Program} {w : World} {base : Nat} {sp : Nat → Bool} {held : Bool}
theorem flats_ok (F : TypeId → DataW H → Option (List Value)) (m : Nat) (cs : List Value)
    (hF : ∀ e d cs' p a, DataW.trod enc P w base sp held m e cs' = some (d, p) → F e d = some a → cs' = a) :
    ∀ (L : List (TypeId × Nat)) (xs : List (DataW H × List MemPlace)) (cur : Nat) (out : List Value), L.length = xs.length →
      (∀ (i : Nat) (e : TypeId) (o : Nat), L[i]? = some (e, o) → DataW.trod enc P w base sp held m e ((cs.drop o).take (P.cellsOf e)) = xs[i]?) → flats F L (xs.map (·.1)) cur = some out → (cs.drop cur).take out.length = out
  | [], [], cur, out, _, _, h => by
    simp only [List.map_nil, flats, Option.some.injEq] at h
    subst h; simp
  | (e, o) :: L, (d, p) :: xs, cur, out, hl, hx, h => by
    simp only [List.map_cons, flats] at h
    split at h
    · rename_i ho
      subst ho
      obtain ⟨a, ha, h⟩ := Option.bind_eq_some_iff.1 h
      obtain ⟨b, hb, rfl⟩ := Option.map_eq_some_iff.1 h
      have h0 := hx 0 e o rfl
      have e1 := hF e d _ p a (by simpa using h0) ha
      have ih := flats_ok F m cs hF L xs (o + a.length) b (by simpa using hl) (fun i e' o' hi => by simpa using hx (i + 1) e' o' (by simpa using hi)) hb
      have e2 : (cs.drop o).take a.length = a := by
        conv => rhs; rw [← e1]
        rw [← e1, List.length_take]
        rcases Nat.le_total (P.cellsOf e) (cs.drop o).length with hq | hq
        · rw [Nat.min_eq_left hq]
        · rw [Nat.min_eq_right hq, List.take_length, List.take_of_length_le hq]
      have e3 : cs.drop o = a ++ cs.drop (o + a.length) := by
        conv => lhs; rw [← List.take_append_drop a.length (cs.drop o), e2, List.drop_drop]
      rw [e3, List.length_append, List.take_length_add_append, ih]
    · cases h
  | [], _ :: _, _, _, hl, _, _ => by simp at hl
  | _ :: _, [], _, _, hl, _, _ => by simp at hl
theorem flat_ok : ∀ (k : Nat) (t : TypeId) (d : DataW H) (cs : List Value) (fuel : Nat) (p : List MemPlace) (out : List Value), DataW.trod enc P w base sp held fuel t cs = some (d, p) → flat P k t d = some out → cs = out
  | 0, _, _, _, _, _, _, _, h => by simp [flat] at h
  | k + 1, t, d, cs, fuel, p, out, ht, h => by
    unfold flat at h
    split at h
    · rename_i hu
      split at h
      · rename_i hq
        subst hq
        obtain ⟨n, rfl, e, _⟩ := DataW.trod_int hu ht
        simp only [Prod.mk.injEq, DataW.lit.injEq, Lit.int.injEq, true_and] at e
        obtain ⟨rfl, _⟩ := e
        exact Option.some.inj h
      · cases h
    · rename_i hu
      obtain ⟨b, rfl, e⟩ := DataW.trod_bool hu ht
      simp only [Prod.mk.injEq, DataW.lit.injEq, Lit.bool.injEq] at e
      obtain ⟨rfl, _⟩ := e
      exact Option.some.inj h
    · rename_i hu
      obtain ⟨s, rfl, e, _⟩ := DataW.trod_string hu ht
      simp only [Prod.mk.injEq, DataW.lit.injEq, Lit.string.injEq] at e
      obtain ⟨rfl, _⟩ := e
      exact Option.some.inj h
    · rename_i n e ds hu
      obtain ⟨xs, m, rfl, hx, hlen, hxl, hi⟩ := DataW.trod_array hu ht
      simp only [Prod.mk.injEq, DataW.agg.injEq] at hx
      obtain ⟨rfl, rfl⟩ := hx
      obtain ⟨o, ho, h⟩ := Option.bind_eq_some_iff.1 h
      split at h
      · rename_i hol
        obtain rfl := Option.some.inj h
        have := flats_ok (flat P k) m cs (fun e d cs' p a h1 h2 => flat_ok k e d cs' m p a h1 h2) _ xs 0 o (by simp [hxl]) (fun i e' o' hq => by
          simp only [List.getElem?_map, Option.map_eq_some_iff, Prod.mk.injEq] at hq
          obtain ⟨j, hj, rfl, rfl⟩ := hq
          obtain ⟨hj1, hj2⟩ := List.getElem?_eq_some_iff.1 hj
          simp only [List.getElem_range] at hj2
          subst hj2
          exact hi _ (by simpa using hj1)) ho
        rwa [List.drop_zero, hol, ← hlen, List.take_length] at this
      · cases h
    · rename_i fs ds hu
      obtain ⟨xs, m, rfl, hx, hlen, hxl, hi⟩ := DataW.trod_struct hu ht
      simp only [Prod.mk.injEq, DataW.agg.injEq] at hx
      obtain ⟨rfl, rfl⟩ := hx
      obtain ⟨o, ho, h⟩ := Option.bind_eq_some_iff.1 h
      split at h
      · rename_i hol
        obtain rfl := Option.some.inj h
        have := flats_ok (flat P k) m cs (fun e d cs' p a h1 h2 => flat_ok k e d cs' m p a h1 h2) _ xs 0 o (by simp [hxl]) (fun i e' o' hq => by
          simp only [List.getElem?_map, Option.map_eq_some_iff, Prod.mk.injEq] at hq
          obtain ⟨f, hf, rfl, rfl⟩ := hq
          exact hi i f (by simpa using hf)) ho
        rwa [List.drop_zero, hol, ← hlen, List.take_length] at this
      · cases h
    · cases h
end
theorem laidVars_at {P : Program} {W : World} {name : String} {d : DataW Unit} : ∀ (laid : List (String × DataW Unit)) (ps : List MemPlace), DataW.LaidVars P W laid ps → ∀ (i : Nat), laid[i]? = some (name, d) →
    ∃ g t cs fuel p, P.globalNamed name = some g ∧ (P.globals[g]?).map (·.type) = some t ∧ W.var? P name = some cs ∧ DataW.trod (fun _ => ()) P W 0 (fun _ => true) false fuel t cs.toList = some (d, p)
  | [], _, _, i, hi => by simp at hi
  | (n, d') :: r, ps, h, 0, hi => by
    obtain ⟨g, t, cs, fuel, p, q, h1, h2, h3, h4, _, _⟩ := h
    simp only [List.getElem?_cons_zero, Option.some.injEq, Prod.mk.injEq] at hi
    obtain ⟨rfl, rfl⟩ := hi
    exact ⟨g, t, cs, fuel, p, h1, h2, h3, h4⟩
  | (n, d') :: r, ps, h, i + 1, hi => by
    obtain ⟨g, t, cs, fuel, p, q, _, _, _, _, h5, _⟩ := h
    exact laidVars_at r q h5 i (by simpa using hi)
theorem laid_var {P : Program} {W : World} {name : String} {d : DataW Unit} {laid : List (String × DataW Unit)} {g : Nat} {t : TypeId} {k : Nat} {out : List Value} (i : Nat) (hi : laid[i]? = some (name, d)) (hg : P.globalNamed name = some g) (hty : (P.globals[g]?).map (·.type) = some t)
    (hf : flat P k t d = some out) (h : laidMet P laid W) : W.var? P name = some out.toArray := by
  obtain ⟨ps, h1, _⟩ := h
  obtain ⟨g', t', cs, fuel, p, hg', ht', hvar, hd⟩ := laidVars_at laid ps h1 i hi
  obtain rfl := Option.some.inj (hg.symm.trans hg')
  obtain rfl := Option.some.inj (hty.symm.trans ht')
  rw [hvar, ← flat_ok k t d _ _ _ _ hd hf]
theorem laid_cell {P : Program} {W : World} {name : String} {g : Nat} {out : List Value} (h : W.var? P name = some out.toArray) (hg : P.globalNamed name = some g) (i : Nat) (v : Value) (hv : out[i]? = some v) : W.cell? ⟨g, i, none⟩ = some v := by
  rw [World.var?_cell hg h i]
  simpa using hv
end Go.Proofs.YtmnddlkhgajenaaGreatDoor
