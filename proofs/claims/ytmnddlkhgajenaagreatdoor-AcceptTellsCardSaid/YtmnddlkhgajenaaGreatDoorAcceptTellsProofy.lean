/- The law's walk and what it wants (several texts in one). -/
import Derived.Test.YtmnddlkhgajenaaGreatDoorAcG19
import Derived.Test.YtmnddlkhgajenaaGreatDoorAcG20
namespace Go.Proofs.YtmnddlkhgajenaaGreatDoor
open Go.RowKit
set_option linter.unusedVariables false
set_option linter.unusedSimpArgs false
set_option maxRecDepth 20000
set_option maxHeartbeats 20000000
structure TelS where
  k : Nat
  y : Nat → Value
def telB (h : Nat) (which : Int) (A : Option Addr) (n cap : Nat) (x : TelS) : List Value := [x.y 0, .int .i64 which, .slice A n cap, .pointer (some ⟨h, 0, none⟩), x.y 4, x.y 5, x.y 6, x.y 7, .int .i64 (x.k : Int), x.y 9, x.y 10, x.y 11, x.y 12, x.y 13, x.y 14, x.y 15, x.y 16, x.y 17, x.y 18, x.y 19, x.y 20, x.y 21, x.y 22, x.y 23, x.y 24, x.y 25, x.y 26, x.y 27, x.y 28, x.y 29, x.y 30, x.y 31, x.y 32, x.y 33, x.y 34, x.y 35, x.y 36, x.y 37, x.y 38, x.y 39, x.y 40, x.y 41, x.y 42, x.y 43, x.y 44, x.y 45, x.y 46, x.y 47, x.y 48, x.y 49, x.y 50, x.y 51, x.y 52, x.y 53, x.y 54, x.y 55, x.y 56, x.y 57, x.y 58, x.y 59, x.y 60, x.y 61, x.y 62, x.y 63, x.y 64, x.y 65, x.y 66, x.y 67, x.y 68, x.y 69, x.y 70, x.y 71, x.y 72, x.y 73, x.y 74, x.y 75, x.y 76]
def telI (Z : World) (n : Nat) (x : TelS) (W : World) : Prop := Below Z.heap.size Z W ∧ x.k ≤ n + 1
theorem acceptTells_walk (g : Rg) (which : Int) (A : Option Addr) (cap : Nat) (xs : List Int) (hg : RgB g) (w : World) (hc : xs.length ≤ cap) (hm : cap ≤ maxLen) (h8 : Bytes8 xs) (hin : BytesIn w w.heap.size A xs) (hn : A = none → cap = 0) (hM : Masks w) (hD : Digits w) (hC : Courses w) (hO : Modes w) :
    Calls Tryz.prog 3 #[regsV g, .int .i64 which, .slice A xs.length cap] w fun e w' => e = .returned (.bool true) ∧ Below w.heap.size w w' := by
  have ht : Tabs w w.heap.size := (NextTabs.mk hM hC hD hO).tabs
  go_enter Tryz.func3, Tryz.ntmps3
  refine coStart <| qQ [] (Many.begin w) fun w1 k1 => coR <| qC (awake13_any w1 (ht.below k1.touch.below)) k1 fun w2 k2 => qE [] k2 fun w3 k3 => coS <| qQ [] k3 fun w4 k4 => coF <| coSkip <| eoT <| coS <| qQ [] k4 fun w5 k5 => coI (decide ((xs.length : Int) > 40)) (fun _ => qQ [] k5 fun w k => coRet <| eoTr <| eoIr (.bool true) ⟨rfl, k.touch.below⟩) fun hle => coSkip <| eoT <| coS <| qQ [] k5 fun Z kZ => coB <| ?_
  have hl : xs.length ≤ 40 := by have : ¬ ((xs.length : Int) > 40) := by simpa using hle
                                 omega
  have hBZ := kZ.touch.below
  have rZ : Row Z w.heap.size 24 (regsC g) := kZ.row 0 (regsC g).toList (by kernel_rfl)
  have hinZ : BytesIn Z Z.heap.size A xs := (hin.below hBZ).more hBZ.size
  have htZ := ht.below hBZ
  have hwZ := rZ.lt
  refine coLoop (telB w.heap.size which A xs.length cap) (telI Z xs.length) (fun x => xs.length + 1 - x.k) (fun y => ⟨0, y⟩) ⟨Below.refl .., Nat.zero_le _⟩ ?_
  clear kZ k5 k4 k3 k2 k1
  rintro ⟨k, y⟩ W ⟨hB, hk⟩
  have hB : Below Z.heap.size Z W := hB
  have hk : k ≤ xs.length + 1 := hk
  refine coS <| qQ [] (Many.begin W) fun wa ka => coI (decide ((k : Int) ≤ (xs.length : Int))) (fun hlt => coSkip <| eoT <| coS <| coB <| ?_) fun hge => coX <| eoTx <| eoTx <| eoBx <| eoT ?_
  · have hkl : k ≤ xs.length := by have : (k : Int) ≤ (xs.length : Int) := by simpa using hlt
                                   omega
    obtain ⟨T, hT⟩ : ∃ T, T = accOf g which (xs.take k) := ⟨_, rfl⟩
    obtain ⟨c, hcE⟩ : ∃ c, c = T.c := ⟨_, rfl⟩
    obtain ⟨s, hsE⟩ : ∃ s, s = T.g := ⟨_, rfl⟩
    obtain ⟨d, hdE⟩ : ∃ d, d = T.b := ⟨_, rfl⟩
    have hBa := bOn hB ka
    have rA : Row wa w.heap.size 24 (regsC g) := rZ.below hBa rZ.lt
    have ha : (xs.take k).length = k := by rw [List.length_take]; omega
    have t8 : Bytes8 (xs.take k) := fun x hx => h8 x (List.mem_of_mem_take hx)
    have KA : ∀ W, Below wa.heap.size wa W → Calls Tryz.prog 9 #[regsV g, .int .i64 which, .slice A k cap] W fun e w' => e = .returned (.tuple #[cyV c, regsV s, .bool d]) ∧ Below W.heap.size W w' := fun W hW => by
      have hZW := hBa.trans (hW.mono hBa.size)
      have := accept_any g hg which A cap (xs.take k) (by omega) t8 (by omega) W (((hinZ.below hZW).more hZW.size).take k) (htZ.below hZW)
      rw [ha, ← hT] at this
      rw [hcE, hsE, hdE]
      exact this
    have ka := ka.take 0 []
    refine coBox [(some 30, .val (regsV g)), (some 31, .val (.int .i64 which)), (some 32, .val (.slice A xs.length cap)), (some 33, .val (.int .i64 (k : Int))), (some 34, .val (.slice A k cap)), (some 35, .call (.tuple #[cyV c, regsV s, .bool d])), (some 29, .val (.tuple #[cyV c, regsV s, .bool d])), (some 36, .val (cyV c)), (some 37, .val (regsV s)), (some 38, .val (.bool d)), (some 9, .box 28 (cyC zeroCy) (some (12, cyC c)) none), (some 10, .box 24 (regsC zeroRg) (some (13, regsC s)) none), (none, .put 10), (none, .put 11), (some 11, .val (.bool d))] ⟨fun p l a w I hd => heLoad rfl (by kernel_rfl) (ldR (rA.below I.below rA.lt).range), fun p l a w I hd => heMove (.inl rfl) (by kernel_rfl) w, fun p l a w I hd => heMove (.inl rfl) (by kernel_rfl) w, fun p l a w I hd => heMove (.inl rfl) (by kernel_rfl) w, fun p l a w I hd => heSlice (V := .slice A xs.length cap) rfl (by kernel_rfl) (by kernel_rfl) (by kernel_rfl) (by kernel_rfl) (slTo _ _ _ k (by omega) w), fun p l a w I hd => ⟨_, _, (by kernel_rfl), KA w I.below⟩, fun p l a w I hd => heMove (.inl rfl) (by kernel_rfl) w, fun p l a w I hd => heExtract (vs := #[cyV c, regsV s, .bool d]) rfl (by kernel_rfl) (by kernel_rfl) w, fun p l a w I hd => heExtract (vs := #[cyV c, regsV s, .bool d]) rfl (by kernel_rfl) (by kernel_rfl) w, fun p l a w I hd => heExtract (vs := #[cyV c, regsV s, .bool d]) rfl (by kernel_rfl) (by kernel_rfl) w, ⟨fun k vs e => (by cases e; rfl), fun p l a w I hd => heAlloc rfl (allocCy w)⟩, ⟨fun k vs e => (by cases e; rfl), fun p l a w I hd => heAlloc rfl (allocRg w)⟩, fun p l a w I hd d t z s vs hj hr => (by cases hj; exact heStore rfl (by kernel_rfl) (by kernel_rfl) (stCy hr)), fun p l a w I hd d t z s vs hj hr => (by cases hj; exact heStore rfl (by kernel_rfl) (by kernel_rfl) (stRow hr)), fun p l a w I hd => heMove (.inr rfl) (by kernel_rfl) w, trivial⟩ fun p wb hE => ?_
    have hCb := hE.2.1 10 _ _ _ _ _ rfl
    have hSb := hE.2.1 11 _ _ _ _ _ rfl
    have hpn : p 10 ≠ p 11 := hE.2.2 10 11 _ _ _ _ _ _ _ _ _ _ rfl rfl (by decide)
    have kb : Many W [] [⟨p 10, 28, (cyC c).toList.map some⟩, ⟨p 11, 24, (regsC s).toList.map some⟩] wb :=
      (ka.fresh hE.1 hCb.2 hCb.1).add hSb.2 (Nat.le_trans ka.touch.size hSb.1) (one_ne hpn)
    clear hCb hSb hE KA
    have hBb := bOn hB kb
    have rB : Row wb w.heap.size 24 (regsC g) := rZ.below hBb rZ.lt
    have KB : ∀ W, Below wb.heap.size wb W → Calls Tryz.prog 10 #[regsV g, .int .i64 which, .slice A k cap] W fun e w' => e = .returned (.tuple #[cyV c, regsV s, .bool d]) ∧ Below W.heap.size W w' := fun W hW => by
      have hZW := hBb.trans (hW.mono hBb.size)
      have := raccept_any g hg which A cap (xs.take k) (by omega) t8 (by omega) W (((hinZ.below hZW).more hZW.size).take k)
      rw [ha, ← hT] at this
      rw [hcE, hsE, hdE]
      exact this
    refine coBox [(some 40, .val (regsV g)), (some 41, .val (.int .i64 which)), (some 42, .val (.slice A xs.length cap)), (some 43, .val (.int .i64 (k : Int))), (some 44, .val (.slice A k cap)), (some 45, .call (.tuple #[cyV c, regsV s, .bool d])), (some 39, .val (.tuple #[cyV c, regsV s, .bool d])), (some 46, .val (cyV c)), (some 47, .val (regsV s)), (some 48, .val (.bool d)), (some 12, .box 28 (cyC zeroCy) (some (12, cyC c)) none), (some 13, .box 24 (regsC zeroRg) (some (13, regsC s)) none), (none, .put 10), (none, .put 11), (some 14, .val (.bool d))] ⟨fun p l a w I hd => heLoad rfl (by kernel_rfl) (ldR (rB.below I.below rB.lt).range), fun p l a w I hd => heMove (.inl rfl) (by kernel_rfl) w, fun p l a w I hd => heMove (.inl rfl) (by kernel_rfl) w, fun p l a w I hd => heMove (.inl rfl) (by kernel_rfl) w, fun p l a w I hd => heSlice (V := .slice A xs.length cap) rfl (by kernel_rfl) (by kernel_rfl) (by kernel_rfl) (by kernel_rfl) (slTo _ _ _ k (by omega) w), fun p l a w I hd => ⟨_, _, (by kernel_rfl), KB w I.below⟩, fun p l a w I hd => heMove (.inl rfl) (by kernel_rfl) w, fun p l a w I hd => heExtract (vs := #[cyV c, regsV s, .bool d]) rfl (by kernel_rfl) (by kernel_rfl) w, fun p l a w I hd => heExtract (vs := #[cyV c, regsV s, .bool d]) rfl (by kernel_rfl) (by kernel_rfl) w, fun p l a w I hd => heExtract (vs := #[cyV c, regsV s, .bool d]) rfl (by kernel_rfl) (by kernel_rfl) w, ⟨fun k vs e => (by cases e; rfl), fun p l a w I hd => heAlloc rfl (allocCy w)⟩, ⟨fun k vs e => (by cases e; rfl), fun p l a w I hd => heAlloc rfl (allocRg w)⟩, fun p l a w I hd d t z s vs hj hr => (by cases hj; exact heStore rfl (by kernel_rfl) (by kernel_rfl) (stCy hr)), fun p l a w I hd d t z s vs hj hr => (by cases hj; exact heStore rfl (by kernel_rfl) (by kernel_rfl) (stRow hr)), fun p l a w I hd => heMove (.inr rfl) (by kernel_rfl) w, trivial⟩ fun q wc hE => ?_
    have hCb := hE.2.1 10 _ _ _ _ _ rfl
    have hSb := hE.2.1 11 _ _ _ _ _ rfl
    have hqn : q 10 ≠ q 11 := hE.2.2 10 11 _ _ _ _ _ _ _ _ _ _ rfl rfl (by decide)
    have b0 : p 10 < wb.heap.size := kb.lt 0 _ rfl
    have b1 : p 11 < wb.heap.size := kb.lt 1 _ rfl
    have q0 := hCb.1
    have q1 := hSb.1
    have kc : Many W [] [⟨p 10, 28, (cyC c).toList.map some⟩, ⟨p 11, 24, (regsC s).toList.map some⟩, ⟨q 10, 28, (cyC c).toList.map some⟩, ⟨q 11, 24, (regsC s).toList.map some⟩] wc :=
      (kb.fresh hE.1 hCb.2 hCb.1).add hSb.2 (Nat.le_trans kb.touch.size hSb.1) (three_ne (by omega) (by omega) hqn)
    clear hCb hSb hE KB
    refine coR <| qR 2 [0, 2] kc fun wd kd => kBj 51 (cyV c) (cyV c) (.bool false) (cy_guard _ _ _ _ _) (cy_neq c) <| qR 3 [1, 3] kd fun we ke => kBj 55 (regsV s) (regsV s) (.bool false) (regs_guard _ _ _ _ _) (regs_neq s) <| qR 4 [] ke fun wf kf => kBj 60 (.bool d) (.bool d) (.bool false) (ac_egB _ _ _ _ _) (ac_neB d) <| qE [] kf fun wg kg => coF <| coSkip <| eoB <| eoT <| coZ <| qR 1 [] kg fun wh kh => wM (xInc k (by omega)) <| qF [] kh fun wi ki => eoRound (fun y => ⟨k + 1, y⟩) ⟨bOn hB ki, by show k + 1 ≤ xs.length + 1; omega⟩ (by show xs.length + 1 - (k + 1) < xs.length + 1 - k; omega)
  · have hBa := bOn hB ka
    have rA : Row wa w.heap.size 24 (regsC g) := rZ.below hBa rZ.lt
    have kA := Many.start rA
    clear ka
    refine qQ [] kA fun wb kb => qQ [] kb fun wc kc => qP 9 kc fun wd kd => qD 0 [0, 1, 2, 4, 5, 6] kd <| qDc 3 (which_any g (bits BinOp.and IntKind.i64 which 1 == 1) (bits BinOp.and IntKind.i64 which 2 == 2) wd) kd fun we ke => qDc 7 (rwhich_any g (bits BinOp.and IntKind.i64 which 1 == 1) (bits BinOp.and IntKind.i64 which 2 == 2) we) ke fun wf kf => qT 8 kf (fun w' _ => xBin (V := .int .i64 (whichM g (bits BinOp.and IntKind.i64 which 1 == 1) (bits BinOp.and IntKind.i64 which 2 == 2))) (W := .int .i64 (whichM g (bits BinOp.and IntKind.i64 which 1 == 1) (bits BinOp.and IntKind.i64 which 2 == 2))) (R := .bool true) (egI _ _ _ _ _ _) (bEqI0 _ _)) <| poE <| qE [] kf fun wg kg => coRet <| eoIr (.bool true) ⟨rfl, kg.touch.under (hBZ.trans (hBa.mono hBZ.size)) (Nat.le_refl _) (hBZ.trans (hBa.mono hBZ.size)).size⟩
end Go.Proofs.YtmnddlkhgajenaaGreatDoor
