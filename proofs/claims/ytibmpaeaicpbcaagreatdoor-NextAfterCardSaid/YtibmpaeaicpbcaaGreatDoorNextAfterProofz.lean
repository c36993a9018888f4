/- The statement 'NextAfter': for every input the law returns true, and each argument reads behind the call as it read before. The package's tables read as the program's text lays them (the card's tie). -/
import Derived.Test.YtibmpaeaicpbcaaGreatDoorRows
import Derived.WalkKit
import Derived.ProofKit
import Derived.OpenShut
import Derived.Below
import Derived.ChangeMaps5
import Derived.Carry
import Derived.Test.YtibmpaeaicpbcaaGreatDoorCards
import Derived.Test.YtibmpaeaicpbcaaGreatDoorTie
import Derived.Deep.DeepHandedRow
import Derived.Test.YtibmpaeaicpbcaaGreatDoorNxG7
namespace Go.Proofs.YtibmpaeaicpbcaaGreatDoor
open Go.RowKit
set_option linter.unusedVariables false
set_option linter.unusedSimpArgs false
set_option maxRecDepth 20000
set_option maxHeartbeats 20000000
theorem nextAfter_walk (g : Rg) (v : Int) (A : Option Addr) (cap : Nat) (xs : List Int) (hv0 : 0 ≤ v) (hv1 : v ≤ 255) (hg : RgB g) (w : World) (hc : xs.length ≤ cap) (hm : cap ≤ maxLen) (h8 : Bytes8 xs) (hin : BytesIn w w.heap.size A xs) (hn : A = none → cap = 0) (hM : Masks w) (hD : Digits w) (hC : Courses w) (hO : Modes w) :
    Calls Tryz.prog 4 #[regsV g, .int .u8 v, .slice A xs.length cap] w fun e w' => e = .returned (.bool true) ∧ Below w.heap.size w w' := by
  have hb := Below.refl w.heap.size w
  have ht : Tabs w w.heap.size := (NextTabs.mk hM hC hD hO).tabs
  go_enter Tryz.func4, Tryz.ntmps4
  refine wp_seq_k fun K1 hK1 => ?_
  refine region_row [(some 3, .box 24 (regsC g) none none), (some 6, .val (.bool (false)))] (by kernel_rfl) ⟨⟨fun k vs e => (by cases e), fun p l a w I hd => heBox rfl (by kernel_rfl) (boxRg _ w)⟩, fun p l a w I hd => heMove (.inr rfl) (by kernel_rfl) w, trivial⟩ ?_
  intro p2 W2 hE
  have hb := hb.trans (hE.1.mono hb.size)
  have rb2_0 : Row W2 (p2 0) 24 (regsC g) := (hE.2.1 0 _ _ _ _ _ rfl).2
  clear hE
  try simp only [litA, layL, Pl.value, sA, sB, sC]
  generalize p2 0 = b2_0 at *
  refine thenN (hK1 _ _ ?_)
  refine wp_seq_k fun K3 hK3 => ?_
  refine region_row [(some 15, .call (.bool (true))), (some 7, .val (.bool (true)))] (by kernel_rfl) ⟨fun p l a w I hd => ⟨_, _, (by kernel_rfl), awake12_any _ (ht.below (hb.trans (I.below.mono hb.size)))⟩, fun p l a w I hd => heMove (.inr rfl) (by kernel_rfl) w, trivial⟩ ?_
  intro p4 W4 hE
  have rb2_0 := rb2_0.below hE.1 rb2_0.lt
  have hb := hb.trans (hE.1.mono hb.size)
  clear hE
  try simp only [litA, layL, Pl.value, sA, sB, sC]
  refine thenN (hK3 _ _ ?_)
  refine wp_seq_k fun K5 hK5 => ?_
  refine wp_seq_k fun K6 hK6 => ?_
  refine regionL ?_
  refine oM 16 (.bool (true)) ?_
  refine oW 17 (.bool (true)) (.bool (false)) (fun _ => rfl) ?_
  refine endL ?_
  try simp only [Act.put, sA, sB, sC]
  refine thenN (hK6 _ _ ?_)
  refine wp_cond_false (by kernel_rfl) ?_
  refine wp_skip ?_
  refine thenN (hK5 _ _ ?_)
  refine wp_seq_k fun K7 hK7 => ?_
  refine wp_seq_k fun K8 hK8 => ?_
  refine regionL ?_
  refine oM 18 (.slice A xs.length cap) ?_
  refine oT 19 (.int .i64 ((xs.length : Int))) (by kernel_rfl) ?_
  refine oJ 20 (.int .i64 ((xs.length : Int))) (.int .i64 (60)) (.bool (decide (60 < (xs.length : Int)))) (egI _ _ _ _ _) (bGtI' ((xs.length : Int)) 60) ?_
  refine endL ?_
  try simp only [Act.put, sA, sB, sC]
  refine thenN (hK8 _ _ ?_)
  refine wp_cond_split (t := decide (60 < (xs.length : Int))) (by kernel_rfl) (fun h9 => ?_) (fun h9 => ?_)
  · skip
    have g9 : 60 < (xs.length : Int) := by simpa using h9
    refine wp_seq_k fun K10 hK10 => ?_
    refine regionL ?_
    refine oA 6 (.bool (true)) ?_
    refine endL ?_
    try simp only [Act.put, sA, sB, sC]
    refine thenN (hK10 _ _ ?_)
    refine wp_ret ?_
    refine thenR ?_
    exact bodyPost_ret (results_tmp rfl _ _ _) rfl ⟨rfl, hb⟩
  · skip
    have g9 : ¬ 60 < (xs.length : Int) := by simpa using h9
    refine wp_skip ?_
    refine thenN (hK7 _ _ ?_)
    refine wp_seq_k fun K11 hK11 => ?_
    refine wp_seq_k fun K12 hK12 => ?_
    refine regionL ?_
    refine oA 8 (.int .i64 (0)) ?_
    refine endL ?_
    try simp only [Act.put, sA, sB, sC]
    refine thenN (hK12 _ _ ?_)
    refine wp_block ?_
    have hB0 := Below.refl W4.heap.size W4
    have hb0 := hb
    have hr0 := rb2_0
    have hl0 := rb2_0.lt
    refine wp_loop (fun a' w' => ∃ (k1 : Nat) (y6 y9 y10 y11 y12 y13 y14 y21 y22 y23 y24 y25 y26 y27 y28 y29 y30 y31 y32 y33 y34 y35 y36 y37 y38 y39 y40 y41 y42 y43 y44 y45 y46 y47 y48 y49 y50 y51 y52 y53 y54 y55 y56 y57 y58 y59 : Value), a' = { tmps := #[regsV g, .int .u8 (v), .slice A xs.length cap, pT b2_0 0, undef, undef, y6, .bool (true), .int .i64 (k1 : Int), y9, y10, y11, y12, y13, y14, .bool (true), .bool (true), .bool (false), .slice A xs.length cap, .int .i64 ((xs.length : Int)), .bool (decide (60 < (xs.length : Int))), y21, y22, y23, y24, y25, y26, y27, y28, y29, y30, y31, y32, y33, y34, y35, y36, y37, y38, y39, y40, y41, y42, y43, y44, y45, y46, y47, y48, y49, y50, y51, y52, y53, y54, y55, y56, y57, y58, y59], defers := [] } ∧ Below W4.heap.size W4 w' ∧ k1 ≤ xs.length + 1) (fun a' _ => xs.length + 1 - intV (a'.tmps.getD 8 undef)) ⟨0, .bool (false), undef, undef, undef, undef, undef, undef, undef, undef, undef, undef, undef, undef, undef, undef, undef, undef, undef, undef, undef, undef, undef, undef, undef, undef, undef, undef, undef, undef, undef, undef, undef, undef, undef, undef, undef, undef, undef, undef, undef, undef, undef, undef, undef, undef, undef, rfl, hB0, by omega⟩ ?_
    rintro a1 w1 ⟨k1, y6, y9, y10, y11, y12, y13, y14, y21, y22, y23, y24, y25, y26, y27, y28, y29, y30, y31, y32, y33, y34, y35, y36, y37, y38, y39, y40, y41, y42, y43, y44, y45, y46, y47, y48, y49, y50, y51, y52, y53, y54, y55, y56, y57, y58, y59, rfl, hB, hkl⟩
    have rb2_0 := hr0.below hB hl0
    have hb := hb0.trans (hB.mono hb0.size)
    refine wp_seq_k fun K13 hK13 => ?_
    refine wp_seq_k fun K14 hK14 => ?_
    refine regionL ?_
    refine oM 21 (.int .i64 ((k1 : Int))) ?_
    refine oM 22 (.slice A xs.length cap) ?_
    refine oT 23 (.int .i64 ((xs.length : Int))) (by kernel_rfl) ?_
    refine oJ 24 (.int .i64 ((k1 : Int))) (.int .i64 ((xs.length : Int))) (.bool (decide ((k1 : Int) ≤ (xs.length : Int)))) (egI _ _ _ _ _) (bLeI' ((k1 : Int)) ((xs.length : Int))) ?_
    refine endL ?_
    try simp only [Act.put, sA, sB, sC]
    refine thenN (hK14 _ _ ?_)
    refine wp_cond_split (t := decide ((k1 : Int) ≤ (xs.length : Int))) (by kernel_rfl) (fun h15 => ?_) (fun h15 => ?_)
    · skip
      have g15 : (k1 : Int) ≤ (xs.length : Int) := by simpa using h15
      have hk : (xs.take k1).length = k1 := by rw [List.length_take]; omega
      have hq := Below.refl w1.heap.size w1
      obtain ⟨c, hcE⟩ : ∃ c, c = cyOf (afterOf g v (xs.take k1)) := ⟨_, rfl⟩
      obtain ⟨s, hsE⟩ : ∃ s, s = rgOf (afterOf g v (xs.take k1)) := ⟨_, rfl⟩
      obtain ⟨d, hdE⟩ : ∃ d, d = doneOf (afterOf g v (xs.take k1)) := ⟨_, rfl⟩
      have h8' : Bytes8 (xs.take k1) := fun x hx => h8 x (List.mem_of_mem_take hx)
      have hi' : BytesIn w1 w1.heap.size A (xs.take k1) := ((hin.below hb).more hb.size).take k1
      have K := after_hid g hg v ⟨hv0, hv1⟩ A cap (xs.take k1) (by omega) h8' w1 hi' (ht.below hb)
      have K' := rafter_hid g hg v ⟨hv0, hv1⟩ A cap (xs.take k1) (by omega) h8' (by omega) w1 hi'
      rw [hk, ← hcE, ← hsE, ← hdE] at K K'
      refine wp_skip ?_
      refine thenN (hK13 _ _ ?_)
      refine wp_seq_k fun K16 hK16 => ?_
      refine wp_block ?_
      refine wp_seq_k fun K17 hK17 => ?_
      refine region_boxed [(some 28, .val (regsV g)), (some 29, .val (.int .u8 (v))), (some 30, .val (.slice A xs.length cap)), (some 31, .val (.int .i64 ((k1 : Int)))), (some 32, .val (.slice A k1 cap)), (some 33, .call (.tuple #[cyV c, regsV s, .bool (d)])), (some 27, .val (.tuple #[cyV c, regsV s, .bool (d)])), (some 34, .val (cyV c)), (some 35, .val (regsV s)), (some 36, .val (.bool (d))), (some 9, .box 28 (cyC zeroCy) (some (12, cyC c)) none), (some 10, .box 24 (regsC zeroRg) (some (13, regsC s)) none), (none, .put 10), (none, .put 11), (some 11, .val (.bool (d)))] (by kernel_rfl) (by kernel_rfl) ⟨fun p l a w I hd => heLoad rfl (by kernel_rfl) (ldR (rb2_0.below I.below rb2_0.lt).range), fun p l a w I hd => heMove (.inl rfl) (by kernel_rfl) w, fun p l a w I hd => heMove (.inl rfl) (by kernel_rfl) w, fun p l a w I hd => heMove (.inl rfl) (by kernel_rfl) w, fun p l a w I hd => heSlice (V := .slice A xs.length cap) rfl (by kernel_rfl) (by kernel_rfl) (by kernel_rfl) (by kernel_rfl) (slTo _ _ _ k1 (by omega) w), fun p l a w I hd => ⟨_, _, (by kernel_rfl), K w (hq.trans (I.below.mono hq.size))⟩, fun p l a w I hd => heMove (.inl rfl) (by kernel_rfl) w, fun p l a w I hd => heExtract (vs := #[cyV c, regsV s, .bool (d)]) rfl (by kernel_rfl) (by kernel_rfl) w, fun p l a w I hd => heExtract (vs := #[cyV c, regsV s, .bool (d)]) rfl (by kernel_rfl) (by kernel_rfl) w, fun p l a w I hd => heExtract (vs := #[cyV c, regsV s, .bool (d)]) rfl (by kernel_rfl) (by kernel_rfl) w, ⟨fun k vs e => (by cases e; rfl), fun p l a w I hd => heAlloc rfl (allocCy w)⟩, ⟨fun k vs e => (by cases e; rfl), fun p l a w I hd => heAlloc rfl (allocRg w)⟩, fun p l a w I hd d t z s vs hj hr => (by cases hj; exact heStore rfl (by kernel_rfl) (by kernel_rfl) (stCy hr)), fun p l a w I hd d t z s vs hj hr => (by cases hj; exact heStore rfl (by kernel_rfl) (by kernel_rfl) (stRow hr)), fun p l a w I hd => heMove (.inr rfl) (by kernel_rfl) w, trivial⟩ ?_
      intro p18 W18 hE
      have rb2_0 := rb2_0.below hE.1 rb2_0.lt
      have hb := hb.trans (hE.1.mono hb.size)
      have hB := hB.trans (hE.1.mono hB.size)
      have hq := hq.trans (hE.1.mono hq.size)
      have rb18_10 : Row W18 (p18 10) 28 (cyC c) := (hE.2.1 10 _ _ _ _ _ rfl).2
      have rb18_11 : Row W18 (p18 11) 24 (regsC s) := (hE.2.1 11 _ _ _ _ _ rfl).2
      clear hE
      try simp only [litA, layL, Pl.value, sA, sB, sC]
      generalize p18 10 = b18_10 at *
      generalize p18 11 = b18_11 at *
      refine thenN (hK17 _ _ ?_)
      refine wp_seq_k fun K19 hK19 => ?_
      refine region_boxed [(some 38, .val (regsV g)), (some 39, .val (.int .u8 (v))), (some 40, .val (.slice A xs.length cap)), (some 41, .val (.int .i64 ((k1 : Int)))), (some 42, .val (.slice A k1 cap)), (some 43, .call (.tuple #[cyV c, regsV s, .bool (d)])), (some 37, .val (.tuple #[cyV c, regsV s, .bool (d)])), (some 44, .val (cyV c)), (some 45, .val (regsV s)), (some 46, .val (.bool (d))), (some 12, .box 28 (cyC zeroCy) (some (12, cyC c)) none), (some 13, .box 24 (regsC zeroRg) (some (13, regsC s)) none), (none, .put 10), (none, .put 11), (some 14, .val (.bool (d)))] (by kernel_rfl) (by kernel_rfl) ⟨fun p l a w I hd => heLoad rfl (by kernel_rfl) (ldR (rb2_0.below I.below rb2_0.lt).range), fun p l a w I hd => heMove (.inl rfl) (by kernel_rfl) w, fun p l a w I hd => heMove (.inl rfl) (by kernel_rfl) w, fun p l a w I hd => heMove (.inl rfl) (by kernel_rfl) w, fun p l a w I hd => heSlice (V := .slice A xs.length cap) rfl (by kernel_rfl) (by kernel_rfl) (by kernel_rfl) (by kernel_rfl) (slTo _ _ _ k1 (by omega) w), fun p l a w I hd => ⟨_, _, (by kernel_rfl), K' w (hq.trans (I.below.mono hq.size))⟩, fun p l a w I hd => heMove (.inl rfl) (by kernel_rfl) w, fun p l a w I hd => heExtract (vs := #[cyV c, regsV s, .bool (d)]) rfl (by kernel_rfl) (by kernel_rfl) w, fun p l a w I hd => heExtract (vs := #[cyV c, regsV s, .bool (d)]) rfl (by kernel_rfl) (by kernel_rfl) w, fun p l a w I hd => heExtract (vs := #[cyV c, regsV s, .bool (d)]) rfl (by kernel_rfl) (by kernel_rfl) w, ⟨fun k vs e => (by cases e; rfl), fun p l a w I hd => heAlloc rfl (allocCy w)⟩, ⟨fun k vs e => (by cases e; rfl), fun p l a w I hd => heAlloc rfl (allocRg w)⟩, fun p l a w I hd d t z s vs hj hr => (by cases hj; exact heStore rfl (by kernel_rfl) (by kernel_rfl) (stCy hr)), fun p l a w I hd d t z s vs hj hr => (by cases hj; exact heStore rfl (by kernel_rfl) (by kernel_rfl) (stRow hr)), fun p l a w I hd => heMove (.inr rfl) (by kernel_rfl) w, trivial⟩ ?_
      intro p20 W20 hE
      have rb2_0 := rb2_0.below hE.1 rb2_0.lt
      have rb18_10 := rb18_10.below hE.1 rb18_10.lt
      have rb18_11 := rb18_11.below hE.1 rb18_11.lt
      have hb := hb.trans (hE.1.mono hb.size)
      have hB := hB.trans (hE.1.mono hB.size)
      have hq := hq.trans (hE.1.mono hq.size)
      have rb20_10 : Row W20 (p20 10) 28 (cyC c) := (hE.2.1 10 _ _ _ _ _ rfl).2
      have rb20_11 : Row W20 (p20 11) 24 (regsC s) := (hE.2.1 11 _ _ _ _ _ rfl).2
      clear hE
      try simp only [litA, layL, Pl.value, sA, sB, sC]
      generalize p20 10 = b20_10 at *
      generalize p20 11 = b20_11 at *
      refine thenN (hK19 _ _ ?_)
      refine wp_seq_k fun K21 hK21 => ?_
      refine regionL ?_
      refine oL 47 (ldCy rb18_10) ?_
      refine oL 48 (ldCy rb20_10) ?_
      refine oJ 49 (cyV c) (cyV c) (.bool (false)) (cy_guard _ _ _ _ _) (cy_neq _) ?_
      refine oM 50 (.bool (false)) ?_
      refine oT 51 (regsV s) (heLoad rfl (by kernel_rfl) (ldR rb18_11.range)) ?_
      refine oT 52 (regsV s) (heLoad rfl (by kernel_rfl) (ldR rb20_11.range)) ?_
      refine oT 53 (.bool (false)) (heBin (V := regsV s) (W := regsV s) (R := .bool (false)) rfl (by kernel_rfl) (by kernel_rfl) (regs_guard _ _ _ _ _) (regs_neq _) _) ?_
      refine oP 54 (.bool (false)) false ?_
      refine oM 55 (.bool (false)) ?_
      refine oT 56 (.bool (d)) (heMove (.inl rfl) (by kernel_rfl) _) ?_
      refine oT 57 (.bool (d)) (heMove (.inl rfl) (by kernel_rfl) _) ?_
      refine oT 58 (.bool (false)) (heBin (V := .bool (d)) (W := .bool (d)) (R := .bool (false)) rfl (by kernel_rfl) (by kernel_rfl) (egB _ _ _ _ _) (bNeB0 d) _) ?_
      refine oP 59 (.bool (false)) false ?_
      refine endL ?_
      try simp only [Act.put, sA, sB, sC]
      refine thenN (hK21 _ _ ?_)
      refine wp_cond_false (by kernel_rfl) ?_
      refine wp_skip ?_
      refine blockN ?_
      refine thenN (hK16 _ _ ?_)
      refine regionL ?_
      refine oM 25 (.int .i64 ((k1 : Int))) ?_
      refine oJ 26 (.int .i64 ((k1 : Int))) (.int .i64 (1)) (.int .i64 (((k1 + 1 : Nat) : Int))) (egI _ _ _ _ _) (bInc k1 (by omega)) ?_
      refine oA 8 (.int .i64 (((k1 + 1 : Nat) : Int))) ?_
      refine endL ?_
      try simp only [Act.put, sA, sB, sC]
      exact thenN ⟨⟨k1 + 1, y6, pT b18_10 0, pT b18_11 0, .bool (d), pT b20_10 0, pT b20_11 0, .bool (d), .int .i64 ((k1 : Int)), .slice A xs.length cap, .int .i64 ((xs.length : Int)), .bool (decide ((k1 : Int) ≤ (xs.length : Int))), .int .i64 ((k1 : Int)), .int .i64 (((k1 + 1 : Nat) : Int)), .tuple #[cyV c, regsV s, .bool (d)], regsV g, .int .u8 (v), .slice A xs.length cap, .int .i64 ((k1 : Int)), .slice A k1 cap, .tuple #[cyV c, regsV s, .bool (d)], cyV c, regsV s, .bool (d), .tuple #[cyV c, regsV s, .bool (d)], regsV g, .int .u8 (v), .slice A xs.length cap, .int .i64 ((k1 : Int)), .slice A k1 cap, .tuple #[cyV c, regsV s, .bool (d)], cyV c, regsV s, .bool (d), cyV c, cyV c, .bool (false), .bool (false), regsV s, regsV s, .bool (false), .bool (false), .bool (false), .bool (d), .bool (d), .bool (false), .bool (false), rfl, hB, by omega⟩, by simp [intV]; omega⟩
    · skip
      have g15 : ¬ (k1 : Int) ≤ (xs.length : Int) := by simpa using h15
      refine wp_exit ?_
      refine thenE ?_
      refine thenE ?_
      refine blockE ?_
      refine thenN (hK11 _ _ ?_)
      refine wp_seq_k fun K22 hK22 => ?_
      refine regionL ?_
      refine oA 6 (.bool (true)) ?_
      refine endL ?_
      try simp only [Act.put, sA, sB, sC]
      refine thenN (hK22 _ _ ?_)
      refine wp_ret ?_
      exact bodyPost_ret (results_tmp rfl _ _ _) rfl ⟨rfl, hb⟩
end Go.Proofs.YtibmpaeaicpbcaaGreatDoor
namespace Go.Proofs.YtibmpaeaicpbcaaGreatDoor.nextAfterLaw
open Go.ChangeShapes Go.WideShapes Go.ChangeAt Go.RowKit
set_option linter.unusedVariables false
theorem own : ownKnob Tryz.prog.godebug = none := by kernel_rfl
theorem laidOut : laidOutB Tryz.prog = true := by kernel_rfl
theorem flags_masks_g : Tryz.prog.globalNamed "charabanc/flags.masks" = some 2 := by kernel_rfl
theorem flags_masks_t : (Tryz.prog.globals[2]?).map (·.type) = some 166 := by kernel_rfl
theorem flags_masks_f : flat Tryz.prog 9 166 (Rows.laid_charabanc_flags_masks : DataW Unit) = some [.int .u8 64, .int .u8 1, .int .u8 4, .int .u8 128] := by kernel_rfl
theorem flags_masks_var {W : World} (h : laidMetH Tryz.prog Rows.nextAfterRow.laid W) : W.var? Tryz.prog "charabanc/flags.masks" = some [(.int .u8 64 : Value), (.int .u8 1 : Value), (.int .u8 4 : Value), (.int .u8 128 : Value)].toArray :=
  laid_var 0 rfl flags_masks_g flags_masks_t flags_masks_f h
theorem flags_masksAt {W : World} (h : laidMetH Tryz.prog Rows.nextAfterRow.laid W) : Masks W :=
  ⟨laid_cell (flags_masks_var h) flags_masks_g 0 _ rfl, laid_cell (flags_masks_var h) flags_masks_g 1 _ rfl, laid_cell (flags_masks_var h) flags_masks_g 2 _ rfl, laid_cell (flags_masks_var h) flags_masks_g 3 _ rfl⟩
theorem logic_digits_g : Tryz.prog.globalNamed "charabanc/logic.digits" = some 3 := by kernel_rfl
theorem logic_digits_t : (Tryz.prog.globals[3]?).map (·.type) = some 177 := by kernel_rfl
theorem logic_digits_f : flat Tryz.prog 9 177 (Rows.laid_charabanc_logic_digits : DataW Unit) = some [.int .u8 16, .int .u8 15, .int .u8 9, .int .u8 6, .int .u8 1, .int .u8 255, .int .u8 153, .int .u8 96] := by kernel_rfl
theorem logic_digits_var {W : World} (h : laidMetH Tryz.prog Rows.nextAfterRow.laid W) : W.var? Tryz.prog "charabanc/logic.digits" = some [(.int .u8 16 : Value), (.int .u8 15 : Value), (.int .u8 9 : Value), (.int .u8 6 : Value), (.int .u8 1 : Value), (.int .u8 255 : Value), (.int .u8 153 : Value), (.int .u8 96 : Value)].toArray :=
  laid_var 1 rfl logic_digits_g logic_digits_t logic_digits_f h
theorem logic_digitsAt {W : World} (h : laidMetH Tryz.prog Rows.nextAfterRow.laid W) : Digits W :=
  ⟨laid_cell (logic_digits_var h) logic_digits_g 0 _ rfl, laid_cell (logic_digits_var h) logic_digits_g 1 _ rfl, laid_cell (logic_digits_var h) logic_digits_g 2 _ rfl, laid_cell (logic_digits_var h) logic_digits_g 3 _ rfl, laid_cell (logic_digits_var h) logic_digits_g 4 _ rfl, laid_cell (logic_digits_var h) logic_digits_g 5 _ rfl, laid_cell (logic_digits_var h) logic_digits_g 6 _ rfl, laid_cell (logic_digits_var h) logic_digits_g 7 _ rfl⟩
theorem shift_courses_g : Tryz.prog.globalNamed "charabanc/shift.courses" = some 1 := by kernel_rfl
theorem shift_courses_t : (Tryz.prog.globals[1]?).map (·.type) = some 137 := by kernel_rfl
theorem shift_courses_f : flat Tryz.prog 9 137 (Rows.laid_charabanc_shift_courses : DataW Unit) = some [.int .i64 1, .int .i64 7, .int .i64 0, .int .i64 (-1), .int .i64 0, .int .i64 7] := by kernel_rfl
theorem shift_courses_var {W : World} (h : laidMetH Tryz.prog Rows.nextAfterRow.laid W) : W.var? Tryz.prog "charabanc/shift.courses" = some [(.int .i64 1 : Value), (.int .i64 7 : Value), (.int .i64 0 : Value), (.int .i64 (-1) : Value), (.int .i64 0 : Value), (.int .i64 7 : Value)].toArray :=
  laid_var 2 rfl shift_courses_g shift_courses_t shift_courses_f h
theorem shift_coursesAt {W : World} (h : laidMetH Tryz.prog Rows.nextAfterRow.laid W) : Courses W :=
  ⟨laid_cell (shift_courses_var h) shift_courses_g 0 _ rfl, laid_cell (shift_courses_var h) shift_courses_g 1 _ rfl, laid_cell (shift_courses_var h) shift_courses_g 2 _ rfl, laid_cell (shift_courses_var h) shift_courses_g 3 _ rfl, laid_cell (shift_courses_var h) shift_courses_g 4 _ rfl, laid_cell (shift_courses_var h) shift_courses_g 5 _ rfl⟩
theorem next_modes_g : Tryz.prog.globalNamed "charabanc/next.modes" = some 0 := by kernel_rfl
theorem next_modes_t : (Tryz.prog.globals[0]?).map (·.type) = some 98 := by kernel_rfl
theorem next_modes_f : flat Tryz.prog 9 98 (Rows.laid_charabanc_next_modes : DataW Unit) = some [.int .i64 0, .int .i64 0, .int .i64 1, .int .i64 2] := by kernel_rfl
theorem next_modes_var {W : World} (h : laidMetH Tryz.prog Rows.nextAfterRow.laid W) : W.var? Tryz.prog "charabanc/next.modes" = some [(.int .i64 0 : Value), (.int .i64 0 : Value), (.int .i64 1 : Value), (.int .i64 2 : Value)].toArray :=
  laid_var 3 rfl next_modes_g next_modes_t next_modes_f h
theorem next_modesAt {W : World} (h : laidMetH Tryz.prog Rows.nextAfterRow.laid W) : Modes W :=
  ⟨laid_cell (next_modes_var h) next_modes_g 0 _ rfl, laid_cell (next_modes_var h) next_modes_g 1 _ rfl, laid_cell (next_modes_var h) next_modes_g 2 _ rfl, laid_cell (next_modes_var h) next_modes_g 3 _ rfl⟩
set_option maxRecDepth 100000 in
theorem contract (H : Type) (enc : TypeId × Value → H) (W : World) (base : Nat) (args : Array Value) (ds gs : List (DataW H)) (before : List MemPlace)
    (hval : ∀ (j : Nat) t v, Tryz.f4.params[j]? = some t → args[j]? = some v → Value.okWide Tryz.prog W .any base t v)
    (hW : DataW.Whole enc Tryz.prog Tryz.f4.params.toList Rows.nextAfterSpec.vars false W args.toList ds gs before) (hL : laidMetH Tryz.prog Rows.nextAfterRow.laid W) :
    Calls Tryz.prog 4 args W fun e W' => ∃ v, e = .returned v ∧ Rows.nextAfterSpec.post enc Tryz.prog Tryz.f4 false true false false W args v W' := by
  have hW' := hW
  obtain ⟨p, q, hA0, hV, rfl, hfz, hnd⟩ := hW
  have hA : DataW.TrodAll enc Tryz.prog W 0 (fun _ => true) true Tryz.f4.params.toList args.toList ds p := hA0
  rw [Tryz.params4] at hA hval
  obtain ⟨v0, vs0, d0, ds0, p0, q0, hargs, rfl, rfl, h0, r0⟩ := trodAll_cons hA
  obtain ⟨v1, vs1, d1, ds1, p1, q1, rfl, rfl, rfl, h1, r1⟩ := trodAll_cons r0
  obtain ⟨v2, vs2, d2, ds2, p2, q2, rfl, rfl, rfl, h2, r2⟩ := trodAll_cons r1
  obtain ⟨rfl, rfl, rfl⟩ := trodAll_nil r2
  obtain rfl : args = #[v0, v1, v2] := by cases args; simp_all
  obtain ⟨rfl, rfl⟩ := trodVars_none hV
  have k0 := h0
  have lt0 : ∀ x ∈ p0, x.block < W.heap.size := by obtain ⟨m, hm⟩ := k0; exact DataW.trod_lt m _ _ _ hm
  obtain ⟨g0, rfl, hg0⟩ := open_regs Tryz.underlying24 (by kernel_rfl) (by kernel_rfl) Tryz.underlying22 Tryz.underlying22 Tryz.underlying22 Tryz.underlying22 Tryz.underlying22 Tryz.underlying22 Tryz.underlying22 Tryz.underlying22 Tryz.underlying22 Tryz.underlying22 Tryz.underlying22 Tryz.underlying22 Tryz.underlying22 Tryz.underlying5 Tryz.underlying5 Tryz.underlying4 Tryz.underlying4 Tryz.underlying4 Tryz.underlying4 Tryz.underlying3 (hval 0 24 v0 rfl rfl) h0
  obtain ⟨a1, rfl, rfl, rfl, w1⟩ := open_int Tryz.underlying5 (hval 1 5 v1 rfl rfl) h1
  have b1 := bounds_u8 w1
  have k2 := h2
  have lt2 : ∀ x ∈ p2, x.block < W.heap.size := by obtain ⟨m, hm⟩ := k2; exact DataW.trod_lt m _ _ _ hm
  obtain ⟨A2, c2, x2, rfl, hl2, hm2, hx2, hb2, hn2⟩ := open_bytes Tryz.underlying25 Tryz.underlying5 (by kernel_rfl) (hval 2 25 v2 rfl rfl) h2
  clear hA0
  refine (nextAfter_walk g0 a1 A2 c2 x2 (by omega) (by omega) hg0 W hl2 hm2 hx2 hb2 hn2 (flags_masksAt hL) (logic_digitsAt hL) (shift_coursesAt hL) (next_modesAt hL)).mono fun e W' ⟨he, bel⟩ => ?_
  subst he
  exact ⟨_, rfl, _, _, _, [], _, [], hW', trodAll_mk1 (shut_bool Tryz.underlying4 _), (trodAll_cons_mk (Below.trod laidOut (by kernel_rfl) (of_decide_eq_true (by kernel_rfl)) k0 bel lt0) (trodAll_cons_mk (shut_int Tryz.underlying5 w1) (trodAll_cons_mk (Below.trod laidOut (by kernel_rfl) (of_decide_eq_true (by kernel_rfl)) k2 bel lt2) trodAll_mk0))), rfl, bel.frame _, fun h => by cases h⟩
def layIn (cs : Array Value) : Obj → Obj
  | .cells _ t frozen => .cells cs t frozen
  | o => o
/-- A world for the witness: the settled one, the tables holding what their initialisers lay. -/
noncomputable def laidWorld (os : Os) : World :=
  { World.holding Tryz.prog os ⟨#[], #[], []⟩ with heap := ([(2, #[.int .u8 64, .int .u8 1, .int .u8 4, .int .u8 128]),
    (3, #[.int .u8 16, .int .u8 15, .int .u8 9, .int .u8 6, .int .u8 1, .int .u8 255, .int .u8 153, .int .u8 96]),
    (1, #[.int .i64 1, .int .i64 7, .int .i64 0, .int .i64 (-1), .int .i64 0, .int .i64 7]),
    (0, #[.int .i64 0, .int .i64 0, .int .i64 1, .int .i64 2])] : List (Nat × Array Value)).foldl (fun h p => h.modify p.1 (layIn p.2)) (World.holding Tryz.prog os ⟨#[], #[], []⟩).heap }
theorem laid_met (os : Os) : laidMet Tryz.prog Rows.nextAfterRow.laid ((laidWorld os).forCall (fun _ _ => 0) ⟨#[], #[.agg #[.int .u16 0, .int .u16 0, .int .u16 0, .int .u16 0, .int .u16 0, .int .u16 0, .int .u16 0, .int .u16 0, .int .u16 0, .int .u16 0, .int .u16 0, .int .u16 0, .int .u16 0, .int .u8 0, .int .u8 0, .bool false, .bool false, .bool false, .bool false, .int .i64 0], .int .u8 0, .slice none 0 0], []⟩).memory :=
  laidMet_of_run' 8 (by kernel_rfl) (by kernel_rfl)
theorem reads (os : Os) {H : Type} (enc : TypeId × Value → H) : ∃ places, DataW.whole enc Tryz.prog ((laidWorld os).forCall (fun _ _ => 0) ⟨#[], #[.agg #[.int .u16 0, .int .u16 0, .int .u16 0, .int .u16 0, .int .u16 0, .int .u16 0, .int .u16 0, .int .u16 0, .int .u16 0, .int .u16 0, .int .u16 0, .int .u16 0, .int .u16 0, .int .u8 0, .int .u8 0, .bool false, .bool false, .bool false, .bool false, .int .i64 0], .int .u8 0, .slice none 0 0], []⟩).memory Tryz.f4.params.toList Rows.nextAfterSpec.vars false (#[.agg #[.int .u16 0, .int .u16 0, .int .u16 0, .int .u16 0, .int .u16 0, .int .u16 0, .int .u16 0, .int .u16 0, .int .u16 0, .int .u16 0, .int .u16 0, .int .u16 0, .int .u16 0, .int .u8 0, .int .u8 0, .bool false, .bool false, .bool false, .bool false, .int .i64 0], .int .u8 0, .slice none 0 0] : Array Value).toList 8 = some ([.agg [.lit (.int .u16 0), .lit (.int .u16 0), .lit (.int .u16 0), .lit (.int .u16 0), .lit (.int .u16 0), .lit (.int .u16 0), .lit (.int .u16 0), .lit (.int .u16 0), .lit (.int .u16 0), .lit (.int .u16 0), .lit (.int .u16 0), .lit (.int .u16 0), .lit (.int .u16 0), .lit (.int .u8 0), .lit (.int .u8 0), .lit (.bool false), .lit (.bool false), .lit (.bool false), .lit (.bool false), .lit (.int .i64 0)], .lit (.int .u8 0), .nil], [], places) :=
  ⟨[], by kernel_rfl⟩
set_option maxRecDepth 100000 in
theorem lifted (os : Os) (started : os.Started) (H : Type) (enc : TypeId × Value → H) (F : Stop.Interp) :
    ReturnsInHanded {} Tryz.checked os 4 .any ((OpenSpec.ofChange Rows.nextAfterSpec).preRow enc Tryz.prog Tryz.f4 Rows.nextAfterRow.domain false Rows.nextAfterRow.laid) (((OpenSpec.ofChange Rows.nextAfterSpec).at F).post enc Tryz.prog Tryz.f4 false true false false) := by
  obtain ⟨places, hx⟩ := reads os enc
  refine returnsInHanded_of_row (C := Tryz.checked) (s := OpenSpec.ofChange Rows.nextAfterSpec) own started (by kernel_rfl) Tryz.func4
    (witness_row_at (enc := enc) (C := Tryz.checked) false (laidWorld os) #[.agg #[.int .u16 0, .int .u16 0, .int .u16 0, .int .u16 0, .int .u16 0, .int .u16 0, .int .u16 0, .int .u16 0, .int .u16 0, .int .u16 0, .int .u16 0, .int .u16 0, .int .u16 0, .int .u8 0, .int .u8 0, .bool false, .bool false, .bool false, .bool false, .int .i64 0], .int .u8 0, .slice none 0 0] rfl (by kernel_rfl) (by kernel_rfl) (by kernel_rfl)
      (OpenSpec.preRow_of_cond 8 hx (by kernel_rfl) (fun k hk => by cases hk) (by kernel_rfl) (laid_met os))) ?_
  intro W base args ds gs before hval hW _ _ _ hL _ _
  exact contract H enc W base args ds gs before hval hW hL
theorem said : Rows.NextAfterSaid :=
  OpenClaim.holds_of_cond 4 Tryz.f4 rfl rfl rfl rfl rfl rfl rfl ⟨rfl, rfl, rfl, rfl, rfl⟩ rfl rfl rfl rfl rfl (by kernel_rfl) Tryz.func4 (by kernel_rfl)
    (of_decide_eq_true (by kernel_rfl)) (by unfold Func.isWrapper; first | (rw [if_pos (by decide +kernel)]; kernel_rfl) | (rw [if_neg (by decide +kernel)]; exact ⟨rfl, rfl⟩))
    (fun os started H enc _ F => by rw [OpenClaim.pre_eq_preRow]; exact lifted os started H enc F)
theorem plain (f : FuncId) (fn : Func) (hf : Tryz.pinned.checked.prog.funcNamed "charabanc/charabanclaw12.NextAfter" = some f) (hfn : Tryz.pinned.checked.prog.funcs[f]? = some fn) :
    true = Tryz.pinned.checked.prog.looks [] ∧ ∀ (j : Nat) t, fn.params[j]? = some t → Tryz.pinned.checked.prog.wantsStandIn t = false := by
  obtain rfl : f = 4 := Option.some.inj ((show Tryz.prog.funcNamed "charabanc/charabanclaw12.NextAfter" = some 4 by kernel_rfl).symm.trans hf) |>.symm
  obtain rfl : fn = Tryz.f4 := (Option.some.inj (Tryz.func4.symm.trans hfn)).symm
  refine ⟨by kernel_rfl, fun j t ht => ?_⟩
  rw [Tryz.params4] at ht
  have hmem := Array.mem_of_getElem? ht
  have key : ∀ t ∈ (#[24, 5, 25] : Array TypeId), Tryz.prog.wantsStandIn t = false := by
    intro t ht
    simp only [List.mem_toArray, List.mem_cons, List.not_mem_nil, or_false] at ht
    rcases ht with rfl | rfl | rfl <;> kernel_rfl
  exact key t hmem
theorem proved : Rows.NextAfterCardSaid :=
  Claim7.holds_tied_plain_at .later [] _ _ _ _ said (fun _ h => by cases h) (by kernel_rfl) (fun _ h => by cases h) nextAfter_row_tie rfl ⟨rfl, rfl⟩ (by kernel_rfl) rfl plain (by kernel_rfl)
#print axioms proved
end Go.Proofs.YtibmpaeaicpbcaaGreatDoor.nextAfterLaw
