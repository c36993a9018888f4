/- The law's walk and what it wants (several texts in one). -/
import Derived.Test.YtibmpaeaicpbcaaGreatDoorNxG4
import Derived.Test.YtibmpaeaicpbcaaGreatDoorNxG5
import Derived.Test.YtibmpaeaicpbcaaGreatDoorNxG7
namespace Go.Proofs.YtibmpaeaicpbcaaGreatDoor
open Go.RowKit
set_option linter.unusedVariables false
set_option linter.unusedSimpArgs false
set_option maxRecDepth 20000
set_option maxHeartbeats 20000000
theorem nextAfter_walk (g : Rg) (v : Int) (A : Option Addr) (cap : Nat) (xs : List Int) (hv0 : 0 ≤ v) (hv1 : v ≤ 255) (hg : RgB g) (w : World) (hc : xs.length ≤ cap) (hm : cap ≤ maxLen) (h8 : Bytes8 xs) (hin : BytesIn w w.heap.size A xs) (hn : A = none → cap = 0) (hM : Masks w) (hD : Digits w) (hC : Courses w) (hO : Modes w) :
    Calls Tryz.prog 4 #[regsV g, .int .u8 v, .slice A xs.length cap] w fun e w' => e = .returned (.bool true) ∧ Below w.heap.size w w' := by
  have hb := Below.refl w.heap.size w
  have ht : Tabs w w.heap.size := (NextTabs.mk hM hC hD hO).tabs
  go_enter Tryz.func4, Tryz.ntmps4
  refine wp_seq_k fun K1 hK1 => ?_
  refine region_row [(some 3, .box 24 (regsC g) none none), (some 6, .val (.bool (false)))] (by kernel_rfl) ⟨⟨fun k vs e => (by cases e), fun p l a w I hd => heBox rfl (by kernel_rfl) (boxRg _ w)⟩, fun p l a w I hd => heMove (.inr rfl) (by kernel_rfl) w, trivial⟩ ?_
  intro p2 W2 hE
  have hb := hb.trans (hE.1.mono hb.size)
  have rb2_0 : Row W2 (p2 0) 24 (regsC g) := (hE.2.1 0 _ _ _ _ _ rfl).2
  clear hE
  try simp only [litA, layL, Pl.value, sA, sB, sC]
  generalize p2 0 = b2_0 at *
  refine thenN (hK1 _ _ ?_)
  refine wp_seq_k fun K3 hK3 => ?_
  refine region_row [(some 15, .call (.bool (true))), (some 7, .val (.bool (true)))] (by kernel_rfl) ⟨fun p l a w I hd => ⟨_, _, (by kernel_rfl), awake12_any _ (ht.below (hb.trans (I.below.mono hb.size)))⟩, fun p l a w I hd => heMove (.inr rfl) (by kernel_rfl) w, trivial⟩ ?_
  intro p4 W4 hE
  have rb2_0 := rb2_0.below hE.1 rb2_0.lt
  have hb := hb.trans (hE.1.mono hb.size)
  clear hE
  try simp only [litA, layL, Pl.value, sA, sB, sC]
  refine thenN (hK3 _ _ ?_)
  refine wp_seq_k fun K5 hK5 => ?_
  refine wp_seq_k fun K6 hK6 => ?_
  refine regionL ?_
  refine oM 16 (.bool (true)) ?_
  refine oW 17 (.bool (true)) (.bool (false)) (fun _ => rfl) ?_
  refine endL ?_
  try simp only [Act.put, sA, sB, sC]
  refine thenN (hK6 _ _ ?_)
  refine wp_cond_false (by kernel_rfl) ?_
  refine wp_skip ?_
  refine thenN (hK5 _ _ ?_)
  refine wp_seq_k fun K7 hK7 => ?_
  refine wp_seq_k fun K8 hK8 => ?_
  refine regionL ?_
  refine oM 18 (.slice A xs.length cap) ?_
  refine oT 19 (.int .i64 ((xs.length : Int))) (by kernel_rfl) ?_
  refine oJ 20 (.int .i64 ((xs.length : Int))) (.int .i64 (60)) (.bool (decide (60 < (xs.length : Int)))) (egI _ _ _ _ _) (bGtI' ((xs.length : Int)) 60) ?_
  refine endL ?_
  try simp only [Act.put, sA, sB, sC]
  refine thenN (hK8 _ _ ?_)
  refine wp_cond_split (t := decide (60 < (xs.length : Int))) (by kernel_rfl) (fun h9 => ?_) (fun h9 => ?_)
  · skip
    have g9 : 60 < (xs.length : Int) := by simpa using h9
    refine wp_seq_k fun K10 hK10 => ?_
    refine regionL ?_
    refine oA 6 (.bool (true)) ?_
    refine endL ?_
    try simp only [Act.put, sA, sB, sC]
    refine thenN (hK10 _ _ ?_)
    refine wp_ret ?_
    refine thenR ?_
    exact bodyPost_ret (results_tmp rfl _ _ _) rfl ⟨rfl, hb⟩
  · skip
    have g9 : ¬ 60 < (xs.length : Int) := by simpa using h9
    refine wp_skip ?_
    refine thenN (hK7 _ _ ?_)
    refine wp_seq_k fun K11 hK11 => ?_
    refine wp_seq_k fun K12 hK12 => ?_
    refine regionL ?_
    refine oA 8 (.int .i64 (0)) ?_
    refine endL ?_
    try simp only [Act.put, sA, sB, sC]
    refine thenN (hK12 _ _ ?_)
    refine wp_block ?_
    have hB0 := Below.refl W4.heap.size W4
    have hb0 := hb
    have hr0 := rb2_0
    have hl0 := rb2_0.lt
    refine wp_loop (fun a' w' => ∃ (k1 : Nat) (y6 y9 y10 y11 y12 y13 y14 y21 y22 y23 y24 y25 y26 y27 y28 y29 y30 y31 y32 y33 y34 y35 y36 y37 y38 y39 y40 y41 y42 y43 y44 y45 y46 y47 y48 y49 y50 y51 y52 y53 y54 y55 y56 y57 y58 y59 : Value), a' = { tmps := #[regsV g, .int .u8 (v), .slice A xs.length cap, pT b2_0 0, undef, undef, y6, .bool (true), .int .i64 (k1 : Int), y9, y10, y11, y12, y13, y14, .bool (true), .bool (true), .bool (false), .slice A xs.length cap, .int .i64 ((xs.length : Int)), .bool (decide (60 < (xs.length : Int))), y21, y22, y23, y24, y25, y26, y27, y28, y29, y30, y31, y32, y33, y34, y35, y36, y37, y38, y39, y40, y41, y42, y43, y44, y45, y46, y47, y48, y49, y50, y51, y52, y53, y54, y55, y56, y57, y58, y59], defers := [] } ∧ Below W4.heap.size W4 w' ∧ k1 ≤ xs.length + 1) (fun a' _ => xs.length + 1 - intV (a'.tmps.getD 8 undef)) ⟨0, .bool (false), undef, undef, undef, undef, undef, undef, undef, undef, undef, undef, undef, undef, undef, undef, undef, undef, undef, undef, undef, undef, undef, undef, undef, undef, undef, undef, undef, undef, undef, undef, undef, undef, undef, undef, undef, undef, undef, undef, undef, undef, undef, undef, undef, undef, undef, rfl, hB0, by omega⟩ ?_
    rintro a1 w1 ⟨k1, y6, y9, y10, y11, y12, y13, y14, y21, y22, y23, y24, y25, y26, y27, y28, y29, y30, y31, y32, y33, y34, y35, y36, y37, y38, y39, y40, y41, y42, y43, y44, y45, y46, y47, y48, y49, y50, y51, y52, y53, y54, y55, y56, y57, y58, y59, rfl, hB, hkl⟩
    have rb2_0 := hr0.below hB hl0
    have hb := hb0.trans (hB.mono hb0.size)
    refine wp_seq_k fun K13 hK13 => ?_
    refine wp_seq_k fun K14 hK14 => ?_
    refine regionL ?_
    refine oM 21 (.int .i64 ((k1 : Int))) ?_
    refine oM 22 (.slice A xs.length cap) ?_
    refine oT 23 (.int .i64 ((xs.length : Int))) (by kernel_rfl) ?_
    refine oJ 24 (.int .i64 ((k1 : Int))) (.int .i64 ((xs.length : Int))) (.bool (decide ((k1 : Int) ≤ (xs.length : Int)))) (egI _ _ _ _ _) (bLeI' ((k1 : Int)) ((xs.length : Int))) ?_
    refine endL ?_
    try simp only [Act.put, sA, sB, sC]
    refine thenN (hK14 _ _ ?_)
    refine wp_cond_split (t := decide ((k1 : Int) ≤ (xs.length : Int))) (by kernel_rfl) (fun h15 => ?_) (fun h15 => ?_)
    · skip
      have g15 : (k1 : Int) ≤ (xs.length : Int) := by simpa using h15
      have hk : (xs.take k1).length = k1 := by rw [List.length_take]; omega
      have hq := Below.refl w1.heap.size w1
      obtain ⟨c, hcE⟩ : ∃ c, c = cyOf (afterOf g v (xs.take k1)) := ⟨_, rfl⟩
      obtain ⟨s, hsE⟩ : ∃ s, s = rgOf (afterOf g v (xs.take k1)) := ⟨_, rfl⟩
      obtain ⟨d, hdE⟩ : ∃ d, d = doneOf (afterOf g v (xs.take k1)) := ⟨_, rfl⟩
      have h8' : Bytes8 (xs.take k1) := fun x hx => h8 x (List.mem_of_mem_take hx)
      have hi' : BytesIn w1 w1.heap.size A (xs.take k1) := ((hin.below hb).more hb.size).take k1
      have K := after_hid g hg v ⟨hv0, hv1⟩ A cap (xs.take k1) (by omega) h8' w1 hi' (ht.below hb)
      have K' := rafter_hid g hg v ⟨hv0, hv1⟩ A cap (xs.take k1) (by omega) h8' (by omega) w1 hi'
      rw [hk, ← hcE, ← hsE, ← hdE] at K K'
      refine wp_skip ?_
      refine thenN (hK13 _ _ ?_)
      refine wp_seq_k fun K16 hK16 => ?_
      refine wp_block ?_
      refine wp_seq_k fun K17 hK17 => ?_
      refine region_boxed [(some 28, .val (regsV g)), (some 29, .val (.int .u8 (v))), (some 30, .val (.slice A xs.length cap)), (some 31, .val (.int .i64 ((k1 : Int)))), (some 32, .val (.slice A k1 cap)), (some 33, .call (.tuple #[cyV c, regsV s, .bool (d)])), (some 27, .val (.tuple #[cyV c, regsV s, .bool (d)])), (some 34, .val (cyV c)), (some 35, .val (regsV s)), (some 36, .val (.bool (d))), (some 9, .box 28 (cyC zeroCy) (some (12, cyC c)) none), (some 10, .box 24 (regsC zeroRg) (some (13, regsC s)) none), (none, .put 10), (none, .put 11), (some 11, .val (.bool (d)))] (by kernel_rfl) (by kernel_rfl) ⟨fun p l a w I hd => heLoad rfl (by kernel_rfl) (ldR (rb2_0.below I.below rb2_0.lt).range), fun p l a w I hd => heMove (.inl rfl) (by kernel_rfl) w, fun p l a w I hd => heMove (.inl rfl) (by kernel_rfl) w, fun p l a w I hd => heMove (.inl rfl) (by kernel_rfl) w, fun p l a w I hd => heSlice (V := .slice A xs.length cap) rfl (by kernel_rfl) (by kernel_rfl) (by kernel_rfl) (by kernel_rfl) (slTo _ _ _ k1 (by omega) w), fun p l a w I hd => ⟨_, _, (by kernel_rfl), K w (hq.trans (I.below.mono hq.size))⟩, fun p l a w I hd => heMove (.inl rfl) (by kernel_rfl) w, fun p l a w I hd => heExtract (vs := #[cyV c, regsV s, .bool (d)]) rfl (by kernel_rfl) (by kernel_rfl) w, fun p l a w I hd => heExtract (vs := #[cyV c, regsV s, .bool (d)]) rfl (by kernel_rfl) (by kernel_rfl) w, fun p l a w I hd => heExtract (vs := #[cyV c, regsV s, .bool (d)]) rfl (by kernel_rfl) (by kernel_rfl) w, ⟨fun k vs e => (by cases e; rfl), fun p l a w I hd => heAlloc rfl (allocCy w)⟩, ⟨fun k vs e => (by cases e; rfl), fun p l a w I hd => heAlloc rfl (allocRg w)⟩, fun p l a w I hd d t z s vs hj hr => (by cases hj; exact heStore rfl (by kernel_rfl) (by kernel_rfl) (stCy hr)), fun p l a w I hd d t z s vs hj hr => (by cases hj; exact heStore rfl (by kernel_rfl) (by kernel_rfl) (stRow hr)), fun p l a w I hd => heMove (.inr rfl) (by kernel_rfl) w, trivial⟩ ?_
      intro p18 W18 hE
      have rb2_0 := rb2_0.below hE.1 rb2_0.lt
      have hb := hb.trans (hE.1.mono hb.size)
      have hB := hB.trans (hE.1.mono hB.size)
      have hq := hq.trans (hE.1.mono hq.size)
      have rb18_10 : Row W18 (p18 10) 28 (cyC c) := (hE.2.1 10 _ _ _ _ _ rfl).2
      have rb18_11 : Row W18 (p18 11) 24 (regsC s) := (hE.2.1 11 _ _ _ _ _ rfl).2
      clear hE
      try simp only [litA, layL, Pl.value, sA, sB, sC]
      generalize p18 10 = b18_10 at *
      generalize p18 11 = b18_11 at *
      refine thenN (hK17 _ _ ?_)
      refine wp_seq_k fun K19 hK19 => ?_
      refine region_boxed [(some 38, .val (regsV g)), (some 39, .val (.int .u8 (v))), (some 40, .val (.slice A xs.length cap)), (some 41, .val (.int .i64 ((k1 : Int)))), (some 42, .val (.slice A k1 cap)), (some 43, .call (.tuple #[cyV c, regsV s, .bool (d)])), (some 37, .val (.tuple #[cyV c, regsV s, .bool (d)])), (some 44, .val (cyV c)), (some 45, .val (regsV s)), (some 46, .val (.bool (d))), (some 12, .box 28 (cyC zeroCy) (some (12, cyC c)) none), (some 13, .box 24 (regsC zeroRg) (some (13, regsC s)) none), (none, .put 10), (none, .put 11), (some 14, .val (.bool (d)))] (by kernel_rfl) (by kernel_rfl) ⟨fun p l a w I hd => heLoad rfl (by kernel_rfl) (ldR (rb2_0.below I.below rb2_0.lt).range), fun p l a w I hd => heMove (.inl rfl) (by kernel_rfl) w, fun p l a w I hd => heMove (.inl rfl) (by kernel_rfl) w, fun p l a w I hd => heMove (.inl rfl) (by kernel_rfl) w, fun p l a w I hd => heSlice (V := .slice A xs.length cap) rfl (by kernel_rfl) (by kernel_rfl) (by kernel_rfl) (by kernel_rfl) (slTo _ _ _ k1 (by omega) w), fun p l a w I hd => ⟨_, _, (by kernel_rfl), K' w (hq.trans (I.below.mono hq.size))⟩, fun p l a w I hd => heMove (.inl rfl) (by kernel_rfl) w, fun p l a w I hd => heExtract (vs := #[cyV c, regsV s, .bool (d)]) rfl (by kernel_rfl) (by kernel_rfl) w, fun p l a w I hd => heExtract (vs := #[cyV c, regsV s, .bool (d)]) rfl (by kernel_rfl) (by kernel_rfl) w, fun p l a w I hd => heExtract (vs := #[cyV c, regsV s, .bool (d)]) rfl (by kernel_rfl) (by kernel_rfl) w, ⟨fun k vs e => (by cases e; rfl), fun p l a w I hd => heAlloc rfl (allocCy w)⟩, ⟨fun k vs e => (by cases e; rfl), fun p l a w I hd => heAlloc rfl (allocRg w)⟩, fun p l a w I hd d t z s vs hj hr => (by cases hj; exact heStore rfl (by kernel_rfl) (by kernel_rfl) (stCy hr)), fun p l a w I hd d t z s vs hj hr => (by cases hj; exact heStore rfl (by kernel_rfl) (by kernel_rfl) (stRow hr)), fun p l a w I hd => heMove (.inr rfl) (by kernel_rfl) w, trivial⟩ ?_
      intro p20 W20 hE
      have rb2_0 := rb2_0.below hE.1 rb2_0.lt
      have rb18_10 := rb18_10.below hE.1 rb18_10.lt
      have rb18_11 := rb18_11.below hE.1 rb18_11.lt
      have hb := hb.trans (hE.1.mono hb.size)
      have hB := hB.trans (hE.1.mono hB.size)
      have hq := hq.trans (hE.1.mono hq.size)
      have rb20_10 : Row W20 (p20 10) 28 (cyC c) := (hE.2.1 10 _ _ _ _ _ rfl).2
      have rb20_11 : Row W20 (p20 11) 24 (regsC s) := (hE.2.1 11 _ _ _ _ _ rfl).2
      clear hE
      try simp only [litA, layL, Pl.value, sA, sB, sC]
      generalize p20 10 = b20_10 at *
      generalize p20 11 = b20_11 at *
      refine thenN (hK19 _ _ ?_)
      refine wp_seq_k fun K21 hK21 => ?_
      refine regionL ?_
      refine oL 47 (ldCy rb18_10) ?_
      refine oL 48 (ldCy rb20_10) ?_
      refine oJ 49 (cyV c) (cyV c) (.bool (false)) (cy_guard _ _ _ _ _) (cy_neq _) ?_
      refine oM 50 (.bool (false)) ?_
      refine oT 51 (regsV s) (heLoad rfl (by kernel_rfl) (ldR rb18_11.range)) ?_
      refine oT 52 (regsV s) (heLoad rfl (by kernel_rfl) (ldR rb20_11.range)) ?_
      refine oT 53 (.bool (false)) (heBin (V := regsV s) (W := regsV s) (R := .bool (false)) rfl (by kernel_rfl) (by kernel_rfl) (regs_guard _ _ _ _ _) (regs_neq _) _) ?_
      refine oP 54 (.bool (false)) false ?_
      refine oM 55 (.bool (false)) ?_
      refine oT 56 (.bool (d)) (heMove (.inl rfl) (by kernel_rfl) _) ?_
      refine oT 57 (.bool (d)) (heMove (.inl rfl) (by kernel_rfl) _) ?_
      refine oT 58 (.bool (false)) (heBin (V := .bool (d)) (W := .bool (d)) (R := .bool (false)) rfl (by kernel_rfl) (by kernel_rfl) (egB _ _ _ _ _) (bNeB0 d) _) ?_
      refine oP 59 (.bool (false)) false ?_
      refine endL ?_
      try simp only [Act.put, sA, sB, sC]
      refine thenN (hK21 _ _ ?_)
      refine wp_cond_false (by kernel_rfl) ?_
      refine wp_skip ?_
      refine blockN ?_
      refine thenN (hK16 _ _ ?_)
      refine regionL ?_
      refine oM 25 (.int .i64 ((k1 : Int))) ?_
      refine oJ 26 (.int .i64 ((k1 : Int))) (.int .i64 (1)) (.int .i64 (((k1 + 1 : Nat) : Int))) (egI _ _ _ _ _) (bInc k1 (by omega)) ?_
      refine oA 8 (.int .i64 (((k1 + 1 : Nat) : Int))) ?_
      refine endL ?_
      try simp only [Act.put, sA, sB, sC]
      exact thenN ⟨⟨k1 + 1, y6, pT b18_10 0, pT b18_11 0, .bool (d), pT b20_10 0, pT b20_11 0, .bool (d), .int .i64 ((k1 : Int)), .slice A xs.length cap, .int .i64 ((xs.length : Int)), .bool (decide ((k1 : Int) ≤ (xs.length : Int))), .int .i64 ((k1 : Int)), .int .i64 (((k1 + 1 : Nat) : Int)), .tuple #[cyV c, regsV s, .bool (d)], regsV g, .int .u8 (v), .slice A xs.length cap, .int .i64 ((k1 : Int)), .slice A k1 cap, .tuple #[cyV c, regsV s, .bool (d)], cyV c, regsV s, .bool (d), .tuple #[cyV c, regsV s, .bool (d)], regsV g, .int .u8 (v), .slice A xs.length cap, .int .i64 ((k1 : Int)), .slice A k1 cap, .tuple #[cyV c, regsV s, .bool (d)], cyV c, regsV s, .bool (d), cyV c, cyV c, .bool (false), .bool (false), regsV s, regsV s, .bool (false), .bool (false), .bool (false), .bool (d), .bool (d), .bool (false), .bool (false), rfl, hB, by omega⟩, by simp [intV]; omega⟩
    · skip
      have g15 : ¬ (k1 : Int) ≤ (xs.length : Int) := by simpa using h15
      refine wp_exit ?_
      refine thenE ?_
      refine thenE ?_
      refine blockE ?_
      refine thenN (hK11 _ _ ?_)
      refine wp_seq_k fun K22 hK22 => ?_
      refine regionL ?_
      refine oA 6 (.bool (true)) ?_
      refine endL ?_
      try simp only [Act.put, sA, sB, sC]
      refine thenN (hK22 _ _ ?_)
      refine wp_ret ?_
      exact bodyPost_ret (results_tmp rfl _ _ _) rfl ⟨rfl, hb⟩
end Go.Proofs.YtibmpaeaicpbcaaGreatDoor
