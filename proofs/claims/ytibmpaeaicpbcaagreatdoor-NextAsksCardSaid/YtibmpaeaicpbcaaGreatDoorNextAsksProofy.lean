/- The law's walk and what it wants (several texts in one). -/
import Derived.Test.YtibmpaeaicpbcaaGreatDoorNxG4
import Derived.Test.YtibmpaeaicpbcaaGreatDoorNxG5
import Derived.Test.YtibmpaeaicpbcaaGreatDoorNxG7
namespace Go.Proofs.YtibmpaeaicpbcaaGreatDoor
open Go.RowKit
set_option linter.unusedVariables false
set_option linter.unusedSimpArgs false
set_option maxRecDepth 20000
set_option maxHeartbeats 20000000
theorem nextAsks_walk (g : Rg) (A : Option Addr) (cap : Nat) (xs : List Int) (hg : RgB g) (w : World) (hc : xs.length ≤ cap) (hm : cap ≤ maxLen) (h8 : Bytes8 xs) (hin : BytesIn w w.heap.size A xs) (hn : A = none → cap = 0) (hM : Masks w) (hD : Digits w) (hC : Courses w) (hO : Modes w) :
    Calls Tryz.prog 3 #[regsV g, .slice A xs.length cap] w fun e w' => e = .returned (.bool true) ∧ Below w.heap.size w w' := by
  have hb := Below.refl w.heap.size w
  have ht : Tabs w w.heap.size := (NextTabs.mk hM hC hD hO).tabs
  go_enter Tryz.func3, Tryz.ntmps3
  refine wp_seq_k fun K1 hK1 => ?_
  refine region_row [(some 2, .box 24 (regsC g) none none), (some 4, .val (.bool (false)))] (by kernel_rfl) ⟨⟨fun k vs e => (by cases e), fun p l a w I hd => heBox rfl (by kernel_rfl) (boxRg _ w)⟩, fun p l a w I hd => heMove (.inr rfl) (by kernel_rfl) w, trivial⟩ ?_
  intro p2 W2 hE
  have hb := hb.trans (hE.1.mono hb.size)
  have rb2_0 : Row W2 (p2 0) 24 (regsC g) := (hE.2.1 0 _ _ _ _ _ rfl).2
  clear hE
  try simp only [litA, layL, Pl.value, sA, sB, sC]
  generalize p2 0 = b2_0 at *
  refine thenN (hK1 _ _ ?_)
  refine wp_seq_k fun K3 hK3 => ?_
  refine region_row [(some 13, .call (.bool (true))), (some 5, .val (.bool (true)))] (by kernel_rfl) ⟨fun p l a w I hd => ⟨_, _, (by kernel_rfl), awake12_any _ (ht.below (hb.trans (I.below.mono hb.size)))⟩, fun p l a w I hd => heMove (.inr rfl) (by kernel_rfl) w, trivial⟩ ?_
  intro p4 W4 hE
  have rb2_0 := rb2_0.below hE.1 rb2_0.lt
  have hb := hb.trans (hE.1.mono hb.size)
  clear hE
  try simp only [litA, layL, Pl.value, sA, sB, sC]
  refine thenN (hK3 _ _ ?_)
  refine wp_seq_k fun K5 hK5 => ?_
  refine wp_seq_k fun K6 hK6 => ?_
  refine regionL ?_
  refine oM 14 (.bool (true)) ?_
  refine oW 15 (.bool (true)) (.bool (false)) (fun _ => rfl) ?_
  refine endL ?_
  try simp only [Act.put, sA, sB, sC]
  refine thenN (hK6 _ _ ?_)
  refine wp_cond_false (by kernel_rfl) ?_
  refine wp_skip ?_
  refine thenN (hK5 _ _ ?_)
  refine wp_seq_k fun K7 hK7 => ?_
  refine wp_seq_k fun K8 hK8 => ?_
  refine regionL ?_
  refine oM 16 (.slice A xs.length cap) ?_
  refine oT 17 (.int .i64 ((xs.length : Int))) (by kernel_rfl) ?_
  refine oJ 18 (.int .i64 ((xs.length : Int))) (.int .i64 (100)) (.bool (decide (100 < (xs.length : Int)))) (egI _ _ _ _ _) (bGtI' ((xs.length : Int)) 100) ?_
  refine endL ?_
  try simp only [Act.put, sA, sB, sC]
  refine thenN (hK8 _ _ ?_)
  refine wp_cond_split (t := decide (100 < (xs.length : Int))) (by kernel_rfl) (fun h9 => ?_) (fun h9 => ?_)
  · skip
    have g9 : 100 < (xs.length : Int) := by simpa using h9
    refine wp_seq_k fun K10 hK10 => ?_
    refine regionL ?_
    refine oA 4 (.bool (true)) ?_
    refine endL ?_
    try simp only [Act.put, sA, sB, sC]
    refine thenN (hK10 _ _ ?_)
    refine wp_ret ?_
    refine thenR ?_
    exact bodyPost_ret (results_tmp rfl _ _ _) rfl ⟨rfl, hb⟩
  · skip
    have g9 : ¬ 100 < (xs.length : Int) := by simpa using h9
    refine wp_skip ?_
    refine thenN (hK7 _ _ ?_)
    refine wp_seq_k fun K11 hK11 => ?_
    refine wp_seq_k fun K12 hK12 => ?_
    refine regionL ?_
    refine oA 6 (.int .i64 (0)) ?_
    refine endL ?_
    try simp only [Act.put, sA, sB, sC]
    refine thenN (hK12 _ _ ?_)
    refine wp_block ?_
    have hB0 := Below.refl W4.heap.size W4
    have hb0 := hb
    have hr0 := rb2_0
    have hl0 := rb2_0.lt
    refine wp_loop (fun a' w' => ∃ (k1 : Nat) (y4 y7 y8 y9 y10 y11 y12 y19 y20 y21 y22 y23 y24 y25 y26 y27 y28 y29 y30 y31 y32 y33 y34 y35 y36 y37 y38 y39 y40 y41 y42 y43 y44 y45 y46 y47 y48 y49 y50 y51 y52 y53 y54 y55 : Value), a' = { tmps := #[regsV g, .slice A xs.length cap, pT b2_0 0, undef, y4, .bool (true), .int .i64 (k1 : Int), y7, y8, y9, y10, y11, y12, .bool (true), .bool (true), .bool (false), .slice A xs.length cap, .int .i64 ((xs.length : Int)), .bool (decide (100 < (xs.length : Int))), y19, y20, y21, y22, y23, y24, y25, y26, y27, y28, y29, y30, y31, y32, y33, y34, y35, y36, y37, y38, y39, y40, y41, y42, y43, y44, y45, y46, y47, y48, y49, y50, y51, y52, y53, y54, y55], defers := [] } ∧ Below W4.heap.size W4 w' ∧ k1 ≤ xs.length + 1) (fun a' _ => xs.length + 1 - intV (a'.tmps.getD 6 undef)) ⟨0, .bool (false), undef, undef, undef, undef, undef, undef, undef, undef, undef, undef, undef, undef, undef, undef, undef, undef, undef, undef, undef, undef, undef, undef, undef, undef, undef, undef, undef, undef, undef, undef, undef, undef, undef, undef, undef, undef, undef, undef, undef, undef, undef, undef, undef, rfl, hB0, by omega⟩ ?_
    rintro a1 w1 ⟨k1, y4, y7, y8, y9, y10, y11, y12, y19, y20, y21, y22, y23, y24, y25, y26, y27, y28, y29, y30, y31, y32, y33, y34, y35, y36, y37, y38, y39, y40, y41, y42, y43, y44, y45, y46, y47, y48, y49, y50, y51, y52, y53, y54, y55, rfl, hB, hkl⟩
    have rb2_0 := hr0.below hB hl0
    have hb := hb0.trans (hB.mono hb0.size)
    refine wp_seq_k fun K13 hK13 => ?_
    refine wp_seq_k fun K14 hK14 => ?_
    refine regionL ?_
    refine oM 19 (.int .i64 ((k1 : Int))) ?_
    refine oM 20 (.slice A xs.length cap) ?_
    refine oT 21 (.int .i64 ((xs.length : Int))) (by kernel_rfl) ?_
    refine oJ 22 (.int .i64 ((k1 : Int))) (.int .i64 ((xs.length : Int))) (.bool (decide ((k1 : Int) ≤ (xs.length : Int)))) (egI _ _ _ _ _) (bLeI' ((k1 : Int)) ((xs.length : Int))) ?_
    refine endL ?_
    try simp only [Act.put, sA, sB, sC]
    refine thenN (hK14 _ _ ?_)
    refine wp_cond_split (t := decide ((k1 : Int) ≤ (xs.length : Int))) (by kernel_rfl) (fun h15 => ?_) (fun h15 => ?_)
    · skip
      have g15 : (k1 : Int) ≤ (xs.length : Int) := by simpa using h15
      have hk : (xs.take k1).length = k1 := by rw [List.length_take]; omega
      have hq := Below.refl w1.heap.size w1
      obtain ⟨c, hcE⟩ : ∃ c, c = cyOf (nextOf g (xs.take k1)) := ⟨_, rfl⟩
      obtain ⟨s, hsE⟩ : ∃ s, s = rgOf (nextOf g (xs.take k1)) := ⟨_, rfl⟩
      obtain ⟨d, hdE⟩ : ∃ d, d = doneOf (nextOf g (xs.take k1)) := ⟨_, rfl⟩
      have h8' : Bytes8 (xs.take k1) := fun x hx => h8 x (List.mem_of_mem_take hx)
      have hi' : BytesIn w1 w1.heap.size A (xs.take k1) := ((hin.below hb).more hb.size).take k1
      have K := next_hid g hg A cap (xs.take k1) (by omega) h8' w1 hi' (ht.below hb)
      have K' := rnext_hid g hg A cap (xs.take k1) (by omega) h8' (by omega) w1 hi'
      rw [hk, ← hcE, ← hsE, ← hdE] at K K'
      refine wp_skip ?_
      refine thenN (hK13 _ _ ?_)
      refine wp_seq_k fun K16 hK16 => ?_
      refine wp_block ?_
      refine wp_seq_k fun K17 hK17 => ?_
      refine region_boxed [(some 26, .val (regsV g)), (some 27, .val (.slice A xs.length cap)), (some 28, .val (.int .i64 ((k1 : Int)))), (some 29, .val (.slice A k1 cap)), (some 30, .call (.tuple #[cyV c, regsV s, .bool (d)])), (some 25, .val (.tuple #[cyV c, regsV s, .bool (d)])), (some 31, .val (cyV c)), (some 32, .val (regsV s)), (some 33, .val (.bool (d))), (some 7, .box 28 (cyC zeroCy) (some (11, cyC c)) none), (some 8, .box 24 (regsC zeroRg) (some (12, regsC s)) none), (none, .put 9), (none, .put 10), (some 9, .val (.bool (d)))] (by kernel_rfl) (by kernel_rfl) ⟨fun p l a w I hd => heLoad rfl (by kernel_rfl) (ldR (rb2_0.below I.below rb2_0.lt).range), fun p l a w I hd => heMove (.inl rfl) (by kernel_rfl) w, fun p l a w I hd => heMove (.inl rfl) (by kernel_rfl) w, fun p l a w I hd => heSlice (V := .slice A xs.length cap) rfl (by kernel_rfl) (by kernel_rfl) (by kernel_rfl) (by kernel_rfl) (slTo _ _ _ k1 (by omega) w), fun p l a w I hd => ⟨_, _, (by kernel_rfl), K w (hq.trans (I.below.mono hq.size))⟩, fun p l a w I hd => heMove (.inl rfl) (by kernel_rfl) w, fun p l a w I hd => heExtract (vs := #[cyV c, regsV s, .bool (d)]) rfl (by kernel_rfl) (by kernel_rfl) w, fun p l a w I hd => heExtract (vs := #[cyV c, regsV s, .bool (d)]) rfl (by kernel_rfl) (by kernel_rfl) w, fun p l a w I hd => heExtract (vs := #[cyV c, regsV s, .bool (d)]) rfl (by kernel_rfl) (by kernel_rfl) w, ⟨fun k vs e => (by cases e; rfl), fun p l a w I hd => heAlloc rfl (allocCy w)⟩, ⟨fun k vs e => (by cases e; rfl), fun p l a w I hd => heAlloc rfl (allocRg w)⟩, fun p l a w I hd d t z s vs hj hr => (by cases hj; exact heStore rfl (by kernel_rfl) (by kernel_rfl) (stCy hr)), fun p l a w I hd d t z s vs hj hr => (by cases hj; exact heStore rfl (by kernel_rfl) (by kernel_rfl) (stRow hr)), fun p l a w I hd => heMove (.inr rfl) (by kernel_rfl) w, trivial⟩ ?_
      intro p18 W18 hE
      have rb2_0 := rb2_0.below hE.1 rb2_0.lt
      have hb := hb.trans (hE.1.mono hb.size)
      have hB := hB.trans (hE.1.mono hB.size)
      have hq := hq.trans (hE.1.mono hq.size)
      have rb18_9 : Row W18 (p18 9) 28 (cyC c) := (hE.2.1 9 _ _ _ _ _ rfl).2
      have rb18_10 : Row W18 (p18 10) 24 (regsC s) := (hE.2.1 10 _ _ _ _ _ rfl).2
      clear hE
      try simp only [litA, layL, Pl.value, sA, sB, sC]
      generalize p18 9 = b18_9 at *
      generalize p18 10 = b18_10 at *
      refine thenN (hK17 _ _ ?_)
      refine wp_seq_k fun K19 hK19 => ?_
      refine region_boxed [(some 35, .val (regsV g)), (some 36, .val (.slice A xs.length cap)), (some 37, .val (.int .i64 ((k1 : Int)))), (some 38, .val (.slice A k1 cap)), (some 39, .call (.tuple #[cyV c, regsV s, .bool (d)])), (some 34, .val (.tuple #[cyV c, regsV s, .bool (d)])), (some 40, .val (cyV c)), (some 41, .val (regsV s)), (some 42, .val (.bool (d))), (some 10, .box 28 (cyC zeroCy) (some (11, cyC c)) none), (some 11, .box 24 (regsC zeroRg) (some (12, regsC s)) none), (none, .put 9), (none, .put 10), (some 12, .val (.bool (d)))] (by kernel_rfl) (by kernel_rfl) ⟨fun p l a w I hd => heLoad rfl (by kernel_rfl) (ldR (rb2_0.below I.below rb2_0.lt).range), fun p l a w I hd => heMove (.inl rfl) (by kernel_rfl) w, fun p l a w I hd => heMove (.inl rfl) (by kernel_rfl) w, fun p l a w I hd => heSlice (V := .slice A xs.length cap) rfl (by kernel_rfl) (by kernel_rfl) (by kernel_rfl) (by kernel_rfl) (slTo _ _ _ k1 (by omega) w), fun p l a w I hd => ⟨_, _, (by kernel_rfl), K' w (hq.trans (I.below.mono hq.size))⟩, fun p l a w I hd => heMove (.inl rfl) (by kernel_rfl) w, fun p l a w I hd => heExtract (vs := #[cyV c, regsV s, .bool (d)]) rfl (by kernel_rfl) (by kernel_rfl) w, fun p l a w I hd => heExtract (vs := #[cyV c, regsV s, .bool (d)]) rfl (by kernel_rfl) (by kernel_rfl) w, fun p l a w I hd => heExtract (vs := #[cyV c, regsV s, .bool (d)]) rfl (by kernel_rfl) (by kernel_rfl) w, ⟨fun k vs e => (by cases e; rfl), fun p l a w I hd => heAlloc rfl (allocCy w)⟩, ⟨fun k vs e => (by cases e; rfl), fun p l a w I hd => heAlloc rfl (allocRg w)⟩, fun p l a w I hd d t z s vs hj hr => (by cases hj; exact heStore rfl (by kernel_rfl) (by kernel_rfl) (stCy hr)), fun p l a w I hd d t z s vs hj hr => (by cases hj; exact heStore rfl (by kernel_rfl) (by kernel_rfl) (stRow hr)), fun p l a w I hd => heMove (.inr rfl) (by kernel_rfl) w, trivial⟩ ?_
      intro p20 W20 hE
      have rb2_0 := rb2_0.below hE.1 rb2_0.lt
      have rb18_9 := rb18_9.below hE.1 rb18_9.lt
      have rb18_10 := rb18_10.below hE.1 rb18_10.lt
      have hb := hb.trans (hE.1.mono hb.size)
      have hB := hB.trans (hE.1.mono hB.size)
      have hq := hq.trans (hE.1.mono hq.size)
      have rb20_9 : Row W20 (p20 9) 28 (cyC c) := (hE.2.1 9 _ _ _ _ _ rfl).2
      have rb20_10 : Row W20 (p20 10) 24 (regsC s) := (hE.2.1 10 _ _ _ _ _ rfl).2
      clear hE
      try simp only [litA, layL, Pl.value, sA, sB, sC]
      generalize p20 9 = b20_9 at *
      generalize p20 10 = b20_10 at *
      refine thenN (hK19 _ _ ?_)
      refine wp_seq_k fun K21 hK21 => ?_
      refine regionL ?_
      refine oL 43 (ldCy rb18_9) ?_
      refine oL 44 (ldCy rb20_9) ?_
      refine oJ 45 (cyV c) (cyV c) (.bool (false)) (cy_guard _ _ _ _ _) (cy_neq _) ?_
      refine oM 46 (.bool (false)) ?_
      refine oT 47 (regsV s) (heLoad rfl (by kernel_rfl) (ldR rb18_10.range)) ?_
      refine oT 48 (regsV s) (heLoad rfl (by kernel_rfl) (ldR rb20_10.range)) ?_
      refine oT 49 (.bool (false)) (heBin (V := regsV s) (W := regsV s) (R := .bool (false)) rfl (by kernel_rfl) (by kernel_rfl) (regs_guard _ _ _ _ _) (regs_neq _) _) ?_
      refine oP 50 (.bool (false)) false ?_
      refine oM 51 (.bool (false)) ?_
      refine oT 52 (.bool (d)) (heMove (.inl rfl) (by kernel_rfl) _) ?_
      refine oT 53 (.bool (d)) (heMove (.inl rfl) (by kernel_rfl) _) ?_
      refine oT 54 (.bool (false)) (heBin (V := .bool (d)) (W := .bool (d)) (R := .bool (false)) rfl (by kernel_rfl) (by kernel_rfl) (egB _ _ _ _ _) (bNeB0 d) _) ?_
      refine oP 55 (.bool (false)) false ?_
      refine endL ?_
      try simp only [Act.put, sA, sB, sC]
      refine thenN (hK21 _ _ ?_)
      refine wp_cond_false (by kernel_rfl) ?_
      refine wp_skip ?_
      refine blockN ?_
      refine thenN (hK16 _ _ ?_)
      refine regionL ?_
      refine oM 23 (.int .i64 ((k1 : Int))) ?_
      refine oJ 24 (.int .i64 ((k1 : Int))) (.int .i64 (1)) (.int .i64 (((k1 + 1 : Nat) : Int))) (egI _ _ _ _ _) (bInc k1 (by omega)) ?_
      refine oA 6 (.int .i64 (((k1 + 1 : Nat) : Int))) ?_
      refine endL ?_
      try simp only [Act.put, sA, sB, sC]
      exact thenN ⟨⟨k1 + 1, y4, pT b18_9 0, pT b18_10 0, .bool (d), pT b20_9 0, pT b20_10 0, .bool (d), .int .i64 ((k1 : Int)), .slice A xs.length cap, .int .i64 ((xs.length : Int)), .bool (decide ((k1 : Int) ≤ (xs.length : Int))), .int .i64 ((k1 : Int)), .int .i64 (((k1 + 1 : Nat) : Int)), .tuple #[cyV c, regsV s, .bool (d)], regsV g, .slice A xs.length cap, .int .i64 ((k1 : Int)), .slice A k1 cap, .tuple #[cyV c, regsV s, .bool (d)], cyV c, regsV s, .bool (d), .tuple #[cyV c, regsV s, .bool (d)], regsV g, .slice A xs.length cap, .int .i64 ((k1 : Int)), .slice A k1 cap, .tuple #[cyV c, regsV s, .bool (d)], cyV c, regsV s, .bool (d), cyV c, cyV c, .bool (false), .bool (false), regsV s, regsV s, .bool (false), .bool (false), .bool (false), .bool (d), .bool (d), .bool (false), .bool (false), rfl, hB, by omega⟩, by simp [intV]; omega⟩
    · skip
      have g15 : ¬ (k1 : Int) ≤ (xs.length : Int) := by simpa using h15
      refine wp_exit ?_
      refine thenE ?_
      refine thenE ?_
      refine blockE ?_
      refine thenN (hK11 _ _ ?_)
      refine wp_seq_k fun K22 hK22 => ?_
      refine regionL ?_
      refine oA 4 (.bool (true)) ?_
      refine endL ?_
      try simp only [Act.put, sA, sB, sC]
      refine thenN (hK22 _ _ ?_)
      refine wp_ret ?_
      exact bodyPost_ret (results_tmp rfl _ _ _) rfl ⟨rfl, hb⟩
end Go.Proofs.YtibmpaeaicpbcaaGreatDoor
