/- The law's walk and what it wants (several texts in one). -/
import Derived.Test.YtibmpaeaicpbcaaGreatDoorNxG4
import Derived.Test.YtibmpaeaicpbcaaGreatDoorNxG5
import Derived.Test.YtibmpaeaicpbcaaGreatDoorNxG7
namespace Go.Proofs.YtibmpaeaicpbcaaGreatDoor
open Go.RowKit
set_option linter.unusedVariables false
set_option linter.unusedSimpArgs false
set_option maxRecDepth 20000
set_option maxHeartbeats 20000000
theorem rtakes_any (g : Rg) (hg : RgB g) (A : Option Addr) (cap : Nat) (ans : List Int) (hc : ans.length ≤ cap) (hans : Bytes8 ans) (hlen : ans.length ≤ 1000000) (w : World) (hin : BytesIn w w.heap.size A ans) :
    Calls Tryz.prog 17 #[regsV g, .slice A ans.length cap] w fun e w' => e = .returned (.tuple #[.int .i64 (takesOf g ans).1, .int .i64 ((takesOf g ans).2.length : Int)]) ∧ Below w.heap.size w w' := by
  have hb := Below.refl w.heap.size w
  go_enter Tryz.func17, Tryz.ntmps17
  refine wp_seq_k fun K1 hK1 => ?_
  refine region_row [(some 2, .box 24 (regsC g) none none), (some 4, .val (.int .i64 (0))), (some 5, .val (.int .i64 (0)))] (by kernel_rfl) ⟨⟨fun k vs e => (by cases e), fun p l a w I hd => heBox rfl (by kernel_rfl) (boxRg _ w)⟩, fun p l a w I hd => heMove (.inr rfl) (by kernel_rfl) w, fun p l a w I hd => heMove (.inr rfl) (by kernel_rfl) w, trivial⟩ ?_
  intro p2 W2 hE
  have hb := hb.trans (hE.1.mono hb.size)
  have rb2_0 : Row W2 (p2 0) 24 (regsC g) := (hE.2.1 0 _ _ _ _ _ rfl).2
  clear hE
  try simp only [litA, layL, Pl.value, sA, sB, sC]
  generalize p2 0 = b2_0 at *
  refine thenN (hK1 _ _ ?_)
  refine wp_seq_k fun K3 hK3 => ?_
  refine regionL ?_
  refine oA 6 (.slice none 0 0) ?_
  refine endL ?_
  try simp only [Act.put, sA, sB, sC]
  refine thenN (hK3 _ _ ?_)
  refine wp_seq_k fun K4 hK4 => ?_
  refine regionL ?_
  refine oA 7 (.int .i64 (0)) ?_
  refine endL ?_
  try simp only [Act.put, sA, sB, sC]
  refine thenN (hK4 _ _ ?_)
  refine wp_seq_k fun K5 hK5 => ?_
  refine regionL ?_
  refine oA 8 (.int .i64 (0)) ?_
  refine endL ?_
  try simp only [Act.put, sA, sB, sC]
  refine thenN (hK5 _ _ ?_)
  refine wp_seq_k fun K6 hK6 => ?_
  refine wp_block ?_
  have hB0 := Below.refl W2.heap.size W2
  have hrlt := rb2_0.lt
  have hb0 := hb
  have hr0 := rb2_0
  refine wp_loop (fun a' w' => ∃ (got1 : List Int) (k1 : Nat) (n1 : Int) (v1 y4 y5 y9 y10 y11 y12 y13 y14 y15 y16 y17 y18 y19 y20 y21 y22 y23 y24 y25 y26 y27 y28 y29 y30 y31 y32 y33 y34 y35 y36 y37 y38 y39 y40 y41 y42 y43 y44 y45 y46 y47 y48 y49 y50 y51 y52 y53 y54 y55 y56 y57 : Value), a' = { tmps := #[regsV g, .slice A ans.length cap, pT b2_0 0, undef, y4, y5, v1, .int .i64 n1, .int .i64 (k1 : Int), y9, y10, y11, y12, y13, y14, y15, y16, y17, y18, y19, y20, y21, y22, y23, y24, y25, y26, y27, y28, y29, y30, y31, y32, y33, y34, y35, y36, y37, y38, y39, y40, y41, y42, y43, y44, y45, y46, y47, y48, y49, y50, y51, y52, y53, y54, y55, y56, y57, undef, undef, undef], defers := [] } ∧ Below W2.heap.size W2 w' ∧ w'.ownsRow W2.heap.size 5 1 v1 got1.length (bvs got1) ∧ Bytes8 got1 ∧ got1.length ≤ 200 ∧ 0 ≤ n1 ∧ n1 ≤ 7 * (got1.length : Int) ∧ takesGo readsM (nextF g) (200 - got1.length) got1 (ans.drop k1) n1 = takesOf g ans ∧ k1 ≤ got1.length) (fun a' _ => 200 - lenV (a'.tmps.getD 6 undef)) ⟨[], 0, 0, .slice none 0 0, .int .i64 (0), .int .i64 (0), undef, undef, undef, undef, undef, undef, undef, undef, undef, undef, undef, undef, undef, undef, undef, undef, undef, undef, undef, undef, undef, undef, undef, undef, undef, undef, undef, undef, undef, undef, undef, undef, undef, undef, undef, undef, undef, undef, undef, undef, undef, undef, undef, undef, undef, undef, undef, undef, undef, rfl, hB0, World.ownsRow_nil _ _ _ _, (fun x h => by cases h), (by decide), (by decide), (by decide), rfl, (by decide)⟩ ?_
  rintro a1 w1 ⟨got1, k1, n1, v1, y4, y5, y9, y10, y11, y12, y13, y14, y15, y16, y17, y18, y19, y20, y21, y22, y23, y24, y25, y26, y27, y28, y29, y30, y31, y32, y33, y34, y35, y36, y37, y38, y39, y40, y41, y42, y43, y44, y45, y46, y47, y48, y49, y50, y51, y52, y53, y54, y55, y56, y57, rfl, hB, own, hg8, hl200, hn0, hn7, hT, hk1⟩
  have rb2_0 := hr0.below hB hrlt
  have hb := hb0.trans (hB.mono hb0.size)
  obtain ⟨Av, cv, rfl, hle, hby, hnn⟩ := own_slice own
  obtain ⟨c, hcE⟩ : ∃ c, c = cyOf (nextOf g got1) := ⟨_, rfl⟩
  obtain ⟨s, hsE⟩ : ∃ s, s = rgOf (nextOf g got1) := ⟨_, rfl⟩
  obtain ⟨d, hdE⟩ : ∃ d, d = doneOf (nextOf g got1) := ⟨_, rfl⟩
  have hF : nextF g got1 = (c, d) := by rw [hcE, hdE]; rfl
  have hct : d = false → 1 ≤ c.t ∧ c.t ≤ 7 := fun h => by rw [hcE]; exact next_t (hdE.symm.trans h)
  have K := rnext_hid g hg Av cv got1 hle hg8 (by omega) w1 hby
  rw [← hcE, ← hsE, ← hdE] at K
  refine wp_seq_k fun K7 hK7 => ?_
  refine wp_seq_k fun K8 hK8 => ?_
  refine regionL ?_
  refine oM 13 (.slice Av got1.length cv) ?_
  refine oT 14 (.int .i64 ((got1.length : Int))) (by kernel_rfl) ?_
  refine oJ 15 (.int .i64 ((got1.length : Int))) (.int .i64 (200)) (.bool (decide ((got1.length : Int) < 200))) (egI _ _ _ _ _) (bLtI ((got1.length : Int)) 200) ?_
  refine endL ?_
  try simp only [Act.put, sA, sB, sC]
  refine thenN (hK8 _ _ ?_)
  refine wp_cond_split (t := decide ((got1.length : Int) < 200)) (by kernel_rfl) (fun h9 => ?_) (fun h9 => ?_)
  · skip
    have g9 : (got1.length : Int) < 200 := by simpa using h9
    refine wp_skip ?_
    refine thenN (hK7 _ _ ?_)
    refine wp_block ?_
    refine wp_seq_k fun K10 hK10 => ?_
    refine region_row [(some 17, .val (regsV g)), (some 18, .val (.slice Av got1.length cv)), (some 19, .call (.tuple #[cyV c, regsV s, .bool (d)])), (some 16, .val (.tuple #[cyV c, regsV s, .bool (d)])), (some 20, .val (cyV c)), (some 21, .val (regsV s)), (some 22, .val (.bool (d))), (some 9, .box 28 (cyC zeroCy) (some (9, cyC c)) none), (some 10, .box 24 (regsC zeroRg) (some (10, regsC s)) none), (none, .put 7), (none, .put 8), (some 11, .val (.bool (d)))] (by kernel_rfl) ⟨fun p l a w I hd => heLoad rfl (by kernel_rfl) (ldR (rb2_0.below I.below rb2_0.lt).range), fun p l a w I hd => heMove (.inl rfl) (by kernel_rfl) w, fun p l a w I hd => ⟨_, _, (by kernel_rfl), K w I.below⟩, fun p l a w I hd => heMove (.inl rfl) (by kernel_rfl) w, fun p l a w I hd => heExtract (vs := #[cyV c, regsV s, .bool (d)]) rfl (by kernel_rfl) (by kernel_rfl) w, fun p l a w I hd => heExtract (vs := #[cyV c, regsV s, .bool (d)]) rfl (by kernel_rfl) (by kernel_rfl) w, fun p l a w I hd => heExtract (vs := #[cyV c, regsV s, .bool (d)]) rfl (by kernel_rfl) (by kernel_rfl) w, ⟨fun k vs e => (by cases e; rfl), fun p l a w I hd => heAlloc rfl (allocCy w)⟩, ⟨fun k vs e => (by cases e; rfl), fun p l a w I hd => heAlloc rfl (allocRg w)⟩, fun p l a w I hd d t z s vs hj hr => (by cases hj; exact heStore rfl (by kernel_rfl) (by kernel_rfl) (stCy hr)), fun p l a w I hd d t z s vs hj hr => (by cases hj; exact heStore rfl (by kernel_rfl) (by kernel_rfl) (stRow hr)), fun p l a w I hd => heMove (.inr rfl) (by kernel_rfl) w, trivial⟩ ?_
    intro p11 W11 hE
    have rb2_0 := rb2_0.below hE.1 rb2_0.lt
    have own := own_below own hE.1
    have hb := hb.trans (hE.1.mono hb.size)
    have hB := hB.trans (hE.1.mono hB.size)
    have rb11_7 : Row W11 (p11 7) 28 (cyC c) := (hE.2.1 7 _ _ _ _ _ rfl).2
    have rb11_8 : Row W11 (p11 8) 24 (regsC s) := (hE.2.1 8 _ _ _ _ _ rfl).2
    clear hE
    try simp only [litA, layL, Pl.value, sA, sB, sC]
    generalize p11 7 = b11_7 at *
    generalize p11 8 = b11_8 at *
    refine thenN (hK10 _ _ ?_)
    refine wp_seq_k fun K12 hK12 => ?_
    refine wp_seq_k fun K13 hK13 => ?_
    refine regionL ?_
    refine oM 23 (.bool (d)) ?_
    refine endL ?_
    try simp only [Act.put, sA, sB, sC]
    refine thenN (hK13 _ _ ?_)
    refine wp_cond_split (t := d) (by kernel_rfl) (fun h14 => ?_) (fun h14 => ?_)
    · skip
      have g14 : d = true := by simpa using h14
      refine wp_seq_k fun K15 hK15 => ?_
      refine regionL ?_
      refine oM 24 (.int .i64 (n1)) ?_
      refine oM 25 (.slice Av got1.length cv) ?_
      refine oT 26 (.int .i64 ((got1.length : Int))) (by kernel_rfl) ?_
      refine oA 4 (.int .i64 (n1)) ?_
      refine oA 5 (.int .i64 ((got1.length : Int))) ?_
      refine endL ?_
      try simp only [Act.put, sA, sB, sC]
      refine thenN (hK15 _ _ ?_)
      refine wp_ret ?_
      refine thenR ?_
      refine blockR ?_
      refine thenR ?_
      refine blockR ?_
      refine thenR ?_
      have hR := hT.symm.trans (takes_done hF h14 _ _)
      exact bodyPost_ret (results_tmp2 rfl _ _ _) rfl ⟨by rw [hR]; rfl, hb⟩
    · skip
      have g14 : ¬ d = true := by simpa using h14
      refine wp_skip ?_
      refine thenN (hK12 _ _ ?_)
      refine wp_seq_k fun K16 hK16 => ?_
      refine regionL ?_
      refine oM 27 (.int .i64 (n1)) ?_
      refine oF 28 (fC3 b11_7) ?_
      refine oL 29 (ldI (rb11_7.at 3 (.int .i64 (c.t)))) ?_
      refine oJ 30 (.int .i64 (n1)) (.int .i64 (c.t)) (.int .i64 (n1 + c.t)) (egI _ _ _ _ _) (bAddI' n1 c.t (by have := hct h14; omega) (by have := hct h14; omega)) ?_
      refine oA 7 (.int .i64 (n1 + c.t)) ?_
      refine endL ?_
      try simp only [Act.put, sA, sB, sC]
      refine thenN (hK16 _ _ ?_)
      refine wp_seq_k fun K17 hK17 => ?_
      refine regionL ?_
      refine oA 12 (.int .u8 (0)) ?_
      refine endL ?_
      try simp only [Act.put, sA, sB, sC]
      refine thenN (hK17 _ _ ?_)
      refine wp_seq_k fun K18 hK18 => ?_
      refine wp_seq_k fun K19 hK19 => ?_
      refine regionL ?_
      refine oF 31 (fC0 b11_7) ?_
      refine oL 32 (ldI (rb11_7.at 0 (.int .i64 (c.kind)))) ?_
      refine oJ 33 (.int .i64 (c.kind)) (.int .i64 (1)) (.bool (c.kind == 1)) (egI _ _ _ _ _) (bEqI c.kind 1) ?_
      refine oM 34 (.bool (c.kind == 1)) ?_
      rcases Bool.eq_false_or_eq_true (c.kind == 1) with h20 | h20
      · skip
        have g20 : c.kind = 1 := by simpa using h20
        rewrite [h20]
        refine oZ 35 ?_
        refine oZ 36 ?_
        refine oZ 37 ?_
        refine oP 38 (.bool (true)) true ?_
        refine oM 39 (.bool (true)) ?_
        refine oZ 40 ?_
        refine oZ 41 ?_
        refine oZ 42 ?_
        refine oP 43 (.bool (true)) true ?_
        refine endL ?_
        try simp only [Act.put, sA, sB, sC]
        refine thenN (hK19 _ _ ?_)
        refine wp_cond_true (by kernel_rfl) ?_
        refine wp_seq_k fun K21 hK21 => ?_
        refine wp_seq_k fun K22 hK22 => ?_
        refine regionL ?_
        refine oM 44 (.int .i64 ((k1 : Int))) ?_
        refine oM 45 (.slice A ans.length cap) ?_
        refine oT 46 (.int .i64 ((ans.length : Int))) (by kernel_rfl) ?_
        refine oJ 47 (.int .i64 ((k1 : Int))) (.int .i64 ((ans.length : Int))) (.bool (decide ((k1 : Int) < (ans.length : Int)))) (egI _ _ _ _ _) (bLtI ((k1 : Int)) ((ans.length : Int))) ?_
        refine endL ?_
        try simp only [Act.put, sA, sB, sC]
        refine thenN (hK22 _ _ ?_)
        refine wp_cond_split (t := decide ((k1 : Int) < (ans.length : Int))) (by kernel_rfl) (fun h23 => ?_) (fun h23 => ?_)
        · skip
          have g23 : (k1 : Int) < (ans.length : Int) := by simpa using h23
          obtain ⟨ad, hA1, had, hcell⟩ := hin.at_ (k := k1) (by omega)
          refine region_row [(some 48, .val (.slice A ans.length cap)), (some 49, .val (.int .i64 ((k1 : Int)))), (some 50, .val (.pointer (some (ad.add k1)))), (some 51, .val (.int .u8 (ans.getD k1 0))), (some 12, .val (.int .u8 (ans.getD k1 0)))] (by kernel_rfl) ⟨fun p l a w I hd => heMove (.inl rfl) (by kernel_rfl) w, fun p l a w I hd => heMove (.inl rfl) (by kernel_rfl) w, fun p l a w I hd => heIndex (V := .slice A ans.length cap) (W := .int .i64 ((k1 : Int))) rfl (by kernel_rfl) (by kernel_rfl) (by rw [hA1]; exact ixk _ _ _ _ (by omega) _), fun p l a w I hd => heLoad rfl (by kernel_rfl) (ld8 ((hb.trans (I.below.mono hb.size)).cell (p := ad.add k1) (by rw [add_block]; exact had) |>.trans hcell)), fun p l a w I hd => heMove (.inr rfl) (by kernel_rfl) w, trivial⟩ ?_
          intro p24 W24 hE
          have rb2_0 := rb2_0.below hE.1 rb2_0.lt
          have rb11_7 := rb11_7.below hE.1 rb11_7.lt
          have rb11_8 := rb11_8.below hE.1 rb11_8.lt
          have own := own_below own hE.1
          have hb := hb.trans (hE.1.mono hb.size)
          have hB := hB.trans (hE.1.mono hB.size)
          clear hE
          try simp only [litA, layL, Pl.value, sA, sB, sC]
          refine thenN (hK21 _ _ ?_)
          refine regionL ?_
          refine oM 52 (.int .i64 ((k1 : Int))) ?_
          refine oJ 53 (.int .i64 ((k1 : Int))) (.int .i64 (1)) (.int .i64 (((k1 + 1 : Nat) : Int))) (egI _ _ _ _ _) (bInc k1 (by omega)) ?_
          refine oA 8 (.int .i64 (((k1 + 1 : Nat) : Int))) ?_
          refine endL ?_
          try simp only [Act.put, sA, sB, sC]
          refine thenN (hK18 _ _ ?_)
          refine regionL <| oM 54 (.slice Av got1.length cv) <| oM 55 (.int .u8 (ans.getD k1 0)) <| oV 56 1 #[.int .u8 (ans.getD k1 0)] 5 #[(0, .int .u8 (ans.getD k1 0))] (bs1 (ans.getD k1 0) _) ?_
          have hBa := hB.alloc hB.size (.cells #[.int .u8 (ans.getD k1 0)] 5)
          refine oE (c := 1) W2 W2.heap.size [ans.getD k1 0] hBa (Nat.le_refl _) hBa.size (own.alloc _) (byte_new W24 (ans.getD k1 0) _) (fun h => by cases h) (by simp; omega) ?_
          intro v2 w2 own2 hB2 hs2
          refine oA 6 v2 ?_
          refine endL ?_
          try simp only [Act.put, sA, sB, sC]
          refine blockN ?_
          have own3 : w2.ownsRow W2.heap.size 5 1 v2 (got1 ++ [ans.getD k1 0]).length (bvs (got1 ++ [ans.getD k1 0])) := by rw [List.length_append]; exact own2
          obtain ⟨A3, c3, hv3, -⟩ := own_slice own3
          subst hv3
          have hkt := hct h14
          have hb := hb0.trans (hB2.mono hb0.size)
          exact thenN ⟨⟨got1 ++ [ans.getD k1 0], k1 + 1, n1 + c.t, .slice A3 (got1 ++ [ans.getD k1 0]).length c3, y4, y5, pT b11_7 0, pT b11_8 0, .bool (d), .int .u8 (ans.getD k1 0), .slice Av got1.length cv, .int .i64 ((got1.length : Int)), .bool (decide ((got1.length : Int) < 200)), .tuple #[cyV c, regsV s, .bool (d)], regsV g, .slice Av got1.length cv, .tuple #[cyV c, regsV s, .bool (d)], cyV c, regsV s, .bool (d), .bool (d), y24, y25, y26, .int .i64 (n1), pT b11_7 3, .int .i64 (c.t), .int .i64 (n1 + c.t), pT b11_7 0, .int .i64 (c.kind), .bool (true), .bool (true), undef, undef, undef, .bool (true), .bool (true), undef, undef, undef, .bool (true), .int .i64 ((k1 : Int)), .slice A ans.length cap, .int .i64 ((ans.length : Int)), .bool (decide ((k1 : Int) < (ans.length : Int))), .slice A ans.length cap, .int .i64 ((k1 : Int)), .pointer (some (ad.add k1)), .int .u8 (ans.getD k1 0), .int .i64 ((k1 : Int)), .int .i64 (((k1 + 1 : Nat) : Int)), .slice Av got1.length cv, .int .u8 (ans.getD k1 0), .slice (some ⟨W24.heap.size, 0, none⟩) 1 1, .slice A3 (got1 ++ [ans.getD k1 0]).length c3, rfl, hB2, own3, hg8.append (byte_list (getD8 hans k1)), (by rw [List.length_append, List.length_singleton]; omega), (by omega), (by rw [List.length_append, List.length_singleton]; omega), (by have hs := takes_read (rd := readsM) hF h14 (by simp only [readsM, h20, Bool.false_or, Bool.true_or]) (by omega) (ans.drop k1) n1; rw [drop_head, List.tail_drop] at hs; exact hs.trans hT), (by rw [List.length_append, List.length_singleton]; omega)⟩, by simp [lenV]; omega⟩
        · skip
          have g23 : ¬ (k1 : Int) < (ans.length : Int) := by simpa using h23
          refine wp_skip ?_
          refine thenN (hK21 _ _ ?_)
          refine regionL ?_
          refine oM 52 (.int .i64 ((k1 : Int))) ?_
          refine oJ 53 (.int .i64 ((k1 : Int))) (.int .i64 (1)) (.int .i64 (((k1 + 1 : Nat) : Int))) (egI _ _ _ _ _) (bInc k1 (by omega)) ?_
          refine oA 8 (.int .i64 (((k1 + 1 : Nat) : Int))) ?_
          refine endL ?_
          try simp only [Act.put, sA, sB, sC]
          refine thenN (hK18 _ _ ?_)
          refine regionL <| oM 54 (.slice Av got1.length cv) <| oM 55 (.int .u8 (0)) <| oV 56 1 #[.int .u8 (0)] 5 #[(0, .int .u8 (0))] (bs1 0 _) ?_
          have hBa := hB.alloc hB.size (.cells #[.int .u8 (0)] 5)
          refine oE (c := 1) W2 W2.heap.size [0] hBa (Nat.le_refl _) hBa.size (own.alloc _) (byte_new W11 0 _) (fun h => by cases h) (by simp; omega) ?_
          intro v2 w2 own2 hB2 hs2
          refine oA 6 v2 ?_
          refine endL ?_
          try simp only [Act.put, sA, sB, sC]
          refine blockN ?_
          have own3 : w2.ownsRow W2.heap.size 5 1 v2 (got1 ++ [0]).length (bvs (got1 ++ [0])) := by rw [List.length_append]; exact own2
          obtain ⟨A3, c3, hv3, -⟩ := own_slice own3
          subst hv3
          have hkt := hct h14
          have hb := hb0.trans (hB2.mono hb0.size)
          exact thenN ⟨⟨got1 ++ [0], k1 + 1, n1 + c.t, .slice A3 (got1 ++ [0]).length c3, y4, y5, pT b11_7 0, pT b11_8 0, .bool (d), .int .u8 (0), .slice Av got1.length cv, .int .i64 ((got1.length : Int)), .bool (decide ((got1.length : Int) < 200)), .tuple #[cyV c, regsV s, .bool (d)], regsV g, .slice Av got1.length cv, .tuple #[cyV c, regsV s, .bool (d)], cyV c, regsV s, .bool (d), .bool (d), y24, y25, y26, .int .i64 (n1), pT b11_7 3, .int .i64 (c.t), .int .i64 (n1 + c.t), pT b11_7 0, .int .i64 (c.kind), .bool (true), .bool (true), undef, undef, undef, .bool (true), .bool (true), undef, undef, undef, .bool (true), .int .i64 ((k1 : Int)), .slice A ans.length cap, .int .i64 ((ans.length : Int)), .bool (decide ((k1 : Int) < (ans.length : Int))), y48, y49, y50, y51, .int .i64 ((k1 : Int)), .int .i64 (((k1 + 1 : Nat) : Int)), .slice Av got1.length cv, .int .u8 (0), .slice (some ⟨W11.heap.size, 0, none⟩) 1 1, .slice A3 (got1 ++ [0]).length c3, rfl, hB2, own3, hg8.append (byte_list (B8.zero)), (by rw [List.length_append, List.length_singleton]; omega), (by omega), (by rw [List.length_append, List.length_singleton]; omega), (by have hs := takes_read (rd := readsM) hF h14 (by simp only [readsM, h20, Bool.false_or, Bool.true_or]) (by omega) (ans.drop k1) n1; rw [drop_head, List.tail_drop, getD_out (by omega)] at hs; exact hs.trans hT), (by rw [List.length_append, List.length_singleton]; omega)⟩, by simp [lenV]; omega⟩
      · skip
        have g20 : ¬ c.kind = 1 := by simpa using h20
        rewrite [h20]
        refine oT 35 (pT b11_7 0) (heField (V := pT b11_7 0) (R := pT b11_7 0) rfl (by kernel_rfl) (fC0 b11_7) _) ?_
        refine oT 36 (.int .i64 (c.kind)) (heLoad rfl (by kernel_rfl) (ldI (rb11_7.at 0 (.int .i64 (c.kind))))) ?_
        refine oT 37 (.bool (c.kind == 2)) (heBin (V := .int .i64 (c.kind)) (W := .int .i64 (2)) (R := .bool (c.kind == 2)) rfl (by kernel_rfl) (by kernel_rfl) (egI _ _ _ _ _) (bEqI c.kind 2) _) ?_
        refine oP 38 (.bool (c.kind == 2)) false ?_
        refine oM 39 (.bool (c.kind == 2)) ?_
        rcases Bool.eq_false_or_eq_true (c.kind == 2) with h25 | h25
        · skip
          have g25 : c.kind = 2 := by simpa using h25
          rewrite [h25]
          refine oZ 40 ?_
          refine oZ 41 ?_
          refine oZ 42 ?_
          refine oP 43 (.bool (true)) true ?_
          refine endL ?_
          try simp only [Act.put, sA, sB, sC]
          refine thenN (hK19 _ _ ?_)
          refine wp_cond_true (by kernel_rfl) ?_
          refine wp_seq_k fun K26 hK26 => ?_
          refine wp_seq_k fun K27 hK27 => ?_
          refine regionL ?_
          refine oM 44 (.int .i64 ((k1 : Int))) ?_
          refine oM 45 (.slice A ans.length cap) ?_
          refine oT 46 (.int .i64 ((ans.length : Int))) (by kernel_rfl) ?_
          refine oJ 47 (.int .i64 ((k1 : Int))) (.int .i64 ((ans.length : Int))) (.bool (decide ((k1 : Int) < (ans.length : Int)))) (egI _ _ _ _ _) (bLtI ((k1 : Int)) ((ans.length : Int))) ?_
          refine endL ?_
          try simp only [Act.put, sA, sB, sC]
          refine thenN (hK27 _ _ ?_)
          refine wp_cond_split (t := decide ((k1 : Int) < (ans.length : Int))) (by kernel_rfl) (fun h28 => ?_) (fun h28 => ?_)
          · skip
            have g28 : (k1 : Int) < (ans.length : Int) := by simpa using h28
            obtain ⟨ad, hA1, had, hcell⟩ := hin.at_ (k := k1) (by omega)
            refine region_row [(some 48, .val (.slice A ans.length cap)), (some 49, .val (.int .i64 ((k1 : Int)))), (some 50, .val (.pointer (some (ad.add k1)))), (some 51, .val (.int .u8 (ans.getD k1 0))), (some 12, .val (.int .u8 (ans.getD k1 0)))] (by kernel_rfl) ⟨fun p l a w I hd => heMove (.inl rfl) (by kernel_rfl) w, fun p l a w I hd => heMove (.inl rfl) (by kernel_rfl) w, fun p l a w I hd => heIndex (V := .slice A ans.length cap) (W := .int .i64 ((k1 : Int))) rfl (by kernel_rfl) (by kernel_rfl) (by rw [hA1]; exact ixk _ _ _ _ (by omega) _), fun p l a w I hd => heLoad rfl (by kernel_rfl) (ld8 ((hb.trans (I.below.mono hb.size)).cell (p := ad.add k1) (by rw [add_block]; exact had) |>.trans hcell)), fun p l a w I hd => heMove (.inr rfl) (by kernel_rfl) w, trivial⟩ ?_
            intro p29 W29 hE
            have rb2_0 := rb2_0.below hE.1 rb2_0.lt
            have rb11_7 := rb11_7.below hE.1 rb11_7.lt
            have rb11_8 := rb11_8.below hE.1 rb11_8.lt
            have own := own_below own hE.1
            have hb := hb.trans (hE.1.mono hb.size)
            have hB := hB.trans (hE.1.mono hB.size)
            clear hE
            try simp only [litA, layL, Pl.value, sA, sB, sC]
            refine thenN (hK26 _ _ ?_)
            refine regionL ?_
            refine oM 52 (.int .i64 ((k1 : Int))) ?_
            refine oJ 53 (.int .i64 ((k1 : Int))) (.int .i64 (1)) (.int .i64 (((k1 + 1 : Nat) : Int))) (egI _ _ _ _ _) (bInc k1 (by omega)) ?_
            refine oA 8 (.int .i64 (((k1 + 1 : Nat) : Int))) ?_
            refine endL ?_
            try simp only [Act.put, sA, sB, sC]
            refine thenN (hK18 _ _ ?_)
            refine regionL <| oM 54 (.slice Av got1.length cv) <| oM 55 (.int .u8 (ans.getD k1 0)) <| oV 56 1 #[.int .u8 (ans.getD k1 0)] 5 #[(0, .int .u8 (ans.getD k1 0))] (bs1 (ans.getD k1 0) _) ?_
            have hBa := hB.alloc hB.size (.cells #[.int .u8 (ans.getD k1 0)] 5)
            refine oE (c := 1) W2 W2.heap.size [ans.getD k1 0] hBa (Nat.le_refl _) hBa.size (own.alloc _) (byte_new W29 (ans.getD k1 0) _) (fun h => by cases h) (by simp; omega) ?_
            intro v2 w2 own2 hB2 hs2
            refine oA 6 v2 ?_
            refine endL ?_
            try simp only [Act.put, sA, sB, sC]
            refine blockN ?_
            have own3 : w2.ownsRow W2.heap.size 5 1 v2 (got1 ++ [ans.getD k1 0]).length (bvs (got1 ++ [ans.getD k1 0])) := by rw [List.length_append]; exact own2
            obtain ⟨A3, c3, hv3, -⟩ := own_slice own3
            subst hv3
            have hkt := hct h14
            have hb := hb0.trans (hB2.mono hb0.size)
            exact thenN ⟨⟨got1 ++ [ans.getD k1 0], k1 + 1, n1 + c.t, .slice A3 (got1 ++ [ans.getD k1 0]).length c3, y4, y5, pT b11_7 0, pT b11_8 0, .bool (d), .int .u8 (ans.getD k1 0), .slice Av got1.length cv, .int .i64 ((got1.length : Int)), .bool (decide ((got1.length : Int) < 200)), .tuple #[cyV c, regsV s, .bool (d)], regsV g, .slice Av got1.length cv, .tuple #[cyV c, regsV s, .bool (d)], cyV c, regsV s, .bool (d), .bool (d), y24, y25, y26, .int .i64 (n1), pT b11_7 3, .int .i64 (c.t), .int .i64 (n1 + c.t), pT b11_7 0, .int .i64 (c.kind), .bool (false), .bool (false), pT b11_7 0, .int .i64 (c.kind), .bool (true), .bool (true), .bool (true), undef, undef, undef, .bool (true), .int .i64 ((k1 : Int)), .slice A ans.length cap, .int .i64 ((ans.length : Int)), .bool (decide ((k1 : Int) < (ans.length : Int))), .slice A ans.length cap, .int .i64 ((k1 : Int)), .pointer (some (ad.add k1)), .int .u8 (ans.getD k1 0), .int .i64 ((k1 : Int)), .int .i64 (((k1 + 1 : Nat) : Int)), .slice Av got1.length cv, .int .u8 (ans.getD k1 0), .slice (some ⟨W29.heap.size, 0, none⟩) 1 1, .slice A3 (got1 ++ [ans.getD k1 0]).length c3, rfl, hB2, own3, hg8.append (byte_list (getD8 hans k1)), (by rw [List.length_append, List.length_singleton]; omega), (by omega), (by rw [List.length_append, List.length_singleton]; omega), (by have hs := takes_read (rd := readsM) hF h14 (by simp only [readsM, h20, h25, Bool.false_or, Bool.true_or]) (by omega) (ans.drop k1) n1; rw [drop_head, List.tail_drop] at hs; exact hs.trans hT), (by rw [List.length_append, List.length_singleton]; omega)⟩, by simp [lenV]; omega⟩
          · skip
            have g28 : ¬ (k1 : Int) < (ans.length : Int) := by simpa using h28
            refine wp_skip ?_
            refine thenN (hK26 _ _ ?_)
            refine regionL ?_
            refine oM 52 (.int .i64 ((k1 : Int))) ?_
            refine oJ 53 (.int .i64 ((k1 : Int))) (.int .i64 (1)) (.int .i64 (((k1 + 1 : Nat) : Int))) (egI _ _ _ _ _) (bInc k1 (by omega)) ?_
            refine oA 8 (.int .i64 (((k1 + 1 : Nat) : Int))) ?_
            refine endL ?_
            try simp only [Act.put, sA, sB, sC]
            refine thenN (hK18 _ _ ?_)
            refine regionL <| oM 54 (.slice Av got1.length cv) <| oM 55 (.int .u8 (0)) <| oV 56 1 #[.int .u8 (0)] 5 #[(0, .int .u8 (0))] (bs1 0 _) ?_
            have hBa := hB.alloc hB.size (.cells #[.int .u8 (0)] 5)
            refine oE (c := 1) W2 W2.heap.size [0] hBa (Nat.le_refl _) hBa.size (own.alloc _) (byte_new W11 0 _) (fun h => by cases h) (by simp; omega) ?_
            intro v2 w2 own2 hB2 hs2
            refine oA 6 v2 ?_
            refine endL ?_
            try simp only [Act.put, sA, sB, sC]
            refine blockN ?_
            have own3 : w2.ownsRow W2.heap.size 5 1 v2 (got1 ++ [0]).length (bvs (got1 ++ [0])) := by rw [List.length_append]; exact own2
            obtain ⟨A3, c3, hv3, -⟩ := own_slice own3
            subst hv3
            have hkt := hct h14
            have hb := hb0.trans (hB2.mono hb0.size)
            exact thenN ⟨⟨got1 ++ [0], k1 + 1, n1 + c.t, .slice A3 (got1 ++ [0]).length c3, y4, y5, pT b11_7 0, pT b11_8 0, .bool (d), .int .u8 (0), .slice Av got1.length cv, .int .i64 ((got1.length : Int)), .bool (decide ((got1.length : Int) < 200)), .tuple #[cyV c, regsV s, .bool (d)], regsV g, .slice Av got1.length cv, .tuple #[cyV c, regsV s, .bool (d)], cyV c, regsV s, .bool (d), .bool (d), y24, y25, y26, .int .i64 (n1), pT b11_7 3, .int .i64 (c.t), .int .i64 (n1 + c.t), pT b11_7 0, .int .i64 (c.kind), .bool (false), .bool (false), pT b11_7 0, .int .i64 (c.kind), .bool (true), .bool (true), .bool (true), undef, undef, undef, .bool (true), .int .i64 ((k1 : Int)), .slice A ans.length cap, .int .i64 ((ans.length : Int)), .bool (decide ((k1 : Int) < (ans.length : Int))), y48, y49, y50, y51, .int .i64 ((k1 : Int)), .int .i64 (((k1 + 1 : Nat) : Int)), .slice Av got1.length cv, .int .u8 (0), .slice (some ⟨W11.heap.size, 0, none⟩) 1 1, .slice A3 (got1 ++ [0]).length c3, rfl, hB2, own3, hg8.append (byte_list (B8.zero)), (by rw [List.length_append, List.length_singleton]; omega), (by omega), (by rw [List.length_append, List.length_singleton]; omega), (by have hs := takes_read (rd := readsM) hF h14 (by simp only [readsM, h20, h25, Bool.false_or, Bool.true_or]) (by omega) (ans.drop k1) n1; rw [drop_head, List.tail_drop, getD_out (by omega)] at hs; exact hs.trans hT), (by rw [List.length_append, List.length_singleton]; omega)⟩, by simp [lenV]; omega⟩
        · skip
          have g25 : ¬ c.kind = 2 := by simpa using h25
          rewrite [h25]
          refine oT 40 (pT b11_7 0) (heField (V := pT b11_7 0) (R := pT b11_7 0) rfl (by kernel_rfl) (fC0 b11_7) _) ?_
          refine oT 41 (.int .i64 (c.kind)) (heLoad rfl (by kernel_rfl) (ldI (rb11_7.at 0 (.int .i64 (c.kind))))) ?_
          refine oT 42 (.bool (c.kind == 4)) (heBin (V := .int .i64 (c.kind)) (W := .int .i64 (4)) (R := .bool (c.kind == 4)) rfl (by kernel_rfl) (by kernel_rfl) (egI _ _ _ _ _) (bEqI c.kind 4) _) ?_
          refine oP 43 (.bool (c.kind == 4)) false ?_
          refine endL ?_
          try simp only [Act.put, sA, sB, sC]
          refine thenN (hK19 _ _ ?_)
          refine wp_cond_split (t := c.kind == 4) (by kernel_rfl) (fun h30 => ?_) (fun h30 => ?_)
          · skip
            have g30 : c.kind = 4 := by simpa using h30
            refine wp_seq_k fun K31 hK31 => ?_
            refine wp_seq_k fun K32 hK32 => ?_
            refine regionL ?_
            refine oM 44 (.int .i64 ((k1 : Int))) ?_
            refine oM 45 (.slice A ans.length cap) ?_
            refine oT 46 (.int .i64 ((ans.length : Int))) (by kernel_rfl) ?_
            refine oJ 47 (.int .i64 ((k1 : Int))) (.int .i64 ((ans.length : Int))) (.bool (decide ((k1 : Int) < (ans.length : Int)))) (egI _ _ _ _ _) (bLtI ((k1 : Int)) ((ans.length : Int))) ?_
            refine endL ?_
            try simp only [Act.put, sA, sB, sC]
            refine thenN (hK32 _ _ ?_)
            refine wp_cond_split (t := decide ((k1 : Int) < (ans.length : Int))) (by kernel_rfl) (fun h33 => ?_) (fun h33 => ?_)
            · skip
              have g33 : (k1 : Int) < (ans.length : Int) := by simpa using h33
              obtain ⟨ad, hA1, had, hcell⟩ := hin.at_ (k := k1) (by omega)
              refine region_row [(some 48, .val (.slice A ans.length cap)), (some 49, .val (.int .i64 ((k1 : Int)))), (some 50, .val (.pointer (some (ad.add k1)))), (some 51, .val (.int .u8 (ans.getD k1 0))), (some 12, .val (.int .u8 (ans.getD k1 0)))] (by kernel_rfl) ⟨fun p l a w I hd => heMove (.inl rfl) (by kernel_rfl) w, fun p l a w I hd => heMove (.inl rfl) (by kernel_rfl) w, fun p l a w I hd => heIndex (V := .slice A ans.length cap) (W := .int .i64 ((k1 : Int))) rfl (by kernel_rfl) (by kernel_rfl) (by rw [hA1]; exact ixk _ _ _ _ (by omega) _), fun p l a w I hd => heLoad rfl (by kernel_rfl) (ld8 ((hb.trans (I.below.mono hb.size)).cell (p := ad.add k1) (by rw [add_block]; exact had) |>.trans hcell)), fun p l a w I hd => heMove (.inr rfl) (by kernel_rfl) w, trivial⟩ ?_
              intro p34 W34 hE
              have rb2_0 := rb2_0.below hE.1 rb2_0.lt
              have rb11_7 := rb11_7.below hE.1 rb11_7.lt
              have rb11_8 := rb11_8.below hE.1 rb11_8.lt
              have own := own_below own hE.1
              have hb := hb.trans (hE.1.mono hb.size)
              have hB := hB.trans (hE.1.mono hB.size)
              clear hE
              try simp only [litA, layL, Pl.value, sA, sB, sC]
              refine thenN (hK31 _ _ ?_)
              refine regionL ?_
              refine oM 52 (.int .i64 ((k1 : Int))) ?_
              refine oJ 53 (.int .i64 ((k1 : Int))) (.int .i64 (1)) (.int .i64 (((k1 + 1 : Nat) : Int))) (egI _ _ _ _ _) (bInc k1 (by omega)) ?_
              refine oA 8 (.int .i64 (((k1 + 1 : Nat) : Int))) ?_
              refine endL ?_
              try simp only [Act.put, sA, sB, sC]
              refine thenN (hK18 _ _ ?_)
              refine regionL <| oM 54 (.slice Av got1.length cv) <| oM 55 (.int .u8 (ans.getD k1 0)) <| oV 56 1 #[.int .u8 (ans.getD k1 0)] 5 #[(0, .int .u8 (ans.getD k1 0))] (bs1 (ans.getD k1 0) _) ?_
              have hBa := hB.alloc hB.size (.cells #[.int .u8 (ans.getD k1 0)] 5)
              refine oE (c := 1) W2 W2.heap.size [ans.getD k1 0] hBa (Nat.le_refl _) hBa.size (own.alloc _) (byte_new W34 (ans.getD k1 0) _) (fun h => by cases h) (by simp; omega) ?_
              intro v2 w2 own2 hB2 hs2
              refine oA 6 v2 ?_
              refine endL ?_
              try simp only [Act.put, sA, sB, sC]
              refine blockN ?_
              have own3 : w2.ownsRow W2.heap.size 5 1 v2 (got1 ++ [ans.getD k1 0]).length (bvs (got1 ++ [ans.getD k1 0])) := by rw [List.length_append]; exact own2
              obtain ⟨A3, c3, hv3, -⟩ := own_slice own3
              subst hv3
              have hkt := hct h14
              have hb := hb0.trans (hB2.mono hb0.size)
              exact thenN ⟨⟨got1 ++ [ans.getD k1 0], k1 + 1, n1 + c.t, .slice A3 (got1 ++ [ans.getD k1 0]).length c3, y4, y5, pT b11_7 0, pT b11_8 0, .bool (d), .int .u8 (ans.getD k1 0), .slice Av got1.length cv, .int .i64 ((got1.length : Int)), .bool (decide ((got1.length : Int) < 200)), .tuple #[cyV c, regsV s, .bool (d)], regsV g, .slice Av got1.length cv, .tuple #[cyV c, regsV s, .bool (d)], cyV c, regsV s, .bool (d), .bool (d), y24, y25, y26, .int .i64 (n1), pT b11_7 3, .int .i64 (c.t), .int .i64 (n1 + c.t), pT b11_7 0, .int .i64 (c.kind), .bool (false), .bool (false), pT b11_7 0, .int .i64 (c.kind), .bool (false), .bool (false), .bool (false), pT b11_7 0, .int .i64 (c.kind), .bool (c.kind == 4), .bool (c.kind == 4), .int .i64 ((k1 : Int)), .slice A ans.length cap, .int .i64 ((ans.length : Int)), .bool (decide ((k1 : Int) < (ans.length : Int))), .slice A ans.length cap, .int .i64 ((k1 : Int)), .pointer (some (ad.add k1)), .int .u8 (ans.getD k1 0), .int .i64 ((k1 : Int)), .int .i64 (((k1 + 1 : Nat) : Int)), .slice Av got1.length cv, .int .u8 (ans.getD k1 0), .slice (some ⟨W34.heap.size, 0, none⟩) 1 1, .slice A3 (got1 ++ [ans.getD k1 0]).length c3, rfl, hB2, own3, hg8.append (byte_list (getD8 hans k1)), (by rw [List.length_append, List.length_singleton]; omega), (by omega), (by rw [List.length_append, List.length_singleton]; omega), (by have hs := takes_read (rd := readsM) hF h14 (by simp only [readsM, h20, h25, h30, Bool.false_or, Bool.true_or]) (by omega) (ans.drop k1) n1; rw [drop_head, List.tail_drop] at hs; exact hs.trans hT), (by rw [List.length_append, List.length_singleton]; omega)⟩, by simp [lenV]; omega⟩
            · skip
              have g33 : ¬ (k1 : Int) < (ans.length : Int) := by simpa using h33
              refine wp_skip ?_
              refine thenN (hK31 _ _ ?_)
              refine regionL ?_
              refine oM 52 (.int .i64 ((k1 : Int))) ?_
              refine oJ 53 (.int .i64 ((k1 : Int))) (.int .i64 (1)) (.int .i64 (((k1 + 1 : Nat) : Int))) (egI _ _ _ _ _) (bInc k1 (by omega)) ?_
              refine oA 8 (.int .i64 (((k1 + 1 : Nat) : Int))) ?_
              refine endL ?_
              try simp only [Act.put, sA, sB, sC]
              refine thenN (hK18 _ _ ?_)
              refine regionL <| oM 54 (.slice Av got1.length cv) <| oM 55 (.int .u8 (0)) <| oV 56 1 #[.int .u8 (0)] 5 #[(0, .int .u8 (0))] (bs1 0 _) ?_
              have hBa := hB.alloc hB.size (.cells #[.int .u8 (0)] 5)
              refine oE (c := 1) W2 W2.heap.size [0] hBa (Nat.le_refl _) hBa.size (own.alloc _) (byte_new W11 0 _) (fun h => by cases h) (by simp; omega) ?_
              intro v2 w2 own2 hB2 hs2
              refine oA 6 v2 ?_
              refine endL ?_
              try simp only [Act.put, sA, sB, sC]
              refine blockN ?_
              have own3 : w2.ownsRow W2.heap.size 5 1 v2 (got1 ++ [0]).length (bvs (got1 ++ [0])) := by rw [List.length_append]; exact own2
              obtain ⟨A3, c3, hv3, -⟩ := own_slice own3
              subst hv3
              have hkt := hct h14
              have hb := hb0.trans (hB2.mono hb0.size)
              exact thenN ⟨⟨got1 ++ [0], k1 + 1, n1 + c.t, .slice A3 (got1 ++ [0]).length c3, y4, y5, pT b11_7 0, pT b11_8 0, .bool (d), .int .u8 (0), .slice Av got1.length cv, .int .i64 ((got1.length : Int)), .bool (decide ((got1.length : Int) < 200)), .tuple #[cyV c, regsV s, .bool (d)], regsV g, .slice Av got1.length cv, .tuple #[cyV c, regsV s, .bool (d)], cyV c, regsV s, .bool (d), .bool (d), y24, y25, y26, .int .i64 (n1), pT b11_7 3, .int .i64 (c.t), .int .i64 (n1 + c.t), pT b11_7 0, .int .i64 (c.kind), .bool (false), .bool (false), pT b11_7 0, .int .i64 (c.kind), .bool (false), .bool (false), .bool (false), pT b11_7 0, .int .i64 (c.kind), .bool (c.kind == 4), .bool (c.kind == 4), .int .i64 ((k1 : Int)), .slice A ans.length cap, .int .i64 ((ans.length : Int)), .bool (decide ((k1 : Int) < (ans.length : Int))), y48, y49, y50, y51, .int .i64 ((k1 : Int)), .int .i64 (((k1 + 1 : Nat) : Int)), .slice Av got1.length cv, .int .u8 (0), .slice (some ⟨W11.heap.size, 0, none⟩) 1 1, .slice A3 (got1 ++ [0]).length c3, rfl, hB2, own3, hg8.append (byte_list (B8.zero)), (by rw [List.length_append, List.length_singleton]; omega), (by omega), (by rw [List.length_append, List.length_singleton]; omega), (by have hs := takes_read (rd := readsM) hF h14 (by simp only [readsM, h20, h25, h30, Bool.false_or, Bool.true_or]) (by omega) (ans.drop k1) n1; rw [drop_head, List.tail_drop, getD_out (by omega)] at hs; exact hs.trans hT), (by rw [List.length_append, List.length_singleton]; omega)⟩, by simp [lenV]; omega⟩
          · skip
            have g30 : ¬ c.kind = 4 := by simpa using h30
            refine wp_skip ?_
            refine thenN (hK18 _ _ ?_)
            refine regionL <| oM 54 (.slice Av got1.length cv) <| oM 55 (.int .u8 (0)) <| oV 56 1 #[.int .u8 (0)] 5 #[(0, .int .u8 (0))] (bs1 0 _) ?_
            have hBa := hB.alloc hB.size (.cells #[.int .u8 (0)] 5)
            refine oE (c := 1) W2 W2.heap.size [0] hBa (Nat.le_refl _) hBa.size (own.alloc _) (byte_new W11 0 _) (fun h => by cases h) (by simp; omega) ?_
            intro v2 w2 own2 hB2 hs2
            refine oA 6 v2 ?_
            refine endL ?_
            try simp only [Act.put, sA, sB, sC]
            refine blockN ?_
            have own3 : w2.ownsRow W2.heap.size 5 1 v2 (got1 ++ [0]).length (bvs (got1 ++ [0])) := by rw [List.length_append]; exact own2
            obtain ⟨A3, c3, hv3, -⟩ := own_slice own3
            subst hv3
            have hkt := hct h14
            have hb := hb0.trans (hB2.mono hb0.size)
            exact thenN ⟨⟨got1 ++ [0], k1, n1 + c.t, .slice A3 (got1 ++ [0]).length c3, y4, y5, pT b11_7 0, pT b11_8 0, .bool (d), .int .u8 (0), .slice Av got1.length cv, .int .i64 ((got1.length : Int)), .bool (decide ((got1.length : Int) < 200)), .tuple #[cyV c, regsV s, .bool (d)], regsV g, .slice Av got1.length cv, .tuple #[cyV c, regsV s, .bool (d)], cyV c, regsV s, .bool (d), .bool (d), y24, y25, y26, .int .i64 (n1), pT b11_7 3, .int .i64 (c.t), .int .i64 (n1 + c.t), pT b11_7 0, .int .i64 (c.kind), .bool (false), .bool (false), pT b11_7 0, .int .i64 (c.kind), .bool (false), .bool (false), .bool (false), pT b11_7 0, .int .i64 (c.kind), .bool (c.kind == 4), .bool (c.kind == 4), y44, y45, y46, y47, y48, y49, y50, y51, y52, y53, .slice Av got1.length cv, .int .u8 (0), .slice (some ⟨W11.heap.size, 0, none⟩) 1 1, .slice A3 (got1 ++ [0]).length c3, rfl, hB2, own3, hg8.append (byte_list B8.zero), (by rw [List.length_append, List.length_singleton]; omega), (by omega), (by rw [List.length_append, List.length_singleton]; omega), (takes_none (rd := readsM) hF h14 (by simp only [readsM, h20, h25, h30, Bool.false_or, Bool.true_or]) (by omega) (ans.drop k1) n1).trans hT, (by rw [List.length_append, List.length_singleton]; omega)⟩, by simp [lenV]; omega⟩
  · skip
    have g9 : ¬ (got1.length : Int) < 200 := by simpa using h9
    refine wp_exit ?_
    refine thenE ?_
    refine thenE ?_
    refine blockE ?_
    refine thenN (hK6 _ _ ?_)
    refine wp_seq_k fun K35 hK35 => ?_
    refine regionL ?_
    refine oM 58 (.int .i64 (n1)) ?_
    refine oM 59 (.slice Av got1.length cv) ?_
    refine oT 60 (.int .i64 ((got1.length : Int))) (by kernel_rfl) ?_
    refine oA 4 (.int .i64 (n1)) ?_
    refine oA 5 (.int .i64 ((got1.length : Int))) ?_
    refine endL ?_
    try simp only [Act.put, sA, sB, sC]
    refine thenN (hK35 _ _ ?_)
    refine wp_ret ?_
    have hR := hT.symm.trans (takes_full (by omega) _ _)
    exact bodyPost_ret (results_tmp2 rfl _ _ _) rfl ⟨by rw [hR]; rfl, hb⟩
theorem nextTakes_walk (g : Rg) (A : Option Addr) (cap : Nat) (xs : List Int) (hg : RgB g) (w : World) (hc : xs.length ≤ cap) (hm : cap ≤ maxLen) (h8 : Bytes8 xs) (hin : BytesIn w w.heap.size A xs) (hn : A = none → cap = 0) (hM : Masks w) (hD : Digits w) (hC : Courses w) (hO : Modes w) :
    Calls Tryz.prog 6 #[regsV g, .slice A xs.length cap] w fun e w' => e = .returned (.bool true) ∧ Below w.heap.size w w' := by
  have hb := Below.refl w.heap.size w
  have ht : Tabs w w.heap.size := (NextTabs.mk hM hC hD hO).tabs
  go_enter Tryz.func6, Tryz.ntmps6
  refine wp_seq_k fun K1 hK1 => ?_
  refine region_row [(some 2, .box 24 (regsC g) none none), (some 4, .val (.bool (false)))] (by kernel_rfl) ⟨⟨fun k vs e => (by cases e), fun p l a w I hd => heBox rfl (by kernel_rfl) (boxRg _ w)⟩, fun p l a w I hd => heMove (.inr rfl) (by kernel_rfl) w, trivial⟩ ?_
  intro p2 W2 hE
  have hb := hb.trans (hE.1.mono hb.size)
  have rb2_0 : Row W2 (p2 0) 24 (regsC g) := (hE.2.1 0 _ _ _ _ _ rfl).2
  clear hE
  try simp only [litA, layL, Pl.value, sA, sB, sC]
  generalize p2 0 = b2_0 at *
  refine thenN (hK1 _ _ ?_)
  refine wp_seq_k fun K3 hK3 => ?_
  refine region_row [(some 10, .call (.bool (true))), (some 5, .val (.bool (true)))] (by kernel_rfl) ⟨fun p l a w I hd => ⟨_, _, (by kernel_rfl), awake12_any _ (ht.below (hb.trans (I.below.mono hb.size)))⟩, fun p l a w I hd => heMove (.inr rfl) (by kernel_rfl) w, trivial⟩ ?_
  intro p4 W4 hE
  have rb2_0 := rb2_0.below hE.1 rb2_0.lt
  have hb := hb.trans (hE.1.mono hb.size)
  clear hE
  try simp only [litA, layL, Pl.value, sA, sB, sC]
  refine thenN (hK3 _ _ ?_)
  refine wp_seq_k fun K5 hK5 => ?_
  refine wp_seq_k fun K6 hK6 => ?_
  refine regionL ?_
  refine oM 11 (.bool (true)) ?_
  refine oW 12 (.bool (true)) (.bool (false)) (fun _ => rfl) ?_
  refine endL ?_
  try simp only [Act.put, sA, sB, sC]
  refine thenN (hK6 _ _ ?_)
  refine wp_cond_false (by kernel_rfl) ?_
  refine wp_skip ?_
  refine thenN (hK5 _ _ ?_)
  refine wp_seq_k fun K7 hK7 => ?_
  refine wp_seq_k fun K8 hK8 => ?_
  refine regionL ?_
  refine oM 13 (.slice A xs.length cap) ?_
  refine oT 14 (.int .i64 ((xs.length : Int))) (by kernel_rfl) ?_
  refine oJ 15 (.int .i64 ((xs.length : Int))) (.int .i64 (60)) (.bool (decide (60 < (xs.length : Int)))) (egI _ _ _ _ _) (bGtI' ((xs.length : Int)) 60) ?_
  refine endL ?_
  try simp only [Act.put, sA, sB, sC]
  refine thenN (hK8 _ _ ?_)
  refine wp_cond_split (t := decide (60 < (xs.length : Int))) (by kernel_rfl) (fun h9 => ?_) (fun h9 => ?_)
  · skip
    have g9 : 60 < (xs.length : Int) := by simpa using h9
    refine wp_seq_k fun K10 hK10 => ?_
    refine regionL ?_
    refine oA 4 (.bool (true)) ?_
    refine endL ?_
    try simp only [Act.put, sA, sB, sC]
    refine thenN (hK10 _ _ ?_)
    refine wp_ret ?_
    refine thenR ?_
    exact bodyPost_ret (results_tmp rfl _ _ _) rfl ⟨rfl, hb⟩
  · skip
    have g9 : ¬ 60 < (xs.length : Int) := by simpa using h9
    have hs : xs.length ≤ 1000000 := by omega
    refine wp_skip ?_
    refine thenN (hK7 _ _ ?_)
    refine wp_seq_k fun K11 hK11 => ?_
    refine region_row [(some 17, .val (regsV g)), (some 18, .val (.slice A xs.length cap)), (some 19, .call (.tuple #[.int .i64 ((takesOf g xs).1), .int .i64 (((takesOf g xs).2.length : Int))])), (some 16, .val (.tuple #[.int .i64 ((takesOf g xs).1), .int .i64 (((takesOf g xs).2.length : Int))])), (some 20, .val (.int .i64 ((takesOf g xs).1))), (some 21, .val (.int .i64 (((takesOf g xs).2.length : Int)))), (some 6, .val (.int .i64 ((takesOf g xs).1))), (some 7, .val (.int .i64 (((takesOf g xs).2.length : Int))))] (by kernel_rfl) ⟨fun p l a w I hd => heLoad rfl (by kernel_rfl) (ldR (rb2_0.below I.below rb2_0.lt).range), fun p l a w I hd => heMove (.inl rfl) (by kernel_rfl) w, fun p l a w I hd => ⟨_, _, (by kernel_rfl), ntakes_any g hg A cap xs hc h8 _ ((hin.below (hb.trans (I.below.mono hb.size))).more (hb.trans (I.below.mono hb.size)).size) (ht.below (hb.trans (I.below.mono hb.size)))⟩, fun p l a w I hd => heMove (.inl rfl) (by kernel_rfl) w, fun p l a w I hd => heExtract (vs := #[.int .i64 ((takesOf g xs).1), .int .i64 (((takesOf g xs).2.length : Int))]) rfl (by kernel_rfl) (by kernel_rfl) w, fun p l a w I hd => heExtract (vs := #[.int .i64 ((takesOf g xs).1), .int .i64 (((takesOf g xs).2.length : Int))]) rfl (by kernel_rfl) (by kernel_rfl) w, fun p l a w I hd => heMove (.inr rfl) (by kernel_rfl) w, fun p l a w I hd => heMove (.inr rfl) (by kernel_rfl) w, trivial⟩ ?_
    intro p12 W12 hE
    have rb2_0 := rb2_0.below hE.1 rb2_0.lt
    have hb := hb.trans (hE.1.mono hb.size)
    clear hE
    try simp only [litA, layL, Pl.value, sA, sB, sC]
    refine thenN (hK11 _ _ ?_)
    refine wp_seq_k fun K13 hK13 => ?_
    refine region_row [(some 23, .val (regsV g)), (some 24, .val (.slice A xs.length cap)), (some 25, .call (.tuple #[.int .i64 ((takesOf g xs).1), .int .i64 (((takesOf g xs).2.length : Int))])), (some 22, .val (.tuple #[.int .i64 ((takesOf g xs).1), .int .i64 (((takesOf g xs).2.length : Int))])), (some 26, .val (.int .i64 ((takesOf g xs).1))), (some 27, .val (.int .i64 (((takesOf g xs).2.length : Int)))), (some 8, .val (.int .i64 ((takesOf g xs).1))), (some 9, .val (.int .i64 (((takesOf g xs).2.length : Int))))] (by kernel_rfl) ⟨fun p l a w I hd => heLoad rfl (by kernel_rfl) (ldR (rb2_0.below I.below rb2_0.lt).range), fun p l a w I hd => heMove (.inl rfl) (by kernel_rfl) w, fun p l a w I hd => ⟨_, _, (by kernel_rfl), rtakes_any g hg A cap xs hc h8 hs _ ((hin.below (hb.trans (I.below.mono hb.size))).more (hb.trans (I.below.mono hb.size)).size)⟩, fun p l a w I hd => heMove (.inl rfl) (by kernel_rfl) w, fun p l a w I hd => heExtract (vs := #[.int .i64 ((takesOf g xs).1), .int .i64 (((takesOf g xs).2.length : Int))]) rfl (by kernel_rfl) (by kernel_rfl) w, fun p l a w I hd => heExtract (vs := #[.int .i64 ((takesOf g xs).1), .int .i64 (((takesOf g xs).2.length : Int))]) rfl (by kernel_rfl) (by kernel_rfl) w, fun p l a w I hd => heMove (.inr rfl) (by kernel_rfl) w, fun p l a w I hd => heMove (.inr rfl) (by kernel_rfl) w, trivial⟩ ?_
    intro p14 W14 hE
    have rb2_0 := rb2_0.below hE.1 rb2_0.lt
    have hb := hb.trans (hE.1.mono hb.size)
    clear hE
    try simp only [litA, layL, Pl.value, sA, sB, sC]
    refine thenN (hK13 _ _ ?_)
    refine wp_seq_k fun K15 hK15 => ?_
    refine regionL ?_
    refine oM 28 (.int .i64 ((takesOf g xs).1)) ?_
    refine oM 29 (.int .i64 ((takesOf g xs).1)) ?_
    refine oJ 30 (.int .i64 ((takesOf g xs).1)) (.int .i64 ((takesOf g xs).1)) (.bool (true)) (egI _ _ _ _ _) (bEqI0 ((takesOf g xs).1)) ?_
    refine oM 31 (.bool (true)) ?_
    refine oT 32 (.int .i64 (((takesOf g xs).2.length : Int))) (heMove (.inl rfl) (by kernel_rfl) _) ?_
    refine oT 33 (.int .i64 (((takesOf g xs).2.length : Int))) (heMove (.inl rfl) (by kernel_rfl) _) ?_
    refine oT 34 (.bool (true)) (heBin (V := .int .i64 (((takesOf g xs).2.length : Int))) (W := .int .i64 (((takesOf g xs).2.length : Int))) (R := .bool (true)) rfl (by kernel_rfl) (by kernel_rfl) (egI _ _ _ _ _) (bEqI0 (((takesOf g xs).2.length : Int))) _) ?_
    refine oP 35 (.bool (true)) true ?_
    refine oA 4 (.bool (true)) ?_
    refine endL ?_
    try simp only [Act.put, sA, sB, sC]
    refine thenN (hK15 _ _ ?_)
    refine wp_ret ?_
    exact bodyPost_ret (results_tmp rfl _ _ _) rfl ⟨rfl, hb⟩
end Go.Proofs.YtibmpaeaicpbcaaGreatDoor
