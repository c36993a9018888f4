/- Contracts and facts that the claim's proof wants (several texts in one). -/
import Derived.Test.YtibmpaeaicpbcaaGreatDoorNtG4
import Derived.Test.YtibmpaeaicpbcaaGreatDoorNtG5
import Derived.Test.YtibmpaeaicpbcaaGreatDoorNtG6
namespace Go.Proofs.YtibmpaeaicpbcaaGreatDoor
open Go.RowKit
set_option linter.unusedVariables false
set_option linter.unusedSimpArgs false
set_option maxRecDepth 20000
def opRC (o : OpM) : Array Value := #[.int .i64 o.plane, .int .u8 o.code, .int .u8 o.disp, .int .u16 o.imm, .int .i64 o.len, .int .i64 o.skip]
@[reducible] def opR (o : OpM) : Value := .agg (opRC o)
theorem infoOp : (Tryz.prog.info? 39).map (·.size) = some 6 := by kernel_rfl
theorem ldOp {w : World} {b : Nat} {t : TypeId} {o : OpM} (h : Row w b t (opRC o)) : (Instr.loadAt 39 (pT b 0)).run Tryz.prog w = .ok (opR o) w :=
  run_loadAt_mid w b 0 39 (opRC o).toList _ h.range Tryz.underlying39 rfl infoOp
theorem stOp {w : World} {b : Nat} {t : TypeId} {o d : OpM} (h : Row w b t (opRC d)) : (Instr.storeAt 39 (pT b 0) (opR o)).run Tryz.prog w = .ok () (w.setCells b 0 (opRC o).toList) :=
  run_storeAt_mid w b 0 39 (opRC o) h.there infoOp (by simp [opRC, Value.oneCell'])
theorem allocOp (w : World) : (Instr.alloc 39 true (.tuple #[])).run Tryz.prog w = .ok (pT w.heap.size 0) (w.alloc (.cells (opRC zeroOp) 39)) := by
  simp [go_sem, zeroOp, opRC]
section
variable (A : Option Addr) (cap : Nat) (xs : List Int) (hl : xs.length ≤ 140737488355328) (h8 : Bytes8 xs) (w : World) (hin : BytesIn w w.heap.size A xs)
include hl h8 hin
theorem times_ok (hk : okM xs = true) : Calls Tryz.prog 18 #[.slice A xs.length cap] w fun e w' => e = .returned (.tuple #[opR (opOf xs), .bool true]) ∧ Below w.heap.size w w' := by
  have h := rnext_any A cap xs hl h8 w hin
  rw [nextO, if_pos hk, hk] at h
  exact h
theorem times_no (hk : okM xs = false) : Calls Tryz.prog 18 #[.slice A xs.length cap] w fun e w' => e = .returned (.tuple #[opR zeroOp, .bool false]) ∧ Below w.heap.size w w' := by
  have h := rnext_any A cap xs hl h8 w hin
  rw [nextO, if_neg (by rw [hk]; simp), hk] at h
  exact h
end
theorem times_takes {g : Rg} (hh : g.halted = false) {xs : List Int} (h8 : Bytes8 xs) (hk : okM xs = true) (hl : xs.length ≤ 40) : ∃ t, (takesOf g xs).1 = ofM (opOf xs).plane (opOf xs).code (opOf xs).skip t ∧ B8 (opOf xs).code := by
  have hne : xs ≠ [] := by
    rintro rfl
    have := lead_lt_len []
    unfold okM at hk
    have := of_decide_eq_true hk
    simp at this
    omega
  obtain ⟨t, e, h1, h2, h3, h4, h5⟩ := next_times hh h8 (Nat.le_trans (lead_le xs) (by omega)) hne
  exact ⟨t, e.trans (of_small _ _ _ _ ⟨h1, h2⟩ ⟨h4, by omega⟩ h3).symm, h3⟩
theorem times_n (g : Rg) (hg : RgB g) (A : Option Addr) (cap : Nat) (xs : List Int) (hc : xs.length ≤ cap) (h8 : Bytes8 xs) {n : Int} (hT : (takesOf g xs).1 = n) (w : World) (hin : BytesIn w w.heap.size A xs) (ht : Tabs w w.heap.size) :
    Calls Tryz.prog 16 #[regsV g, .slice A xs.length cap] w fun e w' => e = .returned (.tuple #[.int .i64 n, .int .i64 ((takesOf g xs).2.length : Int)]) ∧ Below w.heap.size w w' := by
  have h := ntakes_any g hg A cap xs hc h8 w hin ht
  rw [hT] at h
  exact h
theorem times_of {xs : List Int} (hc : B8 (opOf xs).code) (t : Bool) (w : World) : Calls Tryz.prog 19 #[opR (opOf xs), .bool t] w fun e w' => e = .returned (.int .i64 (ofM (opOf xs).plane (opOf xs).code (opOf xs).skip t)) ∧ Below w.heap.size w w' := rTimesOf_any _ _ _ _ _ _ t hc w
set_option maxRecDepth 20000 in
set_option maxHeartbeats 16000000 in
theorem nextTimes_walk (g : Rg) (A : Option Addr) (cap : Nat) (xs : List Int) (hg : RgB g) (w : World) (hc : xs.length ≤ cap) (hm : cap ≤ maxLen) (h8 : Bytes8 xs) (hin : BytesIn w w.heap.size A xs) (hn : A = none → cap = 0) (hM : Masks w) (hD : Digits w) (hC : Courses w) (hO : Modes w) :
    Calls Tryz.prog 7 #[regsV g, .slice A xs.length cap] w fun e w' => e = .returned (.bool true) ∧ Below w.heap.size w w' := by
  have hb := Below.refl w.heap.size w
  have ht : Tabs w w.heap.size := (NextTabs.mk hM hC hD hO).tabs
  go_enter Tryz.func7, Tryz.ntmps7
  refine wp_seq_k fun K1 hK1 => ?_
  refine region_row [(some 2, .box 24 (regsC g) none none), (some 4, .val (.bool (false)))] (by kernel_rfl) ⟨⟨fun k vs e => (by cases e), fun p l a w I hd => heBox rfl (by kernel_rfl) (boxRg _ w)⟩, fun p l a w I hd => heMove (.inr rfl) (by kernel_rfl) w, trivial⟩ ?_
  intro p2 W2 hE
  have hb := hb.trans (hE.1.mono hb.size)
  have rb2_0 : Row W2 (p2 0) 24 (regsC g) := (hE.2.1 0 _ _ _ _ _ rfl).2
  clear hE
  try simp only [litA, layL, Pl.value, sA, sB, sC]
  generalize p2 0 = b2_0 at *
  refine thenN (hK1 _ _ ?_)
  refine wp_seq_k fun K3 hK3 => ?_
  refine region_row [(some 10, .call (.bool (true))), (some 5, .val (.bool (true)))] (by kernel_rfl) ⟨fun p l a w I hd => ⟨_, _, (by kernel_rfl), awake12_any _ (ht.below (hb.trans (I.below.mono hb.size)))⟩, fun p l a w I hd => heMove (.inr rfl) (by kernel_rfl) w, trivial⟩ ?_
  intro p4 W4 hE
  have rb2_0 := rb2_0.below hE.1 rb2_0.lt
  have hb := hb.trans (hE.1.mono hb.size)
  clear hE
  try simp only [litA, layL, Pl.value, sA, sB, sC]
  refine thenN (hK3 _ _ ?_)
  refine wp_seq_k fun K5 hK5 => ?_
  refine wp_seq_k fun K6 hK6 => ?_
  refine regionL ?_
  refine oM 11 (.bool (true)) ?_
  refine oW 12 (.bool (true)) (.bool (false)) (fun _ => rfl) ?_
  refine endL ?_
  try simp only [Act.put, sA, sB, sC]
  refine thenN (hK6 _ _ ?_)
  refine wp_cond_false (by kernel_rfl) ?_
  refine wp_skip ?_
  refine thenN (hK5 _ _ ?_)
  refine wp_seq_k fun K7 hK7 => ?_
  refine wp_seq_k fun K8 hK8 => ?_
  refine regionL ?_
  refine oM 13 (.slice A xs.length cap) ?_
  refine oT 14 (.int .i64 ((xs.length : Int))) (by kernel_rfl) ?_
  refine oJ 15 (.int .i64 ((xs.length : Int))) (.int .i64 (40)) (.bool (decide (40 < (xs.length : Int)))) (egI _ _ _ _ _) (bGtI' ((xs.length : Int)) 40) ?_
  refine oM 16 (.bool (decide (40 < (xs.length : Int)))) ?_
  rcases Bool.eq_false_or_eq_true (decide (40 < (xs.length : Int))) with h9 | h9
  · skip
    have g9 : 40 < (xs.length : Int) := by simpa using h9
    rewrite [h9]
    refine oZ 17 ?_
    refine oZ 18 ?_
    refine oP 19 (.bool (true)) true ?_
    refine endL ?_
    try simp only [Act.put, sA, sB, sC]
    refine thenN (hK8 _ _ ?_)
    refine wp_cond_true (by kernel_rfl) ?_
    refine wp_seq_k fun K10 hK10 => ?_
    refine regionL ?_
    refine oA 4 (.bool (true)) ?_
    refine endL ?_
    try simp only [Act.put, sA, sB, sC]
    refine thenN (hK10 _ _ ?_)
    refine wp_ret ?_
    refine thenR ?_
    exact bodyPost_ret (results_tmp rfl _ _ _) rfl ⟨rfl, hb⟩
  · skip
    have g9 : ¬ 40 < (xs.length : Int) := by simpa using h9
    rewrite [h9]
    refine oT 17 (pT b2_0 17) (heField (V := pT b2_0 0) (R := pT b2_0 17) rfl (by kernel_rfl) (fR17 b2_0) _) ?_
    refine oT 18 (.bool (g.halted)) (heLoad rfl (by kernel_rfl) (ldB (rb2_0.at 17 (.bool (g.halted))))) ?_
    refine oP 19 (.bool (g.halted)) false ?_
    refine endL ?_
    try simp only [Act.put, sA, sB, sC]
    refine thenN (hK8 _ _ ?_)
    refine wp_cond_split (t := g.halted) (by kernel_rfl) (fun h11 => ?_) (fun h11 => ?_)
    · skip
      have g11 : g.halted = true := by simpa using h11
      refine wp_seq_k fun K12 hK12 => ?_
      refine regionL ?_
      refine oA 4 (.bool (true)) ?_
      refine endL ?_
      try simp only [Act.put, sA, sB, sC]
      refine thenN (hK12 _ _ ?_)
      refine wp_ret ?_
      refine thenR ?_
      exact bodyPost_ret (results_tmp rfl _ _ _) rfl ⟨rfl, hb⟩
    · skip
      have g11 : ¬ g.halted = true := by simpa using h11
      refine wp_skip ?_
      refine thenN (hK7 _ _ ?_)
      refine wp_seq_k fun K13 hK13 => ?_
      rcases Bool.eq_false_or_eq_true (okM xs) with hk | hk
      · skip
        refine region_row [(some 21, .val (.slice A xs.length cap)), (some 22, .call (.tuple #[opR (opOf xs), .bool (true)])), (some 20, .val (.tuple #[opR (opOf xs), .bool (true)])), (some 23, .val (opR (opOf xs))), (some 24, .val (.bool (true))), (some 6, .box 39 (opRC zeroOp) (some (6, opRC (opOf xs))) none), (none, .put 5), (some 7, .val (.bool (true)))] (by kernel_rfl) ⟨fun p l a w I hd => heMove (.inl rfl) (by kernel_rfl) w, fun p l a w I hd => ⟨_, _, (by kernel_rfl), times_ok A cap xs (by omega) h8 _ ((hin.below (hb.trans (I.below.mono hb.size))).more (hb.trans (I.below.mono hb.size)).size) hk⟩, fun p l a w I hd => heMove (.inl rfl) (by kernel_rfl) w, fun p l a w I hd => heExtract (vs := #[opR (opOf xs), .bool (true)]) rfl (by kernel_rfl) (by kernel_rfl) w, fun p l a w I hd => heExtract (vs := #[opR (opOf xs), .bool (true)]) rfl (by kernel_rfl) (by kernel_rfl) w, ⟨fun k vs e => (by cases e; rfl), fun p l a w I hd => heAlloc rfl (allocOp w)⟩, fun p l a w I hd d t z s vs hj hr => (by cases hj; exact heStore rfl (by kernel_rfl) (by kernel_rfl) (stOp hr)), fun p l a w I hd => heMove (.inr rfl) (by kernel_rfl) w, trivial⟩ ?_
        intro p14 W14 hE
        have rb2_0 := rb2_0.below hE.1 rb2_0.lt
        have hb := hb.trans (hE.1.mono hb.size)
        have rb14_5 : Row W14 (p14 5) 39 (opRC (opOf xs)) := (hE.2.1 5 _ _ _ _ _ rfl).2
        clear hE
        try simp only [litA, layL, Pl.value, sA, sB, sC]
        generalize p14 5 = b14_5 at *
        refine thenN (hK13 _ _ ?_)
        refine wp_seq_k fun K15 hK15 => ?_
        refine wp_seq_k fun K16 hK16 => ?_
        refine regionL ?_
        refine oM 25 (.bool (true)) ?_
        refine oW 26 (.bool (true)) (.bool (false)) (fun _ => rfl) ?_
        refine endL ?_
        try simp only [Act.put, sA, sB, sC]
        refine thenN (hK16 _ _ ?_)
        refine wp_cond_false (by kernel_rfl) ?_
        refine wp_skip ?_
        refine thenN (hK15 _ _ ?_)
        refine wp_seq_k fun K17 hK17 => ?_
        obtain ⟨t, hT, hcode⟩ := times_takes h11 h8 hk (by omega)
        rcases t with _ | _
        · skip
          refine region_row [(some 28, .val (regsV g)), (some 29, .val (.slice A xs.length cap)), (some 30, .call (.tuple #[.int .i64 ((ofM (opOf xs).plane (opOf xs).code (opOf xs).skip false)), .int .i64 (((takesOf g xs).2.length : Int))])), (some 27, .val (.tuple #[.int .i64 ((ofM (opOf xs).plane (opOf xs).code (opOf xs).skip false)), .int .i64 (((takesOf g xs).2.length : Int))])), (some 31, .val (.int .i64 ((ofM (opOf xs).plane (opOf xs).code (opOf xs).skip false)))), (some 32, .val (.int .i64 (((takesOf g xs).2.length : Int)))), (some 8, .val (.int .i64 ((ofM (opOf xs).plane (opOf xs).code (opOf xs).skip false)))), (some 9, .val (.int .i64 (((takesOf g xs).2.length : Int))))] (by kernel_rfl) ⟨fun p l a w I hd => heLoad rfl (by kernel_rfl) (ldR (rb2_0.below I.below rb2_0.lt).range), fun p l a w I hd => heMove (.inl rfl) (by kernel_rfl) w, fun p l a w I hd => ⟨_, _, (by kernel_rfl), times_n g hg A cap xs hc h8 hT _ ((hin.below (hb.trans (I.below.mono hb.size))).more (hb.trans (I.below.mono hb.size)).size) (ht.below (hb.trans (I.below.mono hb.size)))⟩, fun p l a w I hd => heMove (.inl rfl) (by kernel_rfl) w, fun p l a w I hd => heExtract (vs := #[.int .i64 ((ofM (opOf xs).plane (opOf xs).code (opOf xs).skip false)), .int .i64 (((takesOf g xs).2.length : Int))]) rfl (by kernel_rfl) (by kernel_rfl) w, fun p l a w I hd => heExtract (vs := #[.int .i64 ((ofM (opOf xs).plane (opOf xs).code (opOf xs).skip false)), .int .i64 (((takesOf g xs).2.length : Int))]) rfl (by kernel_rfl) (by kernel_rfl) w, fun p l a w I hd => heMove (.inr rfl) (by kernel_rfl) w, fun p l a w I hd => heMove (.inr rfl) (by kernel_rfl) w, trivial⟩ ?_
          intro p18 W18 hE
          have rb2_0 := rb2_0.below hE.1 rb2_0.lt
          have rb14_5 := rb14_5.below hE.1 rb14_5.lt
          have hb := hb.trans (hE.1.mono hb.size)
          clear hE
          try simp only [litA, layL, Pl.value, sA, sB, sC]
          refine thenN (hK17 _ _ ?_)
          refine wp_seq_k fun K19 hK19 => ?_
          refine regionL ?_
          refine oM 33 (.int .i64 ((ofM (opOf xs).plane (opOf xs).code (opOf xs).skip false))) ?_
          refine oL 34 (ldOp rb14_5) ?_
          refine oC (.int .i64 ((ofM (opOf xs).plane (opOf xs).code (opOf xs).skip false))) (times_of hcode false _) ?_
          intro W20 hk
          have rb2_0 := rb2_0.below hk rb2_0.lt
          have rb14_5 := rb14_5.below hk rb14_5.lt
          have hb := hb.trans (hk.mono hb.size)
          refine oJ 36 (.int .i64 ((ofM (opOf xs).plane (opOf xs).code (opOf xs).skip false))) (.int .i64 ((ofM (opOf xs).plane (opOf xs).code (opOf xs).skip false))) (.bool (true)) (egI _ _ _ _ _) (bEqI0 ((ofM (opOf xs).plane (opOf xs).code (opOf xs).skip false))) ?_
          refine oM 37 (.bool (true)) ?_
          refine oZ 38 ?_
          refine oZ 39 ?_
          refine oZ 40 ?_
          refine oZ 41 ?_
          refine oP 42 (.bool (true)) true ?_
          refine oA 4 (.bool (true)) ?_
          refine endL ?_
          try simp only [Act.put, sA, sB, sC]
          refine thenN (hK19 _ _ ?_)
          refine wp_ret ?_
          exact bodyPost_ret (results_tmp rfl _ _ _) rfl ⟨rfl, hb⟩
        · skip
          refine region_row [(some 28, .val (regsV g)), (some 29, .val (.slice A xs.length cap)), (some 30, .call (.tuple #[.int .i64 ((ofM (opOf xs).plane (opOf xs).code (opOf xs).skip true)), .int .i64 (((takesOf g xs).2.length : Int))])), (some 27, .val (.tuple #[.int .i64 ((ofM (opOf xs).plane (opOf xs).code (opOf xs).skip true)), .int .i64 (((takesOf g xs).2.length : Int))])), (some 31, .val (.int .i64 ((ofM (opOf xs).plane (opOf xs).code (opOf xs).skip true)))), (some 32, .val (.int .i64 (((takesOf g xs).2.length : Int)))), (some 8, .val (.int .i64 ((ofM (opOf xs).plane (opOf xs).code (opOf xs).skip true)))), (some 9, .val (.int .i64 (((takesOf g xs).2.length : Int))))] (by kernel_rfl) ⟨fun p l a w I hd => heLoad rfl (by kernel_rfl) (ldR (rb2_0.below I.below rb2_0.lt).range), fun p l a w I hd => heMove (.inl rfl) (by kernel_rfl) w, fun p l a w I hd => ⟨_, _, (by kernel_rfl), times_n g hg A cap xs hc h8 hT _ ((hin.below (hb.trans (I.below.mono hb.size))).more (hb.trans (I.below.mono hb.size)).size) (ht.below (hb.trans (I.below.mono hb.size)))⟩, fun p l a w I hd => heMove (.inl rfl) (by kernel_rfl) w, fun p l a w I hd => heExtract (vs := #[.int .i64 ((ofM (opOf xs).plane (opOf xs).code (opOf xs).skip true)), .int .i64 (((takesOf g xs).2.length : Int))]) rfl (by kernel_rfl) (by kernel_rfl) w, fun p l a w I hd => heExtract (vs := #[.int .i64 ((ofM (opOf xs).plane (opOf xs).code (opOf xs).skip true)), .int .i64 (((takesOf g xs).2.length : Int))]) rfl (by kernel_rfl) (by kernel_rfl) w, fun p l a w I hd => heMove (.inr rfl) (by kernel_rfl) w, fun p l a w I hd => heMove (.inr rfl) (by kernel_rfl) w, trivial⟩ ?_
          intro p21 W21 hE
          have rb2_0 := rb2_0.below hE.1 rb2_0.lt
          have rb14_5 := rb14_5.below hE.1 rb14_5.lt
          have hb := hb.trans (hE.1.mono hb.size)
          clear hE
          try simp only [litA, layL, Pl.value, sA, sB, sC]
          refine thenN (hK17 _ _ ?_)
          refine wp_seq_k fun K22 hK22 => ?_
          refine regionL ?_
          refine oM 33 (.int .i64 ((ofM (opOf xs).plane (opOf xs).code (opOf xs).skip true))) ?_
          refine oL 34 (ldOp rb14_5) ?_
          refine oC (.int .i64 ((ofM (opOf xs).plane (opOf xs).code (opOf xs).skip false))) (times_of hcode false _) ?_
          intro W23 hk
          have rb2_0 := rb2_0.below hk rb2_0.lt
          have rb14_5 := rb14_5.below hk rb14_5.lt
          have hb := hb.trans (hk.mono hb.size)
          refine oJ 36 (.int .i64 ((ofM (opOf xs).plane (opOf xs).code (opOf xs).skip true))) (.int .i64 ((ofM (opOf xs).plane (opOf xs).code (opOf xs).skip false))) (.bool ((ofM (opOf xs).plane (opOf xs).code (opOf xs).skip true) == (ofM (opOf xs).plane (opOf xs).code (opOf xs).skip false))) (egI _ _ _ _ _) (bEqI ((ofM (opOf xs).plane (opOf xs).code (opOf xs).skip true)) ((ofM (opOf xs).plane (opOf xs).code (opOf xs).skip false))) ?_
          refine oM 37 (.bool ((ofM (opOf xs).plane (opOf xs).code (opOf xs).skip true) == (ofM (opOf xs).plane (opOf xs).code (opOf xs).skip false))) ?_
          rcases Bool.eq_false_or_eq_true ((ofM (opOf xs).plane (opOf xs).code (opOf xs).skip true) == (ofM (opOf xs).plane (opOf xs).code (opOf xs).skip false)) with h24 | h24
          · skip
            have g24 : (ofM (opOf xs).plane (opOf xs).code (opOf xs).skip true) = (ofM (opOf xs).plane (opOf xs).code (opOf xs).skip false) := by simpa using h24
            rewrite [h24]
            refine oZ 38 ?_
            refine oZ 39 ?_
            refine oZ 40 ?_
            refine oZ 41 ?_
            refine oP 42 (.bool (true)) true ?_
            refine oA 4 (.bool (true)) ?_
            refine endL ?_
            try simp only [Act.put, sA, sB, sC]
            refine thenN (hK22 _ _ ?_)
            refine wp_ret ?_
            exact bodyPost_ret (results_tmp rfl _ _ _) rfl ⟨rfl, hb⟩
          · skip
            have g24 : ¬ (ofM (opOf xs).plane (opOf xs).code (opOf xs).skip true) = (ofM (opOf xs).plane (opOf xs).code (opOf xs).skip false) := by simpa using h24
            rewrite [h24]
            refine oT 38 (.int .i64 ((ofM (opOf xs).plane (opOf xs).code (opOf xs).skip true))) (heMove (.inl rfl) (by kernel_rfl) _) ?_
            refine oT 39 (opR (opOf xs)) (heLoad rfl (by kernel_rfl) (ldOp rb14_5)) ?_
            refine oG (.int .i64 ((ofM (opOf xs).plane (opOf xs).code (opOf xs).skip true))) (times_of hcode true _) ?_
            intro W25 hk
            have rb2_0 := rb2_0.below hk rb2_0.lt
            have rb14_5 := rb14_5.below hk rb14_5.lt
            have hb := hb.trans (hk.mono hb.size)
            refine oT 41 (.bool (true)) (heBin (V := .int .i64 ((ofM (opOf xs).plane (opOf xs).code (opOf xs).skip true))) (W := .int .i64 ((ofM (opOf xs).plane (opOf xs).code (opOf xs).skip true))) (R := .bool (true)) rfl (by kernel_rfl) (by kernel_rfl) (egI _ _ _ _ _) (bEqI0 ((ofM (opOf xs).plane (opOf xs).code (opOf xs).skip true))) _) ?_
            refine oP 42 (.bool (true)) false ?_
            refine oA 4 (.bool (true)) ?_
            refine endL ?_
            try simp only [Act.put, sA, sB, sC]
            refine thenN (hK22 _ _ ?_)
            refine wp_ret ?_
            exact bodyPost_ret (results_tmp rfl _ _ _) rfl ⟨rfl, hb⟩
      · skip
        refine region_row [(some 21, .val (.slice A xs.length cap)), (some 22, .call (.tuple #[opR zeroOp, .bool (false)])), (some 20, .val (.tuple #[opR zeroOp, .bool (false)])), (some 23, .val (opR zeroOp)), (some 24, .val (.bool (false))), (some 6, .box 39 (opRC zeroOp) (some (6, opRC zeroOp)) none), (none, .put 5), (some 7, .val (.bool (false)))] (by kernel_rfl) ⟨fun p l a w I hd => heMove (.inl rfl) (by kernel_rfl) w, fun p l a w I hd => ⟨_, _, (by kernel_rfl), times_no A cap xs (by omega) h8 _ ((hin.below (hb.trans (I.below.mono hb.size))).more (hb.trans (I.below.mono hb.size)).size) hk⟩, fun p l a w I hd => heMove (.inl rfl) (by kernel_rfl) w, fun p l a w I hd => heExtract (vs := #[opR zeroOp, .bool (false)]) rfl (by kernel_rfl) (by kernel_rfl) w, fun p l a w I hd => heExtract (vs := #[opR zeroOp, .bool (false)]) rfl (by kernel_rfl) (by kernel_rfl) w, ⟨fun k vs e => (by cases e; rfl), fun p l a w I hd => heAlloc rfl (allocOp w)⟩, fun p l a w I hd d t z s vs hj hr => (by cases hj; exact heStore rfl (by kernel_rfl) (by kernel_rfl) (stOp hr)), fun p l a w I hd => heMove (.inr rfl) (by kernel_rfl) w, trivial⟩ ?_
        intro p26 W26 hE
        have rb2_0 := rb2_0.below hE.1 rb2_0.lt
        have hb := hb.trans (hE.1.mono hb.size)
        have rb26_5 : Row W26 (p26 5) 39 (opRC zeroOp) := (hE.2.1 5 _ _ _ _ _ rfl).2
        clear hE
        try simp only [litA, layL, Pl.value, sA, sB, sC]
        generalize p26 5 = b26_5 at *
        refine thenN (hK13 _ _ ?_)
        refine wp_seq_k fun K27 hK27 => ?_
        refine wp_seq_k fun K28 hK28 => ?_
        refine regionL ?_
        refine oM 25 (.bool (false)) ?_
        refine oW 26 (.bool (false)) (.bool (true)) (fun _ => rfl) ?_
        refine endL ?_
        try simp only [Act.put, sA, sB, sC]
        refine thenN (hK28 _ _ ?_)
        refine wp_cond_true (by kernel_rfl) ?_
        refine wp_seq_k fun K29 hK29 => ?_
        refine regionL ?_
        refine oA 4 (.bool (true)) ?_
        refine endL ?_
        try simp only [Act.put, sA, sB, sC]
        refine thenN (hK29 _ _ ?_)
        refine wp_ret ?_
        refine thenR ?_
        exact bodyPost_ret (results_tmp rfl _ _ _) rfl ⟨rfl, hb⟩
end Go.Proofs.YtibmpaeaicpbcaaGreatDoor
