/- The law's walk and what it wants (several texts in one). -/
import Derived.Test.YtibmpaeaicpbcaaGreatDoorNxG4
import Derived.Test.YtibmpaeaicpbcaaGreatDoorNxG5
namespace Go.Proofs.YtibmpaeaicpbcaaGreatDoor
open Go.RowKit
set_option linter.unusedVariables false
set_option linter.unusedSimpArgs false
set_option maxRecDepth 20000
set_option maxHeartbeats 20000000
def haltG (g : Rg) : Rg := { g with halted := true }
def ch0 (g : Rg) : Cy := ⟨1, g.pc, 0, 4⟩
theorem RgB.halt {g : Rg} (h : RgB g) : RgB (haltG g) := ⟨h.af, h.bc, h.de, h.hl, h.af2, h.bc2, h.de2, h.hl2, h.ix, h.iy, h.sp, h.pc, h.wz, h.i, h.r, h.mode⟩
theorem tick_fin : ∀ r : Fin 256, (bits .and .u8 (r.val : Int) 128 + bits .and .u8 (((r.val : Int) + 1) % 256) 127) % 256 = tickR r.val 1 := by decide +kernel
theorem tick_bits {r : Int} (h : B8 r) : (bits .and .u8 r 128 + bits .and .u8 ((r + 1) % 256) 127) % 256 = tickR r 1 := by
  obtain ⟨h0, h1⟩ := h
  have := tick_fin ⟨r.toNat, by omega⟩
  simp only at this
  rwa [Int.toNat_of_nonneg h0] at this
theorem halt_row {g : Rg} (hg : RgB g) {w : World} {b : Nat} {t : TypeId} (h : Row w b t (regsC { haltG g with r := (bits .and .u8 (haltG g).r 128 + bits .and .u8 (((haltG g).r + 1) % 256) 127) % 256 })) : Row w b t (regsC (tickG (haltG g) 1)) := by
  rw [tick_bits (show B8 (haltG g).r from hg.r)] at h
  exact h
theorem halt_nil (g : Rg) : nextOf (haltG g) [] = .error (ch0 g) := next_nil _
theorem halt_one (g : Rg) (b : Int) : nextOf (haltG g) [b] = .ok ({ ms0 (haltG g) with r := tickG (haltG g) 1 }, []) := next_halt rfl b []
theorem halt_takes (g : Rg) (b : Int) : takesOf (haltG g) [b] = (4, [b]) := by
  have h0 : nextF (haltG g) [] = (ch0 g, false) := by unfold nextF; rw [halt_nil]; rfl
  have h1 : nextF (haltG g) [b] = (zeroCy, true) := by unfold nextF; rw [halt_one]; rfl
  unfold takesOf
  show takesGo readsM (nextF (haltG g)) (199 + 1) [] [b] 0 = _
  rw [takesGo, h0, if_neg (fun h => by cases h), if_pos (show readsM (ch0 g, false).fst.kind = true from rfl)]
  show takesGo readsM (nextF (haltG g)) (198 + 1) [b] [] (0 + 4) = _
  rw [takesGo, h1, if_pos rfl]
  rfl
theorem b_one {b : Int} (h : B8 b) : Bytes8 [b] := fun x hx => by cases List.mem_singleton.1 hx; exact h
section
variable {g : Rg} (hg : RgB g) {v : Int} (hv : B8 v) (w : World) (ht : Tabs w w.heap.size)
include hg ht
theorem halt_0 : Calls Tryz.prog 12 #[regsV (haltG g), .slice none 0 0] w fun e w' => e = .returned (.tuple #[cyV (ch0 g), regsV zeroRg, .bool false]) ∧ Below w.heap.size w w' := by
  have h := nnext_any (haltG g) hg.halt none 0 [] (Nat.le_refl _) (fun x h => by cases h) w (BytesIn.nil _ _ _) ht
  rw [tellV_eq, halt_nil] at h
  exact h
include hv in
theorem halt_1 {b : Nat} {t : TypeId} (hr : Row w b t #[.int .u8 v]) : Calls Tryz.prog 12 #[regsV (haltG g), .slice (some ⟨b, 0, none⟩) 1 1] w fun e w' => e = .returned (.tuple #[cyV zeroCy, regsV (tickG (haltG g) 1), .bool true]) ∧ Below w.heap.size w w' := by
  have h := nnext_any (haltG g) hg.halt (some ⟨b, 0, none⟩) 1 [v] (Nat.le_refl _) (b_one hv) w (row_1 hr) ht
  rw [tellV_eq, halt_one] at h
  exact h
include hv in
theorem halt_2 {b : Nat} {t : TypeId} (hr : Row w b t #[.int .u8 v]) : Calls Tryz.prog 16 #[regsV (haltG g), .slice (some ⟨b, 0, none⟩) 1 1] w fun e w' => e = .returned (.tuple #[.int .i64 4, .int .i64 1]) ∧ Below w.heap.size w w' := by
  have h := ntakes_any (haltG g) hg.halt (some ⟨b, 0, none⟩) 1 [v] (Nat.le_refl _) (b_one hv) w (row_1 hr) ht
  rw [halt_takes] at h
  exact h
end
theorem nextHalted_walk (g : Rg) (v : Int) (hv0 : 0 ≤ v) (hv1 : v ≤ 255) (hg : RgB g) (w : World)  (hM : Masks w) (hD : Digits w) (hC : Courses w) (hO : Modes w) :
    Calls Tryz.prog 9 #[regsV g, .int .u8 v] w fun e w' => e = .returned (.bool true) ∧ Below w.heap.size w w' := by
  have hb := Below.refl w.heap.size w
  have ht : Tabs w w.heap.size := (NextTabs.mk hM hC hD hO).tabs
  go_enter Tryz.func9, Tryz.ntmps9
  refine wp_seq_k fun K1 hK1 => ?_
  refine region_row [(some 2, .box 24 (regsC g) none none), (some 4, .val (.bool (false)))] (by kernel_rfl) ⟨⟨fun k vs e => (by cases e), fun p l a w I hd => heBox rfl (by kernel_rfl) (boxRg _ w)⟩, fun p l a w I hd => heMove (.inr rfl) (by kernel_rfl) w, trivial⟩ ?_
  intro p2 W2 hE
  have low2_0 := (hE.2.1 0 _ _ _ _ _ rfl).1
  have lo2_0 := Nat.le_trans hb.size low2_0
  have hb := hb.trans (hE.1.mono hb.size)
  have rb2_0 : Row W2 (p2 0) 24 (regsC g) := (hE.2.1 0 _ _ _ _ _ rfl).2
  clear hE
  try simp only [litA, layL, Pl.value, sA, sB, sC]
  generalize p2 0 = b2_0 at *
  refine thenN (hK1 _ _ ?_)
  refine wp_seq_k fun K3 hK3 => ?_
  refine region_row [(some 15, .call (.bool (true))), (some 5, .val (.bool (true)))] (by kernel_rfl) ⟨fun p l a w I hd => ⟨_, _, (by kernel_rfl), awake12_any _ (ht.below (hb.trans (I.below.mono hb.size)))⟩, fun p l a w I hd => heMove (.inr rfl) (by kernel_rfl) w, trivial⟩ ?_
  intro p4 W4 hE
  have lt4b2_0 := rb2_0.lt
  have rb2_0 := rb2_0.below hE.1 rb2_0.lt
  have hb := hb.trans (hE.1.mono hb.size)
  clear hE
  try simp only [litA, layL, Pl.value, sA, sB, sC]
  refine thenN (hK3 _ _ ?_)
  refine wp_seq_k fun K5 hK5 => ?_
  refine wp_seq_k fun K6 hK6 => ?_
  refine regionL ?_
  refine oM 16 (.bool (true)) ?_
  refine oW 17 (.bool (true)) (.bool (false)) (fun _ => rfl) ?_
  refine endL ?_
  try simp only [Act.put, sA, sB, sC]
  refine thenN (hK6 _ _ ?_)
  refine wp_cond_false (by kernel_rfl) ?_
  refine wp_skip ?_
  refine thenN (hK5 _ _ ?_)
  refine wp_seq_k fun K7 hK7 => ?_
  refine regionL ?_
  refine oF 18 (fR17 b2_0) ?_
  refine oS ⟨b2_0, 17, none⟩ (.bool (true)) (stB (rb2_0.at 17 (.bool (g.halted))) (rb2_0.frozen 17)) ?_
  have rb2_0 : Row (W4.setCell ⟨b2_0, 17, none⟩ (.bool (true))) b2_0 24 (regsC ({ g with halted := true })) := rb2_0.set 17 (.bool (true))
  have rb2_0 : Row (W4.setCell ⟨b2_0, 17, none⟩ (.bool (true))) b2_0 24 (regsC (haltG g)) := rb2_0
  have hb := hb.setCell (p := ⟨b2_0, 17, none⟩) (by show _ ≤ b2_0; omega) (.bool (true))
  generalize hW8 : (W4.setCell ⟨b2_0, 17, none⟩ (.bool (true))) = W8 at *
  refine endL ?_
  try simp only [Act.put, sA, sB, sC]
  refine thenN (hK7 _ _ ?_)
  refine wp_seq_k fun K9 hK9 => ?_
  refine region_row [(some 20, .val (regsV (haltG g))), (some 21, .call (.tuple #[cyV (ch0 g), regsV zeroRg, .bool (false)])), (some 19, .val (.tuple #[cyV (ch0 g), regsV zeroRg, .bool (false)])), (some 22, .val (cyV (ch0 g))), (some 23, .val (regsV zeroRg)), (some 24, .val (.bool (false))), (some 6, .box 28 (cyC zeroCy) (some (8, cyC (ch0 g))) none), (some 7, .box 24 (regsC zeroRg) (some (9, regsC zeroRg)) none), (none, .put 6), (none, .put 7), (some 8, .val (.bool (false)))] (by kernel_rfl) ⟨fun p l a w I hd => heLoad rfl (by kernel_rfl) (ldR (rb2_0.below I.below rb2_0.lt).range), fun p l a w I hd => ⟨_, _, (by kernel_rfl), halt_0 hg w (ht.below (hb.trans (I.below.mono hb.size)))⟩, fun p l a w I hd => heMove (.inl rfl) (by kernel_rfl) w, fun p l a w I hd => heExtract (vs := #[cyV (ch0 g), regsV zeroRg, .bool (false)]) rfl (by kernel_rfl) (by kernel_rfl) w, fun p l a w I hd => heExtract (vs := #[cyV (ch0 g), regsV zeroRg, .bool (false)]) rfl (by kernel_rfl) (by kernel_rfl) w, fun p l a w I hd => heExtract (vs := #[cyV (ch0 g), regsV zeroRg, .bool (false)]) rfl (by kernel_rfl) (by kernel_rfl) w, ⟨fun k vs e => (by cases e; rfl), fun p l a w I hd => heAlloc rfl (allocCy w)⟩, ⟨fun k vs e => (by cases e; rfl), fun p l a w I hd => heAlloc rfl (allocRg w)⟩, fun p l a w I hd d t z s vs hj hr => (by cases hj; exact heStore rfl (by kernel_rfl) (by kernel_rfl) (stCy hr)), fun p l a w I hd d t z s vs hj hr => (by cases hj; exact heStore rfl (by kernel_rfl) (by kernel_rfl) (stRow hr)), fun p l a w I hd => heMove (.inr rfl) (by kernel_rfl) w, trivial⟩ ?_
  intro p10 W10 hE
  have lt10b2_0 := rb2_0.lt
  have low10_6 := (hE.2.1 6 _ _ _ _ _ rfl).1
  have lo10_6 := Nat.le_trans hb.size low10_6
  have low10_7 := (hE.2.1 7 _ _ _ _ _ rfl).1
  have lo10_7 := Nat.le_trans hb.size low10_7
  have rb2_0 := rb2_0.below hE.1 rb2_0.lt
  have hb := hb.trans (hE.1.mono hb.size)
  have rb10_6 : Row W10 (p10 6) 28 (cyC (ch0 g)) := (hE.2.1 6 _ _ _ _ _ rfl).2
  have rb10_7 : Row W10 (p10 7) 24 (regsC zeroRg) := (hE.2.1 7 _ _ _ _ _ rfl).2
  clear hE
  try simp only [litA, layL, Pl.value, sA, sB, sC]
  generalize p10 6 = b10_6 at *
  generalize p10 7 = b10_7 at *
  refine thenN (hK9 _ _ ?_)
  refine wp_seq_k fun K11 hK11 => ?_
  refine region_row [(some 26, .val (regsV (haltG g))), (some 27, .val (.int .u8 (v))), (some 28, .box 5 #[.int .u8 (v)] none (some 1)), (some 29, .call (.tuple #[cyV zeroCy, regsV (tickG (haltG g) 1), .bool (true)])), (some 25, .val (.tuple #[cyV zeroCy, regsV (tickG (haltG g) 1), .bool (true)])), (some 30, .val (cyV zeroCy)), (some 31, .val (regsV (tickG (haltG g) 1))), (some 32, .val (.bool (true))), (some 9, .box 28 (cyC zeroCy) (some (10, cyC zeroCy)) none), (some 10, .box 24 (regsC zeroRg) (some (11, regsC (tickG (haltG g) 1))) none), (none, .put 8), (none, .put 9), (some 11, .val (.bool (true)))] (by kernel_rfl) ⟨fun p l a w I hd => heLoad rfl (by kernel_rfl) (ldR (rb2_0.below I.below rb2_0.lt).range), fun p l a w I hd => heMove (.inl rfl) (by kernel_rfl) w, ⟨fun k vs e => (by cases e), fun p l a w I hd => heBS (ps := #[(0, .int .u8 (v))]) rfl (by kernel_rfl) (bs1 v w)⟩, fun p l a w I hd => ⟨_, _, (by kernel_rfl), halt_1 hg ⟨hv0, hv1⟩ w (ht.below (hb.trans (I.below.mono hb.size))) (I.boxed 2 _ _ _ _ _ rfl (hd 2 (by kernel_rfl))).2⟩, fun p l a w I hd => heMove (.inl rfl) (by kernel_rfl) w, fun p l a w I hd => heExtract (vs := #[cyV zeroCy, regsV (tickG (haltG g) 1), .bool (true)]) rfl (by kernel_rfl) (by kernel_rfl) w, fun p l a w I hd => heExtract (vs := #[cyV zeroCy, regsV (tickG (haltG g) 1), .bool (true)]) rfl (by kernel_rfl) (by kernel_rfl) w, fun p l a w I hd => heExtract (vs := #[cyV zeroCy, regsV (tickG (haltG g) 1), .bool (true)]) rfl (by kernel_rfl) (by kernel_rfl) w, ⟨fun k vs e => (by cases e; rfl), fun p l a w I hd => heAlloc rfl (allocCy w)⟩, ⟨fun k vs e => (by cases e; rfl), fun p l a w I hd => heAlloc rfl (allocRg w)⟩, fun p l a w I hd d t z s vs hj hr => (by cases hj; exact heStore rfl (by kernel_rfl) (by kernel_rfl) (stCy hr)), fun p l a w I hd d t z s vs hj hr => (by cases hj; exact heStore rfl (by kernel_rfl) (by kernel_rfl) (stRow hr)), fun p l a w I hd => heMove (.inr rfl) (by kernel_rfl) w, trivial⟩ ?_
  intro p12 W12 hE
  have lt12b2_0 := rb2_0.lt
  have lt12b10_6 := rb10_6.lt
  have lt12b10_7 := rb10_7.lt
  have low12_2 := (hE.2.1 2 _ _ _ _ _ rfl).1
  have lo12_2 := Nat.le_trans hb.size low12_2
  have low12_8 := (hE.2.1 8 _ _ _ _ _ rfl).1
  have lo12_8 := Nat.le_trans hb.size low12_8
  have low12_9 := (hE.2.1 9 _ _ _ _ _ rfl).1
  have lo12_9 := Nat.le_trans hb.size low12_9
  have rb2_0 := rb2_0.below hE.1 rb2_0.lt
  have rb10_6 := rb10_6.below hE.1 rb10_6.lt
  have rb10_7 := rb10_7.below hE.1 rb10_7.lt
  have hb := hb.trans (hE.1.mono hb.size)
  have rb12_2 : Row W12 (p12 2) 5 (#[.int .u8 (v)]) := (hE.2.1 2 _ _ _ _ _ rfl).2
  have rb12_8 : Row W12 (p12 8) 28 (cyC zeroCy) := (hE.2.1 8 _ _ _ _ _ rfl).2
  have rb12_9 : Row W12 (p12 9) 24 (regsC (tickG (haltG g) 1)) := (hE.2.1 9 _ _ _ _ _ rfl).2
  clear hE
  try simp only [litA, layL, Pl.value, sA, sB, sC]
  generalize p12 2 = b12_2 at *
  generalize p12 8 = b12_8 at *
  generalize p12 9 = b12_9 at *
  refine thenN (hK11 _ _ ?_)
  refine wp_seq_k fun K13 hK13 => ?_
  refine region_row [(some 34, .val (regsV (haltG g))), (some 35, .val (.int .u8 (v))), (some 36, .box 5 #[.int .u8 (v)] none (some 1)), (some 37, .call (.tuple #[.int .i64 (4), .int .i64 (1)])), (some 33, .val (.tuple #[.int .i64 (4), .int .i64 (1)])), (some 38, .val (.int .i64 (4))), (some 39, .val (.int .i64 (1))), (some 12, .val (.int .i64 (4))), (some 13, .val (.int .i64 (1)))] (by kernel_rfl) ⟨fun p l a w I hd => heLoad rfl (by kernel_rfl) (ldR (rb2_0.below I.below rb2_0.lt).range), fun p l a w I hd => heMove (.inl rfl) (by kernel_rfl) w, ⟨fun k vs e => (by cases e), fun p l a w I hd => heBS (ps := #[(0, .int .u8 (v))]) rfl (by kernel_rfl) (bs1 v w)⟩, fun p l a w I hd => ⟨_, _, (by kernel_rfl), halt_2 hg ⟨hv0, hv1⟩ w (ht.below (hb.trans (I.below.mono hb.size))) (I.boxed 2 _ _ _ _ _ rfl (hd 2 (by kernel_rfl))).2⟩, fun p l a w I hd => heMove (.inl rfl) (by kernel_rfl) w, fun p l a w I hd => heExtract (vs := #[.int .i64 (4), .int .i64 (1)]) rfl (by kernel_rfl) (by kernel_rfl) w, fun p l a w I hd => heExtract (vs := #[.int .i64 (4), .int .i64 (1)]) rfl (by kernel_rfl) (by kernel_rfl) w, fun p l a w I hd => heMove (.inr rfl) (by kernel_rfl) w, fun p l a w I hd => heMove (.inr rfl) (by kernel_rfl) w, trivial⟩ ?_
  intro p14 W14 hE
  have lt14b2_0 := rb2_0.lt
  have lt14b10_6 := rb10_6.lt
  have lt14b10_7 := rb10_7.lt
  have lt14b12_2 := rb12_2.lt
  have lt14b12_8 := rb12_8.lt
  have lt14b12_9 := rb12_9.lt
  have low14_2 := (hE.2.1 2 _ _ _ _ _ rfl).1
  have lo14_2 := Nat.le_trans hb.size low14_2
  have rb2_0 := rb2_0.below hE.1 rb2_0.lt
  have rb10_6 := rb10_6.below hE.1 rb10_6.lt
  have rb10_7 := rb10_7.below hE.1 rb10_7.lt
  have rb12_2 := rb12_2.below hE.1 rb12_2.lt
  have rb12_8 := rb12_8.below hE.1 rb12_8.lt
  have rb12_9 := rb12_9.below hE.1 rb12_9.lt
  have hb := hb.trans (hE.1.mono hb.size)
  have rb14_2 : Row W14 (p14 2) 5 (#[.int .u8 (v)]) := (hE.2.1 2 _ _ _ _ _ rfl).2
  clear hE
  try simp only [litA, layL, Pl.value, sA, sB, sC]
  generalize p14 2 = b14_2 at *
  refine thenN (hK13 _ _ ?_)
  refine wp_seq_k fun K15 hK15 => ?_
  refine region_row [(some 40, .val (regsV (haltG g))), (some 14, .box 24 (regsC zeroRg) (some (2, regsC (haltG g))) none), (none, .put 1)] (by kernel_rfl) ⟨fun p l a w I hd => heLoad rfl (by kernel_rfl) (ldR (rb2_0.below I.below rb2_0.lt).range), ⟨fun k vs e => (by cases e; rfl), fun p l a w I hd => heAlloc rfl (allocRg w)⟩, fun p l a w I hd d t z s vs hj hr => (by cases hj; exact heStore rfl (by kernel_rfl) (by kernel_rfl) (stRow hr)), trivial⟩ ?_
  intro p16 W16 hE
  have lt16b2_0 := rb2_0.lt
  have lt16b10_6 := rb10_6.lt
  have lt16b10_7 := rb10_7.lt
  have lt16b12_2 := rb12_2.lt
  have lt16b12_8 := rb12_8.lt
  have lt16b12_9 := rb12_9.lt
  have lt16b14_2 := rb14_2.lt
  have low16_1 := (hE.2.1 1 _ _ _ _ _ rfl).1
  have lo16_1 := Nat.le_trans hb.size low16_1
  have rb2_0 := rb2_0.below hE.1 rb2_0.lt
  have rb10_6 := rb10_6.below hE.1 rb10_6.lt
  have rb10_7 := rb10_7.below hE.1 rb10_7.lt
  have rb12_2 := rb12_2.below hE.1 rb12_2.lt
  have rb12_8 := rb12_8.below hE.1 rb12_8.lt
  have rb12_9 := rb12_9.below hE.1 rb12_9.lt
  have rb14_2 := rb14_2.below hE.1 rb14_2.lt
  have hb := hb.trans (hE.1.mono hb.size)
  have rb16_1 : Row W16 (p16 1) 24 (regsC (haltG g)) := (hE.2.1 1 _ _ _ _ _ rfl).2
  clear hE
  try simp only [litA, layL, Pl.value, sA, sB, sC]
  generalize p16 1 = b16_1 at *
  refine thenN (hK15 _ _ ?_)
  refine wp_seq_k fun K17 hK17 => ?_
  refine regionL ?_
  refine oF 41 (fR14 b2_0) ?_
  refine oL 42 (ld8 (rb2_0.at 14 (.int .u8 ((haltG g).r)))) ?_
  refine oJ 43 (.int .u8 ((haltG g).r)) (.int .u8 (128)) (.int .u8 (bits .and .u8 ((haltG g).r) 128)) (eg8 _ _ _ _ _) (bAnd8 ((haltG g).r) 128) ?_
  refine oF 44 (fR14 b2_0) ?_
  refine oL 45 (ld8 (rb2_0.at 14 (.int .u8 ((haltG g).r)))) ?_
  refine oJ 46 (.int .u8 ((haltG g).r)) (.int .u8 (1)) (.int .u8 (((haltG g).r + 1) % 256)) (eg8 _ _ _ _ _) (bAdd8 ((haltG g).r) 1) ?_
  refine oJ 47 (.int .u8 (((haltG g).r + 1) % 256)) (.int .u8 (127)) (.int .u8 (bits .and .u8 (((haltG g).r + 1) % 256) 127)) (eg8 _ _ _ _ _) (bAnd8 (((haltG g).r + 1) % 256) 127) ?_
  refine oJ 48 (.int .u8 (bits .and .u8 ((haltG g).r) 128)) (.int .u8 (bits .and .u8 (((haltG g).r + 1) % 256) 127)) (.int .u8 ((bits .and .u8 ((haltG g).r) 128 + bits .and .u8 (((haltG g).r + 1) % 256) 127) % 256)) (eg8 _ _ _ _ _) (bAdd8 (bits .and .u8 ((haltG g).r) 128) (bits .and .u8 (((haltG g).r + 1) % 256) 127)) ?_
  refine oF 49 (fR14 b16_1) ?_
  refine oS ⟨b16_1, 14, none⟩ (.int .u8 ((bits .and .u8 ((haltG g).r) 128 + bits .and .u8 (((haltG g).r + 1) % 256) 127) % 256)) (st8 (rb16_1.at 14 (.int .u8 (((haltG g)).r))) (rb16_1.frozen 14)) ?_
  have rb2_0 := rb2_0.far (p := ⟨b16_1, 14, none⟩) (by show b2_0 ≠ b16_1; omega) (.int .u8 ((bits .and .u8 ((haltG g).r) 128 + bits .and .u8 (((haltG g).r + 1) % 256) 127) % 256))
  have rb10_6 := rb10_6.far (p := ⟨b16_1, 14, none⟩) (by show b10_6 ≠ b16_1; omega) (.int .u8 ((bits .and .u8 ((haltG g).r) 128 + bits .and .u8 (((haltG g).r + 1) % 256) 127) % 256))
  have rb10_7 := rb10_7.far (p := ⟨b16_1, 14, none⟩) (by show b10_7 ≠ b16_1; omega) (.int .u8 ((bits .and .u8 ((haltG g).r) 128 + bits .and .u8 (((haltG g).r + 1) % 256) 127) % 256))
  have rb12_2 := rb12_2.far (p := ⟨b16_1, 14, none⟩) (by show b12_2 ≠ b16_1; omega) (.int .u8 ((bits .and .u8 ((haltG g).r) 128 + bits .and .u8 (((haltG g).r + 1) % 256) 127) % 256))
  have rb12_8 := rb12_8.far (p := ⟨b16_1, 14, none⟩) (by show b12_8 ≠ b16_1; omega) (.int .u8 ((bits .and .u8 ((haltG g).r) 128 + bits .and .u8 (((haltG g).r + 1) % 256) 127) % 256))
  have rb12_9 := rb12_9.far (p := ⟨b16_1, 14, none⟩) (by show b12_9 ≠ b16_1; omega) (.int .u8 ((bits .and .u8 ((haltG g).r) 128 + bits .and .u8 (((haltG g).r + 1) % 256) 127) % 256))
  have rb14_2 := rb14_2.far (p := ⟨b16_1, 14, none⟩) (by show b14_2 ≠ b16_1; omega) (.int .u8 ((bits .and .u8 ((haltG g).r) 128 + bits .and .u8 (((haltG g).r + 1) % 256) 127) % 256))
  have rb16_1 : Row (W16.setCell ⟨b16_1, 14, none⟩ (.int .u8 ((bits .and .u8 ((haltG g).r) 128 + bits .and .u8 (((haltG g).r + 1) % 256) 127) % 256))) b16_1 24 (regsC ({ haltG g with r := (bits .and .u8 ((haltG g).r) 128 + bits .and .u8 (((haltG g).r + 1) % 256) 127) % 256 })) := rb16_1.set 14 (.int .u8 ((bits .and .u8 ((haltG g).r) 128 + bits .and .u8 (((haltG g).r + 1) % 256) 127) % 256))
  have rb16_1 : Row (W16.setCell ⟨b16_1, 14, none⟩ (.int .u8 ((bits .and .u8 ((haltG g).r) 128 + bits .and .u8 (((haltG g).r + 1) % 256) 127) % 256))) b16_1 24 (regsC (tickG (haltG g) 1)) := halt_row hg rb16_1
  have hb := hb.setCell (p := ⟨b16_1, 14, none⟩) (by show _ ≤ b16_1; omega) (.int .u8 ((bits .and .u8 ((haltG g).r) 128 + bits .and .u8 (((haltG g).r + 1) % 256) 127) % 256))
  generalize hW18 : (W16.setCell ⟨b16_1, 14, none⟩ (.int .u8 ((bits .and .u8 ((haltG g).r) 128 + bits .and .u8 (((haltG g).r + 1) % 256) 127) % 256))) = W18 at *
  refine endL ?_
  try simp only [Act.put, sA, sB, sC]
  refine thenN (hK17 _ _ ?_)
  refine wp_seq_k fun K19 hK19 => ?_
  refine regionL ?_
  refine oM 50 (.bool (false)) ?_
  refine oW 51 (.bool (false)) (.bool (true)) (fun _ => rfl) ?_
  refine oM 52 (.bool (true)) ?_
  refine oT 53 (.bool (true)) (heMove (.inl rfl) (by kernel_rfl) _) ?_
  refine oP 54 (.bool (true)) true ?_
  refine oM 55 (.bool (true)) ?_
  refine oT 56 (cyV (ch0 g)) (heLoad rfl (by kernel_rfl) (ldCy rb10_6)) ?_
  refine oT 57 (pT b2_0 11) (heField (V := pT b2_0 0) (R := pT b2_0 11) rfl (by kernel_rfl) (fR11 b2_0) _) ?_
  refine oT 58 (.int .u16 ((haltG g).pc)) (heLoad rfl (by kernel_rfl) (ld16 (rb2_0.at 11 (.int .u16 ((haltG g).pc))))) ?_
  refine oT 59 (cyV (ch0 g)) (heBuild (cells := cyC (ch0 g)) rfl (by kernel_rfl) _) ?_
  refine oT 60 (.bool (true)) (heBin (V := cyV (ch0 g)) (W := cyV (ch0 g)) (R := .bool (true)) rfl (by kernel_rfl) (by kernel_rfl) (cy_guard _ _ _ _ _) (cy_eql _) _) ?_
  refine oP 61 (.bool (true)) true ?_
  refine oM 62 (.bool (true)) ?_
  refine oT 63 (regsV (tickG (haltG g) 1)) (heLoad rfl (by kernel_rfl) (ldR rb12_9.range)) ?_
  refine oT 64 (regsV (tickG (haltG g) 1)) (heLoad rfl (by kernel_rfl) (ldR rb16_1.range)) ?_
  refine oT 65 (.bool (true)) (heBin (V := regsV (tickG (haltG g) 1)) (W := regsV (tickG (haltG g) 1)) (R := .bool (true)) rfl (by kernel_rfl) (by kernel_rfl) (regs_guard _ _ _ _ _) (regs_eql _) _) ?_
  refine oP 66 (.bool (true)) true ?_
  refine oM 67 (.bool (true)) ?_
  refine oT 68 (.int .i64 (4)) (heMove (.inl rfl) (by kernel_rfl) _) ?_
  refine oT 69 (.bool (true)) (heBin (V := .int .i64 (4)) (W := .int .i64 (4)) (R := .bool (true)) rfl (by kernel_rfl) (by kernel_rfl) (egI _ _ _ _ _) (bEqI0 4) _) ?_
  refine oP 70 (.bool (true)) true ?_
  refine oM 71 (.bool (true)) ?_
  refine oT 72 (.int .i64 (1)) (heMove (.inl rfl) (by kernel_rfl) _) ?_
  refine oT 73 (.bool (true)) (heBin (V := .int .i64 (1)) (W := .int .i64 (1)) (R := .bool (true)) rfl (by kernel_rfl) (by kernel_rfl) (egI _ _ _ _ _) (bEqI0 1) _) ?_
  refine oP 74 (.bool (true)) true ?_
  refine oA 4 (.bool (true)) ?_
  refine endL ?_
  try simp only [Act.put, sA, sB, sC]
  refine thenN (hK19 _ _ ?_)
  refine wp_ret ?_
  exact bodyPost_ret (results_tmp rfl _ _ _) rfl ⟨rfl, hb⟩
end Go.Proofs.YtibmpaeaicpbcaaGreatDoor
