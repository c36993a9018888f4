/- The law's walk and what it wants (several texts in one). -/
import Derived.Test.YtibmpaeaicpbcaaGreatDoorNtG4
import Derived.Test.YtibmpaeaicpbcaaGreatDoorNtG5
namespace Go.Proofs.YtibmpaeaicpbcaaGreatDoor
open Go.RowKit
set_option linter.unusedVariables false
set_option linter.unusedSimpArgs false
def Apart (v u : Value) : Prop := ∀ k, v.ownBlock = some k → u.ownBlock ≠ some k
theorem Apart.symm {v u : Value} (h : Apart v u) : Apart u v := fun k hu hv => h k hv hu
theorem Apart.nil (u : Value) : Apart (.slice none 0 0) u := fun k h => by simp [Value.ownBlock] at h
theorem own_ne {w : World} {base n : Nat} {v : Value} {l : List Value} (h : w.ownsRow base 5 1 v n l) {b : Nat} {t : TypeId} {cs : Array Value} (hr : Row w b t cs) (ht : t ≠ 5) : v.ownBlock = none ∨ v.ownBlock ≠ some b := by
  rcases h.2 with ⟨rfl, -⟩ | ⟨g, cap, cur, rfl, -, hh, -⟩
  · exact .inl rfl
  · refine .inr fun e => ?_
    have e' : g = b := by simpa [Value.ownBlock] using e
    subst e'
    have k : some (Obj.cells cur 5 (0, 0)) = some (Obj.cells cs t (0, 0)) := hh.symm.trans hr
    injection k with k
    injection k with _ k _
    exact ht k.symm
theorem Row.grown {w w' : World} {row : Option Nat} {b : Nat} {t : TypeId} {cs : Array Value} (h : Row w b t cs) (hg : w.grownBy w' row) (hne : some b ≠ row) : Row w' b t cs := h.of (hg.block b h.lt hne)
theorem oE2 {ops : Array Oper} {Q : Exit → Act → World → Prop} {a : Act} {w : World} {o : Oper} {rest : List Oper} {s x : Operand} (w0 : World) (base : Nat) {B : Nat} {v u : Value} {n m : Nat} {l k : List Int} {p : Addr} {c : Nat} (ys : List Int) (hB : Below w0.heap.size w0 w) (hb0 : w0.heap.size ≤ base) (hbase : base ≤ w.heap.size) (hown : w.ownsRow base 5 1 v n (bvs l)) (hown2 : w.ownsRow base 5 1 u m (bvs k)) (hap : Apart v u) (hy : BytesIn w B (some p) ys) (hmax : n + ys.length ≤ 140737488355328)
    (h : ∀ v' w', w'.ownsRow base 5 1 v' (n + ys.length) (bvs (l ++ ys)) → w'.ownsRow base 5 1 u m (bvs k) → Apart v' u → Below w0.heap.size w0 w' → base ≤ w'.heap.size → (∀ b t cs, t ≠ 5 → Row w b t cs → Row w' b t cs) → WL Tryz.prog ops Q rest (a.put o.dst v') w')
    (hg : o.guard = none := by exact rfl) (ho : o.op = .call { callee := .builtin .append, args := #[s, x], argTypes := #[25, 25] } := by exact rfl) (hs : a.eval s = v := by kernel_rfl) (hx : a.eval x = .slice (some p) ys.length c := by kernel_rfl) : WL Tryz.prog ops Q (o :: rest) a w := by
  constructor
  obtain ⟨i0, hi0, hz0, hz1, hz2⟩ := info_parts u8_info
  refine wpList_append_own_at _ hg s x _ ho base 5 i0 _ 1 1 Tryz.underlying25 hi0 hz0 hz1 hz2 rfl (by omega) v n (bvs l) hs hown p ys.length c (bvs ys) hx (by rw [bvs_length]; omega) (fun j q hj => ?_) (bvs_one ys) (by simp only [maxLen]; omega) (by omega) hbase ?_
  · unfold bvs at hj
    rw [List.getElem?_map] at hj
    obtain ⟨y, hy1, hy2⟩ := Option.map_eq_some_iff.1 hj
    obtain ⟨ad, e1, -, e2⟩ := hy j y hy1
    cases e1
    rw [e2, ← hy2]
  · intro v' w' own' hgr _ hblk
    rw [bvs_append] at own'
    refine (h v' w' own' (hown2.kept hgr ?_) ?_ (grown_below hB hgr hown hb0) (Nat.le_trans hbase hgr.size) fun b t cs ht hr => hr.grown hgr fun e => ?_).h
    · cases hu : u.ownBlock with
      | none => exact .inl rfl
      | some j => exact .inr fun e => hap j e.symm hu
    · intro j hv' hu
      rcases hblk with e | e
      · exact hap j (e.symm.trans hv') hu
      · have := (hown2.lt j hu).2
        have e' : some j = some w.heap.size := hv'.symm.trans e
        injection e' with e'
        omega
    · rcases own_ne hown hr ht with e2 | e2
      · rw [e2] at e; cases e
      · exact e2 e.symm
theorem error_of {X : Except Cy (Ms × List Int)} (h : doneOf X = false) : X = .error (cyOf X) := by
  cases X with
  | ok a => cases h
  | error c => rfl
theorem sum_byte (a b : Int) : B8 ((a + b) % 256) := by unfold B8; omega
theorem len1 {α : Type} {l : List α} {x : α} {k : Nat} (h : l.length = k) : (l ++ [x]).length = k + 1 := by rw [List.length_append, h]; rfl
theorem le60 {k : Nat} (h : (k : Int) < 60) : k + 1 ≤ 60 := by omega
theorem mes60 {k : Nat} (h : (k : Int) < 60) : 60 - intV (.int .i64 ((k + 1 : Nat) : Int)) < 60 - intV (.int .i64 (k : Int)) := by simp [intV]; omega
set_option maxRecDepth 20000 in
set_option maxHeartbeats 16000000 in
theorem nextPlain_walk (g : Rg) (A : Option Addr) (cap : Nat) (xs : List Int) (v : Int) (hv0 : 0 ≤ v) (hv1 : v ≤ 255) (hg : RgB g) (w : World) (hc : xs.length ≤ cap) (hm : cap ≤ maxLen) (h8 : Bytes8 xs) (hin : BytesIn w w.heap.size A xs) (hn : A = none → cap = 0) (hM : Masks w) (hD : Digits w) (hC : Courses w) (hO : Modes w) :
    Calls Tryz.prog 10 #[regsV g, .slice A xs.length cap, .int .u8 v] w fun e w' => e = .returned (.bool true) ∧ Below w.heap.size w w' := by
  have hb := Below.refl w.heap.size w
  have ht : Tabs w w.heap.size := (NextTabs.mk hM hC hD hO).tabs
  go_enter Tryz.func10, Tryz.ntmps10
  refine wp_seq_k fun K1 hK1 => ?_
  refine region_row [(some 3, .box 24 (regsC g) none none), (some 6, .val (.bool (false)))] (by kernel_rfl) ⟨⟨fun k vs e => (by cases e), fun p l a w I hd => heBox rfl (by kernel_rfl) (boxRg _ w)⟩, fun p l a w I hd => heMove (.inr rfl) (by kernel_rfl) w, trivial⟩ ?_
  intro p2 W2 hE
  have hb := hb.trans (hE.1.mono hb.size)
  have rb2_0 : Row W2 (p2 0) 24 (regsC g) := (hE.2.1 0 _ _ _ _ _ rfl).2
  clear hE
  try simp only [litA, layL, Pl.value, sA, sB, sC]
  generalize p2 0 = b2_0 at *
  refine thenN (hK1 _ _ ?_)
  refine wp_seq_k fun K3 hK3 => ?_
  refine region_row [(some 18, .call (.bool (true))), (some 7, .val (.bool (true)))] (by kernel_rfl) ⟨fun p l a w I hd => ⟨_, _, (by kernel_rfl), awake12_any _ (ht.below (hb.trans (I.below.mono hb.size)))⟩, fun p l a w I hd => heMove (.inr rfl) (by kernel_rfl) w, trivial⟩ ?_
  intro p4 W4 hE
  have rb2_0 := rb2_0.below hE.1 rb2_0.lt
  have hb := hb.trans (hE.1.mono hb.size)
  clear hE
  try simp only [litA, layL, Pl.value, sA, sB, sC]
  refine thenN (hK3 _ _ ?_)
  refine wp_seq_k fun K5 hK5 => ?_
  refine wp_seq_k fun K6 hK6 => ?_
  refine regionL ?_
  refine oM 19 (.bool (true)) ?_
  refine oW 20 (.bool (true)) (.bool (false)) (fun _ => rfl) ?_
  refine endL ?_
  try simp only [Act.put, sA, sB, sC]
  refine thenN (hK6 _ _ ?_)
  refine wp_cond_false (by kernel_rfl) ?_
  refine wp_skip ?_
  refine thenN (hK5 _ _ ?_)
  refine wp_seq_k fun K7 hK7 => ?_
  refine wp_seq_k fun K8 hK8 => ?_
  refine regionL ?_
  refine oM 21 (.slice A xs.length cap) ?_
  refine oT 22 (.int .i64 ((xs.length : Int))) (by kernel_rfl) ?_
  refine oJ 23 (.int .i64 ((xs.length : Int))) (.int .i64 (40)) (.bool (decide (40 < (xs.length : Int)))) (egI _ _ _ _ _) (bGtI' ((xs.length : Int)) 40) ?_
  refine endL ?_
  try simp only [Act.put, sA, sB, sC]
  refine thenN (hK8 _ _ ?_)
  refine wp_cond_split (t := decide (40 < (xs.length : Int))) (by kernel_rfl) (fun h9 => ?_) (fun h9 => ?_)
  · skip
    have g9 : 40 < (xs.length : Int) := by simpa using h9
    refine wp_seq_k fun K10 hK10 => ?_
    refine regionL ?_
    refine oA 6 (.bool (true)) ?_
    refine endL ?_
    try simp only [Act.put, sA, sB, sC]
    refine thenN (hK10 _ _ ?_)
    refine wp_ret ?_
    refine thenR ?_
    exact bodyPost_ret (results_tmp rfl _ _ _) rfl ⟨rfl, hb⟩
  · skip
    have g9 : ¬ 40 < (xs.length : Int) := by simpa using h9
    refine wp_skip ?_
    refine thenN (hK7 _ _ ?_)
    refine wp_seq_k fun K11 hK11 => ?_
    refine regionL ?_
    refine oA 8 (.slice none 0 0) ?_
    refine endL ?_
    try simp only [Act.put, sA, sB, sC]
    refine thenN (hK11 _ _ ?_)
    refine wp_seq_k fun K12 hK12 => ?_
    refine regionL ?_
    refine oA 9 (.slice none 0 0) ?_
    refine endL ?_
    try simp only [Act.put, sA, sB, sC]
    refine thenN (hK12 _ _ ?_)
    refine wp_seq_k fun K13 hK13 => ?_
    refine wp_seq_k fun K14 hK14 => ?_
    refine regionL ?_
    refine oA 10 (.int .i64 (0)) ?_
    refine endL ?_
    try simp only [Act.put, sA, sB, sC]
    refine thenN (hK14 _ _ ?_)
    refine wp_block ?_
    have hB0 := Below.refl W4.heap.size W4
    have hb0 := hb
    have hr0 := rb2_0
    have hl0 := rb2_0.lt
    refine wp_loop (fun a' w' => ∃ (k1 : Nat) (got1 : List Int) (odd1 : List Int) (v1 : Value) (u1 : Value) (y6 y11 y12 y13 y14 y15 y16 y17 y24 y25 y26 y27 y28 y29 y30 y31 y32 y33 y34 y35 y36 y37 y38 y39 y40 y41 y42 y43 y44 y45 y46 y47 y48 y49 y50 y51 y52 y53 y54 y55 y56 y57 y58 y59 y60 y61 y62 y63 y64 y65 y66 y67 y68 y69 y70 y71 y72 y73 y74 y75 y76 y77 y78 y79 y80 y81 y82 y83 y84 y85 y86 y87 : Value), a' = { tmps := #[regsV g, .slice A xs.length cap, .int .u8 (v), pT b2_0 0, undef, undef, y6, .bool (true), v1, u1, .int .i64 (k1 : Int), y11, y12, y13, y14, y15, y16, y17, .bool (true), .bool (true), .bool (false), .slice A xs.length cap, .int .i64 ((xs.length : Int)), .bool (decide (40 < (xs.length : Int))), y24, y25, y26, y27, y28, y29, y30, y31, y32, y33, y34, y35, y36, y37, y38, y39, y40, y41, y42, y43, y44, y45, y46, y47, y48, y49, y50, y51, y52, y53, y54, y55, y56, y57, y58, y59, y60, y61, y62, y63, y64, y65, y66, y67, y68, y69, y70, y71, y72, y73, y74, y75, y76, y77, y78, y79, y80, y81, y82, y83, y84, y85, y86, y87], defers := [] } ∧ Below W4.heap.size W4 w' ∧ w'.ownsRow W4.heap.size 5 1 v1 got1.length (bvs got1) ∧ w'.ownsRow W4.heap.size 5 1 u1 odd1.length (bvs odd1) ∧ Apart v1 u1 ∧ Bytes8 got1 ∧ Bytes8 odd1 ∧ got1.length = k1 ∧ odd1.length = k1 ∧ k1 ≤ 60 ∧ ∀ zs, nextOf g (got1 ++ zs) = nextOf g (odd1 ++ zs)) (fun a' _ => 60 - intV (a'.tmps.getD 10 undef)) ⟨0, [], [], .slice none 0 0, .slice none 0 0, .bool (false), undef, undef, undef, undef, undef, undef, undef, undef, undef, undef, undef, undef, undef, undef, undef, undef, undef, undef, undef, undef, undef, undef, undef, undef, undef, undef, undef, undef, undef, undef, undef, undef, undef, undef, undef, undef, undef, undef, undef, undef, undef, undef, undef, undef, undef, undef, undef, undef, undef, undef, undef, undef, undef, undef, undef, undef, undef, undef, undef, undef, undef, undef, undef, undef, undef, undef, undef, undef, undef, undef, undef, rfl, hB0, World.ownsRow_nil _ _ _ _, World.ownsRow_nil _ _ _ _, Apart.nil _, (fun x h => by cases h), (fun x h => by cases h), rfl, rfl, by decide, fun zs => rfl⟩ ?_
    rintro a1 w1 ⟨k1, got1, odd1, v1, u1, y6, y11, y12, y13, y14, y15, y16, y17, y24, y25, y26, y27, y28, y29, y30, y31, y32, y33, y34, y35, y36, y37, y38, y39, y40, y41, y42, y43, y44, y45, y46, y47, y48, y49, y50, y51, y52, y53, y54, y55, y56, y57, y58, y59, y60, y61, y62, y63, y64, y65, y66, y67, y68, y69, y70, y71, y72, y73, y74, y75, y76, y77, y78, y79, y80, y81, y82, y83, y84, y85, y86, y87, rfl, hB, own, own2, hap, hg8, ho8, hgl, hol, hk60, hI⟩
    have rb2_0 := hr0.below hB hl0
    have hb := hb0.trans (hB.mono hb0.size)
    obtain ⟨Av, cv, rfl, hle, hby, hnn⟩ := own_slice own
    obtain ⟨Au, cu, rfl, hle2, hby2, hnn2⟩ := own_slice own2
    obtain ⟨c, hcE⟩ : ∃ c, c = cyOf (nextOf g got1) := ⟨_, rfl⟩
    obtain ⟨s, hsE⟩ : ∃ s, s = rgOf (nextOf g got1) := ⟨_, rfl⟩
    obtain ⟨d, hdE⟩ : ∃ d, d = doneOf (nextOf g got1) := ⟨_, rfl⟩
    have hoe : nextOf g odd1 = nextOf g got1 := by have h := hI []; rw [List.append_nil, List.append_nil] at h; exact h.symm
    have hq := Below.refl w1.heap.size w1
    have K := next_hid g hg Av cv got1 hle hg8 w1 hby (ht.below hb)
    have K' := next_hid g hg Au cu odd1 hle2 ho8 w1 hby2 (ht.below hb)
    rw [hoe] at K'
    rw [← hcE, ← hsE, ← hdE] at K K'
    refine wp_seq_k fun K15 hK15 => ?_
    refine wp_seq_k fun K16 hK16 => ?_
    refine regionL ?_
    refine oM 24 (.int .i64 ((k1 : Int))) ?_
    refine oJ 25 (.int .i64 ((k1 : Int))) (.int .i64 (60)) (.bool (decide ((k1 : Int) < 60))) (egI _ _ _ _ _) (bLtI ((k1 : Int)) 60) ?_
    refine endL ?_
    try simp only [Act.put, sA, sB, sC]
    refine thenN (hK16 _ _ ?_)
    refine wp_cond_split (t := decide ((k1 : Int) < 60)) (by kernel_rfl) (fun h17 => ?_) (fun h17 => ?_)
    · skip
      have g17 : (k1 : Int) < 60 := by simpa using h17
      refine wp_skip ?_
      refine thenN (hK15 _ _ ?_)
      refine wp_seq_k fun K18 hK18 => ?_
      refine wp_block ?_
      refine wp_seq_k fun K19 hK19 => ?_
      refine region_row [(some 29, .val (regsV g)), (some 30, .val (.slice Av got1.length cv)), (some 31, .call (.tuple #[cyV c, regsV s, .bool (d)])), (some 28, .val (.tuple #[cyV c, regsV s, .bool (d)])), (some 32, .val (cyV c)), (some 33, .val (regsV s)), (some 34, .val (.bool (d))), (some 11, .box 28 (cyC zeroCy) (some (9, cyC c)) none), (some 12, .box 24 (regsC zeroRg) (some (10, regsC s)) none), (none, .put 7), (none, .put 8), (some 13, .val (.bool (d)))] (by kernel_rfl) ⟨fun p l a w I hd => heLoad rfl (by kernel_rfl) (ldR (rb2_0.below I.below rb2_0.lt).range), fun p l a w I hd => heMove (.inl rfl) (by kernel_rfl) w, fun p l a w I hd => ⟨_, _, (by kernel_rfl), K w (hq.trans (I.below.mono hq.size))⟩, fun p l a w I hd => heMove (.inl rfl) (by kernel_rfl) w, fun p l a w I hd => heExtract (vs := #[cyV c, regsV s, .bool (d)]) rfl (by kernel_rfl) (by kernel_rfl) w, fun p l a w I hd => heExtract (vs := #[cyV c, regsV s, .bool (d)]) rfl (by kernel_rfl) (by kernel_rfl) w, fun p l a w I hd => heExtract (vs := #[cyV c, regsV s, .bool (d)]) rfl (by kernel_rfl) (by kernel_rfl) w, ⟨fun k vs e => (by cases e; rfl), fun p l a w I hd => heAlloc rfl (allocCy w)⟩, ⟨fun k vs e => (by cases e; rfl), fun p l a w I hd => heAlloc rfl (allocRg w)⟩, fun p l a w I hd d t z s vs hj hr => (by cases hj; exact heStore rfl (by kernel_rfl) (by kernel_rfl) (stCy hr)), fun p l a w I hd d t z s vs hj hr => (by cases hj; exact heStore rfl (by kernel_rfl) (by kernel_rfl) (stRow hr)), fun p l a w I hd => heMove (.inr rfl) (by kernel_rfl) w, trivial⟩ ?_
      intro p20 W20 hE
      have rb2_0 := rb2_0.below hE.1 rb2_0.lt
      have own := own_below own hE.1
      have own2 := own_below own2 hE.1
      have hb := hb.trans (hE.1.mono hb.size)
      have hB := hB.trans (hE.1.mono hB.size)
      have hq := hq.trans (hE.1.mono hq.size)
      have rb20_7 : Row W20 (p20 7) 28 (cyC c) := (hE.2.1 7 _ _ _ _ _ rfl).2
      have rb20_8 : Row W20 (p20 8) 24 (regsC s) := (hE.2.1 8 _ _ _ _ _ rfl).2
      clear hE
      try simp only [litA, layL, Pl.value, sA, sB, sC]
      generalize p20 7 = b20_7 at *
      generalize p20 8 = b20_8 at *
      refine thenN (hK19 _ _ ?_)
      refine wp_seq_k fun K21 hK21 => ?_
      refine region_row [(some 36, .val (regsV g)), (some 37, .val (.slice Au odd1.length cu)), (some 38, .call (.tuple #[cyV c, regsV s, .bool (d)])), (some 35, .val (.tuple #[cyV c, regsV s, .bool (d)])), (some 39, .val (cyV c)), (some 40, .val (regsV s)), (some 41, .val (.bool (d))), (some 14, .box 28 (cyC zeroCy) (some (9, cyC c)) none), (some 15, .box 24 (regsC zeroRg) (some (10, regsC s)) none), (none, .put 7), (none, .put 8), (some 16, .val (.bool (d)))] (by kernel_rfl) ⟨fun p l a w I hd => heLoad rfl (by kernel_rfl) (ldR (rb2_0.below I.below rb2_0.lt).range), fun p l a w I hd => heMove (.inl rfl) (by kernel_rfl) w, fun p l a w I hd => ⟨_, _, (by kernel_rfl), K' w (hq.trans (I.below.mono hq.size))⟩, fun p l a w I hd => heMove (.inl rfl) (by kernel_rfl) w, fun p l a w I hd => heExtract (vs := #[cyV c, regsV s, .bool (d)]) rfl (by kernel_rfl) (by kernel_rfl) w, fun p l a w I hd => heExtract (vs := #[cyV c, regsV s, .bool (d)]) rfl (by kernel_rfl) (by kernel_rfl) w, fun p l a w I hd => heExtract (vs := #[cyV c, regsV s, .bool (d)]) rfl (by kernel_rfl) (by kernel_rfl) w, ⟨fun k vs e => (by cases e; rfl), fun p l a w I hd => heAlloc rfl (allocCy w)⟩, ⟨fun k vs e => (by cases e; rfl), fun p l a w I hd => heAlloc rfl (allocRg w)⟩, fun p l a w I hd d t z s vs hj hr => (by cases hj; exact heStore rfl (by kernel_rfl) (by kernel_rfl) (stCy hr)), fun p l a w I hd d t z s vs hj hr => (by cases hj; exact heStore rfl (by kernel_rfl) (by kernel_rfl) (stRow hr)), fun p l a w I hd => heMove (.inr rfl) (by kernel_rfl) w, trivial⟩ ?_
      intro p22 W22 hE
      have rb2_0 := rb2_0.below hE.1 rb2_0.lt
      have rb20_7 := rb20_7.below hE.1 rb20_7.lt
      have rb20_8 := rb20_8.below hE.1 rb20_8.lt
      have own := own_below own hE.1
      have own2 := own_below own2 hE.1
      have hb := hb.trans (hE.1.mono hb.size)
      have hB := hB.trans (hE.1.mono hB.size)
      have hq := hq.trans (hE.1.mono hq.size)
      have rb22_7 : Row W22 (p22 7) 28 (cyC c) := (hE.2.1 7 _ _ _ _ _ rfl).2
      have rb22_8 : Row W22 (p22 8) 24 (regsC s) := (hE.2.1 8 _ _ _ _ _ rfl).2
      clear hE
      try simp only [litA, layL, Pl.value, sA, sB, sC]
      generalize p22 7 = b22_7 at *
      generalize p22 8 = b22_8 at *
      refine thenN (hK21 _ _ ?_)
      refine wp_seq_k fun K23 hK23 => ?_
      refine wp_seq_k fun K24 hK24 => ?_
      refine regionL ?_
      refine oL 42 (ldCy rb20_7) ?_
      refine oL 43 (ldCy rb22_7) ?_
      refine oJ 44 (cyV c) (cyV c) (.bool (false)) (cy_guard _ _ _ _ _) (cy_neq _) ?_
      refine oM 45 (.bool (false)) ?_
      refine oT 46 (regsV s) (heLoad rfl (by kernel_rfl) (ldR rb20_8.range)) ?_
      refine oT 47 (regsV s) (heLoad rfl (by kernel_rfl) (ldR rb22_8.range)) ?_
      refine oT 48 (.bool (false)) (heBin (V := regsV s) (W := regsV s) (R := .bool (false)) rfl (by kernel_rfl) (by kernel_rfl) (regs_guard _ _ _ _ _) (regs_neq _) _) ?_
      refine oP 49 (.bool (false)) false ?_
      refine oM 50 (.bool (false)) ?_
      refine oT 51 (.bool (d)) (heMove (.inl rfl) (by kernel_rfl) _) ?_
      refine oT 52 (.bool (d)) (heMove (.inl rfl) (by kernel_rfl) _) ?_
      refine oT 53 (.bool (false)) (heBin (V := .bool (d)) (W := .bool (d)) (R := .bool (false)) rfl (by kernel_rfl) (by kernel_rfl) (egB _ _ _ _ _) (bNeB0 d) _) ?_
      refine oP 54 (.bool (false)) false ?_
      refine endL ?_
      try simp only [Act.put, sA, sB, sC]
      refine thenN (hK24 _ _ ?_)
      refine wp_cond_false (by kernel_rfl) ?_
      refine wp_skip ?_
      refine thenN (hK23 _ _ ?_)
      refine wp_seq_k fun K25 hK25 => ?_
      refine wp_seq_k fun K26 hK26 => ?_
      refine regionL ?_
      refine oM 55 (.bool (d)) ?_
      refine endL ?_
      try simp only [Act.put, sA, sB, sC]
      refine thenN (hK26 _ _ ?_)
      refine wp_cond_split (t := d) (by kernel_rfl) (fun h27 => ?_) (fun h27 => ?_)
      · skip
        have g27 : d = true := by simpa using h27
        refine wp_seq_k fun K28 hK28 => ?_
        refine regionL ?_
        refine oA 6 (.bool (true)) ?_
        refine endL ?_
        try simp only [Act.put, sA, sB, sC]
        refine thenN (hK28 _ _ ?_)
        refine wp_ret ?_
        refine thenR ?_
        refine blockR ?_
        refine thenR ?_
        refine thenR ?_
        refine blockR ?_
        refine thenR ?_
        exact bodyPost_ret (results_tmp rfl _ _ _) rfl ⟨rfl, hb⟩
      · skip
        have g27 : ¬ d = true := by simpa using h27
        refine wp_skip ?_
        refine thenN (hK25 _ _ ?_)
        refine wp_seq_k fun K29 hK29 => ?_
        refine regionL ?_
        refine oA 17 (.int .u8 (0)) ?_
        refine endL ?_
        try simp only [Act.put, sA, sB, sC]
        refine thenN (hK29 _ _ ?_)
        refine wp_seq_k fun K30 hK30 => ?_
        refine wp_seq_k fun K31 hK31 => ?_
        refine regionL ?_
        refine oM 56 (.int .i64 ((k1 : Int))) ?_
        refine oM 57 (.slice A xs.length cap) ?_
        refine oT 58 (.int .i64 ((xs.length : Int))) (by kernel_rfl) ?_
        refine oJ 59 (.int .i64 ((k1 : Int))) (.int .i64 ((xs.length : Int))) (.bool (decide ((k1 : Int) < (xs.length : Int)))) (egI _ _ _ _ _) (bLtI ((k1 : Int)) ((xs.length : Int))) ?_
        refine endL ?_
        try simp only [Act.put, sA, sB, sC]
        refine thenN (hK31 _ _ ?_)
        refine wp_cond_split (t := decide ((k1 : Int) < (xs.length : Int))) (by kernel_rfl) (fun h32 => ?_) (fun h32 => ?_)
        · skip
          have g32 : (k1 : Int) < (xs.length : Int) := by simpa using h32
          obtain ⟨ad, hA1, had, hcell⟩ := hin.at_ (k := k1) (by omega)
          refine regionL ?_
          refine oM 60 (.slice A xs.length cap) ?_
          refine oM 61 (.int .i64 ((k1 : Int))) ?_
          refine oI 62 (.slice A xs.length cap) (.int .i64 ((k1 : Int))) (.pointer (some (ad.add k1))) (by rw [hA1]; exact ixk _ _ _ _ (by omega) _) ?_
          refine oL 63 (ld8 (hb.cell (p := ad.add k1) (by rw [add_block]; exact had) |>.trans hcell)) ?_
          refine oA 17 (.int .u8 ((xs.getD k1 0))) ?_
          refine endL ?_
          try simp only [Act.put, sA, sB, sC]
          refine thenN (hK30 _ _ ?_)
          refine wp_seq_k fun K33 hK33 => ?_
          refine regionL <| oM 64 (.slice Av got1.length cv) <| oM 65 (.int .u8 ((xs.getD k1 0))) <| oV 66 1 #[.int .u8 ((xs.getD k1 0))] 5 #[(0, .int .u8 ((xs.getD k1 0)))] (bs1 ((xs.getD k1 0)) _) ?_
          have hBa := hB.alloc hB.size (.cells #[.int .u8 ((xs.getD k1 0))] 5)
          refine oE2 (c := 1) W4 W4.heap.size [(xs.getD k1 0)] hBa (Nat.le_refl _) hBa.size (own.alloc _) (own2.alloc _) hap (byte_new W22 ((xs.getD k1 0)) _) (by simp; omega) ?_
          intro v34 W34 own own2 hap hB hs34 hrk
          have rb2_0 := hrk _ _ _ (by decide) (Row.alloc rb2_0 (.cells #[.int .u8 ((xs.getD k1 0))] 5))
          have rb20_7 := hrk _ _ _ (by decide) (Row.alloc rb20_7 (.cells #[.int .u8 ((xs.getD k1 0))] 5))
          have rb20_8 := hrk _ _ _ (by decide) (Row.alloc rb20_8 (.cells #[.int .u8 ((xs.getD k1 0))] 5))
          have rb22_7 := hrk _ _ _ (by decide) (Row.alloc rb22_7 (.cells #[.int .u8 ((xs.getD k1 0))] 5))
          have rb22_8 := hrk _ _ _ (by decide) (Row.alloc rb22_8 (.cells #[.int .u8 ((xs.getD k1 0))] 5))
          have own : W34.ownsRow W4.heap.size 5 1 v34 (got1 ++ [(xs.getD k1 0)]).length (bvs (got1 ++ [(xs.getD k1 0)])) := by rw [List.length_append]; exact own
          obtain ⟨A34, c34, hv34, -⟩ := own_slice own
          subst hv34
          have hb := hb0.trans (hB.mono hb0.size)
          refine oA 8 (.slice A34 (got1 ++ [(xs.getD k1 0)]).length c34) ?_
          refine endL ?_
          try simp only [Act.put, sA, sB, sC]
          refine thenN (hK33 _ _ ?_)
          refine wp_seq_k fun K35 hK35 => ?_
          refine wp_seq_k fun K36 hK36 => ?_
          refine regionL ?_
          refine oF 68 (fC0 b20_7) ?_
          refine oL 69 (ldI (rb20_7.at 0 (.int .i64 (c.kind)))) ?_
          refine oJ 70 (.int .i64 (c.kind)) (.int .i64 (3)) (.bool (c.kind == 3)) (egI _ _ _ _ _) (bEqI c.kind 3) ?_
          refine oM 71 (.bool (c.kind == 3)) ?_
          rcases Bool.eq_false_or_eq_true (c.kind == 3) with h37 | h37
          · skip
            have g37 : c.kind = 3 := by simpa using h37
            rewrite [h37]
            refine oZ 72 ?_
            refine oZ 73 ?_
            refine oZ 74 ?_
            refine oP 75 (.bool (true)) true ?_
            refine oM 76 (.bool (true)) ?_
            refine oZ 77 ?_
            refine oZ 78 ?_
            refine oZ 79 ?_
            refine oP 80 (.bool (true)) true ?_
            refine endL ?_
            try simp only [Act.put, sA, sB, sC]
            refine thenN (hK36 _ _ ?_)
            refine wp_cond_true (by kernel_rfl) ?_
            refine regionL ?_
            refine oM 81 (.int .u8 ((xs.getD k1 0))) ?_
            refine oM 82 (.int .u8 (v)) ?_
            refine oJ 83 (.int .u8 ((xs.getD k1 0))) (.int .u8 (v)) (.int .u8 (((xs.getD k1 0) + v) % 256)) (eg8 _ _ _ _ _) (bAdd8 ((xs.getD k1 0)) v) ?_
            refine oA 17 (.int .u8 (((xs.getD k1 0) + v) % 256)) ?_
            refine endL ?_
            try simp only [Act.put, sA, sB, sC]
            refine thenN (hK35 _ _ ?_)
            refine regionL <| oM 84 (.slice Au odd1.length cu) <| oM 85 (.int .u8 (((xs.getD k1 0) + v) % 256)) <| oV 86 1 #[.int .u8 (((xs.getD k1 0) + v) % 256)] 5 #[(0, .int .u8 (((xs.getD k1 0) + v) % 256))] (bs1 (((xs.getD k1 0) + v) % 256) _) ?_
            have hBa := hB.alloc hB.size (.cells #[.int .u8 (((xs.getD k1 0) + v) % 256)] 5)
            refine oE2 (c := 1) W4 W4.heap.size [((xs.getD k1 0) + v) % 256] hBa (Nat.le_refl _) hBa.size (own2.alloc _) (own.alloc _) hap.symm (byte_new W34 (((xs.getD k1 0) + v) % 256) _) (by simp; omega) ?_
            intro v38 W38 own2 own hap hB hs38 hrk
            have hap := hap.symm
            have rb2_0 := hrk _ _ _ (by decide) (Row.alloc rb2_0 (.cells #[.int .u8 (((xs.getD k1 0) + v) % 256)] 5))
            have rb20_7 := hrk _ _ _ (by decide) (Row.alloc rb20_7 (.cells #[.int .u8 (((xs.getD k1 0) + v) % 256)] 5))
            have rb20_8 := hrk _ _ _ (by decide) (Row.alloc rb20_8 (.cells #[.int .u8 (((xs.getD k1 0) + v) % 256)] 5))
            have rb22_7 := hrk _ _ _ (by decide) (Row.alloc rb22_7 (.cells #[.int .u8 (((xs.getD k1 0) + v) % 256)] 5))
            have rb22_8 := hrk _ _ _ (by decide) (Row.alloc rb22_8 (.cells #[.int .u8 (((xs.getD k1 0) + v) % 256)] 5))
            have own2 : W38.ownsRow W4.heap.size 5 1 v38 (odd1 ++ [((xs.getD k1 0) + v) % 256]).length (bvs (odd1 ++ [((xs.getD k1 0) + v) % 256])) := by rw [List.length_append]; exact own2
            obtain ⟨A38, c38, hv38, -⟩ := own_slice own2
            subst hv38
            have hb := hb0.trans (hB.mono hb0.size)
            refine oA 9 (.slice A38 (odd1 ++ [((xs.getD k1 0) + v) % 256]).length c38) ?_
            refine endL ?_
            try simp only [Act.put, sA, sB, sC]
            refine blockN ?_
            refine thenN (hK18 _ _ ?_)
            refine regionL ?_
            refine oM 26 (.int .i64 ((k1 : Int))) ?_
            refine oJ 27 (.int .i64 ((k1 : Int))) (.int .i64 (1)) (.int .i64 (((k1 + 1 : Nat) : Int))) (egI _ _ _ _ _) (bInc k1 (by omega)) ?_
            refine oA 10 (.int .i64 (((k1 + 1 : Nat) : Int))) ?_
            refine endL ?_
            try simp only [Act.put, sA, sB, sC]
            have he : nextOf g got1 = .error c := by rw [hcE]; exact error_of (hdE.symm.trans h27)
            exact thenN ⟨⟨k1 + 1, got1 ++ [(xs.getD k1 0)], odd1 ++ [((xs.getD k1 0) + v) % 256], .slice A34 (got1 ++ [(xs.getD k1 0)]).length c34, .slice A38 (odd1 ++ [((xs.getD k1 0) + v) % 256]).length c38, y6, pT b20_7 0, pT b20_8 0, .bool (d), pT b22_7 0, pT b22_8 0, .bool (d), .int .u8 (((xs.getD k1 0) + v) % 256), .int .i64 ((k1 : Int)), .bool (decide ((k1 : Int) < 60)), .int .i64 ((k1 : Int)), .int .i64 (((k1 + 1 : Nat) : Int)), .tuple #[cyV c, regsV s, .bool (d)], regsV g, .slice Av got1.length cv, .tuple #[cyV c, regsV s, .bool (d)], cyV c, regsV s, .bool (d), .tuple #[cyV c, regsV s, .bool (d)], regsV g, .slice Au odd1.length cu, .tuple #[cyV c, regsV s, .bool (d)], cyV c, regsV s, .bool (d), cyV c, cyV c, .bool (false), .bool (false), regsV s, regsV s, .bool (false), .bool (false), .bool (false), .bool (d), .bool (d), .bool (false), .bool (false), .bool (d), .int .i64 ((k1 : Int)), .slice A xs.length cap, .int .i64 ((xs.length : Int)), .bool (decide ((k1 : Int) < (xs.length : Int))), .slice A xs.length cap, .int .i64 ((k1 : Int)), .pointer (some (ad.add k1)), .int .u8 ((xs.getD k1 0)), .slice Av got1.length cv, .int .u8 ((xs.getD k1 0)), .slice (some ⟨W22.heap.size, 0, none⟩) 1 1, .slice A34 (got1 ++ [(xs.getD k1 0)]).length c34, pT b20_7 0, .int .i64 (c.kind), .bool (true), .bool (true), undef, undef, undef, .bool (true), .bool (true), undef, undef, undef, .bool (true), .int .u8 ((xs.getD k1 0)), .int .u8 (v), .int .u8 (((xs.getD k1 0) + v) % 256), .slice Au odd1.length cu, .int .u8 (((xs.getD k1 0) + v) % 256), .slice (some ⟨W34.heap.size, 0, none⟩) 1 1, .slice A38 (odd1 ++ [((xs.getD k1 0) + v) % 256]).length c38, rfl, hB, own, own2, hap, hg8.append (byte_list (gb_byte h8 k1)), ho8.append (byte_list (sum_byte _ _)), len1 hgl, len1 hol, le60 g17, fun zs => by rw [List.append_assoc, List.append_assoc]; exact (next_deaf (by omega) _ _ zs he).trans (hI _)⟩, mes60 g17⟩
          · skip
            have g37 : ¬ c.kind = 3 := by simpa using h37
            rewrite [h37]
            refine oT 72 (pT b20_7 0) (heField (V := pT b20_7 0) (R := pT b20_7 0) rfl (by kernel_rfl) (fC0 b20_7) _) ?_
            refine oT 73 (.int .i64 (c.kind)) (heLoad rfl (by kernel_rfl) (ldI (rb20_7.at 0 (.int .i64 (c.kind))))) ?_
            refine oT 74 (.bool (c.kind == 5)) (heBin (V := .int .i64 (c.kind)) (W := .int .i64 (5)) (R := .bool (c.kind == 5)) rfl (by kernel_rfl) (by kernel_rfl) (egI _ _ _ _ _) (bEqI c.kind 5) _) ?_
            refine oP 75 (.bool (c.kind == 5)) false ?_
            refine oM 76 (.bool (c.kind == 5)) ?_
            rcases Bool.eq_false_or_eq_true (c.kind == 5) with h39 | h39
            · skip
              have g39 : c.kind = 5 := by simpa using h39
              rewrite [h39]
              refine oZ 77 ?_
              refine oZ 78 ?_
              refine oZ 79 ?_
              refine oP 80 (.bool (true)) true ?_
              refine endL ?_
              try simp only [Act.put, sA, sB, sC]
              refine thenN (hK36 _ _ ?_)
              refine wp_cond_true (by kernel_rfl) ?_
              refine regionL ?_
              refine oM 81 (.int .u8 ((xs.getD k1 0))) ?_
              refine oM 82 (.int .u8 (v)) ?_
              refine oJ 83 (.int .u8 ((xs.getD k1 0))) (.int .u8 (v)) (.int .u8 (((xs.getD k1 0) + v) % 256)) (eg8 _ _ _ _ _) (bAdd8 ((xs.getD k1 0)) v) ?_
              refine oA 17 (.int .u8 (((xs.getD k1 0) + v) % 256)) ?_
              refine endL ?_
              try simp only [Act.put, sA, sB, sC]
              refine thenN (hK35 _ _ ?_)
              refine regionL <| oM 84 (.slice Au odd1.length cu) <| oM 85 (.int .u8 (((xs.getD k1 0) + v) % 256)) <| oV 86 1 #[.int .u8 (((xs.getD k1 0) + v) % 256)] 5 #[(0, .int .u8 (((xs.getD k1 0) + v) % 256))] (bs1 (((xs.getD k1 0) + v) % 256) _) ?_
              have hBa := hB.alloc hB.size (.cells #[.int .u8 (((xs.getD k1 0) + v) % 256)] 5)
              refine oE2 (c := 1) W4 W4.heap.size [((xs.getD k1 0) + v) % 256] hBa (Nat.le_refl _) hBa.size (own2.alloc _) (own.alloc _) hap.symm (byte_new W34 (((xs.getD k1 0) + v) % 256) _) (by simp; omega) ?_
              intro v40 W40 own2 own hap hB hs40 hrk
              have hap := hap.symm
              have rb2_0 := hrk _ _ _ (by decide) (Row.alloc rb2_0 (.cells #[.int .u8 (((xs.getD k1 0) + v) % 256)] 5))
              have rb20_7 := hrk _ _ _ (by decide) (Row.alloc rb20_7 (.cells #[.int .u8 (((xs.getD k1 0) + v) % 256)] 5))
              have rb20_8 := hrk _ _ _ (by decide) (Row.alloc rb20_8 (.cells #[.int .u8 (((xs.getD k1 0) + v) % 256)] 5))
              have rb22_7 := hrk _ _ _ (by decide) (Row.alloc rb22_7 (.cells #[.int .u8 (((xs.getD k1 0) + v) % 256)] 5))
              have rb22_8 := hrk _ _ _ (by decide) (Row.alloc rb22_8 (.cells #[.int .u8 (((xs.getD k1 0) + v) % 256)] 5))
              have own2 : W40.ownsRow W4.heap.size 5 1 v40 (odd1 ++ [((xs.getD k1 0) + v) % 256]).length (bvs (odd1 ++ [((xs.getD k1 0) + v) % 256])) := by rw [List.length_append]; exact own2
              obtain ⟨A40, c40, hv40, -⟩ := own_slice own2
              subst hv40
              have hb := hb0.trans (hB.mono hb0.size)
              refine oA 9 (.slice A40 (odd1 ++ [((xs.getD k1 0) + v) % 256]).length c40) ?_
              refine endL ?_
              try simp only [Act.put, sA, sB, sC]
              refine blockN ?_
              refine thenN (hK18 _ _ ?_)
              refine regionL ?_
              refine oM 26 (.int .i64 ((k1 : Int))) ?_
              refine oJ 27 (.int .i64 ((k1 : Int))) (.int .i64 (1)) (.int .i64 (((k1 + 1 : Nat) : Int))) (egI _ _ _ _ _) (bInc k1 (by omega)) ?_
              refine oA 10 (.int .i64 (((k1 + 1 : Nat) : Int))) ?_
              refine endL ?_
              try simp only [Act.put, sA, sB, sC]
              have he : nextOf g got1 = .error c := by rw [hcE]; exact error_of (hdE.symm.trans h27)
              exact thenN ⟨⟨k1 + 1, got1 ++ [(xs.getD k1 0)], odd1 ++ [((xs.getD k1 0) + v) % 256], .slice A34 (got1 ++ [(xs.getD k1 0)]).length c34, .slice A40 (odd1 ++ [((xs.getD k1 0) + v) % 256]).length c40, y6, pT b20_7 0, pT b20_8 0, .bool (d), pT b22_7 0, pT b22_8 0, .bool (d), .int .u8 (((xs.getD k1 0) + v) % 256), .int .i64 ((k1 : Int)), .bool (decide ((k1 : Int) < 60)), .int .i64 ((k1 : Int)), .int .i64 (((k1 + 1 : Nat) : Int)), .tuple #[cyV c, regsV s, .bool (d)], regsV g, .slice Av got1.length cv, .tuple #[cyV c, regsV s, .bool (d)], cyV c, regsV s, .bool (d), .tuple #[cyV c, regsV s, .bool (d)], regsV g, .slice Au odd1.length cu, .tuple #[cyV c, regsV s, .bool (d)], cyV c, regsV s, .bool (d), cyV c, cyV c, .bool (false), .bool (false), regsV s, regsV s, .bool (false), .bool (false), .bool (false), .bool (d), .bool (d), .bool (false), .bool (false), .bool (d), .int .i64 ((k1 : Int)), .slice A xs.length cap, .int .i64 ((xs.length : Int)), .bool (decide ((k1 : Int) < (xs.length : Int))), .slice A xs.length cap, .int .i64 ((k1 : Int)), .pointer (some (ad.add k1)), .int .u8 ((xs.getD k1 0)), .slice Av got1.length cv, .int .u8 ((xs.getD k1 0)), .slice (some ⟨W22.heap.size, 0, none⟩) 1 1, .slice A34 (got1 ++ [(xs.getD k1 0)]).length c34, pT b20_7 0, .int .i64 (c.kind), .bool (false), .bool (false), pT b20_7 0, .int .i64 (c.kind), .bool (true), .bool (true), .bool (true), undef, undef, undef, .bool (true), .int .u8 ((xs.getD k1 0)), .int .u8 (v), .int .u8 (((xs.getD k1 0) + v) % 256), .slice Au odd1.length cu, .int .u8 (((xs.getD k1 0) + v) % 256), .slice (some ⟨W34.heap.size, 0, none⟩) 1 1, .slice A40 (odd1 ++ [((xs.getD k1 0) + v) % 256]).length c40, rfl, hB, own, own2, hap, hg8.append (byte_list (gb_byte h8 k1)), ho8.append (byte_list (sum_byte _ _)), len1 hgl, len1 hol, le60 g17, fun zs => by rw [List.append_assoc, List.append_assoc]; exact (next_deaf (by omega) _ _ zs he).trans (hI _)⟩, mes60 g17⟩
            · skip
              have g39 : ¬ c.kind = 5 := by simpa using h39
              rewrite [h39]
              refine oT 77 (pT b20_7 0) (heField (V := pT b20_7 0) (R := pT b20_7 0) rfl (by kernel_rfl) (fC0 b20_7) _) ?_
              refine oT 78 (.int .i64 (c.kind)) (heLoad rfl (by kernel_rfl) (ldI (rb20_7.at 0 (.int .i64 (c.kind))))) ?_
              refine oT 79 (.bool (c.kind == 7)) (heBin (V := .int .i64 (c.kind)) (W := .int .i64 (7)) (R := .bool (c.kind == 7)) rfl (by kernel_rfl) (by kernel_rfl) (egI _ _ _ _ _) (bEqI c.kind 7) _) ?_
              refine oP 80 (.bool (c.kind == 7)) false ?_
              refine endL ?_
              try simp only [Act.put, sA, sB, sC]
              refine thenN (hK36 _ _ ?_)
              refine wp_cond_split (t := c.kind == 7) (by kernel_rfl) (fun h41 => ?_) (fun h41 => ?_)
              · skip
                have g41 : c.kind = 7 := by simpa using h41
                refine regionL ?_
                refine oM 81 (.int .u8 ((xs.getD k1 0))) ?_
                refine oM 82 (.int .u8 (v)) ?_
                refine oJ 83 (.int .u8 ((xs.getD k1 0))) (.int .u8 (v)) (.int .u8 (((xs.getD k1 0) + v) % 256)) (eg8 _ _ _ _ _) (bAdd8 ((xs.getD k1 0)) v) ?_
                refine oA 17 (.int .u8 (((xs.getD k1 0) + v) % 256)) ?_
                refine endL ?_
                try simp only [Act.put, sA, sB, sC]
                refine thenN (hK35 _ _ ?_)
                refine regionL <| oM 84 (.slice Au odd1.length cu) <| oM 85 (.int .u8 (((xs.getD k1 0) + v) % 256)) <| oV 86 1 #[.int .u8 (((xs.getD k1 0) + v) % 256)] 5 #[(0, .int .u8 (((xs.getD k1 0) + v) % 256))] (bs1 (((xs.getD k1 0) + v) % 256) _) ?_
                have hBa := hB.alloc hB.size (.cells #[.int .u8 (((xs.getD k1 0) + v) % 256)] 5)
                refine oE2 (c := 1) W4 W4.heap.size [((xs.getD k1 0) + v) % 256] hBa (Nat.le_refl _) hBa.size (own2.alloc _) (own.alloc _) hap.symm (byte_new W34 (((xs.getD k1 0) + v) % 256) _) (by simp; omega) ?_
                intro v42 W42 own2 own hap hB hs42 hrk
                have hap := hap.symm
                have rb2_0 := hrk _ _ _ (by decide) (Row.alloc rb2_0 (.cells #[.int .u8 (((xs.getD k1 0) + v) % 256)] 5))
                have rb20_7 := hrk _ _ _ (by decide) (Row.alloc rb20_7 (.cells #[.int .u8 (((xs.getD k1 0) + v) % 256)] 5))
                have rb20_8 := hrk _ _ _ (by decide) (Row.alloc rb20_8 (.cells #[.int .u8 (((xs.getD k1 0) + v) % 256)] 5))
                have rb22_7 := hrk _ _ _ (by decide) (Row.alloc rb22_7 (.cells #[.int .u8 (((xs.getD k1 0) + v) % 256)] 5))
                have rb22_8 := hrk _ _ _ (by decide) (Row.alloc rb22_8 (.cells #[.int .u8 (((xs.getD k1 0) + v) % 256)] 5))
                have own2 : W42.ownsRow W4.heap.size 5 1 v42 (odd1 ++ [((xs.getD k1 0) + v) % 256]).length (bvs (odd1 ++ [((xs.getD k1 0) + v) % 256])) := by rw [List.length_append]; exact own2
                obtain ⟨A42, c42, hv42, -⟩ := own_slice own2
                subst hv42
                have hb := hb0.trans (hB.mono hb0.size)
                refine oA 9 (.slice A42 (odd1 ++ [((xs.getD k1 0) + v) % 256]).length c42) ?_
                refine endL ?_
                try simp only [Act.put, sA, sB, sC]
                refine blockN ?_
                refine thenN (hK18 _ _ ?_)
                refine regionL ?_
                refine oM 26 (.int .i64 ((k1 : Int))) ?_
                refine oJ 27 (.int .i64 ((k1 : Int))) (.int .i64 (1)) (.int .i64 (((k1 + 1 : Nat) : Int))) (egI _ _ _ _ _) (bInc k1 (by omega)) ?_
                refine oA 10 (.int .i64 (((k1 + 1 : Nat) : Int))) ?_
                refine endL ?_
                try simp only [Act.put, sA, sB, sC]
                have he : nextOf g got1 = .error c := by rw [hcE]; exact error_of (hdE.symm.trans h27)
                exact thenN ⟨⟨k1 + 1, got1 ++ [(xs.getD k1 0)], odd1 ++ [((xs.getD k1 0) + v) % 256], .slice A34 (got1 ++ [(xs.getD k1 0)]).length c34, .slice A42 (odd1 ++ [((xs.getD k1 0) + v) % 256]).length c42, y6, pT b20_7 0, pT b20_8 0, .bool (d), pT b22_7 0, pT b22_8 0, .bool (d), .int .u8 (((xs.getD k1 0) + v) % 256), .int .i64 ((k1 : Int)), .bool (decide ((k1 : Int) < 60)), .int .i64 ((k1 : Int)), .int .i64 (((k1 + 1 : Nat) : Int)), .tuple #[cyV c, regsV s, .bool (d)], regsV g, .slice Av got1.length cv, .tuple #[cyV c, regsV s, .bool (d)], cyV c, regsV s, .bool (d), .tuple #[cyV c, regsV s, .bool (d)], regsV g, .slice Au odd1.length cu, .tuple #[cyV c, regsV s, .bool (d)], cyV c, regsV s, .bool (d), cyV c, cyV c, .bool (false), .bool (false), regsV s, regsV s, .bool (false), .bool (false), .bool (false), .bool (d), .bool (d), .bool (false), .bool (false), .bool (d), .int .i64 ((k1 : Int)), .slice A xs.length cap, .int .i64 ((xs.length : Int)), .bool (decide ((k1 : Int) < (xs.length : Int))), .slice A xs.length cap, .int .i64 ((k1 : Int)), .pointer (some (ad.add k1)), .int .u8 ((xs.getD k1 0)), .slice Av got1.length cv, .int .u8 ((xs.getD k1 0)), .slice (some ⟨W22.heap.size, 0, none⟩) 1 1, .slice A34 (got1 ++ [(xs.getD k1 0)]).length c34, pT b20_7 0, .int .i64 (c.kind), .bool (false), .bool (false), pT b20_7 0, .int .i64 (c.kind), .bool (false), .bool (false), .bool (false), pT b20_7 0, .int .i64 (c.kind), .bool (c.kind == 7), .bool (c.kind == 7), .int .u8 ((xs.getD k1 0)), .int .u8 (v), .int .u8 (((xs.getD k1 0) + v) % 256), .slice Au odd1.length cu, .int .u8 (((xs.getD k1 0) + v) % 256), .slice (some ⟨W34.heap.size, 0, none⟩) 1 1, .slice A42 (odd1 ++ [((xs.getD k1 0) + v) % 256]).length c42, rfl, hB, own, own2, hap, hg8.append (byte_list (gb_byte h8 k1)), ho8.append (byte_list (sum_byte _ _)), len1 hgl, len1 hol, le60 g17, fun zs => by rw [List.append_assoc, List.append_assoc]; exact (next_deaf (by omega) _ _ zs he).trans (hI _)⟩, mes60 g17⟩
              · skip
                have g41 : ¬ c.kind = 7 := by simpa using h41
                refine wp_skip ?_
                refine thenN (hK35 _ _ ?_)
                refine regionL <| oM 84 (.slice Au odd1.length cu) <| oM 85 (.int .u8 ((xs.getD k1 0))) <| oV 86 1 #[.int .u8 ((xs.getD k1 0))] 5 #[(0, .int .u8 ((xs.getD k1 0)))] (bs1 ((xs.getD k1 0)) _) ?_
                have hBa := hB.alloc hB.size (.cells #[.int .u8 ((xs.getD k1 0))] 5)
                refine oE2 (c := 1) W4 W4.heap.size [(xs.getD k1 0)] hBa (Nat.le_refl _) hBa.size (own2.alloc _) (own.alloc _) hap.symm (byte_new W34 ((xs.getD k1 0)) _) (by simp; omega) ?_
                intro v43 W43 own2 own hap hB hs43 hrk
                have hap := hap.symm
                have rb2_0 := hrk _ _ _ (by decide) (Row.alloc rb2_0 (.cells #[.int .u8 ((xs.getD k1 0))] 5))
                have rb20_7 := hrk _ _ _ (by decide) (Row.alloc rb20_7 (.cells #[.int .u8 ((xs.getD k1 0))] 5))
                have rb20_8 := hrk _ _ _ (by decide) (Row.alloc rb20_8 (.cells #[.int .u8 ((xs.getD k1 0))] 5))
                have rb22_7 := hrk _ _ _ (by decide) (Row.alloc rb22_7 (.cells #[.int .u8 ((xs.getD k1 0))] 5))
                have rb22_8 := hrk _ _ _ (by decide) (Row.alloc rb22_8 (.cells #[.int .u8 ((xs.getD k1 0))] 5))
                have own2 : W43.ownsRow W4.heap.size 5 1 v43 (odd1 ++ [(xs.getD k1 0)]).length (bvs (odd1 ++ [(xs.getD k1 0)])) := by rw [List.length_append]; exact own2
                obtain ⟨A43, c43, hv43, -⟩ := own_slice own2
                subst hv43
                have hb := hb0.trans (hB.mono hb0.size)
                refine oA 9 (.slice A43 (odd1 ++ [(xs.getD k1 0)]).length c43) ?_
                refine endL ?_
                try simp only [Act.put, sA, sB, sC]
                refine blockN ?_
                refine thenN (hK18 _ _ ?_)
                refine regionL ?_
                refine oM 26 (.int .i64 ((k1 : Int))) ?_
                refine oJ 27 (.int .i64 ((k1 : Int))) (.int .i64 (1)) (.int .i64 (((k1 + 1 : Nat) : Int))) (egI _ _ _ _ _) (bInc k1 (by omega)) ?_
                refine oA 10 (.int .i64 (((k1 + 1 : Nat) : Int))) ?_
                refine endL ?_
                try simp only [Act.put, sA, sB, sC]
                exact thenN ⟨⟨k1 + 1, got1 ++ [(xs.getD k1 0)], odd1 ++ [(xs.getD k1 0)], .slice A34 (got1 ++ [(xs.getD k1 0)]).length c34, .slice A43 (odd1 ++ [(xs.getD k1 0)]).length c43, y6, pT b20_7 0, pT b20_8 0, .bool (d), pT b22_7 0, pT b22_8 0, .bool (d), .int .u8 ((xs.getD k1 0)), .int .i64 ((k1 : Int)), .bool (decide ((k1 : Int) < 60)), .int .i64 ((k1 : Int)), .int .i64 (((k1 + 1 : Nat) : Int)), .tuple #[cyV c, regsV s, .bool (d)], regsV g, .slice Av got1.length cv, .tuple #[cyV c, regsV s, .bool (d)], cyV c, regsV s, .bool (d), .tuple #[cyV c, regsV s, .bool (d)], regsV g, .slice Au odd1.length cu, .tuple #[cyV c, regsV s, .bool (d)], cyV c, regsV s, .bool (d), cyV c, cyV c, .bool (false), .bool (false), regsV s, regsV s, .bool (false), .bool (false), .bool (false), .bool (d), .bool (d), .bool (false), .bool (false), .bool (d), .int .i64 ((k1 : Int)), .slice A xs.length cap, .int .i64 ((xs.length : Int)), .bool (decide ((k1 : Int) < (xs.length : Int))), .slice A xs.length cap, .int .i64 ((k1 : Int)), .pointer (some (ad.add k1)), .int .u8 ((xs.getD k1 0)), .slice Av got1.length cv, .int .u8 ((xs.getD k1 0)), .slice (some ⟨W22.heap.size, 0, none⟩) 1 1, .slice A34 (got1 ++ [(xs.getD k1 0)]).length c34, pT b20_7 0, .int .i64 (c.kind), .bool (false), .bool (false), pT b20_7 0, .int .i64 (c.kind), .bool (false), .bool (false), .bool (false), pT b20_7 0, .int .i64 (c.kind), .bool (c.kind == 7), .bool (c.kind == 7), y81, y82, y83, .slice Au odd1.length cu, .int .u8 ((xs.getD k1 0)), .slice (some ⟨W34.heap.size, 0, none⟩) 1 1, .slice A43 (odd1 ++ [(xs.getD k1 0)]).length c43, rfl, hB, own, own2, hap, hg8.append (byte_list (gb_byte h8 k1)), ho8.append (byte_list (gb_byte h8 k1)), len1 hgl, len1 hol, le60 g17, fun zs => by rw [List.append_assoc, List.append_assoc]; exact hI _⟩, mes60 g17⟩
        · skip
          have g32 : ¬ (k1 : Int) < (xs.length : Int) := by simpa using h32
          refine wp_skip ?_
          refine thenN (hK30 _ _ ?_)
          refine wp_seq_k fun K44 hK44 => ?_
          refine regionL <| oM 64 (.slice Av got1.length cv) <| oM 65 (.int .u8 (0)) <| oV 66 1 #[.int .u8 (0)] 5 #[(0, .int .u8 (0))] (bs1 0 _) ?_
          have hBa := hB.alloc hB.size (.cells #[.int .u8 (0)] 5)
          refine oE2 (c := 1) W4 W4.heap.size [0] hBa (Nat.le_refl _) hBa.size (own.alloc _) (own2.alloc _) hap (byte_new W22 0 _) (by simp; omega) ?_
          intro v45 W45 own own2 hap hB hs45 hrk
          have rb2_0 := hrk _ _ _ (by decide) (Row.alloc rb2_0 (.cells #[.int .u8 (0)] 5))
          have rb20_7 := hrk _ _ _ (by decide) (Row.alloc rb20_7 (.cells #[.int .u8 (0)] 5))
          have rb20_8 := hrk _ _ _ (by decide) (Row.alloc rb20_8 (.cells #[.int .u8 (0)] 5))
          have rb22_7 := hrk _ _ _ (by decide) (Row.alloc rb22_7 (.cells #[.int .u8 (0)] 5))
          have rb22_8 := hrk _ _ _ (by decide) (Row.alloc rb22_8 (.cells #[.int .u8 (0)] 5))
          have own : W45.ownsRow W4.heap.size 5 1 v45 (got1 ++ [0]).length (bvs (got1 ++ [0])) := by rw [List.length_append]; exact own
          obtain ⟨A45, c45, hv45, -⟩ := own_slice own
          subst hv45
          have hb := hb0.trans (hB.mono hb0.size)
          refine oA 8 (.slice A45 (got1 ++ [0]).length c45) ?_
          refine endL ?_
          try simp only [Act.put, sA, sB, sC]
          refine thenN (hK44 _ _ ?_)
          refine wp_seq_k fun K46 hK46 => ?_
          refine wp_seq_k fun K47 hK47 => ?_
          refine regionL ?_
          refine oF 68 (fC0 b20_7) ?_
          refine oL 69 (ldI (rb20_7.at 0 (.int .i64 (c.kind)))) ?_
          refine oJ 70 (.int .i64 (c.kind)) (.int .i64 (3)) (.bool (c.kind == 3)) (egI _ _ _ _ _) (bEqI c.kind 3) ?_
          refine oM 71 (.bool (c.kind == 3)) ?_
          rcases Bool.eq_false_or_eq_true (c.kind == 3) with h48 | h48
          · skip
            have g48 : c.kind = 3 := by simpa using h48
            rewrite [h48]
            refine oZ 72 ?_
            refine oZ 73 ?_
            refine oZ 74 ?_
            refine oP 75 (.bool (true)) true ?_
            refine oM 76 (.bool (true)) ?_
            refine oZ 77 ?_
            refine oZ 78 ?_
            refine oZ 79 ?_
            refine oP 80 (.bool (true)) true ?_
            refine endL ?_
            try simp only [Act.put, sA, sB, sC]
            refine thenN (hK47 _ _ ?_)
            refine wp_cond_true (by kernel_rfl) ?_
            refine regionL ?_
            refine oM 81 (.int .u8 (0)) ?_
            refine oM 82 (.int .u8 (v)) ?_
            refine oJ 83 (.int .u8 (0)) (.int .u8 (v)) (.int .u8 ((0 + v) % 256)) (eg8 _ _ _ _ _) (bAdd8 0 v) ?_
            refine oA 17 (.int .u8 ((0 + v) % 256)) ?_
            refine endL ?_
            try simp only [Act.put, sA, sB, sC]
            refine thenN (hK46 _ _ ?_)
            refine regionL <| oM 84 (.slice Au odd1.length cu) <| oM 85 (.int .u8 ((0 + v) % 256)) <| oV 86 1 #[.int .u8 ((0 + v) % 256)] 5 #[(0, .int .u8 ((0 + v) % 256))] (bs1 ((0 + v) % 256) _) ?_
            have hBa := hB.alloc hB.size (.cells #[.int .u8 ((0 + v) % 256)] 5)
            refine oE2 (c := 1) W4 W4.heap.size [(0 + v) % 256] hBa (Nat.le_refl _) hBa.size (own2.alloc _) (own.alloc _) hap.symm (byte_new W45 ((0 + v) % 256) _) (by simp; omega) ?_
            intro v49 W49 own2 own hap hB hs49 hrk
            have hap := hap.symm
            have rb2_0 := hrk _ _ _ (by decide) (Row.alloc rb2_0 (.cells #[.int .u8 ((0 + v) % 256)] 5))
            have rb20_7 := hrk _ _ _ (by decide) (Row.alloc rb20_7 (.cells #[.int .u8 ((0 + v) % 256)] 5))
            have rb20_8 := hrk _ _ _ (by decide) (Row.alloc rb20_8 (.cells #[.int .u8 ((0 + v) % 256)] 5))
            have rb22_7 := hrk _ _ _ (by decide) (Row.alloc rb22_7 (.cells #[.int .u8 ((0 + v) % 256)] 5))
            have rb22_8 := hrk _ _ _ (by decide) (Row.alloc rb22_8 (.cells #[.int .u8 ((0 + v) % 256)] 5))
            have own2 : W49.ownsRow W4.heap.size 5 1 v49 (odd1 ++ [(0 + v) % 256]).length (bvs (odd1 ++ [(0 + v) % 256])) := by rw [List.length_append]; exact own2
            obtain ⟨A49, c49, hv49, -⟩ := own_slice own2
            subst hv49
            have hb := hb0.trans (hB.mono hb0.size)
            refine oA 9 (.slice A49 (odd1 ++ [(0 + v) % 256]).length c49) ?_
            refine endL ?_
            try simp only [Act.put, sA, sB, sC]
            refine blockN ?_
            refine thenN (hK18 _ _ ?_)
            refine regionL ?_
            refine oM 26 (.int .i64 ((k1 : Int))) ?_
            refine oJ 27 (.int .i64 ((k1 : Int))) (.int .i64 (1)) (.int .i64 (((k1 + 1 : Nat) : Int))) (egI _ _ _ _ _) (bInc k1 (by omega)) ?_
            refine oA 10 (.int .i64 (((k1 + 1 : Nat) : Int))) ?_
            refine endL ?_
            try simp only [Act.put, sA, sB, sC]
            have he : nextOf g got1 = .error c := by rw [hcE]; exact error_of (hdE.symm.trans h27)
            exact thenN ⟨⟨k1 + 1, got1 ++ [0], odd1 ++ [(0 + v) % 256], .slice A45 (got1 ++ [0]).length c45, .slice A49 (odd1 ++ [(0 + v) % 256]).length c49, y6, pT b20_7 0, pT b20_8 0, .bool (d), pT b22_7 0, pT b22_8 0, .bool (d), .int .u8 ((0 + v) % 256), .int .i64 ((k1 : Int)), .bool (decide ((k1 : Int) < 60)), .int .i64 ((k1 : Int)), .int .i64 (((k1 + 1 : Nat) : Int)), .tuple #[cyV c, regsV s, .bool (d)], regsV g, .slice Av got1.length cv, .tuple #[cyV c, regsV s, .bool (d)], cyV c, regsV s, .bool (d), .tuple #[cyV c, regsV s, .bool (d)], regsV g, .slice Au odd1.length cu, .tuple #[cyV c, regsV s, .bool (d)], cyV c, regsV s, .bool (d), cyV c, cyV c, .bool (false), .bool (false), regsV s, regsV s, .bool (false), .bool (false), .bool (false), .bool (d), .bool (d), .bool (false), .bool (false), .bool (d), .int .i64 ((k1 : Int)), .slice A xs.length cap, .int .i64 ((xs.length : Int)), .bool (decide ((k1 : Int) < (xs.length : Int))), y60, y61, y62, y63, .slice Av got1.length cv, .int .u8 (0), .slice (some ⟨W22.heap.size, 0, none⟩) 1 1, .slice A45 (got1 ++ [0]).length c45, pT b20_7 0, .int .i64 (c.kind), .bool (true), .bool (true), undef, undef, undef, .bool (true), .bool (true), undef, undef, undef, .bool (true), .int .u8 (0), .int .u8 (v), .int .u8 ((0 + v) % 256), .slice Au odd1.length cu, .int .u8 ((0 + v) % 256), .slice (some ⟨W45.heap.size, 0, none⟩) 1 1, .slice A49 (odd1 ++ [(0 + v) % 256]).length c49, rfl, hB, own, own2, hap, hg8.append (byte_list (B8.zero)), ho8.append (byte_list (sum_byte _ _)), len1 hgl, len1 hol, le60 g17, fun zs => by rw [List.append_assoc, List.append_assoc]; exact (next_deaf (by omega) _ _ zs he).trans (hI _)⟩, mes60 g17⟩
          · skip
            have g48 : ¬ c.kind = 3 := by simpa using h48
            rewrite [h48]
            refine oT 72 (pT b20_7 0) (heField (V := pT b20_7 0) (R := pT b20_7 0) rfl (by kernel_rfl) (fC0 b20_7) _) ?_
            refine oT 73 (.int .i64 (c.kind)) (heLoad rfl (by kernel_rfl) (ldI (rb20_7.at 0 (.int .i64 (c.kind))))) ?_
            refine oT 74 (.bool (c.kind == 5)) (heBin (V := .int .i64 (c.kind)) (W := .int .i64 (5)) (R := .bool (c.kind == 5)) rfl (by kernel_rfl) (by kernel_rfl) (egI _ _ _ _ _) (bEqI c.kind 5) _) ?_
            refine oP 75 (.bool (c.kind == 5)) false ?_
            refine oM 76 (.bool (c.kind == 5)) ?_
            rcases Bool.eq_false_or_eq_true (c.kind == 5) with h50 | h50
            · skip
              have g50 : c.kind = 5 := by simpa using h50
              rewrite [h50]
              refine oZ 77 ?_
              refine oZ 78 ?_
              refine oZ 79 ?_
              refine oP 80 (.bool (true)) true ?_
              refine endL ?_
              try simp only [Act.put, sA, sB, sC]
              refine thenN (hK47 _ _ ?_)
              refine wp_cond_true (by kernel_rfl) ?_
              refine regionL ?_
              refine oM 81 (.int .u8 (0)) ?_
              refine oM 82 (.int .u8 (v)) ?_
              refine oJ 83 (.int .u8 (0)) (.int .u8 (v)) (.int .u8 ((0 + v) % 256)) (eg8 _ _ _ _ _) (bAdd8 0 v) ?_
              refine oA 17 (.int .u8 ((0 + v) % 256)) ?_
              refine endL ?_
              try simp only [Act.put, sA, sB, sC]
              refine thenN (hK46 _ _ ?_)
              refine regionL <| oM 84 (.slice Au odd1.length cu) <| oM 85 (.int .u8 ((0 + v) % 256)) <| oV 86 1 #[.int .u8 ((0 + v) % 256)] 5 #[(0, .int .u8 ((0 + v) % 256))] (bs1 ((0 + v) % 256) _) ?_
              have hBa := hB.alloc hB.size (.cells #[.int .u8 ((0 + v) % 256)] 5)
              refine oE2 (c := 1) W4 W4.heap.size [(0 + v) % 256] hBa (Nat.le_refl _) hBa.size (own2.alloc _) (own.alloc _) hap.symm (byte_new W45 ((0 + v) % 256) _) (by simp; omega) ?_
              intro v51 W51 own2 own hap hB hs51 hrk
              have hap := hap.symm
              have rb2_0 := hrk _ _ _ (by decide) (Row.alloc rb2_0 (.cells #[.int .u8 ((0 + v) % 256)] 5))
              have rb20_7 := hrk _ _ _ (by decide) (Row.alloc rb20_7 (.cells #[.int .u8 ((0 + v) % 256)] 5))
              have rb20_8 := hrk _ _ _ (by decide) (Row.alloc rb20_8 (.cells #[.int .u8 ((0 + v) % 256)] 5))
              have rb22_7 := hrk _ _ _ (by decide) (Row.alloc rb22_7 (.cells #[.int .u8 ((0 + v) % 256)] 5))
              have rb22_8 := hrk _ _ _ (by decide) (Row.alloc rb22_8 (.cells #[.int .u8 ((0 + v) % 256)] 5))
              have own2 : W51.ownsRow W4.heap.size 5 1 v51 (odd1 ++ [(0 + v) % 256]).length (bvs (odd1 ++ [(0 + v) % 256])) := by rw [List.length_append]; exact own2
              obtain ⟨A51, c51, hv51, -⟩ := own_slice own2
              subst hv51
              have hb := hb0.trans (hB.mono hb0.size)
              refine oA 9 (.slice A51 (odd1 ++ [(0 + v) % 256]).length c51) ?_
              refine endL ?_
              try simp only [Act.put, sA, sB, sC]
              refine blockN ?_
              refine thenN (hK18 _ _ ?_)
              refine regionL ?_
              refine oM 26 (.int .i64 ((k1 : Int))) ?_
              refine oJ 27 (.int .i64 ((k1 : Int))) (.int .i64 (1)) (.int .i64 (((k1 + 1 : Nat) : Int))) (egI _ _ _ _ _) (bInc k1 (by omega)) ?_
              refine oA 10 (.int .i64 (((k1 + 1 : Nat) : Int))) ?_
              refine endL ?_
              try simp only [Act.put, sA, sB, sC]
              have he : nextOf g got1 = .error c := by rw [hcE]; exact error_of (hdE.symm.trans h27)
              exact thenN ⟨⟨k1 + 1, got1 ++ [0], odd1 ++ [(0 + v) % 256], .slice A45 (got1 ++ [0]).length c45, .slice A51 (odd1 ++ [(0 + v) % 256]).length c51, y6, pT b20_7 0, pT b20_8 0, .bool (d), pT b22_7 0, pT b22_8 0, .bool (d), .int .u8 ((0 + v) % 256), .int .i64 ((k1 : Int)), .bool (decide ((k1 : Int) < 60)), .int .i64 ((k1 : Int)), .int .i64 (((k1 + 1 : Nat) : Int)), .tuple #[cyV c, regsV s, .bool (d)], regsV g, .slice Av got1.length cv, .tuple #[cyV c, regsV s, .bool (d)], cyV c, regsV s, .bool (d), .tuple #[cyV c, regsV s, .bool (d)], regsV g, .slice Au odd1.length cu, .tuple #[cyV c, regsV s, .bool (d)], cyV c, regsV s, .bool (d), cyV c, cyV c, .bool (false), .bool (false), regsV s, regsV s, .bool (false), .bool (false), .bool (false), .bool (d), .bool (d), .bool (false), .bool (false), .bool (d), .int .i64 ((k1 : Int)), .slice A xs.length cap, .int .i64 ((xs.length : Int)), .bool (decide ((k1 : Int) < (xs.length : Int))), y60, y61, y62, y63, .slice Av got1.length cv, .int .u8 (0), .slice (some ⟨W22.heap.size, 0, none⟩) 1 1, .slice A45 (got1 ++ [0]).length c45, pT b20_7 0, .int .i64 (c.kind), .bool (false), .bool (false), pT b20_7 0, .int .i64 (c.kind), .bool (true), .bool (true), .bool (true), undef, undef, undef, .bool (true), .int .u8 (0), .int .u8 (v), .int .u8 ((0 + v) % 256), .slice Au odd1.length cu, .int .u8 ((0 + v) % 256), .slice (some ⟨W45.heap.size, 0, none⟩) 1 1, .slice A51 (odd1 ++ [(0 + v) % 256]).length c51, rfl, hB, own, own2, hap, hg8.append (byte_list (B8.zero)), ho8.append (byte_list (sum_byte _ _)), len1 hgl, len1 hol, le60 g17, fun zs => by rw [List.append_assoc, List.append_assoc]; exact (next_deaf (by omega) _ _ zs he).trans (hI _)⟩, mes60 g17⟩
            · skip
              have g50 : ¬ c.kind = 5 := by simpa using h50
              rewrite [h50]
              refine oT 77 (pT b20_7 0) (heField (V := pT b20_7 0) (R := pT b20_7 0) rfl (by kernel_rfl) (fC0 b20_7) _) ?_
              refine oT 78 (.int .i64 (c.kind)) (heLoad rfl (by kernel_rfl) (ldI (rb20_7.at 0 (.int .i64 (c.kind))))) ?_
              refine oT 79 (.bool (c.kind == 7)) (heBin (V := .int .i64 (c.kind)) (W := .int .i64 (7)) (R := .bool (c.kind == 7)) rfl (by kernel_rfl) (by kernel_rfl) (egI _ _ _ _ _) (bEqI c.kind 7) _) ?_
              refine oP 80 (.bool (c.kind == 7)) false ?_
              refine endL ?_
              try simp only [Act.put, sA, sB, sC]
              refine thenN (hK47 _ _ ?_)
              refine wp_cond_split (t := c.kind == 7) (by kernel_rfl) (fun h52 => ?_) (fun h52 => ?_)
              · skip
                have g52 : c.kind = 7 := by simpa using h52
                refine regionL ?_
                refine oM 81 (.int .u8 (0)) ?_
                refine oM 82 (.int .u8 (v)) ?_
                refine oJ 83 (.int .u8 (0)) (.int .u8 (v)) (.int .u8 ((0 + v) % 256)) (eg8 _ _ _ _ _) (bAdd8 0 v) ?_
                refine oA 17 (.int .u8 ((0 + v) % 256)) ?_
                refine endL ?_
                try simp only [Act.put, sA, sB, sC]
                refine thenN (hK46 _ _ ?_)
                refine regionL <| oM 84 (.slice Au odd1.length cu) <| oM 85 (.int .u8 ((0 + v) % 256)) <| oV 86 1 #[.int .u8 ((0 + v) % 256)] 5 #[(0, .int .u8 ((0 + v) % 256))] (bs1 ((0 + v) % 256) _) ?_
                have hBa := hB.alloc hB.size (.cells #[.int .u8 ((0 + v) % 256)] 5)
                refine oE2 (c := 1) W4 W4.heap.size [(0 + v) % 256] hBa (Nat.le_refl _) hBa.size (own2.alloc _) (own.alloc _) hap.symm (byte_new W45 ((0 + v) % 256) _) (by simp; omega) ?_
                intro v53 W53 own2 own hap hB hs53 hrk
                have hap := hap.symm
                have rb2_0 := hrk _ _ _ (by decide) (Row.alloc rb2_0 (.cells #[.int .u8 ((0 + v) % 256)] 5))
                have rb20_7 := hrk _ _ _ (by decide) (Row.alloc rb20_7 (.cells #[.int .u8 ((0 + v) % 256)] 5))
                have rb20_8 := hrk _ _ _ (by decide) (Row.alloc rb20_8 (.cells #[.int .u8 ((0 + v) % 256)] 5))
                have rb22_7 := hrk _ _ _ (by decide) (Row.alloc rb22_7 (.cells #[.int .u8 ((0 + v) % 256)] 5))
                have rb22_8 := hrk _ _ _ (by decide) (Row.alloc rb22_8 (.cells #[.int .u8 ((0 + v) % 256)] 5))
                have own2 : W53.ownsRow W4.heap.size 5 1 v53 (odd1 ++ [(0 + v) % 256]).length (bvs (odd1 ++ [(0 + v) % 256])) := by rw [List.length_append]; exact own2
                obtain ⟨A53, c53, hv53, -⟩ := own_slice own2
                subst hv53
                have hb := hb0.trans (hB.mono hb0.size)
                refine oA 9 (.slice A53 (odd1 ++ [(0 + v) % 256]).length c53) ?_
                refine endL ?_
                try simp only [Act.put, sA, sB, sC]
                refine blockN ?_
                refine thenN (hK18 _ _ ?_)
                refine regionL ?_
                refine oM 26 (.int .i64 ((k1 : Int))) ?_
                refine oJ 27 (.int .i64 ((k1 : Int))) (.int .i64 (1)) (.int .i64 (((k1 + 1 : Nat) : Int))) (egI _ _ _ _ _) (bInc k1 (by omega)) ?_
                refine oA 10 (.int .i64 (((k1 + 1 : Nat) : Int))) ?_
                refine endL ?_
                try simp only [Act.put, sA, sB, sC]
                have he : nextOf g got1 = .error c := by rw [hcE]; exact error_of (hdE.symm.trans h27)
                exact thenN ⟨⟨k1 + 1, got1 ++ [0], odd1 ++ [(0 + v) % 256], .slice A45 (got1 ++ [0]).length c45, .slice A53 (odd1 ++ [(0 + v) % 256]).length c53, y6, pT b20_7 0, pT b20_8 0, .bool (d), pT b22_7 0, pT b22_8 0, .bool (d), .int .u8 ((0 + v) % 256), .int .i64 ((k1 : Int)), .bool (decide ((k1 : Int) < 60)), .int .i64 ((k1 : Int)), .int .i64 (((k1 + 1 : Nat) : Int)), .tuple #[cyV c, regsV s, .bool (d)], regsV g, .slice Av got1.length cv, .tuple #[cyV c, regsV s, .bool (d)], cyV c, regsV s, .bool (d), .tuple #[cyV c, regsV s, .bool (d)], regsV g, .slice Au odd1.length cu, .tuple #[cyV c, regsV s, .bool (d)], cyV c, regsV s, .bool (d), cyV c, cyV c, .bool (false), .bool (false), regsV s, regsV s, .bool (false), .bool (false), .bool (false), .bool (d), .bool (d), .bool (false), .bool (false), .bool (d), .int .i64 ((k1 : Int)), .slice A xs.length cap, .int .i64 ((xs.length : Int)), .bool (decide ((k1 : Int) < (xs.length : Int))), y60, y61, y62, y63, .slice Av got1.length cv, .int .u8 (0), .slice (some ⟨W22.heap.size, 0, none⟩) 1 1, .slice A45 (got1 ++ [0]).length c45, pT b20_7 0, .int .i64 (c.kind), .bool (false), .bool (false), pT b20_7 0, .int .i64 (c.kind), .bool (false), .bool (false), .bool (false), pT b20_7 0, .int .i64 (c.kind), .bool (c.kind == 7), .bool (c.kind == 7), .int .u8 (0), .int .u8 (v), .int .u8 ((0 + v) % 256), .slice Au odd1.length cu, .int .u8 ((0 + v) % 256), .slice (some ⟨W45.heap.size, 0, none⟩) 1 1, .slice A53 (odd1 ++ [(0 + v) % 256]).length c53, rfl, hB, own, own2, hap, hg8.append (byte_list (B8.zero)), ho8.append (byte_list (sum_byte _ _)), len1 hgl, len1 hol, le60 g17, fun zs => by rw [List.append_assoc, List.append_assoc]; exact (next_deaf (by omega) _ _ zs he).trans (hI _)⟩, mes60 g17⟩
              · skip
                have g52 : ¬ c.kind = 7 := by simpa using h52
                refine wp_skip ?_
                refine thenN (hK46 _ _ ?_)
                refine regionL <| oM 84 (.slice Au odd1.length cu) <| oM 85 (.int .u8 (0)) <| oV 86 1 #[.int .u8 (0)] 5 #[(0, .int .u8 (0))] (bs1 0 _) ?_
                have hBa := hB.alloc hB.size (.cells #[.int .u8 (0)] 5)
                refine oE2 (c := 1) W4 W4.heap.size [0] hBa (Nat.le_refl _) hBa.size (own2.alloc _) (own.alloc _) hap.symm (byte_new W45 0 _) (by simp; omega) ?_
                intro v54 W54 own2 own hap hB hs54 hrk
                have hap := hap.symm
                have rb2_0 := hrk _ _ _ (by decide) (Row.alloc rb2_0 (.cells #[.int .u8 (0)] 5))
                have rb20_7 := hrk _ _ _ (by decide) (Row.alloc rb20_7 (.cells #[.int .u8 (0)] 5))
                have rb20_8 := hrk _ _ _ (by decide) (Row.alloc rb20_8 (.cells #[.int .u8 (0)] 5))
                have rb22_7 := hrk _ _ _ (by decide) (Row.alloc rb22_7 (.cells #[.int .u8 (0)] 5))
                have rb22_8 := hrk _ _ _ (by decide) (Row.alloc rb22_8 (.cells #[.int .u8 (0)] 5))
                have own2 : W54.ownsRow W4.heap.size 5 1 v54 (odd1 ++ [0]).length (bvs (odd1 ++ [0])) := by rw [List.length_append]; exact own2
                obtain ⟨A54, c54, hv54, -⟩ := own_slice own2
                subst hv54
                have hb := hb0.trans (hB.mono hb0.size)
                refine oA 9 (.slice A54 (odd1 ++ [0]).length c54) ?_
                refine endL ?_
                try simp only [Act.put, sA, sB, sC]
                refine blockN ?_
                refine thenN (hK18 _ _ ?_)
                refine regionL ?_
                refine oM 26 (.int .i64 ((k1 : Int))) ?_
                refine oJ 27 (.int .i64 ((k1 : Int))) (.int .i64 (1)) (.int .i64 (((k1 + 1 : Nat) : Int))) (egI _ _ _ _ _) (bInc k1 (by omega)) ?_
                refine oA 10 (.int .i64 (((k1 + 1 : Nat) : Int))) ?_
                refine endL ?_
                try simp only [Act.put, sA, sB, sC]
                exact thenN ⟨⟨k1 + 1, got1 ++ [0], odd1 ++ [0], .slice A45 (got1 ++ [0]).length c45, .slice A54 (odd1 ++ [0]).length c54, y6, pT b20_7 0, pT b20_8 0, .bool (d), pT b22_7 0, pT b22_8 0, .bool (d), .int .u8 (0), .int .i64 ((k1 : Int)), .bool (decide ((k1 : Int) < 60)), .int .i64 ((k1 : Int)), .int .i64 (((k1 + 1 : Nat) : Int)), .tuple #[cyV c, regsV s, .bool (d)], regsV g, .slice Av got1.length cv, .tuple #[cyV c, regsV s, .bool (d)], cyV c, regsV s, .bool (d), .tuple #[cyV c, regsV s, .bool (d)], regsV g, .slice Au odd1.length cu, .tuple #[cyV c, regsV s, .bool (d)], cyV c, regsV s, .bool (d), cyV c, cyV c, .bool (false), .bool (false), regsV s, regsV s, .bool (false), .bool (false), .bool (false), .bool (d), .bool (d), .bool (false), .bool (false), .bool (d), .int .i64 ((k1 : Int)), .slice A xs.length cap, .int .i64 ((xs.length : Int)), .bool (decide ((k1 : Int) < (xs.length : Int))), y60, y61, y62, y63, .slice Av got1.length cv, .int .u8 (0), .slice (some ⟨W22.heap.size, 0, none⟩) 1 1, .slice A45 (got1 ++ [0]).length c45, pT b20_7 0, .int .i64 (c.kind), .bool (false), .bool (false), pT b20_7 0, .int .i64 (c.kind), .bool (false), .bool (false), .bool (false), pT b20_7 0, .int .i64 (c.kind), .bool (c.kind == 7), .bool (c.kind == 7), y81, y82, y83, .slice Au odd1.length cu, .int .u8 (0), .slice (some ⟨W45.heap.size, 0, none⟩) 1 1, .slice A54 (odd1 ++ [0]).length c54, rfl, hB, own, own2, hap, hg8.append (byte_list (B8.zero)), ho8.append (byte_list (B8.zero)), len1 hgl, len1 hol, le60 g17, fun zs => by rw [List.append_assoc, List.append_assoc]; exact hI _⟩, mes60 g17⟩
    · skip
      have g17 : ¬ (k1 : Int) < 60 := by simpa using h17
      refine wp_exit ?_
      refine thenE ?_
      refine thenE ?_
      refine blockE ?_
      refine thenN (hK13 _ _ ?_)
      refine wp_seq_k fun K55 hK55 => ?_
      refine regionL ?_
      refine oA 6 (.bool (true)) ?_
      refine endL ?_
      try simp only [Act.put, sA, sB, sC]
      refine thenN (hK55 _ _ ?_)
      refine wp_ret ?_
      exact bodyPost_ret (results_tmp rfl _ _ _) rfl ⟨rfl, hb⟩
end Go.Proofs.YtibmpaeaicpbcaaGreatDoor
