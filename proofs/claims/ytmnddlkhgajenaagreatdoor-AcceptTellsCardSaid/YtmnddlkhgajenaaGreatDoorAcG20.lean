/- Contracts and facts that the claim's proof wants (several texts in one). -/
import Derived.Test.YtmnddlkhgajenaaGreatDoorAcG16
import Derived.Test.YtmnddlkhgajenaaGreatDoorAcG17
import Derived.Test.YtmnddlkhgajenaaGreatDoorAcG18
namespace Go.Proofs.YtmnddlkhgajenaaGreatDoor
open Go.RowKit
set_option linter.unusedVariables false
set_option linter.unusedSimpArgs false
set_option maxRecDepth 20000
set_option maxHeartbeats 20000000
theorem Many.belowB {w0 w w' : World} {L : List Nat} {rs : List RowK} {n : Nat} (h : Many w0 L rs w) (k : Below n w w') (hn : ∀ (i : Nat) (r : RowK), rs[i]? = some r → r.b < n) (h0 : w0.heap.size ≤ n) : Many w0 L rs w' :=
  ⟨fun i r hr => by obtain ⟨full, h1, h2⟩ := h.rows i r hr; exact ⟨full, h1.of (k.block r.b (hn i r hr)), h2⟩, h.dis, h.own,
    ⟨k.os.trans h.touch.os, k.tape.trans h.touch.tape, k.output.trans h.touch.output, Nat.le_trans h.touch.size k.size, fun c hc hL => (k.block c (Nat.lt_of_lt_of_le hc h0)).trans (h.touch.block c hc hL)⟩⟩
theorem three_lt {a b c x : Nat} {t u v : TypeId} {cs ds es : Cells} (h : a < x) (k : b < x) (m : c < x) : ∀ (i : Nat) (r : RowK), ([⟨a, t, cs⟩, ⟨b, u, ds⟩, ⟨c, v, es⟩] : List RowK)[i]? = some r → r.b < x := fun i r hi => by
  match i with
  | 0 => cases hi; exact h
  | 1 => cases hi; exact k
  | 2 => cases hi; exact m
  | i + 3 => cases hi
theorem answer_any (A : Option Addr) (cap : Nat) (xs : List Int) (k : Nat) (w : World) (hin : BytesIn w w.heap.size A xs) : Calls Tryz.prog 27 #[.slice A xs.length cap, .int .i64 (k : Int)] w fun e w' => e = .returned (.int .u8 (xs.getD k 0)) ∧ Below w.heap.size w w' := by
  go_enter Tryz.func27, Tryz.ntmps27
  refine coStart <| qQ [] (Many.begin w) fun w1 k1 => coS <| qQ [] k1 fun w2 k2 => coI (decide ((k : Int) < (xs.length : Int))) (fun h => ?_) fun h => coSkip <| eoT <| qQ [] k2 fun w3 k3 => coRet <| eoIr (.int .u8 0) ⟨?_, k3.touch.below⟩
  · have hk : k < xs.length := by have : (k : Int) < (xs.length : Int) := by simpa using h
                                  omega
    obtain ⟨p, rfl⟩ := hin.addr hk
    refine coR <| qR 2 [] k2 fun w3 k3 => wM (xIndex (ixB p xs.length cap k hk w3)) <| wM (xLoad (BytesIn.ld (hin.below k3.touch.below) hk)) <| qE [] k3 fun w4 k4 => coRet <| eoTr <| eoIr (.int .u8 xs[k]) ⟨by rw [List.getD_eq_getElem?_getD, List.getElem?_eq_getElem hk]; rfl, k4.touch.below⟩
  · have hk : ¬ k < xs.length := by have : ¬ (k : Int) < (xs.length : Int) := by simpa using h
                                    omega
    rw [List.getD_eq_getElem?_getD, List.getElem?_eq_none (by omega)]
    rfl
theorem rtold_any (p : Addr) (c m : Nat) (l : List Cy) (hm : l.length = m) (g : Rg) (A : Option Addr) (cap n : Nat) (w : World) (hcy : CysIn w w.heap.size (some p) l) : Calls Tryz.prog 26 #[.slice (some p) m c, regsV g, .slice A n cap] w fun e w' => e = .returned (toldT l g n).v ∧ Below w.heap.size w w' := by
  subst hm
  go_enter Tryz.func26, Tryz.ntmps26
  refine coStart <| qQ [] (Many.begin w) fun w1 k1 => coS <| qQ [] k1 fun w2 k2 => coI (decide ((n : Int) < (l.length : Int))) (fun h => ?_) fun h => coSkip <| eoT <| qP 3 k2 fun w3 k3 => qD 0 [0, 1] k3 <| poOne 2 <| soZ 1 (w.heap.size + 1) k3 fun w4 k4 => poE <| qE [2] k4 fun w5 k5 => coRet <| eoT3 1 2 zeroCy g true (w.heap.size + 1) (w.heap.size + 2) k5 ⟨?_, k5.touch.below⟩
  · have hk : n < l.length := by have : (n : Int) < (l.length : Int) := by simpa using h
                                 omega
    refine coR <| qR 3 [] k2 fun w3 k3 => wM (xIndex (cixY p l.length c n hk w3)) <| wM (xLoad ((hcy.below k3.touch.below).ld hk)) <| qE [1, 2] k3 fun w4 k4 => coRet <| eoTr <| eoT3 1 2 l[n] zeroRg false (w.heap.size + 1) (w.heap.size + 2) k4 ⟨?_, k4.touch.below⟩
    unfold toldT
    rw [if_pos hk, List.getD_eq_getElem?_getD, List.getElem?_eq_getElem hk]
    rfl
  · have hk : ¬ n < l.length := by have : ¬ (n : Int) < (l.length : Int) := by simpa using h
                                   omega
    unfold toldT
    rw [if_neg hk]
    rfl
theorem rpushed_any (b : Nat) (v0 : Value) (c : Cy) (sp pc : Int) (hp : 0 ≤ pc ∧ pc ≤ 65535) (w : World) (hb : b ≤ w.heap.size) (hown : w.ownsRow b 28 4 v0 1 (cyvs [c])) : Calls Tryz.prog 25 #[v0, .int .u16 sp, .int .u16 pc] w fun e w' => ∃ v, e = .returned v ∧ w'.ownsRow b 28 4 v 4 (cyvs ([c] ++ pushL sp pc)) ∧ Below b w w' := by
  go_enter Tryz.func25, Tryz.ntmps25
  refine coStart <| qQ [] (Many.begin w) fun w1 k1 => coR <| qR 2 [] k1 fun w2 k2 => wM (xBuildS (bs1Y ⟨7, 0, 0, 1⟩ w2)) <| qAy (.tmp 7) (.tmp 9) b _ v0 1 [c] ⟨w2.heap.size, 0, none⟩ 1 1 [⟨7, 0, 0, 1⟩] (Nat.le_trans hb (Nat.le_trans k2.touch.size (by simp))) ((own_below hown k2.touch.below).alloc _) (cys_new w2 [⟨7, 0, 0, 1⟩] _) rfl (by omega) fun v3 w3 own3 g3 => ?_
  have B3 : Below b w w3 := below_own ((bAlloc k2.touch.below (.cells (cyvs [⟨7, 0, 0, 1⟩]).toArray 28)).mono hb) g3 ((own_below hown k2.touch.below).alloc _) (Nat.le_refl _) (Nat.le_trans hb (Nat.le_trans k2.touch.size (by simp)))
  have s3 : b ≤ w3.heap.size := Nat.le_trans hb B3.size
  refine qE [] (Many.begin w3) fun w4 k4 => coR <| qR 4 [] k4 fun w5 k5 => qCe (rhi_any pc hp.1 hp.2 w5) <| qR 1 [] k5 fun w6 k6 => wM (xBuildS (bs1Y ⟨3, (sp - 1) % 65536, pc / 256, 3⟩ w6)) <| qAy (.tmp 11) (.tmp 17) b _ v3 2 [c, ⟨7, 0, 0, 1⟩] ⟨w6.heap.size, 0, none⟩ 1 1 [⟨3, (sp - 1) % 65536, pc / 256, 3⟩] (Nat.le_trans s3 (Nat.le_trans k6.touch.size (by simp))) ((own_below own3 k6.touch.below).alloc _) (cys_new w6 [⟨3, (sp - 1) % 65536, pc / 256, 3⟩] _) rfl (by omega) fun v7 w7 own7 g7 => ?_
  have B7 : Below b w w7 := below_own (B3.trans ((bAlloc k6.touch.below (.cells (cyvs [⟨3, (sp - 1) % 65536, pc / 256, 3⟩]).toArray 28)).mono s3)) g7 ((own_below own3 k6.touch.below).alloc _) (Nat.le_refl _) (Nat.le_trans s3 (Nat.le_trans k6.touch.size (by simp)))
  have s7 : b ≤ w7.heap.size := Nat.le_trans hb B7.size
  refine qE [] (Many.begin w7) fun w8 k8 => coR <| qR 4 [] k8 fun w9 k9 => qCe (rlo_any pc hp.1 hp.2 w9) <| qR 1 [] k9 fun wA kA => wM (xBuildS (bs1Y ⟨3, (sp - 2) % 65536, pc % 256, 3⟩ wA)) <| qAy (.tmp 19) (.tmp 25) b _ v7 3 [c, ⟨7, 0, 0, 1⟩, ⟨3, (sp - 1) % 65536, pc / 256, 3⟩] ⟨wA.heap.size, 0, none⟩ 1 1 [⟨3, (sp - 2) % 65536, pc % 256, 3⟩] (Nat.le_trans s7 (Nat.le_trans kA.touch.size (by simp))) ((own_below own7 kA.touch.below).alloc _) (cys_new wA [⟨3, (sp - 2) % 65536, pc % 256, 3⟩] _) rfl (by omega) fun vB wB ownB gB => ?_
  have BB : Below b w wB := below_own (B7.trans ((bAlloc kA.touch.below (.cells (cyvs [⟨3, (sp - 2) % 65536, pc % 256, 3⟩]).toArray 28)).mono s7)) gB ((own_below own7 kA.touch.below).alloc _) (Nat.le_refl _) (Nat.le_trans s7 (Nat.le_trans kA.touch.size (by simp)))
  exact qE [] (Many.begin wB) fun wC kC => coRet <| eoIr vB ⟨vB, rfl, own_below ownB kC.touch.below, BB.trans (kC.touch.below.mono (Nat.le_trans hb BB.size))⟩
theorem b8_getD {ys : List Int} (h : Bytes8 ys) (k : Nat) : B8 (ys.getD k 0) := by
  rw [List.getD_eq_getElem?_getD]
  by_cases hk : k < ys.length
  · rw [List.getElem?_eq_getElem hk]; exact b8_at h hk
  · rw [List.getElem?_eq_none (by omega)]; exact B8.zero
theorem told_more (c : Cy) (l : List Cy) (g : Rg) (n : Nat) : toldT (c :: l) g (n + 1) = toldT l g n := by
  unfold toldT
  simp only [List.length_cons, Nat.add_lt_add_iff_right]
  rfl
theorem raccept_one (g : Rg) (hg : RgB g) (A : Option Addr) (cap : Nat) (xs : List Int) (w : World) : Calls Tryz.prog 10 #[regsV g, .int .i64 1, .slice A xs.length cap] w fun e w' => e = .returned (accOf g 1 xs).v ∧ Below w.heap.size w w' := by
  go_enter Tryz.func10, Tryz.ntmps10
  obtain ⟨T, hT⟩ : ∃ T, T = toldT ([⟨1, g.pc, 0, 4⟩] ++ pushL g.sp g.pc) (jumpG (begG g false g.iff2) 102) xs.length := ⟨_, rfl⟩
  have eT : accOf g 1 xs = T := by
    rw [hT]
    cases xs with
    | nil => rfl
    | cons v ys => exact (told_more _ _ _ _).symm
  rw [eT]
  have KT := fun p c W h => rtold_any p c 4 ([⟨1, g.pc, 0, 4⟩] ++ pushL g.sp g.pc) rfl (jumpG (begG g false g.iff2) 102) A cap xs.length W h
  rw [← hT] at KT
  refine coStart <| qQ [] (Many.begin w) fun w1 k1 => coS <| qQ [] k1 fun w2 k2 => coF <| coSkip <| eoT <| qQ [0] k2 fun w3 k3 => qQ [0] k3 fun w4 k4 => coR <| qR 1 [0] k4 fun w5 k5 => qC (rtick_any g 1 hg.r w5) k5 fun w6 k6 => qE [0] k6 fun w7 k7 => qQ [0] k7 fun w8 k8 => qQ [0] k8 fun w9 k9 => qQ [0] k9 fun wa ka => coS <| qQ [] ka fun wb kb => coT <| coR <| qR 2 [] kb fun wc kc => wM (xBuildS (bs1Y ⟨1, g.pc, 0, 4⟩ wc)) <| ?_
  have kd := kc.alloc 28 (cyvs [⟨1, g.pc, 0, 4⟩]).toArray
  obtain ⟨b, hb⟩ : ∃ b, b = wc.heap.size := ⟨_, rfl⟩
  have h2b : w.heap.size + 2 < b := by rw [hb]; exact kc.lt 2 ⟨w.heap.size + 2, 24, (regsC zeroRg).toList.map some⟩ (by kernel_rfl)
  rw [← hb] at kd ⊢
  refine qR 2 [] kd fun we ke => ?_
  have re := ke.row 3 (b := b) (t := 28) (cyvs [⟨1, g.pc, 0, 4⟩]) (by kernel_rfl)
  refine kX (rpushed_any b _ ⟨1, g.pc, 0, 4⟩ g.sp g.pc hg.pc we (Nat.le_of_lt re.lt) (own_crow 1 re (Nat.le_refl b) rfl (by omega))) ?_
  rintro e wf ⟨v, rfl, own, hB⟩
  have kf := (ke.take 3 [⟨w.heap.size, 24, (regsC (begG g false g.iff2)).toList.map some⟩, ⟨w.heap.size + 1, 28, (cyC zeroCy).toList.map some⟩, ⟨w.heap.size + 2, 24, (regsC zeroRg).toList.map some⟩]).belowB hB (three_lt (by omega) (by omega) (by omega)) (by omega)
  rcases own.2 with ⟨-, e0⟩ | ⟨g', c', cur, rfl, hbg, hh, hle, hmx, hcs, htk⟩
  · cases e0
  have kg := kf.add (b := g') (t := 28) (cells := cur) hh (by omega) (three_ne (by omega) (by omega) (by omega))
  clear kf re ke kd kc kb ka k9 k8 k7 k6 k5 k4 k3 k2 k1 hb own hB
  refine ⟨_, rfl, qE [] kg fun wh kh => qQ [0] kh fun wi ki => qQ [0] ki fun wj kj => qQ [0] kj fun wk kk => coR <| qR 3 [0] kk fun wl kl => qC (KT ⟨g', 0, none⟩ c' wl (cys_cur _ (kl.row 3 (b := g') (t := 28) cur.toList (by kernel_rfl)) htk)) kl fun wm km => qE [1, 2] km fun wn kn => coRet <| eoTr <| eoT3 1 2 T.c T.g T.b (w.heap.size + 1) (w.heap.size + 2) kn ⟨rfl, kn.touch.below⟩⟩
structure SlotsY where
  y : Nat → Value
theorem coReset {P : Program} {Q : Exit → Act → World → Prop} {base : List Value} {l : Slots} {w : World} {c : Code} (B : SlotsY → List Value) (h : ∀ x, CO P c Q (B x) [] w) (e : ovO base l = B ⟨slotsO base l⟩ := by kernel_rfl) : CO P c Q base l w := coBase (B ⟨slotsO base l⟩) (h _) e
def rnB (h : Nat) (g : Rg) (A : Option Addr) (n cap : Nat) (S : Value) (v : Int) (x : SlotsY) : List Value := [x.y 0, .int .i64 2, .slice A n cap, .pointer (some ⟨h, 0, none⟩), x.y 4, x.y 5, .pointer (some ⟨h + 1, 0, none⟩), .pointer (some ⟨h + 2, 0, none⟩), x.y 8, .int .u16 g.pc, .int .u16 g.sp, x.y 11, S, .int .u8 v, x.y 14, x.y 15, x.y 16, x.y 17, x.y 18, x.y 19, x.y 20, x.y 21, x.y 22, x.y 23, x.y 24, x.y 25, x.y 26, x.y 27, x.y 28, x.y 29, x.y 30, x.y 31, x.y 32, x.y 33, x.y 34, x.y 35, x.y 36, x.y 37, x.y 38, x.y 39, x.y 40, x.y 41, x.y 42, x.y 43, x.y 44, x.y 45, x.y 46, x.y 47, x.y 48, x.y 49, x.y 50, x.y 51, x.y 52, x.y 53, x.y 54, x.y 55, x.y 56, x.y 57, x.y 58, x.y 59, x.y 60, x.y 61, x.y 62, x.y 63, x.y 64, x.y 65, x.y 66, x.y 67, x.y 68, x.y 69, x.y 70, x.y 71, x.y 72, x.y 73, x.y 74, x.y 75, x.y 76, x.y 77, x.y 78, x.y 79, x.y 80, x.y 81, x.y 82, x.y 83, x.y 84, x.y 85, x.y 86, x.y 87, x.y 88, x.y 89, x.y 90, x.y 91, x.y 92, x.y 93, x.y 94, x.y 95, x.y 96, x.y 97, x.y 98, x.y 99, x.y 100, x.y 101, x.y 102, x.y 103, x.y 104, x.y 105, x.y 106, x.y 107, x.y 108, x.y 109, x.y 110, x.y 111, x.y 112, x.y 113, x.y 114, x.y 115, x.y 116, x.y 117, x.y 118, x.y 119, x.y 120, x.y 121, x.y 122, x.y 123, x.y 124, x.y 125, x.y 126, x.y 127, x.y 128, x.y 129, x.y 130, x.y 131, x.y 132, x.y 133, x.y 134, x.y 135, x.y 136, x.y 137, x.y 138, x.y 139, x.y 140, x.y 141, x.y 142, x.y 143, x.y 144, x.y 145, x.y 146, x.y 147, x.y 148]
def rnC (h : Nat) (g : Rg) (A : Option Addr) (n cap : Nat) (S : Value) (v u : Int) (x : SlotsY) : List Value := [x.y 0, .int .i64 2, .slice A n cap, .pointer (some ⟨h, 0, none⟩), x.y 4, x.y 5, .pointer (some ⟨h + 1, 0, none⟩), .pointer (some ⟨h + 2, 0, none⟩), x.y 8, .int .u16 g.pc, .int .u16 g.sp, x.y 11, S, .int .u8 v, .int .u16 u, x.y 15, x.y 16, x.y 17, x.y 18, x.y 19, x.y 20, x.y 21, x.y 22, x.y 23, x.y 24, x.y 25, x.y 26, x.y 27, x.y 28, x.y 29, x.y 30, x.y 31, x.y 32, x.y 33, x.y 34, x.y 35, x.y 36, x.y 37, x.y 38, x.y 39, x.y 40, x.y 41, x.y 42, x.y 43, x.y 44, x.y 45, x.y 46, x.y 47, x.y 48, x.y 49, x.y 50, x.y 51, x.y 52, x.y 53, x.y 54, x.y 55, x.y 56, x.y 57, x.y 58, x.y 59, x.y 60, x.y 61, x.y 62, x.y 63, x.y 64, x.y 65, x.y 66, x.y 67, x.y 68, x.y 69, x.y 70, x.y 71, x.y 72, x.y 73, x.y 74, x.y 75, x.y 76, x.y 77, x.y 78, x.y 79, x.y 80, x.y 81, x.y 82, x.y 83, x.y 84, x.y 85, x.y 86, x.y 87, x.y 88, x.y 89, x.y 90, x.y 91, x.y 92, x.y 93, x.y 94, x.y 95, x.y 96, x.y 97, x.y 98, x.y 99, x.y 100, x.y 101, x.y 102, x.y 103, x.y 104, x.y 105, x.y 106, x.y 107, x.y 108, x.y 109, x.y 110, x.y 111, x.y 112, x.y 113, x.y 114, x.y 115, x.y 116, x.y 117, x.y 118, x.y 119, x.y 120, x.y 121, x.y 122, x.y 123, x.y 124, x.y 125, x.y 126, x.y 127, x.y 128, x.y 129, x.y 130, x.y 131, x.y 132, x.y 133, x.y 134, x.y 135, x.y 136, x.y 137, x.y 138, x.y 139, x.y 140, x.y 141, x.y 142, x.y 143, x.y 144, x.y 145, x.y 146, x.y 147, x.y 148]
def ackL (g : Rg) : List Cy := [⟨6, g.pc, 0, 6⟩] ++ pushL g.sp g.pc
theorem told_zero (g : Rg) (n : Nat) : toldT [] g n = endT g := by unfold toldT; rw [if_neg (by simp)]
theorem irq_one {g : Rg} (h : g.mode = 1) (xs : List Int) : accOf g 2 xs = toldT ([⟨6, g.pc, 0, 6⟩] ++ pushL g.sp g.pc) (jumpG (begG g false false) 56) xs.length := by
  cases xs with
  | nil => rfl
  | cons v ys =>
    refine Eq.trans ?_ (told_more _ _ _ _).symm
    show irqT g v ys = _
    unfold irqT
    rw [if_neg (by omega), if_pos h]
    rfl
theorem irq_table {g : Rg} (h : g.mode ≠ 0) (h1 : g.mode ≠ 1) (xs : List Int) : accOf g 2 xs = toldT ([⟨6, g.pc, 0, 6⟩] ++ pushL g.sp g.pc ++ tableL (256 * g.i + xs.getD 0 0)) (jumpG (begG g false false) (256 * xs.getD 5 0 + xs.getD 4 0)) xs.length := by
  cases xs with
  | nil => rfl
  | cons v ys =>
    refine Eq.trans ?_ (told_more _ _ _ _).symm
    show irqT g v ys = _
    unfold irqT
    rw [if_neg h, if_neg h1]
    rfl
theorem raccept_two (g : Rg) (hg : RgB g) (A : Option Addr) (cap : Nat) (xs : List Int) (hc : xs.length ≤ cap) (h8 : Bytes8 xs) (hl : xs.length ≤ 1000000000) (w : World) (hin : BytesIn w w.heap.size A xs) : Calls Tryz.prog 10 #[regsV g, .int .i64 2, .slice A xs.length cap] w fun e w' => e = .returned (accOf g 2 xs).v ∧ Below w.heap.size w w' := by
  have KA : ∀ (k : Nat) (W : World), Below w.heap.size w W → Calls Tryz.prog 27 #[.slice A xs.length cap, .int .i64 (k : Int)] W fun e w' => e = .returned (.int .u8 (xs.getD k 0)) ∧ Below W.heap.size W w' := fun k W hW => answer_any A cap xs k W ((hin.below hW).more hW.size)
  obtain ⟨T, hT⟩ : ∃ T, T = accOf g 2 xs := ⟨_, rfl⟩
  rw [← hT]
  go_enter Tryz.func10, Tryz.ntmps10
  obtain ⟨v, hv⟩ : ∃ v, v = xs.getD 0 0 := ⟨_, rfl⟩
  have bv : B8 v := by rw [hv]; exact b8_getD h8 0
  have K0 := KA 0
  rw [← hv] at K0
  refine coStart <| qQ [] (Many.begin w) fun w1 k1 => coS <| qQ [] k1 fun w2 k2 => coF <| coSkip <| eoT <| qQ [0] k2 fun w3 k3 => qQ [0] k3 fun w4 k4 => coR <| qR 1 [0] k4 fun w5 k5 => qC (rtick_any g 1 hg.r w5) k5 fun w6 k6 => qE [0] k6 fun w7 k7 => qQ [0] k7 fun w8 k8 => qQ [0] k8 fun w9 k9 => qQ [0] k9 fun wa ka => coS <| qQ [] ka fun wb kb => coF <| coSkip <| eoT <| qQ [0] kb fun wb kb => coR <| qR 2 [] kb fun wc kc => wM (xBuildS (bs1Y ⟨6, g.pc, 0, 6⟩ wc)) <| ?_
  have kd := kc.alloc 28 (cyvs [⟨6, g.pc, 0, 6⟩]).toArray
  obtain ⟨b, hb⟩ : ∃ b, b = wc.heap.size := ⟨_, rfl⟩
  have h2b : w.heap.size + 2 < b := by rw [hb]; exact kc.lt 2 ⟨w.heap.size + 2, 24, (regsC zeroRg).toList.map some⟩ (by kernel_rfl)
  rw [← hb] at kd ⊢
  clear kc kb ka k9 k8 k7 k6 k5 k4 k3 k2 k1 hb
  refine qE [] kd fun we ke => coR <| qR 1 [] ke fun wf kf => qC (K0 wf kf.touch.below) kf fun wg kg => qE [] kg fun wh kh => coReset (rnB w.heap.size g A xs.length cap (.slice (some ⟨b, 0, none⟩) 1 1) v) fun x => ?_
  have kh := kh.take 4 [⟨w.heap.size, 24, (regsC (begG g false false)).toList.map some⟩, ⟨w.heap.size + 1, 28, (cyC zeroCy).toList.map some⟩, ⟨w.heap.size + 2, 24, (regsC zeroRg).toList.map some⟩, ⟨b, 28, (cyvs [⟨6, g.pc, 0, 6⟩]).map some⟩]
  refine coS <| qQ [0] kh fun wi ki => coI (g.mode == 0) (fun hm => ?_) fun hm => coSkip <| eoT <| coR <| qR 3 [] ki fun wj kj => ?_
  · have hm : g.mode = 0 := by simpa using hm
    obtain ⟨U, hU⟩ : ∃ U, U = toldT [⟨6, g.pc, 0, 6⟩] (begG g false false) xs.length := ⟨_, rfl⟩
    have KT := fun p c W h => rtold_any p c 1 [⟨6, g.pc, 0, 6⟩] rfl (begG g false false) A cap xs.length W h
    rw [← hU] at KT
    have HT : (xs = [] ∨ prefixed v = true) → T = U := fun h => by
      rw [hT, hU]
      cases xs with
      | nil => rfl
      | cons x ys =>
        have e : x = v := hv.symm
        subst e
        rw [irq_zero hm, if_pos (h.resolve_left (by simp))]
        exact ((told_more _ _ _ _).trans (told_zero _ _)).symm
    refine coS <| coR <| ?_
    cases xs with
    | nil => exact qE [] ki fun wj kj => coT <| coR <| qR 3 [0] kj fun wk kk => qC (KT ⟨b, 0, none⟩ 1 wk (cys_row (b := b) (t := 28) (kk.row 3 (cyvs [⟨6, g.pc, 0, 6⟩]) (by kernel_rfl)))) kk fun wl kl => qE [1, 2] kl fun wm km => coRet <| eoTr <| eoTr <| eoT3 1 2 U.c U.g U.b (w.heap.size + 1) (w.heap.size + 2) km ⟨by rw [HT (.inl rfl)]; rfl, km.touch.below⟩
    | cons x ys =>
      have e : x = v := hv.symm
      subst e
      have hq : prefixed x = (x == 203 || (x == 221 || (x == 237 || x == 253))) := rfl
      have hz : ((((ys.length + 1 : Nat) : Int)) == 0) = false := by simp; omega
      refine qR 3 [] ki fun wj kj => tell 67 hz <| qR 3 [] kj fun wj kj => ?_
      by_cases h1 : x = 203
      · refine tell 70 (show (x == 203) = true by simp [h1]) <| qE [] kj fun wj kj => coT <| coR <| qR 3 [0] kj fun wk kk => qC (KT ⟨b, 0, none⟩ 1 wk (cys_row (b := b) (t := 28) (kk.row 3 (cyvs [⟨6, g.pc, 0, 6⟩]) (by kernel_rfl)))) kk fun wl kl => qE [1, 2] kl fun wm km => coRet <| eoTr <| eoTr <| eoT3 1 2 U.c U.g U.b (w.heap.size + 1) (w.heap.size + 2) km ⟨by rw [HT (.inr (by rw [h1]; rfl))]; rfl, km.touch.below⟩
      refine tell 70 (show (x == 203) = false by simp [h1]) <| qR 4 [] kj fun wj kj => ?_
      by_cases h2 : x = 221
      · refine tell 74 (show (x == 221) = true by simp [h2]) <| qE [] kj fun wj kj => coT <| coR <| qR 3 [0] kj fun wk kk => qC (KT ⟨b, 0, none⟩ 1 wk (cys_row (b := b) (t := 28) (kk.row 3 (cyvs [⟨6, g.pc, 0, 6⟩]) (by kernel_rfl)))) kk fun wl kl => qE [1, 2] kl fun wm km => coRet <| eoTr <| eoTr <| eoT3 1 2 U.c U.g U.b (w.heap.size + 1) (w.heap.size + 2) km ⟨by rw [HT (.inr (by rw [h2]; rfl))]; rfl, km.touch.below⟩
      refine tell 74 (show (x == 221) = false by simp [h2]) <| qR 4 [] kj fun wj kj => ?_
      by_cases h3 : x = 237
      · refine tell 78 (show (x == 237) = true by simp [h3]) <| qE [] kj fun wj kj => coT <| coR <| qR 3 [0] kj fun wk kk => qC (KT ⟨b, 0, none⟩ 1 wk (cys_row (b := b) (t := 28) (kk.row 3 (cyvs [⟨6, g.pc, 0, 6⟩]) (by kernel_rfl)))) kk fun wl kl => qE [1, 2] kl fun wm km => coRet <| eoTr <| eoTr <| eoT3 1 2 U.c U.g U.b (w.heap.size + 1) (w.heap.size + 2) km ⟨by rw [HT (.inr (by rw [h3]; rfl))]; rfl, km.touch.below⟩
      refine tell 78 (show (x == 237) = false by simp [h3]) <| qR 4 [] kj fun wj kj => ?_
      by_cases h4 : x = 253
      · refine tell 82 (show (x == 253) = true by simp [h4]) <| qE [] kj fun wj kj => coT <| coR <| qR 3 [0] kj fun wk kk => qC (KT ⟨b, 0, none⟩ 1 wk (cys_row (b := b) (t := 28) (kk.row 3 (cyvs [⟨6, g.pc, 0, 6⟩]) (by kernel_rfl)))) kk fun wl kl => qE [1, 2] kl fun wm km => coRet <| eoTr <| eoTr <| eoT3 1 2 U.c U.g U.b (w.heap.size + 1) (w.heap.size + 2) km ⟨by rw [HT (.inr (by rw [h4]; rfl))]; rfl, km.touch.below⟩
      have hnp : prefixed x = false := by rw [hq]; simp [h1, h2, h3, h4]
      obtain ⟨X, hX⟩ : ∃ X, X = ofX (afterOf (begG g false false) x ys) := ⟨_, rfl⟩
      have hB : RgB (begG g false false) := hg.beg false false
      have hcy : ys.length + 1 ≤ cap := hc
      have hly : ys.length + 1 ≤ 1000000000 := hl
      have KX : ∀ W, Below w.heap.size w W → Calls Tryz.prog 28 #[regsV (begG g false false), .int .u8 x, .slice (if cap = 1 then A else A.map (·.add 1)) ys.length (cap - 1)] W fun e w' => e = .returned X.v ∧ Below W.heap.size W w' := fun W hW => by
        have := rafter_any (begG g false false) hB x bv (if cap = 1 then A else A.map (·.add 1)) (cap - 1) ys (by omega) h8.tail (by omega) W ((((hin.drop (k := 1) (by simp) hc).below hW).more hW.size))
        rw [← after_tell hB bv h8.tail, tellV_eq] at this
        rw [hX]
        exact this
      refine tell 82 (show (x == 253) = false by simp [h4]) <| qE [] kj fun wj kj => coF <| coSkip <| eoT <| qP 8 kj fun wk kk => qD 0 [0, 1, 2] kk <| qT 3 kk (fun w' _ => xSlice (slFrom1 A (x :: ys).length cap (by simp) hc _)) <| qDc 4 (KX wk kk.touch.below) kk fun wl kl => qM [5, 6, 7] kl <| poE <| qE [1, 2] kl fun wm km => coRet <| eoTr <| eoT3 1 2 X.c X.g X.b (w.heap.size + 1) (w.heap.size + 2) km ⟨?_, km.touch.below⟩
      have e : T = X := by rw [hT, hX, irq_zero hm, if_neg (by rw [hnp]; simp)]
      rw [e]
      rfl
  · have hm : g.mode ≠ 0 := by simpa using hm
    have rj := kj.row 3 (b := b) (t := 28) (cyvs [⟨6, g.pc, 0, 6⟩]) (by kernel_rfl)
    refine kX (rpushed_any b _ ⟨6, g.pc, 0, 6⟩ g.sp g.pc hg.pc wj (Nat.le_of_lt rj.lt) (own_crow 1 rj (Nat.le_refl b) rfl (by omega))) ?_
    rintro e wk ⟨u, rfl, own, hB⟩
    have kk := (kj.take 3 [⟨w.heap.size, 24, (regsC (begG g false false)).toList.map some⟩, ⟨w.heap.size + 1, 28, (cyC zeroCy).toList.map some⟩, ⟨w.heap.size + 2, 24, (regsC zeroRg).toList.map some⟩]).belowB hB (three_lt (by omega) (by omega) (by omega)) (by omega)
    rcases own.2 with ⟨-, e0⟩ | ⟨g', c', cur, rfl, hbg, hh, hle, hmx, hcs, htk⟩
    · cases e0
    have kl := kk.add (b := g') (t := 28) (cells := cur) hh (by omega) (three_ne (by omega) (by omega) (by omega))
    have hlen := own.1
    clear kk rj kj ki kh kg kf ke kd own hB hh
    refine ⟨_, rfl, qE [] kl fun wm km => coReset (rnB w.heap.size g A xs.length cap (.slice (some ⟨g', 0, none⟩) 4 c') v) fun x => qQ [0] km fun wn kn => coS <| qQ [0] kn fun wo ko => coI (g.mode == 1) (fun h1 => ?_) fun h1 => coSkip <| eoT <| coR <| qR 3 [0] ko fun wp kp => qCe (rword_any g.i v hg.i.1 hg.i.2 bv.1 bv.2 wp) <| qE [] kp fun wq kq => coReset (rnC w.heap.size g A xs.length cap (.slice (some ⟨g', 0, none⟩) 4 c') v (256 * g.i + v)) fun x => ?_⟩
    · have KT := fun p c W h => rtold_any p c 4 ([⟨6, g.pc, 0, 6⟩] ++ pushL g.sp g.pc) rfl (jumpG (begG g false false) 56) A cap xs.length W h
      rw [← irq_one (by simpa using h1), ← hT] at KT
      refine qQ [0] ko fun wi ki => qQ [0] ki fun wk kk => coR <| qR 3 [0] kk fun wl kl => qC (KT ⟨g', 0, none⟩ c' wl (cys_cur _ (kl.row 3 (b := g') (t := 28) cur.toList (by kernel_rfl)) htk)) kl fun wm km => qE [1, 2] km fun wn kn => coRet <| eoTr <| eoT3 1 2 T.c T.g T.b (w.heap.size + 1) (w.heap.size + 2) kn ⟨rfl, kn.touch.below⟩
    have h1 : g.mode ≠ 1 := by simpa using h1
    have KT : ∀ (p : Addr) (c : Nat) (W : World), CysIn W W.heap.size (some p) (ackL g ++ tableL (256 * g.i + v)) → Calls Tryz.prog 26 #[.slice (some p) 6 c, regsV (jumpG (begG g false false) (256 * xs.getD 5 0 + xs.getD 4 0)), .slice A xs.length cap] W fun e w' => e = .returned T.v ∧ Below W.heap.size W w' := by
      rw [hT, irq_table hm h1, ← hv]
      exact fun p c W h => rtold_any p c 6 (ackL g ++ tableL (256 * g.i + v)) rfl _ A cap xs.length W h
    have htk : cur.toList.take (4 * 4) = cyvs (ackL g) := htk
    have hlen : (cyvs (ackL g)).length = 4 * 4 := hlen
    have kq := kq.take 4 [⟨w.heap.size, 24, (regsC { begG g false false with sp := (g.sp - 2) % 65536 }).toList.map some⟩, ⟨w.heap.size + 1, 28, (cyC zeroCy).toList.map some⟩, ⟨w.heap.size + 2, 24, (regsC zeroRg).toList.map some⟩, ⟨g', 28, cur.toList.map some⟩]
    refine coR <| qR 3 [] kq fun wr kr => ?_
    have rr : Row wr g' 28 cur := by simpa using kr.row 3 (b := g') (t := 28) cur.toList (by kernel_rfl)
    have own4 : wr.ownsRow b 28 4 (.slice (some ⟨g', 0, none⟩) 4 c') 4 (cyvs (ackL g)) := ⟨hlen, .inr ⟨g', c', cur, rfl, hbg, rr, hle, hmx, hcs, htk⟩⟩
    have bs : b ≤ wr.heap.size := Nat.le_trans hbg (Nat.le_of_lt rr.lt)
    refine wM (xBuildS (bs1Y ⟨2, 256 * g.i + v, 0, 3⟩ wr)) <| qAy (.tmp 122) (.tmp 125) b _ (.slice (some ⟨g', 0, none⟩) 4 c') 4 (ackL g) ⟨wr.heap.size, 0, none⟩ 1 1 [⟨2, 256 * g.i + v, 0, 3⟩] (Nat.le_trans bs (by simp)) (own4.alloc _) (cys_new wr [⟨2, 256 * g.i + v, 0, 3⟩] _) rfl (by omega) fun u5 ws own5 g5 => ?_
    have ks := (kr.take 3 [⟨w.heap.size, 24, (regsC { begG g false false with sp := (g.sp - 2) % 65536 }).toList.map some⟩, ⟨w.heap.size + 1, 28, (cyC zeroCy).toList.map some⟩, ⟨w.heap.size + 2, 24, (regsC zeroRg).toList.map some⟩]).belowB (n := b) (below_own ((bAlloc (Below.refl wr.heap.size wr) (.cells (cyvs [⟨2, 256 * g.i + v, 0, 3⟩]).toArray 28)).mono bs) g5 (own4.alloc _) (Nat.le_refl _) (Nat.le_trans bs (by simp))) (three_lt (by omega) (by omega) (by omega)) (by omega)
    have hlen5 := own5.1
    rcases own5.2 with ⟨-, e0⟩ | ⟨g6, c6, cur6, rfl, hbg6, hh6, hle6, hmx6, hcs6, htk6⟩
    · cases e0
    have kt := ks.add (b := g6) (t := 28) (cells := cur6) hh6 (by omega) (three_ne (by omega) (by omega) (by omega))
    clear ks kr kq kp ko kn km kl own4 own5 g5 rr hh6 bs
    refine qE [] kt fun wu ku => coReset (rnC w.heap.size g A xs.length cap (.slice (some ⟨g6, 0, none⟩) 5 c6) v (256 * g.i + v)) fun x => coR <| qR 4 [] ku fun wv kv => ?_
    have rv : Row wv g6 28 cur6 := by simpa using kv.row 3 (b := g6) (t := 28) cur6.toList (by kernel_rfl)
    have own6 : wv.ownsRow b 28 4 (.slice (some ⟨g6, 0, none⟩) 5 c6) 5 (cyvs ((ackL g) ++ [⟨2, 256 * g.i + v, 0, 3⟩])) := ⟨hlen5, .inr ⟨g6, c6, cur6, rfl, hbg6, rv, hle6, hmx6, hcs6, htk6⟩⟩
    have bs : b ≤ wv.heap.size := Nat.le_trans hbg6 (Nat.le_of_lt rv.lt)
    refine wM (xBuildS (bs1Y ⟨2, (256 * g.i + v + 1) % 65536, 0, 3⟩ wv)) <| qAy (.tmp 127) (.tmp 131) b _ (.slice (some ⟨g6, 0, none⟩) 5 c6) 5 ((ackL g) ++ [⟨2, 256 * g.i + v, 0, 3⟩]) ⟨wv.heap.size, 0, none⟩ 1 1 [⟨2, (256 * g.i + v + 1) % 65536, 0, 3⟩] (Nat.le_trans bs (by simp)) (own6.alloc _) (cys_new wv [⟨2, (256 * g.i + v + 1) % 65536, 0, 3⟩] _) rfl (by omega) fun u7 ww own7 g7 => ?_
    have kw := (kv.take 3 [⟨w.heap.size, 24, (regsC { begG g false false with sp := (g.sp - 2) % 65536 }).toList.map some⟩, ⟨w.heap.size + 1, 28, (cyC zeroCy).toList.map some⟩, ⟨w.heap.size + 2, 24, (regsC zeroRg).toList.map some⟩]).belowB (n := b) (below_own ((bAlloc (Below.refl wv.heap.size wv) (.cells (cyvs [⟨2, (256 * g.i + v + 1) % 65536, 0, 3⟩]).toArray 28)).mono bs) g7 (own6.alloc _) (Nat.le_refl _) (Nat.le_trans bs (by simp))) (three_lt (by omega) (by omega) (by omega)) (by omega)
    have e7 : (ackL g) ++ [⟨2, 256 * g.i + v, 0, 3⟩] ++ [⟨2, (256 * g.i + v + 1) % 65536, 0, 3⟩] = (ackL g) ++ tableL (256 * g.i + v) := by rw [List.append_assoc]; rfl
    rw [e7] at own7
    rcases own7.2 with ⟨-, e0⟩ | ⟨g8, c8, cur8, rfl, hbg8, hh8, hle8, hmx8, hcs8, htk8⟩
    · cases e0
    have kx := kw.add (b := g8) (t := 28) (cells := cur8) hh8 (by omega) (three_ne (by omega) (by omega) (by omega))
    clear kw kv ku kt own6 own7 g7 rv hh8 bs
    have b5 := b8_getD h8 5
    have b4 := b8_getD h8 4
    have K5 := KA 5
    have K4 := KA 4
    obtain ⟨a5, ha5⟩ : ∃ a, a = xs.getD 5 0 := ⟨_, rfl⟩
    obtain ⟨a4, ha4⟩ : ∃ a, a = xs.getD 4 0 := ⟨_, rfl⟩
    rw [← ha5] at b5 K5 KT
    rw [← ha4] at b4 K4 KT
    refine qE [] kx fun wy ky => coReset (rnC w.heap.size g A xs.length cap (.slice (some ⟨g8, 0, none⟩) 6 c8) v (256 * g.i + v)) fun x => coR <| qR 1 [] ky fun wz kz => qC (K5 wz kz.touch.below) kz fun wA kA => qR 1 [] kA fun wB kB => qC (K4 wB kB.touch.below) kB fun wC kC => qCe (rword_any a5 a4 b5.1 b5.2 b4.1 b4.2 wC) <| qE [0] kC fun wD kD => qQ [0, 0] kD fun wE kE => coR <| qR 3 [0] kE fun wF kF => qC (KT ⟨g8, 0, none⟩ c8 wF (cys_cur _ (kF.row 3 (b := g8) (t := 28) cur8.toList (by kernel_rfl)) htk8)) kF fun wG kG => qE [1, 2] kG fun wH kH => coRet <| eoT3 1 2 T.c T.g T.b (w.heap.size + 1) (w.heap.size + 2) kH ⟨rfl, kH.touch.below⟩
theorem raccept_other (g : Rg) (hg : RgB g) (which : Int) (h1 : which ≠ 1) (h2 : which ≠ 2) (A : Option Addr) (cap : Nat) (xs : List Int) (hc : xs.length ≤ cap) (h8 : Bytes8 xs) (hl : xs.length ≤ 1000000000) (w : World) (hin : BytesIn w w.heap.size A xs) : Calls Tryz.prog 10 #[regsV g, .int .i64 which, .slice A xs.length cap] w fun e w' => e = .returned (accOf g which xs).v ∧ Below w.heap.size w w' := by
  obtain ⟨T, hT⟩ : ∃ T, T = accOf g which xs := ⟨_, rfl⟩
  rw [← hT]
  have KX : ∀ W, Below w.heap.size w W → Calls Tryz.prog 17 #[regsV g, .slice A xs.length cap] W fun e w' => e = .returned T.v ∧ Below W.heap.size W w' := fun W hW => by
    have := rnnext_any g hg A cap xs hc h8 (by omega) W ((hin.below hW).more hW.size)
    rw [← next_tell hg h8, tellV_eq] at this
    have e : T = ofX (nextOf g xs) := by rw [hT]; unfold accOf; rw [if_neg h1, if_neg h2]
    rw [e]
    exact this
  go_enter Tryz.func10, Tryz.ntmps10
  refine coStart <| qQ [] (Many.begin w) fun w1 k1 => coS <| coR <| qR 2 [] k1 fun w2 k2 => tell 16 (show (which != 1) = true by simp [h1]) <| qR 3 [] k2 fun w2 k2 => tell 19 (show (which != 2) = true by simp [h2]) <| qE [] k2 fun w3 k3 => coT <| coR <| qR 2 [0] k3 fun w4 k4 => qC (KX w4 k4.touch.below) k4 fun w5 k5 => qE [1, 2] k5 fun w6 k6 => coRet <| eoTr <| eoT3 1 2 T.c T.g T.b (w.heap.size + 1) (w.heap.size + 2) k6 ⟨rfl, k6.touch.below⟩
theorem raccept_any (g : Rg) (hg : RgB g) (which : Int) (A : Option Addr) (cap : Nat) (xs : List Int) (hc : xs.length ≤ cap) (h8 : Bytes8 xs) (hl : xs.length ≤ 1000000000) (w : World) (hin : BytesIn w w.heap.size A xs) : Calls Tryz.prog 10 #[regsV g, .int .i64 which, .slice A xs.length cap] w fun e w' => e = .returned (accOf g which xs).v ∧ Below w.heap.size w w' := by
  by_cases h1 : which = 1
  · subst h1; exact raccept_one g hg A cap xs w
  by_cases h2 : which = 2
  · subst h2; exact raccept_two g hg A cap xs hc h8 hl w hin
  exact raccept_other g hg which h1 h2 A cap xs hc h8 hl w hin
end Go.Proofs.YtmnddlkhgajenaaGreatDoor
