/- Contracts and facts that the claim's proof wants (several texts in one). -/
import Derived.Test.YtkenebbjodcbcaaGreatDoorCoG16
import Derived.Test.YtkenebbjodcbcaaGreatDoorCoG18
namespace Go.Proofs.YtkenebbjodcbcaaGreatDoor
open Go.RowKit
set_option linter.unusedVariables false
set_option linter.unusedSimpArgs false
set_option maxRecDepth 20000
set_option maxHeartbeats 20000000
theorem b8_at {ys : List Int} (h : Bytes8 ys) {k : Nat} (hk : k < ys.length) : B8 ys[k] := h _ (List.getElem_mem hk)
def throughT (g : Rg) (v : Int) (ys : List Int) : T3 := toldT (pushL g.sp g.pc ++ tableL (256 * g.i + v)) (jumpG g (256 * ys.getD 4 0 + ys.getD 3 0)) ys.length
theorem through_any (g : Rg) (hp : 0 ≤ g.pc ∧ g.pc ≤ 65535) (hi : B8 g.i) (v : Int) (hv : B8 v) (A : Option Addr) (cap : Nat) (ys : List Int) (h8 : Bytes8 ys) (hl : ys.length ≤ 1000000000) (w : World) (hin : BytesIn w w.heap.size A ys) : Calls Tryz.prog 80 #[svV g v A ys.length cap] w fun e w' => e = .returned (throughT g v ys).v ∧ Below w.heap.size w w' := by
  go_enter Tryz.func80, Tryz.ntmps80
  refine coStart <| qQ [] (Many.begin w) fun w1 k1 => coR <| qR 1 [0] k1 fun w2 k2 => kX (leave_any g hp v A ys.length cap w2) ?_
  rintro e w3 ⟨b, rfl, hb, hrow, hB⟩
  have k3 := (k2.below hB).add hrow (Nat.le_trans k2.touch.size hb) fun i r hi => Nat.ne_of_lt (Nat.lt_of_lt_of_le (k2.lt i r hi) hb)
  have h2b : w.heap.size + 2 < b := Nat.lt_of_lt_of_le (k2.lt 2 ⟨w.heap.size + 2, 24, (regsC zeroRg).toList.map some⟩ (by kernel_rfl)) hb
  have hwb : w.heap.size ≤ b := Nat.le_trans k2.touch.size hb
  refine ⟨_, rfl, qE [] k3 fun w4 k4 => coR <| qR 5 [0, 0] k4 fun w5 k5 => qCe (word_any g.i v hi.1 hi.2 hv.1 hv.2 w5) <| qE [] k5 fun w6 k6 => qQ [] k6 fun w7 k7 => qQ [] k7 fun w8 k8 => coR <| qR 2 [] k8 fun w9 k9 => qC (aread_any (256 * g.i + v) w9) k9 fun w10 k10 => qR 2 [] k10 fun w11 k11 => qC (aread_any ((256 * g.i + v + 1) % 65536) w11) k11 fun w12 k12 => wM (xBuildS (bs2Y ⟨2, 256 * g.i + v, 0, 3⟩ ⟨2, (256 * g.i + v + 1) % 65536, 0, 3⟩ w12)) <| ?_⟩
  have rA := k12.row 3 (b := b) (t := 29) (cyvs (pushL g.sp g.pc)) (by kernel_rfl)
  have kA := (k12.take 3 [⟨w.heap.size, 107, (svC g v A ys.length cap).toList.map some⟩, ⟨w.heap.size + 1, 29, (cyC zeroCy).toList.map some⟩, ⟨w.heap.size + 2, 24, (regsC zeroRg).toList.map some⟩]).allocO (.cells (cyvs (tableL (256 * g.i + v))).toArray 29)
  have hb12 : b ≤ w12.heap.size := Nat.le_of_lt rA.lt
  refine qAy (.tmp 21) (.tmp 27) b _ (.slice (some ⟨b, 0, none⟩) 3 3) 3 (pushL g.sp g.pc) ⟨w12.heap.size, 0, none⟩ 2 2 (tableL (256 * g.i + v)) (Nat.le_trans hb12 (by simp)) ((own_crow 3 rA (Nat.le_refl b) rfl (by omega)).alloc _) (cys_new w12 (tableL (256 * g.i + v)) _) rfl (by omega) fun v' w13 own' hg => ?_
  have hA := kA.grown (b := b) hg hwb (three_ne (by omega) (by omega) (by omega))
  obtain ⟨l5, hl5⟩ : ∃ l, l = pushL g.sp g.pc ++ tableL (256 * g.i + v) := ⟨_, rfl⟩
  have e5 : l5.length = 5 := by rw [hl5]; rfl
  have hT : throughT g v ys = toldT l5 (jumpG g (256 * ys.getD 4 0 + ys.getD 3 0)) ys.length := by rw [hl5]; rfl
  rw [← hl5] at own'
  rcases own'.2 with ⟨-, e0⟩ | ⟨g', c', cur, rfl, hbg, hh, hle, hmx, hcs, htk⟩
  · cases e0
  clear kA rA k12 k11 k10 k9 k8 k7 k6 k5 k4 k3 k2 k1 own' hg
  have hC := hA.add (b := g') (t := 29) (cells := cur) hh (Nat.le_trans hwb hbg) (three_ne (by omega) (by omega) (by omega))
  refine qE [] hC fun w14 k14 => coS <| qQ [0] k14 fun w15 k15 => coI (decide ((ys.length : Int) < 5)) (fun h => ?_) fun h => coSkip <| eoT <| ?_
  · have h3 : ys.length < l5.length := by have : (ys.length : Int) < 5 := by simpa using h
                                          omega
    refine coR <| qR 4 [0] k15 fun w16 k16 => ?_
    have hcy := cys_cur _ (k16.row 3 (b := g') (t := 29) cur.toList (by kernel_rfl)) htk
    refine wM (xIndex (cixY ⟨g', 0, none⟩ 5 c' ys.length (by omega) w16)) <| wM (xLoad (hcy.ld h3)) <| qC (asked_any l5[ys.length] w16) k16 fun w17 k17 => qE [1, 2] k17 fun w18 k18 => coRet <| eoTr <| eoT3 1 2 l5[ys.length] zeroRg false (w.heap.size + 1) (w.heap.size + 2) k18 ⟨?_, k18.touch.below⟩
    rw [hT]
    unfold toldT
    rw [if_pos h3, List.getD_eq_getElem?_getD, List.getElem?_eq_getElem h3]
    rfl
  · have h3 : ¬ ys.length < l5.length := by have : ¬ (ys.length : Int) < 5 := by simpa using h
                                            omega
    have h4 : 4 < ys.length := by omega
    obtain ⟨p, rfl⟩ := hin.addr h4
    have e3 : ys.getD 3 0 = ys[3] := by rw [List.getD_eq_getElem?_getD, List.getElem?_eq_getElem (by omega)]; rfl
    have e4 : ys.getD 4 0 = ys[4] := by rw [List.getD_eq_getElem?_getD, List.getElem?_eq_getElem (by omega)]; rfl
    have b3 := b8_at h8 (k := 3) (by omega)
    have b4 := b8_at h8 h4
    refine qP 16 k15 fun w16 k16 => qD 0 [0, 1, 2, 3] k16 <| qT 4 k16 (fun w' _ => xIndex (ixB p ys.length cap 4 h4 _)) <| qT 5 k16 (fun w' hS => xLoad (BytesIn.ld (hin.below hS.touch.below) h4)) <| qD 0 [6, 7, 8] k16 <| qT 9 k16 (fun w' _ => xIndex (ixB p ys.length cap 3 (by omega) _)) <| qT 10 k16 (fun w' hS => xLoad (BytesIn.ld (hin.below hS.touch.below) (k := 3) (by omega))) <| qDe 11 (word_any ys[4] ys[3] b4.1 b4.2 b3.1 b3.2 w16) k16 fun w17 k17 => qDc 12 (enter_any g v (some p) ys.length cap (256 * ys[4] + ys[3]) w17) k17 fun w18 k18 => qM [13, 14, 15] k18 <| poE <| qE [1, 2] k18 fun w19 k19 => coRet <| eoT3 1 2 zeroCy (jumpG g (256 * ys[4] + ys[3])) true (w.heap.size + 1) (w.heap.size + 2) k19 ⟨?_, k19.touch.below⟩
    rw [hT]
    unfold toldT
    rw [if_neg h3, e3, e4]
    rfl
def instrT (g : Rg) (v : Int) (ys : List Int) : T3 := if prefixed v = true then endT g else ofX (afterOf g v ys)
theorem instruction_any (g : Rg) (hg : RgB g) (v : Int) (hv : B8 v) (A : Option Addr) (cap : Nat) (ys : List Int) (hc : ys.length ≤ cap) (h8 : Bytes8 ys) (w : World) (hin : BytesIn w w.heap.size A ys) (ht : Tabs w w.heap.size) : Calls Tryz.prog 78 #[svV g v A ys.length cap] w fun e w' => e = .returned (instrT g v ys).v ∧ Below w.heap.size w w' := by
  go_enter Tryz.func78, Tryz.ntmps78
  obtain ⟨T, hT⟩ : ∃ T, T = ofX (afterOf g v ys) := ⟨_, rfl⟩
  have K : ∀ W, Below w.heap.size w W → Calls Tryz.prog 96 #[regsV g, .int .u8 v, .slice A ys.length cap] W fun e w' => e = .returned T.v ∧ Below W.heap.size W w' := by rw [hT]; exact after_hid g hg v hv A cap ys hc h8 w hin ht
  have hq : prefixed v = (v == 203 || (v == 221 || (v == 237 || v == 253))) := rfl
  have hend : prefixed v = true → (instrT g v ys).v = (endT g).v := fun h => by unfold instrT; rw [if_pos h]
  have hgo : prefixed v = false → (instrT g v ys).v = T.v := fun h => by unfold instrT; rw [if_neg (by rw [h]; simp), hT]
  refine coStart <| qQ [] (Many.begin w) fun w1 k1 => coS <| qQ [0] k1 fun w2 k2 => coB <| coS <| qQ [] k2 fun w3 k3 => coI (v == 203) (fun h => coSkip <| eoT <| coJ (v == 203) (fun e => by rw [h] at e; cases e) fun _ => ?_) fun h1 => qQ [] k3 fun w3 k3 => coI (v == 221) (fun h => coSkip <| eoT <| coJ (v == 221) (fun e => by rw [h] at e; cases e) fun _ => ?_) fun h2 => qQ [] k3 fun w3 k3 => coI (v == 237) (fun h => coSkip <| eoT <| coJ (v == 237) (fun e => by rw [h] at e; cases e) fun _ => ?_) fun h3 => coZ <| qF [] k3 fun w3 k3 => eoT <| coI (v == 253) (fun h => ?_) fun h4 => coSkip <| eoB <| eoT <| coR <| qR 6 [0, 0, 0] k3 fun w4 k4 => qC (K w4 k4.touch.below) k4 fun w5 k5 => qE [1, 2] k5 fun w6 k6 => coRet <| eoT3 1 2 T.c T.g T.b (w.heap.size + 1) (w.heap.size + 2) k6 ⟨by rw [hgo (by rw [hq, h1, h2, h3, h4]; rfl)]; rfl, k6.touch.below⟩
  all_goals exact qP 4 k3 fun w4 k4 => qD 0 [0, 1, 2] k4 <| poOne 3 <| soZ 1 (w.heap.size + 1) k4 fun w4 k4 => poE <| qE [2] k4 fun w5 k5 => coRet <| eoBr <| eoTr <| eoT3 1 2 zeroCy g true (w.heap.size + 1) (w.heap.size + 2) k5 ⟨by rw [hend (by rw [hq, h]; simp)]; rfl, k5.touch.below⟩
abbrev fnS (f : FuncId) (s : Value) : Value := .func (.func f) #[s] #[]
def modesE (s : Value) : List MapEntry := [{ key := .int .i64 0, val := fnS 78 s, born := 0 }, { key := .int .i64 1, val := fnS 79 s, born := 1 }, { key := .int .i64 2, val := fnS 80 s, born := 2 }]
theorem modes_no (s : Value) {m : Int} (h0 : m ≠ 0) (h1 : m ≠ 1) (h2 : m ≠ 2) : Instr.findNow (.int .i64) (.int .i64 m) (modesE s) 0 = some none := by
  have e0 : (m == 0) = false := by simpa using h0
  have e1 : (m == 1) = false := by simpa using h1
  have e2 : (m == 2) = false := by simpa using h2
  simp only [modesE, Instr.findNow, Instr.sameNow, e0, e1, e2, if_true]
def serveT (g : Rg) (v : Int) (ys : List Int) : T3 := if g.mode = 0 then instrT g v ys else if g.mode = 1 then toldT (pushL g.sp g.pc) (jumpG g 56) ys.length else throughT g v ys
theorem serve_any (g0 : Rg) (hg : RgB g0) (v : Int) (hv : B8 v) (A : Option Addr) (cap : Nat) (ys : List Int) (hc : ys.length ≤ cap) (h8 : Bytes8 ys) (hl : ys.length ≤ 1000000000) (w : World) (hin : BytesIn w w.heap.size A ys) (ht : Tabs w w.heap.size) : Calls Tryz.prog 59 #[svV g0 v A ys.length cap] w fun e w' => e = .returned (serveT { g0 with iff1 := false, iff2 := false } v ys).v ∧ Below w.heap.size w w' := by
  go_enter Tryz.func59, Tryz.ntmps59
  obtain ⟨g, hgE⟩ : ∃ g : Rg, g = { g0 with iff1 := false, iff2 := false } := ⟨_, rfl⟩
  have hb : RgB g := by rw [hgE]; exact ⟨hg.af, hg.bc, hg.de, hg.hl, hg.af2, hg.bc2, hg.de2, hg.hl2, hg.ix, hg.iy, hg.sp, hg.pc, hg.wz, hg.i, hg.r, hg.mode⟩
  have hs : svV { g0 with iff1 := false, iff2 := false } v A ys.length cap = svV g v A ys.length cap := by rw [hgE]
  have hm : g.mode = g0.mode := by rw [hgE]
  obtain ⟨T, hT⟩ : ∃ T, T = serveT g v ys := ⟨_, rfl⟩
  have eT : serveT { g0 with iff1 := false, iff2 := false } v ys = T := by rw [hT, hgE]
  rw [eT]
  have K0 : g.mode = 0 → ∀ W, Below w.heap.size w W → Calls Tryz.prog 78 #[svV { g0 with iff1 := false, iff2 := false } v A ys.length cap] W fun e w' => e = .returned T.v ∧ Below W.heap.size W w' := fun h W hW => by
    have := instruction_any g hb v hv A cap ys hc h8 W ((hin.below hW).more hW.size) (ht.below hW)
    rw [hs, hT]; unfold serveT; rwa [if_pos h]
  have K1 : g.mode = 1 → ∀ W, Calls Tryz.prog 79 #[svV { g0 with iff1 := false, iff2 := false } v A ys.length cap] W fun e w' => e = .returned T.v ∧ Below W.heap.size W w' := fun h W => by
    have := fixed_any g hb.pc v A ys.length cap hl W
    rw [hs, hT]; unfold serveT; rwa [if_neg (by omega), if_pos h]
  have K2 : g.mode ≠ 0 → g.mode ≠ 1 → ∀ W, Below w.heap.size w W → Calls Tryz.prog 80 #[svV { g0 with iff1 := false, iff2 := false } v A ys.length cap] W fun e w' => e = .returned T.v ∧ Below W.heap.size W w' := fun h h' W hW => by
    have := through_any g hb.pc hb.i v hv A cap ys h8 hl W ((hin.below hW).more hW.size)
    rw [hs, hT]; unfold serveT; rwa [if_neg h, if_neg h']
  rw [hm] at K0 K1 K2
  clear hT eT hs hb hm hgE
  obtain ⟨S, hS⟩ : ∃ S, S = svV { g0 with iff1 := false, iff2 := false } v A ys.length cap := ⟨_, rfl⟩
  refine coStart <| qQ [] (Many.begin w) fun w1 k1 => qQ [0, 0] k1 fun w2 k2 => coR <| wM (xMakeMap (run_makeMap _ w2)) <| ?_
  obtain ⟨M, hM⟩ : ∃ M, M = w2.heap.size := ⟨_, rfl⟩
  have hw2 : w.heap.size + 2 < M := by rw [hM]; exact k2.lt 2 ⟨w.heap.size + 2, 24, (regsC zeroRg).toList.map some⟩ (by kernel_rfl)
  have nin : M ∉ [w.heap.size, w.heap.size + 1, w.heap.size + 2] := fun h => by simp only [List.mem_cons, List.not_mem_nil, or_false] at h; omega
  have hL0 : ∀ b ∈ [w.heap.size, w.heap.size + 1, w.heap.size + 2], w.heap.size ≤ b := fun b h => by simp only [List.mem_cons, List.not_mem_nil, or_false] at h; omega
  have hne : ∀ b ∈ [w.heap.size, w.heap.size + 1, w.heap.size + 2], b ≠ M := fun b h => by simp only [List.mem_cons, List.not_mem_nil, or_false] at h; omega
  have m1 : (w2.alloc (.map #[] 0)).heap[M]? = some (.map #[] 0) := by rw [hM]; exact World.alloc_heap_new w2 _
  have B1 := bAlloc k2.touch.below (.map #[] 0)
  have lt1 : M < (w2.alloc (.map #[] 0)).heap.size := (Array.getElem?_eq_some_iff.1 m1).1
  have kb1 := (k2.allocO (.map #[] 0)).rebaseL [w.heap.size, w.heap.size + 1, w.heap.size + 2]
  rw [← hM]
  generalize w2.alloc (.map #[] 0) = W1 at *
  refine qR 2 [0] kb1 fun w3 k3 => ?_
  have m3 := (k3.touch.block M lt1 nin).trans m1
  have B3 := k3.touch.underL B1 hL0 B1.size
  obtain ⟨w4, r4, m4, g4⟩ := run_insert_any w3 121 _ _ Tryz.underlying121 Tryz.underlying3 [] 0 0 (fnS 78 (svV { g0 with iff1 := false, iff2 := false } v A ys.length cap)) M m3 rfl
  refine wD (xInsert r4) ?_
  have B4 := below_some B3 g4 (by omega) B3.size
  have kb4 := k3.anewL g4 [w.heap.size, w.heap.size + 1, w.heap.size + 2] hne
  have lt4 := (Array.getElem?_eq_some_iff.1 m4).1
  refine qR 2 [0] kb4 fun w5 k5 => ?_
  have m5 := (k5.touch.block M lt4 nin).trans m4
  have B5 := k5.touch.underL B4 hL0 B4.size
  obtain ⟨w6, r6, m6, g6⟩ := run_insert_any w5 121 _ _ Tryz.underlying121 Tryz.underlying3 _ 1 1 (fnS 79 (svV { g0 with iff1 := false, iff2 := false } v A ys.length cap)) M m5 rfl
  refine wD (xInsert r6) ?_
  have B6 := below_some B5 g6 (by omega) B5.size
  have kb6 := k5.anewL g6 [w.heap.size, w.heap.size + 1, w.heap.size + 2] hne
  have lt6 := (Array.getElem?_eq_some_iff.1 m6).1
  refine qR 2 [0] kb6 fun w7 k7 => ?_
  have m7 := (k7.touch.block M lt6 nin).trans m6
  have B7 := k7.touch.underL B6 hL0 B6.size
  obtain ⟨w8, r8, m8, g8⟩ := run_insert_any w7 121 _ _ Tryz.underlying121 Tryz.underlying3 _ 2 2 (fnS 80 (svV { g0 with iff1 := false, iff2 := false } v A ys.length cap)) M m7 rfl
  refine wD (xInsert r8) ?_
  have B8' := below_some B7 g8 (by omega) B7.size
  have kb8 := k7.anewL g8 [w.heap.size, w.heap.size + 1, w.heap.size + 2] hne
  have lt8 := (Array.getElem?_eq_some_iff.1 m8).1
  have m8 : w8.heap[M]? = some (.map (modesE (svV { g0 with iff1 := false, iff2 := false } v A ys.length cap)).toArray 3) := m8
  clear r4 r6 r8 m1 m3 m4 m5 m6 m7 g4 g6 g8 B1 B3 B4 B5 B6 B7 kb1 kb4 kb6 k1 k2 k3 k5 k7 lt1 lt4 lt6 hM
  refine qE [] kb8 fun w9 k9 => coR <| qR 4 [0] k9 fun wA kA => ?_
  have mA := (kA.touch.block M lt8 nin).trans m8
  have BA := kA.touch.underL B8' hL0 B8'.size
  have ht := Tryz.underlying121
  have hk := Tryz.underlying3
  by_cases h0 : g0.mode = 0
  · refine wM (xLookup (V := .map (some M)) (W := .int .i64 g0.mode) (by rw [h0]; exact run_look ht hk mA rfl)) <| qE [] kA fun wB kB => coS <| qQ [] kB fun wC kC => coF <| coSkip <| eoT <| coR <| qR 1 [] kC fun wD kD => qC (K0 h0 wD (kD.touch.underL B8' hL0 B8'.size)) kD fun wE kE => qE [1, 2] kE fun wF kF => coRet <| eoT3 1 2 T.c T.g T.b (w.heap.size + 1) (w.heap.size + 2) kF ⟨rfl, kF.touch.underL B8' hL0 B8'.size⟩
  by_cases h1 : g0.mode = 1
  · refine wM (xLookup (V := .map (some M)) (W := .int .i64 g0.mode) (by rw [h1]; exact run_look ht hk mA rfl)) <| qE [] kA fun wB kB => coS <| qQ [] kB fun wC kC => coF <| coSkip <| eoT <| coR <| qR 1 [] kC fun wD kD => qC (K1 h1 wD) kD fun wE kE => qE [1, 2] kE fun wF kF => coRet <| eoT3 1 2 T.c T.g T.b (w.heap.size + 1) (w.heap.size + 2) kF ⟨rfl, kF.touch.underL B8' hL0 B8'.size⟩
  by_cases h2 : g0.mode = 2
  · refine wM (xLookup (V := .map (some M)) (W := .int .i64 g0.mode) (by rw [h2]; exact run_look ht hk mA rfl)) <| qE [] kA fun wB kB => coS <| qQ [] kB fun wC kC => coF <| coSkip <| eoT <| coR <| qR 1 [] kC fun wD kD => qC (K2 h0 h1 wD (kD.touch.underL B8' hL0 B8'.size)) kD fun wE kE => qE [1, 2] kE fun wF kF => coRet <| eoT3 1 2 T.c T.g T.b (w.heap.size + 1) (w.heap.size + 2) kF ⟨rfl, kF.touch.underL B8' hL0 B8'.size⟩
  · refine wM (xLookup (V := .map (some M)) (W := .int .i64 g0.mode) (run_look_no (z := .nilFunc) ht hk mA (modes_no _ h0 h1 h2) (by kernel_rfl))) <| qE [] kA fun wB kB => coS <| qQ [] kB fun wC kC => coT <| coZ <| qF [0] kC fun wC kC => eoT <| coR <| qR 1 [] kC fun wD kD => qC (K2 h0 h1 wD (kD.touch.underL B8' hL0 B8'.size)) kD fun wE kE => qE [1, 2] kE fun wF kF => coRet <| eoT3 1 2 T.c T.g T.b (w.heap.size + 1) (w.heap.size + 2) kF ⟨rfl, kF.touch.underL B8' hL0 B8'.size⟩
theorem which_any (g : Rg) (nmi irq : Bool) (w : World) : Calls Tryz.prog 62 #[regsV g, .bool nmi, .bool irq] w fun e w' => e = .returned (.int .i64 (whichM g nmi irq)) ∧ Below w.heap.size w w' := by
  go_enter Tryz.func62, Tryz.ntmps62
  refine coStart <| qQ [] (Many.begin w) fun w1 k1 => coS <| qQ [] k1 fun w2 k2 => coI nmi (fun h => qQ [] k2 fun w3 k3 => coRet <| eoTr <| eoIr (.int .i64 1) ⟨?_, k3.touch.below⟩) fun h => coSkip <| eoT <| coS <| coR <| qR 2 [] k2 fun w3 k3 => ?_
  · unfold whichM; rw [h]; rfl
  cases irq with
  | false => exact qE [] k3 fun w4 k4 => coF <| coSkip <| eoT <| qQ [] k4 fun w5 k5 => coRet <| eoIr (.int .i64 0) ⟨by unfold whichM; rw [h]; rfl, k5.touch.below⟩
  | true =>
    refine qR 4 [0] k3 fun w4 k4 => ?_
    cases hi : g.iff1 with
    | false => exact tell 12 hi <| tell 13 hi <| qE [] k4 fun w5 k5 => coF <| coSkip <| eoT <| qQ [] k5 fun w5 k5 => coRet <| eoIr (.int .i64 0) ⟨by unfold whichM; rw [h, hi]; rfl, k5.touch.below⟩
    | true =>
      refine tell 12 hi <| tell 13 hi <| qE [0] k4 fun w5 k5 => coI (!g.late) (fun hl => qQ [] k5 fun w6 k6 => coRet <| eoTr <| eoIr (.int .i64 2) ⟨by unfold whichM; rw [h, hi, hl]; rfl, k6.touch.below⟩) fun hl => coSkip <| eoT <| qQ [] k5 fun w6 k6 => coRet <| eoIr (.int .i64 0) ⟨by unfold whichM; rw [h, hi, hl]; rfl, k6.touch.below⟩
theorem accept_any (g : Rg) (hg : RgB g) (which : Int) (A : Option Addr) (cap : Nat) (xs : List Int) (hc : xs.length ≤ cap) (h8 : Bytes8 xs) (hl : xs.length ≤ 1000000000) (w : World) (hin : BytesIn w w.heap.size A xs) (ht : Tabs w w.heap.size) : Calls Tryz.prog 40 #[regsV g, .int .i64 which, .slice A xs.length cap] w fun e w' => e = .returned (accOf g which xs).v ∧ Below w.heap.size w w' := by
  go_enter Tryz.func40, Tryz.ntmps40
  obtain ⟨X, hX⟩ : ∃ X, X = ofX (nextOf g xs) := ⟨_, rfl⟩
  have KX : ∀ W, Below w.heap.size w W → Calls Tryz.prog 55 #[regsV g, .slice A xs.length cap] W fun e w' => e = .returned X.v ∧ Below W.heap.size W w' := by rw [hX]; exact next_hid g hg A cap xs hc h8 w hin ht
  refine coStart <| qQ [] (Many.begin w) fun w1 k1 => coR <| qR 3 [0] k1 fun w2 k2 => qC (opening_any g.pc which w2) k2 fun w3 k3 => qE [3] k3 fun w4 k4 => coS <| qQ [] k4 fun w5 k5 => coI (!(which == 1 || which == 2)) (fun h => ?_) fun h => coSkip <| eoT <| coS <| qQ [] k5 fun w6 k6 => coI ((xs.length : Int) == 0) (fun h0 => ?_) fun h0 => coSkip <| eoT <| ?_
  · have h1 : which ≠ 1 := by intro e; subst e; cases h
    have h2 : which ≠ 2 := by intro e; subst e; cases h
    refine coR <| qR 2 [0] k5 fun w6 k6 => qC (KX w6 k6.touch.below) k6 fun w7 k7 => qE [1, 2] k7 fun w8 k8 => coRet <| eoTr <| eoT3 1 2 X.c X.g X.b (w.heap.size + 1) (w.heap.size + 2) k8 ⟨?_, k8.touch.below⟩
    unfold accOf
    rw [if_neg h1, if_neg h2, ← hX]
    rfl
  · have hx : xs = [] := List.eq_nil_of_length_eq_zero (by have : (xs.length : Int) = 0 := by simpa using h0
                                                           omega)
    refine coR <| qR 1 [3] k6 fun w7 k7 => qC (asked_any (openC g.pc which) w7) k7 fun w8 k8 => qE [1, 2] k8 fun w9 k9 => coRet <| eoTr <| eoT3 1 2 (openC g.pc which) zeroRg false (w.heap.size + 1) (w.heap.size + 2) k9 ⟨?_, k9.touch.below⟩
    subst hx
    unfold accOf openC
    by_cases h1 : which = 1
    · rw [if_pos h1, if_pos h1]; rfl
    · have h2 : which = 2 := by
        have : (which == 1 || which == 2) = true := by cases hq : (which == 1 || which == 2) with | true => rfl | false => (rw [hq] at h; cases h)
        simpa [h1] using this
      rw [if_neg h1, if_neg h1, if_pos h2, if_pos h2]; rfl
  · obtain ⟨v, ys, rfl⟩ : ∃ v ys, xs = v :: ys := by
      cases xs with
      | nil => cases h0
      | cons v ys => exact ⟨v, ys, rfl⟩
    have hcy : ys.length + 1 ≤ cap := hc
    have hly : ys.length ≤ 1000000000 := by have : ys.length + 1 ≤ 1000000000 := hl
                                            omega
    have hv : B8 v := h8.head
    have hy8 : Bytes8 ys := h8.tail
    obtain ⟨A', hA'⟩ : ∃ A', A' = (if cap = 1 then A else A.map (·.add 1)) := ⟨_, rfl⟩
    have hiny : BytesIn w w.heap.size A' ys := by rw [hA']; exact hin.drop (k := 1) (by simp) hc
    have KB := fun (W : World) (hW : Below w.heap.size w W) => begin_any g hg v ys A cap hcy W ((hin.below hW).more hW.size)
    rw [← hA'] at KB
    obtain ⟨g1, hg1⟩ : ∃ g1 : Rg, g1 = tickG { g with halted := false, late := false } 1 := ⟨_, rfl⟩
    have b1 : RgB g1 := by
      have := hg.tick 1
      rw [hg1]
      exact ⟨this.af, this.bc, this.de, this.hl, this.af2, this.bc2, this.de2, this.hl2, this.ix, this.iy, this.sp, this.pc, this.wz, this.i, this.r, this.mode⟩
    rw [← hg1] at KB
    refine coR <| qR 2 [0] k6 fun w7 k7 => qC (KB w7 k7.touch.below) k7 fun w8 k8 => qE [4] k8 fun w9 k9 => coS <| qQ [] k9 fun wA kA => coI (which == 1) (fun h1 => ?_) fun h1 => coSkip <| eoT <| ?_
    · obtain ⟨T, hT⟩ : ∃ T, T = toldT (pushL g1.sp g1.pc) (jumpG { g1 with iff1 := false } 102) ys.length := ⟨_, rfl⟩
      have KN := fun W => nmi_any g1 b1.pc v A' ys.length (cap - 1) hly W
      rw [← hT] at KN
      refine coR <| qR 1 [4] kA fun wB kB => qC (KN wB) kB fun wC kC => qE [1, 2] kC fun wD kD => coRet <| eoTr <| eoT3 1 2 T.c T.g T.b (w.heap.size + 1) (w.heap.size + 2) kD ⟨?_, kD.touch.below⟩
      have e : accOf g which (v :: ys) = T := by
        unfold accOf
        rw [if_pos (by simpa using h1), hT, hg1]
        rfl
      rw [e]; rfl
    · have h1' : which ≠ 1 := by simpa using h1
      have h2 : which = 2 := by
        have : (which == 1 || which == 2) = true := by cases hq : (which == 1 || which == 2) with | true => rfl | false => (rw [hq] at h; cases h)
        simpa [h1'] using this
      obtain ⟨T, hT⟩ : ∃ T, T = serveT { g1 with iff1 := false, iff2 := false } v ys := ⟨_, rfl⟩
      have KN := fun (W : World) (hW : Below w.heap.size w W) => serve_any g1 b1 v hv A' (cap - 1) ys (by omega) hy8 hly W ((hiny.below hW).more hW.size) (ht.below hW)
      rw [← hT] at KN
      refine coR <| qR 1 [4] kA fun wB kB => qC (KN wB kB.touch.below) kB fun wC kC => qE [1, 2] kC fun wD kD => coRet <| eoT3 1 2 T.c T.g T.b (w.heap.size + 1) (w.heap.size + 2) kD ⟨?_, kD.touch.below⟩
      have e : accOf g which (v :: ys) = T := by
        unfold accOf
        rw [if_neg h1', if_pos h2, hT, hg1]
        rfl
      rw [e]; rfl
def rstL : LnT := { zeroLn with reset := true }
theorem ln_rst (l : LnT) (w : World) : (binOp .eql 40 (lnV l) (lnV rstL)).run Tryz.prog w = .ok (.bool (l.reset && (!l.wait && (!l.bus && (!l.irq && !l.nmi))))) w := by
  obtain ⟨a, b, c, d, e⟩ := l
  cases a <;> cases b <;> cases c <;> cases d <;> cases e <;> kernel_rfl
theorem ln_zero (b : Bool) (w : World) : (binOp .eql 40 (lnV { zeroLn with bus := b }) (lnV zeroLn)).run Tryz.prog w = .ok (.bool (!b)) w := by cases b <;> kernel_rfl
theorem ln_guard (op : BinOp) (a b : LnT) (x y : Operand) (w : World) : (eqGuard op 40 x y (lnV a) (lnV b)).run Tryz.prog w = .ok () w := by
  exact run_eqGuard_agg (P := Tryz.prog) w op _ x y _ _ (by kernel_rfl)
def evR : Value := .iface 77 (.agg #[])
def evA (b : Bool) : Value := .iface 80 (.agg #[.bool (!b)])
def evS (a : AtT) (m : Bool) : Value := .iface 70 (.agg (stC a m))
def evL (a : AtT) (m : Bool) : Value := .iface 72 (.agg (stC a m))
def evM (c : CoT) (l : LnT) : Value := if l.reset = true then evR else if c.off = true then evA l.bus else if (tickM c.a l.wait).2.2 = true then evL (tickM c.a l.wait).1 (tickM c.a l.wait).2.1 else evS (tickM c.a l.wait).1 (tickM c.a l.wait).2.1
theorem happens_any (c : CoT) (A : Option Addr) (n cap : Nat) (l : LnT) (w : World) (hS : Samps w) : Calls Tryz.prog 27 #[coV c (.slice A n cap), lnV l] w fun e w' => e = .returned (evM c l) ∧ Below w.heap.size w w' := by
  have KH := fun W => heeded_any c A n cap l W
  go_enter Tryz.func27, Tryz.ntmps27
  refine coStart <| qQ [] (Many.begin w) fun w1 k1 => ?_
  cases hr : l.reset with
  | true =>
    have e1 : heedM c l = rstL := if_pos hr
    have e2 : evM c l = evR := if_pos hr
    rw [e1] at KH
    rw [e2]
    exact coR <| qR 2 [0, 1] k1 fun w2 k2 => qC (KH w2) k2 fun w3 k3 => qE [1] k3 fun w4 k4 => coS <| coR <| qR 2 [1] k4 fun w5 k5 => kBj 14 (lnV rstL) (lnV rstL) (.bool true) (ln_guard _ _ _ _ _) (ln_rst rstL) <| qE [] k5 fun w6 k6 => coT <| qQ [] k6 fun w7 k7 => coRet <| eoTr <| eoIr evR ⟨rfl, k7.touch.below⟩
  | false =>
    cases ho : c.off with
    | true =>
      have e1 : heedM c l = { zeroLn with bus := l.bus } := (if_neg (by rw [hr]; simp)).trans (if_pos ho)
      have e2 : evM c l = evA l.bus := (if_neg (by rw [hr]; simp)).trans (if_pos ho)
      rw [e1] at KH
      rw [e2]
      obtain ⟨m, hm⟩ : ∃ m : LnT, m = { zeroLn with bus := l.bus } := ⟨_, rfl⟩
      have hz := fun W => ln_zero l.bus W
      have hq := fun W => ln_rst m W
      rw [show m.reset = false by rw [hm]; rfl, Bool.false_and] at hq
      rw [← hm] at KH hz
      exact coR <| qR 2 [0, 1] k1 fun w2 k2 => qC (KH w2) k2 fun w3 k3 => qE [1] k3 fun w4 k4 => coS <| coR <| qR 2 [1] k4 fun w5 k5 => kBj 14 (lnV m) (lnV rstL) (.bool false) (ln_guard _ _ _ _ _) hq <| qE [] k5 fun w6 k6 => coF <| coSkip <| eoT <| coS <| coR <| qR 2 [0] k6 fun w6 k6 => tell 18 ho <| qE [] k6 fun w6 k6 => coT <| coR <| qR 2 [1] k6 fun w7 k7 => kBj 21 (lnV m) (lnV zeroLn) (.bool (!l.bus)) (ln_guard _ _ _ _ _) hz <| qE [] k7 fun w8 k8 => coRet <| eoTr <| eoIr (evA l.bus) ⟨rfl, k8.touch.below⟩
    | false =>
      have e1 : heedM c l = l := (if_neg (by rw [hr]; simp)).trans (if_neg (by rw [ho]; simp))
      have e2 : evM c l = if (tickM c.a l.wait).2.2 = true then evL (tickM c.a l.wait).1 (tickM c.a l.wait).2.1 else evS (tickM c.a l.wait).1 (tickM c.a l.wait).2.1 := (if_neg (by rw [hr]; simp)).trans (if_neg (by rw [ho]; simp))
      rw [e1] at KH
      rw [e2]
      have hq := fun W => ln_rst l W
      rw [hr, Bool.false_and] at hq
      have KT := fun W (h : Samps W) => ctick_any c.a l.wait W h
      unfold tickV at KT
      generalize tickM c.a l.wait = T at KT ⊢
      obtain ⟨a, m, t⟩ := T
      dsimp only at KT ⊢
      refine coR <| qR 2 [0, 1] k1 fun w2 k2 => qC (KH w2) k2 fun w3 k3 => qE [1] k3 fun w4 k4 => coS <| coR <| qR 2 [1] k4 fun w5 k5 => kBj 14 (lnV l) (lnV rstL) (.bool false) (ln_guard _ _ _ _ _) hq <| qE [] k5 fun w6 k6 => coF <| coSkip <| eoT <| coS <| coR <| qR 2 [0] k6 fun w6 k6 => tell 18 ho <| qE [] k6 fun w6 k6 => coF <| coSkip <| eoT <| coR <| qR 4 [0, 1] k6 fun w7 k7 => qC (KT w7 (hS.below k7.touch.below)) k7 fun w8 k8 => qE [2] k8 fun w9 k9 => qQ [2, 3] k9 fun wa ka => ?_
      cases t with
      | true => exact coS <| qQ [] ka fun wb kb => coT <| qQ [3] kb fun wc kc => coRet <| eoTr <| eoIr (evL a m) ⟨rfl, kc.touch.below⟩
      | false => exact coS <| qQ [] ka fun wb kb => coF <| coSkip <| eoT <| qQ [3] kb fun wc kc => coRet <| eoIr (evS a m) ⟨rfl, kc.touch.below⟩
theorem bs0 (w : World) : (Instr.buildSlice 26 0 #[]).run Tryz.prog w = .ok (.slice (some ⟨w.heap.size, 0, none⟩) 0 0) (w.alloc (.cells #[] 5)) := by simp [go_sem]
theorem clone18_any (A : Option Addr) (cap : Nat) (xs : List Int) (hl : xs.length ≤ 1000000) (w : World) (hb : BytesIn w w.heap.size A xs) : Calls Tryz.prog 31 #[.slice A xs.length cap] w fun e w' => ∃ v', e = .returned v' ∧ w'.ownsRow w.heap.size 5 1 v' xs.length (bvs xs) ∧ Below w.heap.size w w' := by
  go_enter Tryz.func31, Tryz.ntmps31
  refine coStart <| qQ [] (Many.begin w) fun w1 k1 => ?_
  cases A with
  | none =>
    have hx : xs = [] := by
      cases xs with
      | nil => rfl
      | cons y ys => obtain ⟨ad, e, -⟩ := hb 0 y rfl; cases e
    subst hx
    exact coS <| qQ [] k1 fun w2 k2 => coT <| qQ [] k2 fun w3 k3 => coRet <| eoTr <| eoIr (.slice none 0 0) ⟨_, rfl, World.ownsRow_nil .., k3.touch.below⟩
  | some p =>
    refine coS <| qQ [] k1 fun w2 k2 => coF <| coSkip <| eoT <| coR <| wM (xBuildS (bs0 w2)) ?_
    have h2 : Below w.heap.size w w2 := k2.touch.below
    have own4 : (w2.alloc (.cells #[] 5)).ownsRow w.heap.size 5 1 (.slice (some ⟨w2.heap.size, 0, none⟩) 0 0) 0 (bvs []) := World.ownsRow_made w2 #[] 0 h2.size (Nat.zero_le _) rfl
    have h4 := bAlloc h2 (.cells #[] 5)
    generalize w2.alloc (.cells #[] 5) = w4 at *
    refine qR 1 [] (Many.begin w4) fun w5 k5 => qA (.tmp 5) (.tmp 6) w w.heap.size w.heap.size _ 0 [] (some p) cap xs (bOn h4 k5) (Nat.le_refl _) (bOn h4 k5).size (own_below own4 k5.touch.below) (hb.below (bOn h4 k5)) (fun e => by cases e) (by omega) fun v' w6 own6 hB6 hs6 => qE [] (Many.begin w6) fun w7 k7 => coRet <| eoIr v' ⟨v', rfl, ?_, bOn hB6 k7⟩
    have := own_below own6 k7.touch.below
    rwa [Nat.zero_add, List.nil_append] at this
theorem soWo {P : Program} {ops : Array Oper} {Q : Exit → Act → World → Prop} {base : List Value} {l : Slots} {w : World} {S : World → Prop} {n f i : Nat} {listed : Array Bool} {x y : Operand} {b : Nat} {t u : TypeId} {cs ds : Array Value} (o : Nat) (hr : Row w b u ds) (hS : S (w.setCells b o cs.toList)) (h : PO P ops Q S n base f (listed.setIfInBounds i true) l (w.setCells b o cs.toList))
    (h1 : cs.toList.all (·.oneCell') = true) (hsz : o + cs.size ≤ ds.size) (ho : (opNo ops i).op = .store t x y := by exact rfl) (hx : evO base l x = pT b o := by kernel_rfl) (hy : evO base l y = .agg cs := by kernel_rfl) (ht : (P.info? t).map (·.size) = some cs.size := by kernel_rfl)
    (hd : ((opNo ops i).dst.isNone, decide (i < n), wantO ops base.length base l (opNo ops i), (ops[i]?).isSome) = (true, true, some true, true) := by kernel_rfl) : SO P ops Q S n base f listed i l w := by
  simp only [Prod.mk.injEq] at hd
  obtain ⟨d1, d2, d3, d4⟩ := hd
  have ho' := opNo_eq d4
  have hdn : (opNo ops i).dst = none := Option.isNone_iff_eq_none.1 d1
  have hth : w.there b o cs.size := fun j hj => by
    have := hr.there (o + j) (by omega)
    rwa [Nat.zero_add] at this
  have e1 : (execOp (evO base l) (opNo ops i)).run P w = .ok .skip (w.setCells b o cs.toList) := xStore (run_storeAt_mid w b o t cs hth ht (by rw [← Array.all_toList]; exact h1)) ho hx hy
  refine ⟨fun hi hr inv => ⟨of_decide_eq_true d2, ?_⟩⟩
  unfold wpOp
  simp only [ho', wantO_sound d3 hi, if_true]
  refine .inl ?_
  unfold Oper.wp
  rw [evO_eq hi, e1, Oper.upon_skip, hdn]
  exact ⟨hS, h.h hi (inv.set hr (of_decide_eq_true d2))⟩
theorem accnil_any (g : Rg) (hg : RgB g) (wh : Int) (w : World) (ht : Tabs w w.heap.size) : Calls Tryz.prog 40 #[regsV g, .int .i64 wh, .slice none 0 0] w fun e w' => e = .returned (accOf g wh []).v ∧ Below w.heap.size w w' :=
  accept_any g hg wh none 0 [] (Nat.le_refl _) b8_nil (by simp) w (BytesIn.nil _ _ _) ht
theorem cbegin_any (c : CoT) (A : Option Addr) (n cap : Nat) (g : Rg) (hg : RgB g) (wh : Int) (w : World) (ht : Tabs w w.heap.size) : Calls Tryz.prog 25 #[coV c (.slice A n cap), regsV g, .int .i64 wh] w fun e w' => e = .returned (coV (c.start g wh) (.slice none 0 0)) ∧ Below w.heap.size w w' := by
  have KN := fun W (h : Tabs W W.heap.size) => accnil_any g hg wh W h
  obtain ⟨T, hT⟩ : ∃ T, T = accOf g wh [] := ⟨_, rfl⟩
  rw [← hT] at KN
  have e : c.start g wh = { c with r := g, wh := wh, got := [], a := at0 T.c } := by rw [hT]; rfl
  rw [e]
  go_enter Tryz.func25, Tryz.ntmps25
  refine coStart <| qQ [] (Many.begin w) fun w1 k1 => coR <| qR 2 [1] k1 fun w2 k2 => qC (KN w2 (ht.below k2.touch.below)) k2 fun w3 k3 => qE [3, 4] k3 fun w4 k4 => ?_
  have r0 : Row w4 w.heap.size 33 (coC c (.slice A n cap)) := k4.row 0 (coC c (.slice A n cap)).toList (by kernel_rfl)
  have r1 : Row w4 (w.heap.size + 1) 24 (regsC g) := k4.row 1 (regsC g).toList (by kernel_rfl)
  have r2 : Row w4 (w.heap.size + 2) 33 (coC zeroCo (.slice none 0 0)) := k4.row 2 (coC zeroCo (.slice none 0 0)).toList (by kernel_rfl)
  have r3 : Row w4 w3.heap.size 29 (cyC T.c) := k4.row 3 (cyC T.c).toList (by kernel_rfl)
  have l3 : w.heap.size + 2 < w3.heap.size := k3.lt 2 ⟨w.heap.size + 2, 33, (coC zeroCo (.slice none 0 0)).toList.map some⟩ (by kernel_rfl)
  have kp := ((Many.two r1 r3 (by omega)).wide (L' := [w.heap.size, w.heap.size + 1, w3.heap.size]) (fun x hx => by simp at hx ⊢; omega)).drew
  have r0d := r0.drew'
  have r2d := r2.drew'
  refine coP (S := Many w4 [w.heap.size, w.heap.size + 1, w3.heap.size] [⟨w.heap.size + 1, 24, (regsC g).toList.map some⟩, ⟨w3.heap.size, 29, (cyC T.c).toList.map some⟩]) 6 kp ?_
  generalize w4.drew = wd at *
  refine qD 0 [0] kp <| qM [1] kp <| qD 1 [2] kp <| qM [4] kp <| poOne 3 (soC (at18_any T.c wd) fun e w6 ⟨he, hb⟩ => ⟨_, he, kp.below hb, ?_⟩)
  have k6 := kp.below hb
  have r06 := r0d.below hb r0d.lt
  have r26 := r2d.below hb r2d.lt
  have k7 := k6.beside (b := w.heap.size) (by simp) (fun r hr => by
    simp only [List.mem_cons, List.not_mem_nil, or_false] at hr
    rcases hr with rfl | rfl
    · show w.heap.size + 1 ≠ w.heap.size
      omega
    · show w3.heap.size ≠ w.heap.size
      omega) 0 (regsC g).toList
  have rA := Row.setOver (w := w6) (regsC g).toList 0 r06
  have r2A := Row.setFar (b := w.heap.size) (by omega) (regsC g).toList 0 r26
  rw [show ovr (coC c (.slice A n cap)) 0 (regsC g).toList = coC { c with r := g } (.slice A n cap) by kernel_rfl] at rA
  refine poOne 5 (soWo 0 (cs := regsC g) r06 k7 ?_ (by rfl) (by show 0 + 20 ≤ 32; omega))
  generalize w6.setCells w.heap.size 0 (regsC g).toList = wA at *
  refine poE <| qE [0, 0, 0] (Many.two rA r2A (by omega)) fun w7 k7' => qQ [0, 1] k7' fun w8 k8 => coRet <| eoK1 (k8.row 1 (b := w.heap.size + 2) (t := 33) (coC { c with r := g, wh := wh, got := [], a := at0 T.c } (.slice none 0 0)).toList (by kernel_rfl)) ⟨rfl, ?_⟩
  have lowA := low_touch k4 k7 (fun b hb => by simp at hb; omega)
  exact Kept.low lowA (Kept.of_touch k8.touch) lowA.size (fun b hb => by simp at hb; omega)
theorem cnew_any (g : Rg) (hg : RgB g) (w : World) (ht : Tabs w w.heap.size) : Calls Tryz.prog 10 #[regsV g] w fun e w' => e = .returned (coV (newM g) (.slice none 0 0)) ∧ Below w.heap.size w w' := by
  have KN := fun W (h : Tabs W W.heap.size) => cbegin_any zeroCo none 0 0 g hg 0 W h
  obtain ⟨d, hd⟩ : ∃ d, d = newM g := ⟨_, rfl⟩
  rw [show zeroCo.start g 0 = d from hd.symm] at KN
  rw [← hd]
  go_enter Tryz.func10, Tryz.ntmps10
  exact coStart <| qQ [] (Many.begin w) fun w1 k1 => coR <| qR 2 [0] k1 fun w2 k2 => qC (KN w2 (ht.below k2.touch.below)) k2 fun w3 k3 => qE [1] k3 fun w4 k4 => coRet <| eoK1 (k4.row 1 (b := w.heap.size + 1) (t := 33) (coC d (.slice none 0 0)).toList (by kernel_rfl)) ⟨rfl, k4.touch.below⟩
theorem cchoose_any (c : CoT) (A : Option Addr) (n cap : Nat) (g : Rg) (hg : RgB g) (irq : Bool) (w : World) (ht : Tabs w w.heap.size) : Calls Tryz.prog 46 #[coV c (.slice A n cap), regsV g, .bool irq] w fun e w' => e = .returned (coV (c.choose g irq) (.slice none 0 0)) ∧ Below w.heap.size w w' := by
  have KW := fun W => which_any g c.nmi irq W
  obtain ⟨q, hq⟩ : ∃ q, q = whichM g c.nmi irq := ⟨_, rfl⟩
  rw [← hq] at KW
  have KB := fun W (h : Tabs W W.heap.size) => cbegin_any { c with nmi := if q = 1 then false else c.nmi } A n cap g hg q W h
  obtain ⟨d, hd⟩ : ∃ d, d = c.choose g irq := ⟨_, rfl⟩
  rw [show ({ c with nmi := if q = 1 then false else c.nmi } : CoT).start g q = d by rw [hd, hq]; rfl] at KB
  rw [← hd]
  go_enter Tryz.func46, Tryz.ntmps46
  refine coStart <| qQ [] (Many.begin w) fun w1 k1 => coR <| qR 4 [1, 0] k1 fun w2 k2 => qC (KW w2) k2 fun w3 k3 => qE [] k3 fun w4 k4 => coS <| coR <| qR 2 [] k4 fun w5 k5 => ?_
  by_cases h1 : q = 1
  · rw [if_pos h1] at KB
    exact tell 14 (show (q == 1) = true by simp [h1]) <| qE [] k5 fun w5 k5 => coT <| coZ <| qF [0] k5 fun w6 k6 => eoT <| coR <| qR 3 [0, 1] k6 fun w7 k7 => qC (KB w7 (ht.below k7.touch.below)) k7 fun w8 k8 => qE [2] k8 fun w9 k9 => coRet <| eoK1 (k9.row 2 (b := w.heap.size + 2) (t := 33) (coC d (.slice none 0 0)).toList (by kernel_rfl)) ⟨rfl, k9.touch.below⟩
  · rw [if_neg h1] at KB
    exact tell 14 (show (q == 1) = false by simp [h1]) <| qE [] k5 fun w5 k5 => coF <| coSkip <| eoT <| coR <| qR 3 [0, 1] k5 fun w7 k7 => qC (KB w7 (ht.below k7.touch.below)) k7 fun w8 k8 => qE [2] k8 fun w9 k9 => coRet <| eoK1 (k9.row 2 (b := w.heap.size + 2) (t := 33) (coC d (.slice none 0 0)).toList (by kernel_rfl)) ⟨rfl, k9.touch.below⟩
theorem bEqC (x y : Int) (b : Bool) (e : (x == y) = b) (w : World) : (binOp .eql 3 (.int .i64 x) (.int .i64 y)).run Tryz.prog w = .ok (.bool b) w := by subst e; simp [go_sem]
theorem at_fresh (a : AtT) (w : World) : (binOp .eql 31 (atV a) (atV (at0 a.c))).run Tryz.prog w = .ok (.bool (a.k == 0 && a.w == 0)) w := by
  have h : (Op.equalIn 10000 31 (atV a) (atV (at0 a.c))).run Tryz.prog w = .ok (a.k == 0 && a.w == 0) w := by
    unfold atV atC at0
    rw [run_equalIn_agg (P := Tryz.prog) w 9999 31 _ _ (by kernel_rfl) (by kernel_rfl)]
    by_cases h1 : a.k = 0 <;> by_cases h2 : a.w = 0 <;> simp [go_sem, h1, h2]
  unfold atV at *
  rw [run_eql_struct, h]
  rfl
theorem at_guard (op : BinOp) (a b : AtT) (x y : Operand) (w : World) : (eqGuard op 31 x y (atV a) (atV b)).run Tryz.prog w = .ok () w := by
  unfold atV
  exact run_eqGuard_agg (P := Tryz.prog) w op _ x y _ _ (by kernel_rfl)
theorem cfresh_any (c : CoT) (A : Option Addr) (cap : Nat) (w : World) : Calls Tryz.prog 17 #[coV c (.slice A c.got.length cap)] w fun e w' => e = .returned (.bool (freshB c)) ∧ Below w.heap.size w w' := by
  go_enter Tryz.func17, Tryz.ntmps17
  obtain ⟨r, wh, got, a, b, nmi, was, off⟩ := c
  refine coStart <| qQ [] (Many.begin w) fun w1 k1 => ?_
  cases got with
  | nil => exact qP 13 k1 fun w2 k2 => qD 0 [0, 1, 2, 3, 4, 5, 6, 7, 8, 9] k2 <| qDc 10 (at18_any a.c w2) k2 fun w3 k3 => qT 11 k3 (fun w' _ => xBin (at_guard _ _ _ _ _ _) (at_fresh a _)) <| qM [12] k3 <| poE <| qE [] k3 fun w4 k4 => coRet <| eoIr (.bool (freshB ⟨r, wh, [], a, b, nmi, was, off⟩)) ⟨rfl, k4.touch.below⟩
  | cons x xs => exact qP 13 k1 fun w2 k2 => qD 0 [0, 1, 2] k2 <| qT 3 k2 (fun w' _ => xBin (egI _ _ _ _ _ _) (bEqC ((x :: xs).length : Nat) 0 false (by simp; omega) _)) <| qM [4, 5, 6, 7, 8, 9, 10, 11, 12] k2 <| poE <| qE [] k2 fun w4 k4 => coRet <| eoIr (.bool (freshB ⟨r, wh, x :: xs, a, b, nmi, was, off⟩)) ⟨rfl, k4.touch.below⟩
def finB (h : Nat) (x : SlotsY) : List Value := [x.y 0, x.y 1, pT h 0, pT (h + 1) 0, pT (h + 2) 0, x.y 5, x.y 6, x.y 7, x.y 8, x.y 9, x.y 10, x.y 11, x.y 12, x.y 13, x.y 14, x.y 15, x.y 16, x.y 17, x.y 18, x.y 19, x.y 20, x.y 21, x.y 22, x.y 23, x.y 24, x.y 25, x.y 26, x.y 27, x.y 28, x.y 29, x.y 30, x.y 31, x.y 32, x.y 33, x.y 34, x.y 35, x.y 36, x.y 37, x.y 38, x.y 39, x.y 40, x.y 41, x.y 42, x.y 43]
theorem cfinish_any (hA : AccOk) (c : CoT) (hc : OkC c) (l : LnT) (v : Value) (bs : Nat) (hlen : c.got.length ≤ 100000) (w0 w : World) (hB0 : Below w0.heap.size w0 w) (hb0 : w0.heap.size ≤ bs) (hbs : bs ≤ w.heap.size) (ht : Tabs w0 w0.heap.size) (hown : w.ownsRow bs 5 1 v c.got.length (bvs c.got)) :
    Calls Tryz.prog 35 #[coV c v, lnV l] w fun e w' => ∃ v', e = .returned (coV (c.fin l) v') ∧ w'.ownsRow bs 5 1 v' (c.fin l).got.length (bvs (c.fin l).got) ∧ Kept (fun x => v.ownBlock = some x) w w' := by
  obtain ⟨A, cap, rfl, -, -, -⟩ := own_slice hown
  have vlt := hown.lt
  obtain ⟨ys, hys⟩ : ∃ ys, ys = c.got ++ [c.b] := ⟨_, rfl⟩
  have hyl : ys.length = c.got.length + 1 := by rw [hys]; simp
  have hy8 : Bytes8 ys := by rw [hys]; exact b8_snoc hc.got hc.b
  obtain ⟨T, hT⟩ : ∃ T, T = accOf c.r c.wh ys := ⟨_, rfl⟩
  have hTg : T.b = true → RgB T.g := by rw [hT]; exact (hA c.r c.wh ys hc.r hy8).1
  obtain ⟨D, hD⟩ : ∃ D, D = c.fin1 l.irq := ⟨_, rfl⟩
  have eD : D = if T.b then ({ c with got := ys, b := 0 } : CoT).choose T.g l.irq else { c with got := ys, b := 0, a := at0 T.c } := by rw [hD, hT, hys]; rfl
  have eF : c.fin l = { D with off := l.bus && D.leaves } := by rw [hD]; rfl
  rw [eF]
  go_enter Tryz.func35, Tryz.ntmps35
  refine coStart <| qQ [] (Many.begin w) fun w1 k1 => coR <| qR 5 [0, 0] k1 fun w2 k2 => ?_
  have hb2 := k2.touch.below
  have rb := k2.row 3 (b := w1.heap.size) (t := 5) [.int .u8 c.b] (by kernel_rfl)
  have r0 : Row w2 w.heap.size 33 (coC c (.slice A c.got.length cap)) := k2.row 0 (coC c (.slice A c.got.length cap)).toList (by kernel_rfl)
  have r1 : Row w2 (w.heap.size + 1) 40 (lnC l) := k2.row 1 (lnC l).toList (by kernel_rfl)
  have r2 : Row w2 (w.heap.size + 2) 33 (coC zeroCo (.slice none 0 0)) := k2.row 2 (coC zeroCo (.slice none 0 0)).toList (by kernel_rfl)
  have l2 := r2.lt
  refine qOwn (.tmp 9) (.tmp 12) 26 5 1 1 (.int .u8 0) bs _ c.got.length (bvs c.got) ⟨w1.heap.size, 0, none⟩ 1 1 [.int .u8 c.b] (by have := hb2.size; omega) (own_below hown hb2) rfl (fun j u hu => rb.values j u hu) (fun u hu => by rw [List.mem_singleton.1 hu]; rfl) (by omega) (by omega) fun v' w3 own3 gr hnew => ?_
  have q3 := Kept.of_grown gr
  have q03 : Kept (fun x => (Value.slice A c.got.length cap).ownBlock = some x) w w3 := (Kept.of_below (S := fun _ => False) hb2).trans q3 (fun _ e => e.elim) fun _ _ e => e
  have e3 : bvs c.got ++ [.int .u8 c.b] = bvs ys := by rw [hys, ← bvs_append]; rfl
  rw [e3, ← hyl] at own3
  have vlt' : ∀ x, v'.ownBlock = some x → x < w.heap.size ∨ w.heap.size + 2 < x := fun x e => by
    rcases hnew with h | ⟨b, h, h2⟩
    · rw [h] at e; exact .inl (vlt x e).2
    · rw [h] at e; injection e with e; subst e; exact .inr (by omega)
  obtain ⟨A', cap', rfl, hcap', -, -⟩ := own_slice own3
  have km := Many.three (q3.row r0 fun e => by have := vlt _ e; omega) (q3.row r1 fun e => by have := vlt _ e; omega) (q3.row r2 fun e => by have := vlt _ e; omega) (by omega) (by omega) (by omega)
  have low3 : Below w0.heap.size w0 w3 := Kept.low hB0 q03 (by omega) fun x e => by have := vlt x e; omega
  have s3 := q03.size
  clear k1 k2 rb r0 r1 r2 q3 gr hnew
  have KN := fun (W : World) (h : BytesIn W W.heap.size A' ys) (h2 : Tabs W W.heap.size) => accept_any c.r hc.r c.wh A' cap' ys hcap' hy8 (by omega) W h h2
  rw [← hT] at KN
  refine qE [0] km fun w4 k4 => qQ [0] k4 fun w5 k5 => coR <| qR 6 [0, 0, 0] k5 fun w6 k6 => ?_
  have hrow : ∀ x, (Value.slice A' ys.length cap').ownBlock = some x → ¬ x ∈ [w.heap.size, w.heap.size + 1, w.heap.size + 2] := fun x e h => by
    have := vlt' x e
    simp at h
    omega
  have low6 : Below w0.heap.size w0 w6 := Kept.low low3 (Kept.of_touch k6.touch) low3.size fun x e => by simp at e; omega
  have own6 := Kept.own (Kept.of_touch k6.touch) own3 hrow
  refine qC (KN w6 (own_bytes own6) (ht.below low6)) k6 fun w7 k7 => qE [3, 4] k7 fun w8 k8 => ?_
  refine coCut (finB w.heap.size) (fun _ W => ∃ A'' cap'', Many w3 [w.heap.size, w.heap.size + 1, w.heap.size + 2] [⟨w.heap.size, 33, (coC D (.slice A'' D.got.length cap'')).toList.map some⟩, ⟨w.heap.size + 1, 40, (lnC l).toList.map some⟩, ⟨w.heap.size + 2, 33, (coC zeroCo (.slice none 0 0)).toList.map some⟩] W ∧ W.ownsRow bs 5 1 (.slice A'' D.got.length cap'') D.got.length (bvs D.got) ∧ ∀ x, (Value.slice A'' D.got.length cap'').ownBlock = some x → x < w.heap.size ∨ w.heap.size + 2 < x) ?_ ?_
  · have ht8 : Tabs w8 w8.heap.size := ht.below (Kept.low low3 (Kept.of_touch k8.touch) low3.size fun x e => by simp at e; omega)
    refine qQ [] k8 fun w9 k9 => coI T.b (fun hb => ?_) fun hb => ?_
    · rw [hb, if_pos rfl] at eD
      have KC := fun (W : World) (h : Tabs W W.heap.size) => cchoose_any { c with got := ys, b := 0 } A' ys.length cap' T.g (hTg hb) l.irq W h
      rw [← eD] at KC
      have hgot : D.got = [] := by rw [eD]; rfl
      have low : ∀ {W rs}, Many w3 [w.heap.size, w.heap.size + 1, w.heap.size + 2] rs W → Tabs W W.heap.size := fun k => ht.below (Kept.low low3 (Kept.of_touch k.touch) low3.size fun x e => by simp at e; omega)
      refine coZ <| qR 4 [0, 4, 1] k9 fun wa ka => qC (KC wa (low ka)) ka fun wb kb => qF [0] kb fun wc kc => eoCut (fun y => ⟨y⟩) ⟨none, 0, ?_⟩
      rw [hgot]
      exact ⟨kc.take 3 _, World.ownsRow_nil .., fun x e => by cases e⟩
    · rw [hb, if_neg (by simp)] at eD
      refine coZ <| qR 1 [3] k9 fun wa ka => qC (at18_any T.c wa) ka fun wb kb => qF [0] kb fun wc kc => eoCut (fun y => ⟨y⟩) ⟨A', cap', ?_⟩
      rw [eD]
      exact ⟨kc.take 3 _, Kept.own (Kept.of_touch kc.touch) own3 hrow, vlt'⟩
  clear k4 k5 k6 k7 k8 low6 own6 km
  rintro ⟨y⟩ w9 ⟨A'', cap'', k9, own9, vl9⟩
  have q09 : Kept (fun x => (Value.slice A c.got.length cap).ownBlock = some x) w w9 := q03.trans (Kept.of_touch k9.touch) (fun _ e => e) fun x hx e => by simp at e; omega
  have fin : ∀ {W rs}, Many w9 [w.heap.size, w.heap.size + 1, w.heap.size + 2] rs W → W.ownsRow bs 5 1 (.slice A'' D.got.length cap'') D.got.length (bvs D.got) ∧ Kept (fun x => (Value.slice A c.got.length cap).ownBlock = some x) w W := fun kk =>
    ⟨Kept.own (Kept.of_touch kk.touch) own9 fun x e h => by
      have := vl9 x e
      simp at h
      omega, q09.trans (Kept.of_touch kk.touch) (fun _ e => e) fun x hx e => by simp at e; omega⟩
  obtain ⟨wait, bus, irq, ln, rs⟩ := l
  have kk9 := k9.anewK (Kept.refl (fun _ => False) w9) [w.heap.size, w.heap.size + 1, w.heap.size + 2] (fun _ _ h => h)
  cases bus with
  | false =>
    exact qQ [1, 0] kk9 fun wa ka => qQ [0, 2] ka fun wb kb => coRet <| eoK1 (kb.row 2 (b := w.heap.size + 2) (t := 33) (coC { D with off := false } (.slice A'' D.got.length cap'')).toList (by kernel_rfl)) ⟨_, rfl, fin kb⟩
  | true =>
    have KM := fun W => mayLeave_any D A'' D.got.length cap'' W
    obtain ⟨b, hb⟩ : ∃ b, b = D.leaves := ⟨_, rfl⟩
    rw [← hb] at KM ⊢
    exact coR <| qR 4 [1, 0] kk9 fun wa ka => qC (KM wa) ka fun wb kb => qE [0] kb fun wc kc => qQ [0, 2] kc fun wd kd => coRet <| eoK1 (kd.row 2 (b := w.heap.size + 2) (t := 33) (coC { D with off := b } (.slice A'' D.got.length cap'')).toList (by kernel_rfl)) ⟨_, rfl, fin kd⟩
end Go.Proofs.YtkenebbjodcbcaaGreatDoor
