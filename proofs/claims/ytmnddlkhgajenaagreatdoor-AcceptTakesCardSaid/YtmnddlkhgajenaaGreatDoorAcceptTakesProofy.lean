/- The law's walk and what it wants (several texts in one). -/
import Derived.Test.YtmnddlkhgajenaaGreatDoorAcG19
import Derived.Test.YtmnddlkhgajenaaGreatDoorAcG20
namespace Go.Proofs.YtmnddlkhgajenaaGreatDoor
open Go.RowKit
set_option linter.unusedVariables false
set_option linter.unusedSimpArgs false
set_option maxRecDepth 20000
set_option maxHeartbeats 20000000
structure AcR where
  k : Nat
  got : List Int
  n : Int
  v : Value
  y : Nat → Value
def arB (h : Nat) (which : Int) (A : Option Addr) (m cap : Nat) (x : AcR) : List Value := [x.y 0, .int .i64 which, .slice A m cap, .pointer (some ⟨h, 0, none⟩), x.y 4, x.y 5, x.y 6, x.v, .int .i64 x.n, .int .i64 (x.k : Int), x.y 10, x.y 11, x.y 12, x.y 13, x.y 14, x.y 15, x.y 16, x.y 17, x.y 18, x.y 19, x.y 20, x.y 21, x.y 22, x.y 23, x.y 24, x.y 25, x.y 26, x.y 27, x.y 28, x.y 29, x.y 30, x.y 31, x.y 32, x.y 33, x.y 34, x.y 35, x.y 36, x.y 37, x.y 38, x.y 39, x.y 40, x.y 41, x.y 42, x.y 43, x.y 44, x.y 45, x.y 46, x.y 47, x.y 48, x.y 49, x.y 50, x.y 51, x.y 52, x.y 53, x.y 54, x.y 55, x.y 56, x.y 57, x.y 58]
def arI (w : World) (g : Rg) (which : Int) (xs : List Int) (x : AcR) (W : World) : Prop := (Below w.heap.size w W ∧ W.ownsRow w.heap.size 5 1 x.v x.got.length (bvs x.got)) ∧ (Bytes8 x.got ∧ x.k ≤ x.got.length) ∧ (x.got.length ≤ 200 ∧ 0 ≤ x.n ∧ x.n ≤ 7 * x.got.length) ∧ takesGo readsA (acF g which) (200 - x.got.length) x.got (xs.drop x.k) x.n = takesGo readsA (acF g which) 200 [] xs 0
theorem acJ_step {w W : World} {g : Rg} {which : Int} {xs got : List Int} {n : Int} {k : Nat} {T : T3} (hT : T = accOf g which got) (hb : T.b = false) (hlt : got.length < 200) (hn0 : 0 ≤ n) (hn7 : n ≤ 7 * got.length) (hgo : takesGo readsA (acF g which) (200 - got.length) got (xs.drop k) n = takesGo readsA (acF g which) 200 [] xs 0)
    (hg8 : Bytes8 got) (hk : k ≤ got.length) (bt : Int) (hbt : B8 bt) (k' : Nat) (v' : Value) (y : Nat → Value) (hB : Below w.heap.size w W) (own : W.ownsRow w.heap.size 5 1 v' (got.length + 1) (bvs (got ++ [bt])))
    (he : (readsA T.c.kind = true ∧ bt = xs.getD k 0 ∧ k' = k + 1) ∨ (readsA T.c.kind = false ∧ bt = 0 ∧ k' = k)) : arI w g which xs ⟨k', got ++ [bt], n + T.c.t, v', y⟩ W := by
  have ht := acc_t g which got (by rw [← hT]; exact hb)
  rw [← hT] at ht
  have hl : (got ++ [bt]).length = got.length + 1 := by simp
  refine ⟨⟨hB, ?_⟩, ⟨?_, ?_⟩, ⟨?_, ?_, ?_⟩, ?_⟩
  · show W.ownsRow _ _ _ v' (got ++ [bt]).length (bvs (got ++ [bt]))
    rw [hl]; exact own
  · intro x hx
    rcases List.mem_append.1 hx with h | h
    · exact hg8 x h
    · rw [List.mem_singleton.1 h]; exact hbt
  · show k' ≤ (got ++ [bt]).length
    rcases he with ⟨-, -, h⟩ | ⟨-, -, h⟩ <;> omega
  · show (got ++ [bt]).length ≤ 200
    omega
  · show 0 ≤ n + T.c.t
    omega
  · show n + T.c.t ≤ 7 * ((got ++ [bt]).length : Int)
    rw [hl]; push_cast; omega
  · show takesGo readsA (acF g which) (200 - (got ++ [bt]).length) (got ++ [bt]) (xs.drop k') (n + T.c.t) = _
    rw [← hgo, hl]
    obtain ⟨j, hj⟩ : ∃ j, 200 - got.length = j + 1 := ⟨199 - got.length, by omega⟩
    have hf2 : (acF g which got).2 = false := by show (accOf g which got).b = false; rw [← hT]; exact hb
    have hf1 : (acF g which got).1 = T.c := by rw [hT]; rfl
    rw [hj, acgo_step _ _ _ _ _ _ hf2, hf1, show 200 - (got.length + 1) = j by omega]
    rcases he with ⟨h1, h2, h3⟩ | ⟨h1, h2, h3⟩
    · have e1 : (xs.drop k).headD 0 = xs.getD k 0 := by
        rw [List.headD_eq_head?_getD, List.head?_drop, List.getD_eq_getElem?_getD]
      rw [if_pos h1, h2, h3, e1, List.tail_drop]
    · rw [if_neg (by rw [h1]; simp), h2, h3]
theorem rstates_any (g : Rg) (hg : RgB g) (which : Int) (A : Option Addr) (cap : Nat) (xs : List Int) (hc : xs.length ≤ cap) (h8 : Bytes8 xs) (hl : xs.length ≤ 1000000000) (w : World) (hin : BytesIn w w.heap.size A xs) : Calls Tryz.prog 14 #[regsV g, .int .i64 which, .slice A xs.length cap] w fun e w' => e = .returned (.int .i64 (accTakes g which xs)) ∧ Below w.heap.size w w' := by
  go_enter Tryz.func14, Tryz.ntmps14
  refine coStart <| qQ [] (Many.begin w) fun w1 k1 => qQ [] k1 fun w2 k2 => qQ [] k2 fun w2 k2 => qQ [] k2 fun w3 k3 => coS <| coB <| coLoop (arB w.heap.size which A xs.length cap) (arI w3 g which xs) (fun x => 200 - x.got.length) (fun y => ⟨0, [], 0, .slice none 0 0, y⟩) ⟨⟨Below.refl .., World.ownsRow_nil ..⟩, ⟨(fun x hx => by cases hx), Nat.le_refl _⟩, ⟨Nat.zero_le _, Int.le_refl _, by simp⟩, rfl⟩ ?_
  have hR3 : Row w3 w.heap.size 24 (regsC g) := k3.row 0 (regsC g).toList (by kernel_rfl)
  have hB3 := k3.touch.below
  have KA : ∀ (k : Nat) (W : World), Below w3.heap.size w3 W → Calls Tryz.prog 27 #[.slice A xs.length cap, .int .i64 (k : Int)] W fun e w' => e = .returned (.int .u8 (xs.getD k 0)) ∧ Below W.heap.size W w' := fun k W hW => answer_any A cap xs k W ((hin.below (hB3.trans (hW.mono hB3.size))).more (hB3.trans (hW.mono hB3.size)).size)
  clear k3 k2 k1 hin
  rintro ⟨k, got, n, v, y⟩ W ⟨⟨hB, hown⟩, ⟨hg8, hk⟩, ⟨h200, hn0, hn7⟩, hgo⟩
  have hB : Below w3.heap.size w3 W := hB
  have hown : W.ownsRow w3.heap.size 5 1 v got.length (bvs got) := hown
  have hg8 : Bytes8 got := hg8
  have hk : k ≤ got.length := hk
  have h200 : got.length ≤ 200 := h200
  have hn0 : 0 ≤ n := hn0
  have hn7 : n ≤ 7 * got.length := hn7
  have hgo : takesGo readsA (acF g which) (200 - got.length) got (xs.drop k) n = takesGo readsA (acF g which) 200 [] xs 0 := hgo
  obtain ⟨Av, cv, rfl, hcv, hbg, hnn⟩ := own_slice hown
  have fin : ∀ (m : Int) wz, (takesGo readsA (acF g which) (200 - got.length) got (xs.drop k) n).1 = m → Below w3.heap.size w3 wz → Ending.returned (.int .i64 m) = Ending.returned (.int .i64 (accTakes g which xs)) ∧ Below w.heap.size w wz := fun m wz e hb => ⟨by unfold accTakes; rw [← hgo, e], hB3.trans (hb.mono hB3.size)⟩
  refine coS <| qQ [] (Many.begin W) fun wa ka => coI (decide ((got.length : Int) < 200)) (fun hlt => coSkip <| eoT <| coB <| coR <| wM (xLoad (ldR ((hR3.below hB hR3.lt).below ka.touch.below (Nat.lt_of_lt_of_le hR3.lt hB.size)).range)) <| qR 2 [] ka fun wb kb => ?_) fun hge => coX <| eoTx <| eoTx <| eoBx <| eoT ?_
  · have hlt : got.length < 200 := by have : (got.length : Int) < 200 := by simpa using hlt
                                      omega
    obtain ⟨T, hT⟩ : ∃ T, T = accOf g which got := ⟨_, rfl⟩
    have hbb := bOn hB kb
    have KN := raccept_any g hg which Av cv got hcv hg8 (by omega) wb ((hbg.below kb.touch.below).more kb.touch.size)
    rw [← hT] at KN
    refine qC KN kb fun wc kc => qE [0, 1] kc fun wd kd => coS <| qQ [] kd fun we ke => coI T.b (fun hd => qQ [] ke fun wf kf => coRet <| eoTr <| eoBr <| eoTr <| eoBr <| eoTr <| eoIr (.int .i64 n) (fin n wf (acgo_done _ _ _ _ _ _ (by show (accOf g which got).b = true; rw [← hT]; exact hd)) (bOn hB kf))) fun hd => coSkip <| eoT <| coR <| qR 3 [0] ke fun wf kf => ?_
    have htt := acc_t g which got (by rw [← hT]; exact hd)
    rw [← hT] at htt
    refine kBj 30 (.int .i64 n) (.int .i64 T.c.t) (.int .i64 (n + T.c.t)) (egI _ _ _ _ _) (bAddI' _ _ (by omega) (by omega)) <| qE [] kf fun wg kg => qQ [] kg fun wh kh => coS <| coR <| qR 3 [0] kh fun wi ki => ?_
    by_cases h1 : T.c.kind = 1
    · refine tell 33 (show (T.c.kind == 1) = true by simp [h1]) <| qE [] ki fun wk kk => coI true (fun _ => coR <| qR 2 [] kk fun wl kl => qC (KA k wl (bOn hB kl)) kl fun wm km => qE [] km fun wn kn => coZ <| qR 1 [] kn fun wo ko => wM (xInc k (by omega)) <| qF [] ko fun wp kp => eoT <| coZ <| qR 3 [] kp fun wq kq => qA (.tmp 54) (.tmp 56) w3 w3.heap.size wq.heap.size (.slice Av got.length cv) got.length got (some ⟨wp.heap.size, 0, none⟩) 1 [xs.getD k 0] (bOn hB kq) (Nat.le_refl _) (bOn hB kq).size (own_below hown kq.touch.below) (kq.byte (t := 5) 2 (by kernel_rfl)) (fun e => by cases e) (by show got.length + 1 ≤ _; omega) fun v' w' own' hB' hs' => qF [] (Many.begin w') fun w'' k'' => eoB <| eoRound (fun y => ⟨k + 1, got ++ [xs.getD k 0], n + T.c.t, v', y⟩) (acJ_step hT hd hlt hn0 hn7 hgo hg8 hk (xs.getD k 0) (b8_getD h8 k) (k + 1) _ _ (bOn hB' k'') (own_below own' k''.touch.below) (.inl ⟨by rw [h1]; rfl, rfl, rfl⟩)) (by show 200 - (got ++ [xs.getD k 0]).length < 200 - got.length; simp; omega)) (fun e => by cases e)
    refine tell 33 (show (T.c.kind == 1) = false by simp [h1]) <| qR 4 [0] ki fun wi ki => ?_
    by_cases h2 : T.c.kind = 2
    · refine tell 37 (show (T.c.kind == 2) = true by simp [h2]) <| qE [] ki fun wk kk => coI true (fun _ => coR <| qR 2 [] kk fun wl kl => qC (KA k wl (bOn hB kl)) kl fun wm km => qE [] km fun wn kn => coZ <| qR 1 [] kn fun wo ko => wM (xInc k (by omega)) <| qF [] ko fun wp kp => eoT <| coZ <| qR 3 [] kp fun wq kq => qA (.tmp 54) (.tmp 56) w3 w3.heap.size wq.heap.size (.slice Av got.length cv) got.length got (some ⟨wp.heap.size, 0, none⟩) 1 [xs.getD k 0] (bOn hB kq) (Nat.le_refl _) (bOn hB kq).size (own_below hown kq.touch.below) (kq.byte (t := 5) 2 (by kernel_rfl)) (fun e => by cases e) (by show got.length + 1 ≤ _; omega) fun v' w' own' hB' hs' => qF [] (Many.begin w') fun w'' k'' => eoB <| eoRound (fun y => ⟨k + 1, got ++ [xs.getD k 0], n + T.c.t, v', y⟩) (acJ_step hT hd hlt hn0 hn7 hgo hg8 hk (xs.getD k 0) (b8_getD h8 k) (k + 1) _ _ (bOn hB' k'') (own_below own' k''.touch.below) (.inl ⟨by rw [h2]; rfl, rfl, rfl⟩)) (by show 200 - (got ++ [xs.getD k 0]).length < 200 - got.length; simp; omega)) (fun e => by cases e)
    refine tell 37 (show (T.c.kind == 2) = false by simp [h2]) <| qR 5 [0] ki fun wi ki => ?_
    by_cases h3 : T.c.kind = 4
    · refine tell 42 (show (T.c.kind == 4) = true by simp [h3]) <| qE [] ki fun wk kk => coI true (fun _ => coR <| qR 2 [] kk fun wl kl => qC (KA k wl (bOn hB kl)) kl fun wm km => qE [] km fun wn kn => coZ <| qR 1 [] kn fun wo ko => wM (xInc k (by omega)) <| qF [] ko fun wp kp => eoT <| coZ <| qR 3 [] kp fun wq kq => qA (.tmp 54) (.tmp 56) w3 w3.heap.size wq.heap.size (.slice Av got.length cv) got.length got (some ⟨wp.heap.size, 0, none⟩) 1 [xs.getD k 0] (bOn hB kq) (Nat.le_refl _) (bOn hB kq).size (own_below hown kq.touch.below) (kq.byte (t := 5) 2 (by kernel_rfl)) (fun e => by cases e) (by show got.length + 1 ≤ _; omega) fun v' w' own' hB' hs' => qF [] (Many.begin w') fun w'' k'' => eoB <| eoRound (fun y => ⟨k + 1, got ++ [xs.getD k 0], n + T.c.t, v', y⟩) (acJ_step hT hd hlt hn0 hn7 hgo hg8 hk (xs.getD k 0) (b8_getD h8 k) (k + 1) _ _ (bOn hB' k'') (own_below own' k''.touch.below) (.inl ⟨by rw [h3]; rfl, rfl, rfl⟩)) (by show 200 - (got ++ [xs.getD k 0]).length < 200 - got.length; simp; omega)) (fun e => by cases e)
    refine tell 42 (show (T.c.kind == 4) = false by simp [h3]) <| qR 5 [0] ki fun wi ki => ?_
    by_cases h4 : T.c.kind = 6
    · refine tell 47 (show (T.c.kind == 6) = true by simp [h4]) <| qE [] ki fun wk kk => coI true (fun _ => coR <| qR 2 [] kk fun wl kl => qC (KA k wl (bOn hB kl)) kl fun wm km => qE [] km fun wn kn => coZ <| qR 1 [] kn fun wo ko => wM (xInc k (by omega)) <| qF [] ko fun wp kp => eoT <| coZ <| qR 3 [] kp fun wq kq => qA (.tmp 54) (.tmp 56) w3 w3.heap.size wq.heap.size (.slice Av got.length cv) got.length got (some ⟨wp.heap.size, 0, none⟩) 1 [xs.getD k 0] (bOn hB kq) (Nat.le_refl _) (bOn hB kq).size (own_below hown kq.touch.below) (kq.byte (t := 5) 2 (by kernel_rfl)) (fun e => by cases e) (by show got.length + 1 ≤ _; omega) fun v' w' own' hB' hs' => qF [] (Many.begin w') fun w'' k'' => eoB <| eoRound (fun y => ⟨k + 1, got ++ [xs.getD k 0], n + T.c.t, v', y⟩) (acJ_step hT hd hlt hn0 hn7 hgo hg8 hk (xs.getD k 0) (b8_getD h8 k) (k + 1) _ _ (bOn hB' k'') (own_below own' k''.touch.below) (.inl ⟨by rw [h4]; rfl, rfl, rfl⟩)) (by show 200 - (got ++ [xs.getD k 0]).length < 200 - got.length; simp; omega)) (fun e => by cases e)
    have hr : readsA T.c.kind = false := by unfold readsA; simp [h1, h2, h3, h4]
    refine tell 47 (show (T.c.kind == 6) = false by simp [h4]) <| qE [] ki fun wk kk => coF <| coSkip <| eoT <| coZ <| qR 3 [] kk fun wq kq => ?_
    refine qA (.tmp 54) (.tmp 56) w3 w3.heap.size wq.heap.size (.slice Av got.length cv) got.length got (some ⟨wk.heap.size, 0, none⟩) 1 [0] (bOn hB kq) (Nat.le_refl _) (bOn hB kq).size (own_below hown kq.touch.below) (kq.byte (t := 5) 2 (by kernel_rfl)) (fun e => by cases e) (by show got.length + 1 ≤ _; omega) fun v' w' own' hB' hs' => qF [] (Many.begin w') fun w'' k'' => eoB <| eoRound (fun y => ⟨k, got ++ [0], n + T.c.t, v', y⟩) (acJ_step hT hd hlt hn0 hn7 hgo hg8 hk 0 B8.zero k _ _ (bOn hB' k'') (own_below own' k''.touch.below) (.inr ⟨hr, rfl, rfl⟩)) (by show 200 - (got ++ [0]).length < 200 - got.length; simp; omega)
  · have h0 : 200 - got.length = 0 := by have : ¬ (got.length : Int) < 200 := by simpa using hge
                                         omega
    refine qQ [] ka fun wb kb => coRet <| eoIr (.int .i64 n) (fin n wb (by rw [h0]; rfl) (bOn hB kb))
theorem acceptTakes_walk (g : Rg) (which : Int) (A : Option Addr) (cap : Nat) (xs : List Int) (hg : RgB g) (w : World) (hc : xs.length ≤ cap) (hm : cap ≤ maxLen) (h8 : Bytes8 xs) (hin : BytesIn w w.heap.size A xs) (hn : A = none → cap = 0) (hM : Masks w) (hD : Digits w) (hC : Courses w) (hO : Modes w) :
    Calls Tryz.prog 4 #[regsV g, .int .i64 which, .slice A xs.length cap] w fun e w' => e = .returned (.bool true) ∧ Below w.heap.size w w' := by
  have ht : Tabs w w.heap.size := (NextTabs.mk hM hC hD hO).tabs
  obtain ⟨M, hMd⟩ : ∃ M, M = g.mode % 4 := ⟨_, rfl⟩
  have hM4 : M = 0 ∨ M = 1 ∨ M = 2 ∨ M = 3 := by omega
  obtain ⟨G, hG⟩ : ∃ G : Rg, G = { g with mode := M } := ⟨_, rfl⟩
  have hGb : RgB G := by subst hG; exact ⟨hg.af, hg.bc, hg.de, hg.hl, hg.af2, hg.bc2, hg.de2, hg.hl2, hg.ix, hg.iy, hg.sp, hg.pc, hg.wz, hg.i, hg.r, by show _ ≤ M ∧ M ≤ _; omega⟩
  have hGm : G.mode = M := by rw [hG]
  go_enter Tryz.func4, Tryz.ntmps4
  refine coStart <| qQ [] (Many.begin w) fun w1 k1 => coR <| qC (awake13_any w1 (ht.below k1.touch.below)) k1 fun w2 k2 => qE [] k2 fun w3 k3 => coS <| qQ [] k3 fun w4 k4 => coF <| coSkip <| eoT <| coS <| qQ [] k4 fun w5 k5 => coI (decide ((xs.length : Int) > 60)) (fun _ => qQ [] k5 fun w k => coRet <| eoTr <| eoIr (.bool true) ⟨rfl, k.touch.below⟩) fun hle => coSkip <| eoT <| ?_
  have hl : xs.length ≤ 1000000000 := by have : ¬ ((xs.length : Int) > 60) := by simpa using hle
                                         omega
  have KS := fun (q : Int) (W : World) (hW : Below w.heap.size w W) => astates_any G hGb q A cap xs hc h8 hl W ((hin.below hW).more hW.size) (ht.below hW)
  have KR := fun (q : Int) (W : World) (hW : Below w.heap.size w W) => rstates_any G hGb q A cap xs hc h8 hl W ((hin.below hW).more hW.size)
  obtain ⟨n, hn⟩ : ∃ n, n = accTakes G which xs := ⟨_, rfl⟩
  obtain ⟨m, hm⟩ : ∃ m, m = accTakes G 2 xs := ⟨_, rfl⟩
  have KSn := KS which
  have KRn := KR which
  rw [← hn] at KSn KRn
  have KS1 := KS 1
  rw [acc_nmi] at KS1
  have KS2 := KS 2
  rw [← hm] at KS2
  rw [hG] at KSn KRn KS1 KS2
  refine coR <| qR 2 [0] k5 fun w6 k6 => kBj 18 (.int .i64 g.mode) (.int .i64 3) (.int .i64 M) (egI _ _ _ _ _) (fun w => by rw [hMd]; exact ac_bAnd3 _ w) <| qE [0] k6 fun w7 k7 => coR <| qR 3 [0] k7 fun w8 k8 => qC (KSn w8 k8.touch.below) k8 fun w9 k9 => qE [] k9 fun wa ka => coS <| coR <| qR 4 [0] ka fun wb kb => qC (KRn wb kb.touch.below) kb fun wc kc => kBj 29 (.int .i64 n) (.int .i64 n) (.bool false) (egI _ _ _ _ _) (ac_ne n) <| qR 3 [0] kc fun wd kd => qC (KS1 wd kd.touch.below) kd fun we ke => qE [] ke fun wf kf => coF <| coSkip <| eoT <| coR <| qR 2 [0] kf fun wg kg => qC (KS2 wg kg.touch.below) kg fun wh kh => qE [] kh fun wi ki => ?_
  rcases hM4 with rfl | rfl | rfl | rfl
  · exact qQ [0] ki fun wj kj => coRet <| eoIr (.bool true) ⟨rfl, kj.touch.below⟩
  · obtain rfl : m = 13 := hm.trans (acc_one hGm xs)
    exact qQ [0, 0] ki fun wj kj => coRet <| eoIr (.bool true) ⟨rfl, kj.touch.below⟩
  · obtain rfl : m = 19 := hm.trans (acc_two (by omega) (by omega) xs)
    exact qQ [0, 0] ki fun wj kj => coRet <| eoIr (.bool true) ⟨rfl, kj.touch.below⟩
  · obtain rfl : m = 19 := hm.trans (acc_two (by omega) (by omega) xs)
    exact qQ [0, 0] ki fun wj kj => coRet <| eoIr (.bool true) ⟨rfl, kj.touch.below⟩
end Go.Proofs.YtmnddlkhgajenaaGreatDoor
