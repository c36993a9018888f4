/- The law's walk and what it wants (several texts in one). -/
import Derived.Test.YtkenebbjodcbcaaGreatDoorCoG21
namespace Go.Proofs.YtkenebbjodcbcaaGreatDoor
open Go.RowKit
set_option linter.unusedVariables false
set_option linter.unusedSimpArgs false
set_option maxRecDepth 20000
set_option maxHeartbeats 20000000
theorem n18b3 (y : Int) : bits BinOp.and IntKind.i64 y 3 = y % 4 := by
  have e : (BitVec.ofInt 64 y &&& BitVec.ofInt 64 3).toNat = (y % 4).toNat := by
    rw [BitVec.toNat_and, show (BitVec.ofInt 64 3).toNat = 2 ^ 2 - 1 by decide, Nat.and_two_pow_sub_one_eq_mod, BitVec.toNat_ofInt]
    omega
  show IntKind.i64.wrap ((BitVec.ofInt 64 y &&& BitVec.ofInt 64 3).toNat : Int) = _
  rw [e, IntKind.wrap_i64]
  omega
theorem n18and3 (y : Int) (w : World) : (binOp .and 3 (.int .i64 y) (.int .i64 3)).run Tryz.prog w = .ok (.int .i64 (y % 4)) w := by
  rw [← n18b3]; kernel_rfl
theorem n18b31 (y : Int) : bits BinOp.and IntKind.i64 y 31 = y % 32 := by
  have e : (BitVec.ofInt 64 y &&& BitVec.ofInt 64 31).toNat = (y % 32).toNat := by
    rw [BitVec.toNat_and, show (BitVec.ofInt 64 31).toNat = 2 ^ 5 - 1 by decide, Nat.and_two_pow_sub_one_eq_mod, BitVec.toNat_ofInt]
    omega
  show IntKind.i64.wrap ((BitVec.ofInt 64 y &&& BitVec.ofInt 64 31).toNat : Int) = _
  rw [e, IntKind.wrap_i64]
  omega
theorem n18and31 (y : Int) (w : World) : (binOp .and 3 (.int .i64 y) (.int .i64 31)).run Tryz.prog w = .ok (.int .i64 (y % 32)) w := by
  rw [← n18b31]; kernel_rfl
structure NmX where
  n : Nat
  tk : Int
  c : CoT
  A : Option Addr
  cap : Nat
  y : Nat → Value
def nmB (h bc f t : Nat) (x : NmX) : List Value := [x.y 0, x.y 1, x.y 2, pT h 0, x.y 4, x.y 5, x.y 6, x.y 7, .int .i64 (f : Int), .int .i64 (t : Int), pT bc 0, .int .i64 x.tk, .int .i64 (x.n : Int), x.y 13, x.y 14, x.y 15, x.y 16, x.y 17, x.y 18, x.y 19, x.y 20, x.y 21, x.y 22, x.y 23, x.y 24, x.y 25, x.y 26, x.y 27, x.y 28, x.y 29, x.y 30, x.y 31, x.y 32, x.y 33, x.y 34, x.y 35, x.y 36, x.y 37, x.y 38, x.y 39, x.y 40, x.y 41, x.y 42, x.y 43, x.y 44, x.y 45, x.y 46, x.y 47, x.y 48, x.y 49, x.y 50, x.y 51, x.y 52, x.y 53, x.y 54, x.y 55, x.y 56, x.y 57, x.y 58, x.y 59, x.y 60, x.y 61, x.y 62, x.y 63, x.y 64, x.y 65, x.y 66, x.y 67, x.y 68, x.y 69, x.y 70, x.y 71, x.y 72, x.y 73, x.y 74, x.y 75, x.y 76, x.y 77, x.y 78, x.y 79, x.y 80, x.y 81, x.y 82, x.y 83, x.y 84, x.y 85, x.y 86, x.y 87]
def nmC (h bc f t n : Nat) (tk wh : Int) (x : SlotsY) : List Value := [x.y 0, x.y 1, x.y 2, pT h 0, x.y 4, x.y 5, x.y 6, x.y 7, .int .i64 (f : Int), .int .i64 (t : Int), pT bc 0, .int .i64 tk, .int .i64 (n : Int), .int .i64 wh, x.y 14, x.y 15, x.y 16, x.y 17, x.y 18, x.y 19, x.y 20, x.y 21, x.y 22, x.y 23, x.y 24, x.y 25, x.y 26, x.y 27, x.y 28, x.y 29, x.y 30, x.y 31, x.y 32, x.y 33, x.y 34, x.y 35, x.y 36, x.y 37, x.y 38, x.y 39, x.y 40, x.y 41, x.y 42, x.y 43, x.y 44, x.y 45, x.y 46, x.y 47, x.y 48, x.y 49, x.y 50, x.y 51, x.y 52, x.y 53, x.y 54, x.y 55, x.y 56, x.y 57, x.y 58, x.y 59, x.y 60, x.y 61, x.y 62, x.y 63, x.y 64, x.y 65, x.y 66, x.y 67, x.y 68, x.y 69, x.y 70, x.y 71, x.y 72, x.y 73, x.y 74, x.y 75, x.y 76, x.y 77, x.y 78, x.y 79, x.y 80, x.y 81, x.y 82, x.y 83, x.y 84, x.y 85, x.y 86, x.y 87]
structure NmR (w : World) (bc : Nat) (c : CoT) (A : Option Addr) (cap : Nat) (W : World) : Prop where
  r1 : Row W bc 33 (coC c (.slice A c.got.length cap))
  g1 : GotIn W W.heap.size (.slice A c.got.length cap) c.got
  f1 : c.got ≠ [] → ∀ z, (Value.slice A c.got.length cap).ownBlock = some z → bc < z
  low : Below w.heap.size w W
structure NmL (w : World) (bc : Nat) (g : Rg) (f t : Nat) (x : NmX) (W : World) : Prop where
  le : x.n ≤ 60
  len : x.c.got.length ≤ x.n
  ok : OkC x.c
  inv : NmiI g f t x.n x.c x.tk
  r : NmR w bc x.c x.A x.cap W
theorem NmR.below {w : World} {bc : Nat} {c : CoT} {A : Option Addr} {cap : Nat} {W W' : World} (h : NmR w bc c A cap W) (k : Below W.heap.size W W') : NmR w bc c A cap W' :=
  ⟨h.r1.below k h.r1.lt, h.g1.on k, h.f1, h.low.trans (k.mono h.low.size)⟩
theorem NmiI.tk {g : Rg} {f t n : Nat} {c : CoT} {tk : Int} (h : NmiI g f t n c tk) : 0 ≤ tk ∧ tk ≤ 1 := by
  rcases h with ⟨_, h, _⟩ | ⟨_, _, h, _⟩ | ⟨_, h, _⟩ <;> omega
theorem fresh_parts {c : CoT} (h : freshB c = true) : c.got.length = 0 ∧ c.a.k = 0 := by
  unfold freshB at h
  simp only [Bool.and_eq_true, List.isEmpty_iff, beq_iff_eq] at h
  exact ⟨by rw [h.1]; rfl, h.2.1⟩
theorem cnt_eq (c d : CoT) : cntB c d = (d.wh == 1 && (c.wh != 1 || freshB d)) := by
  unfold cntB
  cases h : freshB d with
  | false => rfl
  | true =>
    have := fresh_parts h
    have hg : d.got.isEmpty = true := by rw [List.isEmpty_iff]; exact List.eq_nil_of_length_eq_zero this.1
    rw [hg, this.2]
    rfl
theorem coreNmi_walk (g : Rg) (at_ long : Int) (hg : RgB g) (w : World) (hS : Samps w) (hM : Masks w) (hD : Digits w) (hC : Courses w) (hO : Modes w) :
    Calls Tryz.prog 6 #[regsV g, .int .i64 at_, .int .i64 long] w fun e w' => e = .returned (.bool true) ∧ Below w.heap.size w w' := by
  have ht : Tabs w w.heap.size := (NextTabs.mk hM hC hD hO).tabs
  have hA : AccOk := acc_ok ht
  obtain ⟨G, hG⟩ : ∃ G : Rg, G = { g with halted := false } := ⟨_, rfl⟩
  have hGb : RgB G := by rw [hG]; exact ⟨hg.af, hg.bc, hg.de, hg.hl, hg.af2, hg.bc2, hg.de2, hg.hl2, hg.ix, hg.iy, hg.sp, hg.pc, hg.wz, hg.i, hg.r, hg.mode⟩
  have hGh : G.halted = false := by rw [hG]
  obtain ⟨f, hf⟩ : ∃ f : Nat, (f : Int) = at_ % 4 := ⟨(at_ % 4).toNat, by omega⟩
  obtain ⟨q, hq⟩ : ∃ q : Nat, (q : Int) = long % 32 := ⟨(long % 32).toNat, by omega⟩
  obtain ⟨t, htq⟩ : ∃ t : Nat, t = f + 1 + q := ⟨_, rfl⟩
  have hf3 : f ≤ 3 := by omega
  have hq31 : q ≤ 31 := by omega
  have hft : f < t := by omega
  obtain ⟨N, hN⟩ : ∃ N, N = newM G := ⟨_, rfl⟩
  have hNo : OkC N := by rw [hN]; exact OkC.new hGb
  have hNg : N.got = [] := by rw [hN]; rfl
  have K1 := fun (W : World) (h : Tabs W W.heap.size) => cnew_any G hGb W h
  rw [← hN] at K1
  go_enter Tryz.func6, Tryz.ntmps6
  refine coStart <| qQ [] (Many.begin w) fun w1 k1 => coR <| qC (awake18_any hA w1 (ht.below k1.touch.below) (hS.below k1.touch.below)) k1 fun w2 k2 => qE [] k2 fun w3 k3 => coS <| qQ [] k3 fun w4 k4 => coF <| coSkip <| eoT <| qQ [0] k4 fun w5 k5 => coR <| qR 1 [] k5 fun w6 k6 => kBj 19 (.int .i64 at_) (.int .i64 3) (.int .i64 (f : Int)) (egI _ _ _ _ _) (fun w => by rw [hf]; exact n18and3 _ w) <| qE [] k6 fun w7 k7 => ?_
  refine coR <| qR 1 [] k7 fun w8 k8 => kBj 21 (.int .i64 (f : Int)) (.int .i64 1) (.int .i64 ((f : Int) + 1)) (egI _ _ _ _ _) (bAddC _ _ (by omega) (by omega)) <| qR 1 [] k8 fun w9 k9 => kBj 23 (.int .i64 long) (.int .i64 31) (.int .i64 (q : Int)) (egI _ _ _ _ _) (fun w => by rw [hq]; exact n18and31 _ w) <| kBj 24 (.int .i64 ((f : Int) + 1)) (.int .i64 (q : Int)) (.int .i64 (t : Int)) (egI _ _ _ _ _) (fun w => by rw [show (t : Int) = ((f : Int) + 1) + (q : Int) by omega]; exact bAddC _ _ (by omega) (by omega) w) <| qE [] k9 fun wa ka => ?_
  have ka := ka.take 1 [⟨w.heap.size, 24, (regsC G).toList.map some⟩] (by rw [hG]; kernel_rfl)
  refine coR <| qR 1 [0] ka fun wb kb => qC (K1 wb (ht.below kb.touch.below)) kb fun wc kc => qE [1] kc fun wd kd => qQ [] kd fun we ke => coS <| qQ [] ke fun wf kf => coB <| ?_
  have r1 : Row wf wc.heap.size 33 (coC N (.slice none 0 0)) := kf.row 1 (coC N (.slice none 0 0)).toList (by kernel_rfl)
  have hbc : w.heap.size ≤ wc.heap.size := kc.touch.size
  have lowf := kf.touch.below
  refine coLoop (nmB w.heap.size wc.heap.size f t) (NmL w wc.heap.size G f t) (fun x => 61 - x.n) (fun y => ⟨0, 0, N, none, 0, y⟩) ⟨Nat.zero_le _, by rw [hNg]; exact Nat.le_refl _, hNo, by rw [hN]; exact nmiI_zero, by rw [hNg]; exact r1, by rw [hNg]; exact got_nil _ _, fun h => absurd hNg h, lowf⟩ ?_
  clear k1 k2 k3 k4 k5 k6 k7 k8 k9 ka kb kc kd ke kf r1 lowf K1
  generalize wc.heap.size = bc at *
  rintro ⟨n, tk, c, A, cap, y⟩ W ⟨hn, hlen, hco, inv, hr⟩
  dsimp only at hn hlen hco inv hr
  refine coS <| qQ [] (Many.begin W) fun wa ka => coI (decide ((n : Int) < 60)) (fun hlt => coSkip <| eoT <| coS <| coB <| ?_) fun hge => coX <| eoTx <| eoTx <| eoBx <| eoT ?_
  · have hn60 : n < 60 := by
      have : (n : Int) < 60 := by simpa using hlt
      omega
    have hra := hr.below ka.touch.below
    obtain ⟨v, hv⟩ : ∃ v, v = lineN f t n := ⟨_, rfl⟩
    obtain ⟨D, hDd⟩ : ∃ D, D = tickC c (lnN v) 0 := ⟨_, rfl⟩
    obtain ⟨inv', hw3, hw14⟩ := nmiI_step hGh hf3 hft inv
    rw [← hv, ← hDd] at inv' hw3 hw14
    have hDo : OkC D := by rw [hDd]; exact hco.tick hA _ B8.zero
    have hDl : D.got.length ≤ n + 1 := by have := tick_len c (lnN v) 0; rw [← hDd] at this; omega
    have KT := fun (W' : World) (h : Below w.heap.size w W') (h2 : GotIn W' W'.heap.size (.slice A c.got.length cap) c.got) => ctick18_any hA c hco (lnN v) 0 B8.zero (.slice A c.got.length cap) (by omega) W' h2 (ht.below h) (hS.below h)
    rw [← hDd] at KT
    have km := Many.start hra.r1
    have lowK : ∀ {W' rs}, Many wa [bc] rs W' → Below w.heap.size w W' := fun k => Kept.low hra.low (Kept.of_touch k.touch) hra.low.size fun x e => by simp at e; omega
    have g1K : ∀ {W' rs}, Many wa [bc] rs W' → GotIn W' W'.heap.size (.slice A c.got.length cap) c.got := fun k => hra.g1.stay (Kept.of_touch k.touch) fun hne x e h => by
      have := hra.f1 hne x e
      simp at h
      omega
    refine qQ [0] km fun wb kb => ?_
    refine coCut (nmC w.heap.size bc f t n tk c.wh) (fun _ W' => ∃ A' cap', NmR w bc D A' cap' W') ?_ ?_
    · by_cases h1 : f ≤ n
      · by_cases h2 : n < t
        · have ev : v = true := by rw [hv]; exact decide_eq_true ⟨h1, h2⟩
          rw [ev] at KT
          refine coZ <| qR 4 [0] kb fun wc kc => tell 36 (show decide ((n : Int) ≥ (f : Int)) = true from decide_eq_true (by omega)) <| qR 4 [] kc fun wd kd => tell 40 (show decide ((n : Int) < (t : Int)) = true from decide_eq_true (by omega)) <| qR 2 [] kd fun we ke => kX (KT we (lowK ke) (g1K ke)) fun e wf ⟨v', he, hgo, hown, hb⟩ => ⟨_, he, ?_⟩
          have hbe : bc < we.heap.size := ke.lt 0 ⟨bc, 33, (coC c (.slice A c.got.length cap)).toList.map some⟩ (by kernel_rfl)
          have hgo' := hgo
          obtain ⟨A', cap', rfl, -⟩ := hgo'
          have kf := (ke.below hb).take 1 [⟨bc, 33, (coC c (.slice A c.got.length cap)).toList.map some⟩]
          have lowf := lowK kf
          have kz := kf.anewK (Kept.refl (fun _ => False) wf) [bc] (fun _ _ h => h)
          exact qF [0] kz fun wg kg => eoCut (fun y => ⟨y⟩) ⟨A', cap', kg.row 0 (coC D (.slice A' D.got.length cap')).toList (by kernel_rfl), hgo.stay (Kept.of_touch kg.touch) (fun hne x e h => by
            have := hown x e
            simp at h
            omega), fun hne z e => (by have := hown z e; omega), Kept.low lowf (Kept.of_touch kg.touch) lowf.size fun x e => by simp at e; omega⟩
        · have ev : v = false := by rw [hv]; exact decide_eq_false (fun h => h2 h.2)
          rw [ev] at KT
          refine coZ <| qR 4 [0] kb fun wc kc => tell 36 (show decide ((n : Int) ≥ (f : Int)) = true from decide_eq_true (by omega)) <| qR 4 [] kc fun wd kd => tell 40 (show decide ((n : Int) < (t : Int)) = false from decide_eq_false (by omega)) <| qR 2 [] kd fun we ke => kX (KT we (lowK ke) (g1K ke)) fun e wf ⟨v', he, hgo, hown, hb⟩ => ⟨_, he, ?_⟩
          have hbe : bc < we.heap.size := ke.lt 0 ⟨bc, 33, (coC c (.slice A c.got.length cap)).toList.map some⟩ (by kernel_rfl)
          have hgo' := hgo
          obtain ⟨A', cap', rfl, -⟩ := hgo'
          have kf := (ke.below hb).take 1 [⟨bc, 33, (coC c (.slice A c.got.length cap)).toList.map some⟩]
          have lowf := lowK kf
          have kz := kf.anewK (Kept.refl (fun _ => False) wf) [bc] (fun _ _ h => h)
          exact qF [0] kz fun wg kg => eoCut (fun y => ⟨y⟩) ⟨A', cap', kg.row 0 (coC D (.slice A' D.got.length cap')).toList (by kernel_rfl), hgo.stay (Kept.of_touch kg.touch) (fun hne x e h => by
            have := hown x e
            simp at h
            omega), fun hne z e => (by have := hown z e; omega), Kept.low lowf (Kept.of_touch kg.touch) lowf.size fun x e => by simp at e; omega⟩
      · have ev : v = false := by rw [hv]; exact decide_eq_false (fun h => h1 h.1)
        rw [ev] at KT
        refine coZ <| qR 4 [0] kb fun wc kc => tell 36 (show decide ((n : Int) ≥ (f : Int)) = false from decide_eq_false (by omega)) <| qR 6 [] kc fun we ke => kX (KT we (lowK ke) (g1K ke)) fun e wf ⟨v', he, hgo, hown, hb⟩ => ⟨_, he, ?_⟩
        have hbe : bc < we.heap.size := ke.lt 0 ⟨bc, 33, (coC c (.slice A c.got.length cap)).toList.map some⟩ (by kernel_rfl)
        have hgo' := hgo
        obtain ⟨A', cap', rfl, -⟩ := hgo'
        have kf := (ke.below hb).take 1 [⟨bc, 33, (coC c (.slice A c.got.length cap)).toList.map some⟩]
        have lowf := lowK kf
        have kz := kf.anewK (Kept.refl (fun _ => False) wf) [bc] (fun _ _ h => h)
        exact qF [0] kz fun wg kg => eoCut (fun y => ⟨y⟩) ⟨A', cap', kg.row 0 (coC D (.slice A' D.got.length cap')).toList (by kernel_rfl), hgo.stay (Kept.of_touch kg.touch) (fun hne x e h => by
          have := hown x e
          simp at h
          omega), fun hne z e => (by have := hown z e; omega), Kept.low lowf (Kept.of_touch kg.touch) lowf.size fun x e => by simp at e; omega⟩
    clear kb km KT
    rintro ⟨y⟩ wc ⟨A', cap', hrc⟩
    obtain ⟨tk', htk'⟩ : ∃ tk' : Int, tk' = if cntB c D = true then tk + 1 else tk := ⟨_, rfl⟩
    rw [← htk'] at inv'
    have htk := inv.tk
    have hcn := cnt_eq c D
    refine coCut (nmC w.heap.size bc f t n tk' c.wh) (fun _ W' => NmR w bc D A' cap' W') ?_ ?_
    · have km := Many.start hrc.r1
      have KF := fun W' => cfresh_any D A' cap' W'
      have out : ∀ {W' rs}, Many wc [bc] (⟨bc, 33, (coC D (.slice A' D.got.length cap')).toList.map some⟩ :: rs) W' → NmR w bc D A' cap' W' := fun k => ⟨k.row 0 (coC D (.slice A' D.got.length cap')).toList rfl, hrc.g1.stay (Kept.of_touch k.touch) (fun hne x e h => by
        have := hrc.f1 hne x e
        simp at h
        omega), hrc.f1, Kept.low hrc.low (Kept.of_touch k.touch) hrc.low.size fun x e => by have := hrc.low.size; simp at e; omega⟩
      refine coR <| qR 3 [0] km fun wd kd => ?_
      have yes : cntB c D = true → tk' = tk + 1 := fun h => by rw [htk', if_pos h]
      have no : cntB c D = false → tk' = tk := fun h => by rw [htk', if_neg (by rw [h]; simp)]
      cases e1 : (D.wh == 1) with
      | false =>
        rw [e1] at hcn
        rw [no hcn]
        exact tell 46 e1 <| qE [] kd fun we ke => coF <| coSkip <| eoCut (fun y => ⟨y⟩) (out (ke.take 1 [⟨bc, 33, (coC D (.slice A' D.got.length cap')).toList.map some⟩]))
      | true =>
        refine tell 46 e1 <| qR 3 [] kd fun we ke => ?_
        cases e2 : (c.wh != 1) with
        | true =>
          rw [e1, e2] at hcn
          rw [yes hcn]
          exact tell 49 e2 <| qE [] ke fun wf kf => coT <| coZ <| qR 1 [] kf fun wg kg => kBj 68 (.int .i64 tk) (.int .i64 1) (.int .i64 (tk + 1)) (egI _ _ _ _ _) (bAddC _ _ (by omega) (by omega)) <| qF [] kg fun wh kh => eoCut (fun y => ⟨y⟩) (out (kh.take 1 [⟨bc, 33, (coC D (.slice A' D.got.length cap')).toList.map some⟩]))
        | false =>
          rw [e1, e2] at hcn
          refine tell 49 e2 <| qR 2 [0] ke fun wf kf => qC (KF wf) kf fun wg kg => ?_
          cases e3 : freshB D with
          | false =>
            rw [e3] at hcn
            rw [no hcn]
            exact qE [] kg fun wh kh => coF <| coSkip <| eoCut (fun y => ⟨y⟩) (out (kh.take 1 [⟨bc, 33, (coC D (.slice A' D.got.length cap')).toList.map some⟩]))
          | true =>
            obtain ⟨p1, p2⟩ := fresh_parts e3
            rw [e3] at hcn
            rw [yes hcn]
            exact qR 5 [0] kg fun wh kh => tell 57 (show ((D.got.length : Int) == 0) = true by simp [p1]) <| qR 6 [0] kh fun wi ki => tell 63 (show (D.a.k == 0) = true by simp [p2]) <| qE [] ki fun wf kf => coT <| coZ <| qR 1 [] kf fun wg kg => kBj 68 (.int .i64 tk) (.int .i64 1) (.int .i64 (tk + 1)) (egI _ _ _ _ _) (bAddC _ _ (by omega) (by omega)) <| qF [] kg fun wh kh => eoCut (fun y => ⟨y⟩) (out (kh.take 1 [⟨bc, 33, (coC D (.slice A' D.got.length cap')).toList.map some⟩]))
    clear hrc
    rintro ⟨y⟩ wd hrd
    have km := Many.start hrd.r1
    have out : ∀ {W' rs}, Many wd [bc] (⟨bc, 33, (coC D (.slice A' D.got.length cap')).toList.map some⟩ :: rs) W' → NmR w bc D A' cap' W' := fun k => ⟨k.row 0 (coC D (.slice A' D.got.length cap')).toList rfl, hrd.g1.stay (Kept.of_touch k.touch) (fun hne x e h => by
      have := hrd.f1 hne x e
      simp at h
      omega), hrd.f1, Kept.low hrd.low (Kept.of_touch k.touch) hrd.low.size fun x e => by have := hrd.low.size; simp at e; omega⟩
    refine coR <| qR 2 [] km fun we ke => ?_
    by_cases e1 : n = 3
    · have hw := hw3 e1
      exact tell 70 (show ((n : Int) == 3) = true by simp [e1]) <| qR 4 [0] ke fun wf kf => tell 74 (show (D.wh != 1) = false by simp [hw]) <| qR 4 [] kf fun wg kg => tell 78 (show ((n : Int) == 14) = false by simp [e1]) <| qE [] kg fun wh kh => coF <| coSkip <| eoB <| eoT <| coZ <| qR 1 [] kh fun wi ki => wM (xInc n (by omega)) <| qF [] ki fun wj kj => eoRound (fun y => ⟨n + 1, tk', D, A', cap', y⟩) (let h := out (kj.take 1 [⟨bc, 33, (coC D (.slice A' D.got.length cap')).toList.map some⟩]); ⟨by show n + 1 ≤ 60; omega, hDl, hDo, inv', h⟩) (by show 61 - (n + 1) < 61 - n; omega)
    · refine tell 70 (show ((n : Int) == 3) = false by simp; omega) <| qR 8 [] ke fun wf kf => ?_
      by_cases e2 : n = 14
      · have hw := hw14 e2
        exact tell 78 (show ((n : Int) == 14) = true by simp [e2]) <| qR 5 [0] kf fun wg kg => tell 83 (show (D.r.pc != 102) = false by simp [hw]) <| qE [] kg fun wh kh => coF <| coSkip <| eoB <| eoT <| coZ <| qR 1 [] kh fun wi ki => wM (xInc n (by omega)) <| qF [] ki fun wj kj => eoRound (fun y => ⟨n + 1, tk', D, A', cap', y⟩) (let h := out (kj.take 1 [⟨bc, 33, (coC D (.slice A' D.got.length cap')).toList.map some⟩]); ⟨by show n + 1 ≤ 60; omega, hDl, hDo, inv', h⟩) (by show 61 - (n + 1) < 61 - n; omega)
      · exact tell 78 (show ((n : Int) == 14) = false by simp; omega) <| qE [] kf fun wh kh => coF <| coSkip <| eoB <| eoT <| coZ <| qR 1 [] kh fun wi ki => wM (xInc n (by omega)) <| qF [] ki fun wj kj => eoRound (fun y => ⟨n + 1, tk', D, A', cap', y⟩) (let h := out (kj.take 1 [⟨bc, 33, (coC D (.slice A' D.got.length cap')).toList.map some⟩]); ⟨by show n + 1 ≤ 60; omega, hDl, hDo, inv', h⟩) (by show 61 - (n + 1) < 61 - n; omega)
  · obtain rfl : n = 60 := by
      have : ¬ (n : Int) < 60 := by simpa using hge
      omega
    have e1 := nmiI_end inv
    subst e1
    have hra := hr.below ka.touch.below
    exact qQ [] (Many.begin wa) fun wb kb => coRet <| eoIr (.bool true) ⟨rfl, bOn hra.low kb⟩
end Go.Proofs.YtkenebbjodcbcaaGreatDoor
