/- Contracts and facts that the claim's proof wants (several texts in one). -/
import Derived.WalkKit
import Derived.ProofKit
import Derived.OpenShut
import Derived.ChangeArms
import Derived.Deep.Fields
import Derived.ChangeSlices
import Derived.Lib.SmallJoins
import Derived.Test.YtkenebbjodcbcaaGreatDoorCoG1
import Derived.Test.YtkenebbjodcbcaaGreatDoorCoG3
import Derived.Test.YtkenebbjodcbcaaGreatDoorCoG15
import Derived.Test.YtkenebbjodcbcaaGreatDoorCoG16
import Derived.Test.YtkenebbjodcbcaaGreatDoorCoG17
import Derived.Test.YtkenebbjodcbcaaGreatDoorCoG18
import Derived.Test.YtkenebbjodcbcaaGreatDoorCoG19
namespace Go.Proofs.YtkenebbjodcbcaaGreatDoor
open Go.RowKit
set_option linter.unusedVariables false
set_option linter.unusedSimpArgs false
set_option maxRecDepth 20000
set_option maxHeartbeats 20000000
theorem Many.storeS {w0 w : World} {L : List Nat} {rs : List RowK} (h : Many w0 L rs w) (i : Nat) {b : Nat} {t : TypeId} (v x : Value) (e : rs[i]? = some ⟨b, t, [some v]⟩) : Many w0 L (rs.set i ⟨b, t, [some x]⟩) (w.setCells b 0 [x]) := by
  have r := (h.row i [v] e).setAll (vs := #[x]) rfl
  exact h.turn e r (kn_full #[x]) (setsB b [x] 0 (Besides.refl b b w))
def CoOut (c : CoT) (w : World) (e : Ending) (w' : World) : Prop := ∃ v, e = .returned (coV c v) ∧ GotIn w' w'.heap.size v c.got ∧ (∀ x, v.ownBlock = some x → w.heap.size ≤ x) ∧ Below w.heap.size w w'
theorem ctick18_any (hA : AccOk) (c : CoT) (hc : OkC c) (l : LnT) (b : Int) (hb8 : B8 b) (v : Value) (hlen : c.got.length ≤ 100000) (w : World) (hin : GotIn w w.heap.size v c.got) (ht : Tabs w w.heap.size) (hS : Samps w) :
    Calls Tryz.prog 21 #[coV c v, lnV l, .int .u8 b] w (CoOut (tickC c l b) w) := by
  obtain ⟨A, cap, rfl, hcap, hby, hnil⟩ := hin
  obtain ⟨D, hD⟩ : ∃ D, D = tickC c l b := ⟨_, rfl⟩
  rw [← hD]
  go_enter Tryz.func21, Tryz.ntmps21
  refine coStart <| qQ [] (Many.begin w) fun w1 k1 => coR <| qR 2 [0] k1 fun w2 k2 => kX (clone18_any A cap c.got (by omega) w2 ((hby.below k2.touch.below).more k2.touch.size)) fun e w3 ⟨v', he, own, hb⟩ => ⟨_, he, ?_⟩
  obtain ⟨A', cap', rfl, hcap', -, hn'⟩ := own_slice own
  have k3 := k2.below hb
  have r0 : Row w3 w.heap.size 33 (coC c (.slice A c.got.length cap)) := k3.row 0 (coC c (.slice A c.got.length cap)).toList (by kernel_rfl)
  have r1 : Row w3 (w.heap.size + 1) 40 (lnC l) := k3.row 1 (lnC l).toList (by kernel_rfl)
  have r2 : Row w3 (w.heap.size + 2) 33 (coC zeroCo (.slice none 0 0)) := k3.row 2 (coC zeroCo (.slice none 0 0)).toList (by kernel_rfl)
  have hlt2 : w.heap.size + 2 < w2.heap.size := k2.lt 2 ⟨w.heap.size + 2, 33, (coC zeroCo (.slice none 0 0)).toList.map some⟩ (by kernel_rfl)
  have low3 : Below w.heap.size w w3 := k3.touch.below
  have km := Many.three r0 r1 r2 (by omega) (by omega) (by omega)
  obtain ⟨bs, hbs⟩ : ∃ bs, bs = w2.heap.size := ⟨_, rfl⟩
  rw [← hbs] at own hlt2
  have sb3 : bs ≤ w3.heap.size := by rw [hbs]; exact hb.size
  clear k1 k2 k3 r0 r1 r2 hb
  have low : ∀ {W rs}, Many w3 [w.heap.size, w.heap.size + 1, w.heap.size + 2] rs W → Below w.heap.size w W := fun k => Kept.low low3 (Kept.of_touch k.touch) low3.size fun x e => by simp at e; omega
  have ownA : ∀ {W rs}, Many w3 [w.heap.size, w.heap.size + 1, w.heap.size + 2] rs W → W.ownsRow bs 5 1 (.slice A' c.got.length cap') c.got.length (bvs c.got) := fun k => Kept.own (Kept.of_touch k.touch) own fun x e h => by
    have := own.lt x e
    simp at h
    omega
  have KH := fun (W : World) (h : Samps W) => happens_any c A' c.got.length cap' l W h
  refine qE [0] km fun w4 k4 => coS <| coR <| qR 2 [0, 1] k4 fun w5 k5 => qC (KH w5 (hS.below (low k5))) k5 fun w6 k6 => qE [] k6 fun w7 k7 => coB <| ?_
  clear k4 k5 k6
  have outN : ∀ {W rs} (d : CoT), Many w3 [w.heap.size, w.heap.size + 1, w.heap.size + 2] rs W → d.got = [] → GotIn W W.heap.size (.slice none 0 0) d.got ∧ (∀ x, (Value.slice none 0 0).ownBlock = some x → w.heap.size ≤ x) ∧ Below w.heap.size w W := fun d k e => ⟨by rw [e]; exact got_nil _ _, fun x e => (by cases e), low k⟩
  have outA : ∀ {W rs} (d : CoT), Many w3 [w.heap.size, w.heap.size + 1, w.heap.size + 2] rs W → d.got = c.got → GotIn W W.heap.size (.slice A' c.got.length cap') d.got ∧ (∀ x, (Value.slice A' c.got.length cap').ownBlock = some x → w.heap.size ≤ x) ∧ Below w.heap.size w W := fun d k e => ⟨by rw [e]; exact ⟨A', cap', rfl, hcap', own_bytes (ownA k), hn'⟩, fun x e => by have := own.lt x e; omega, low k⟩
  cases hr : l.reset with
  | true =>
    rw [show evM c l = evR from if_pos hr] at k7 ⊢
    rw [tick_reset hr] at hD
    obtain ⟨F, hF⟩ : ∃ F, F = newM (resetG c.r) := ⟨_, rfl⟩
    have KN := fun (W : World) (h : Tabs W W.heap.size) => cnew_any (resetG c.r) (reset_b hc.r) W h
    rw [← hF] at KN hD
    have hg : D.got = [] := by rw [hD, hF]; rfl
    exact qQ [] k7 fun w8 k8 => coT <| qQ [3] k8 fun w9 k9 => coR <| qR 2 [0] k9 fun wa ka => qC (reset18_any c.r wa) ka fun wb kb => qC (KN wb (ht.below (low kb))) kb fun wc kc => qE [0] kc fun wd kd => coZ <| qF [1, 0] kd fun we ke => eoB <| eoT <| qQ [0, 2] ke fun wf kf => coRet <| eoK1 (kf.row 2 (b := w.heap.size + 2) (t := 33) (coC D (.slice none 0 0)).toList (by rw [hD]; kernel_rfl)) ⟨_, rfl, outN D kf hg⟩
  | false =>
    cases ho : c.off with
    | true =>
      rw [show evM c l = evA l.bus from (if_neg (by rw [hr]; simp)).trans (if_pos ho)] at k7 ⊢
      rw [tick_away hr ho] at hD
      have KN := fun W => cnote_any c A' c.got.length cap' l.nmi W
      obtain ⟨F, hF⟩ : ∃ F, F = c.note l.nmi := ⟨_, rfl⟩
      rw [← hF] at KN hD
      have hg : D.got = c.got := by rw [hD, hF]; rfl
      obtain ⟨bb, hbb⟩ : ∃ bb, bb = l.bus := ⟨_, rfl⟩
      rw [← hbb] at k7 hD ⊢
      cases bb with
      | true =>
        refine qQ [] k7 fun w8 k8 => coF <| qQ [] k8 fun w8 k8 => coT <| coR <| qR 1 [] k8 fun wx kx => ?_
        have rx := kx.row 3 (b := w8.heap.size) (t := 80) [.bool false] (by kernel_rfl)
        have ky := (kx.take 4 [⟨w.heap.size, 33, (coC c (.slice A' c.got.length cap')).toList.map some⟩, ⟨w.heap.size + 1, 40, (lnC l).toList.map some⟩, ⟨w.heap.size + 2, 33, (coC zeroCo (.slice none 0 0)).toList.map some⟩, ⟨w8.heap.size, 80, [some (.bool false)]⟩]).storeS 3 (.bool false) (.bool false) rfl
        refine wD (xStore (run_storeAt_mid wx w8.heap.size 0 80 #[.bool false] rx.there (by kernel_rfl) (by simp [Value.oneCell']))) ?_
        generalize wx.setCells w8.heap.size 0 [.bool false] = wy at ky ⊢
        exact qE [] ky fun w9 k9 => coR <| qR 3 [0, 1] k9 fun wa ka => qC (KN wa) ka fun wb kb => qE [0] kb fun wc kc => coZ <| qF [3, 0] kc fun wd kd => eoB <| eoT <| qQ [0, 2] kd fun wf kf => coRet <| eoK1 (kf.row 2 (b := w.heap.size + 2) (t := 33) (coC { F with off := true } (.slice A' c.got.length cap')).toList (by kernel_rfl)) ⟨.slice A' c.got.length cap', by rw [hD], outA D kf hg⟩
      | false =>
        refine qQ [] k7 fun w8 k8 => coF <| qQ [] k8 fun w8 k8 => coT <| coR <| qR 1 [] k8 fun wx kx => ?_
        have rx := kx.row 3 (b := w8.heap.size) (t := 80) [.bool false] (by kernel_rfl)
        have ky := (kx.take 4 [⟨w.heap.size, 33, (coC c (.slice A' c.got.length cap')).toList.map some⟩, ⟨w.heap.size + 1, 40, (lnC l).toList.map some⟩, ⟨w.heap.size + 2, 33, (coC zeroCo (.slice none 0 0)).toList.map some⟩, ⟨w8.heap.size, 80, [some (.bool false)]⟩]).storeS 3 (.bool false) (.bool true) rfl
        refine wD (xStore (run_storeAt_mid wx w8.heap.size 0 80 #[.bool true] rx.there (by kernel_rfl) (by simp [Value.oneCell']))) ?_
        generalize wx.setCells w8.heap.size 0 [.bool true] = wy at ky ⊢
        exact qE [] ky fun w9 k9 => coR <| qR 3 [0, 1] k9 fun wa ka => qC (KN wa) ka fun wb kb => qE [0] kb fun wc kc => coZ <| qF [3, 0] kc fun wd kd => eoB <| eoT <| qQ [0, 2] kd fun wf kf => coRet <| eoK1 (kf.row 2 (b := w.heap.size + 2) (t := 33) (coC { F with off := false } (.slice A' c.got.length cap')).toList (by kernel_rfl)) ⟨.slice A' c.got.length cap', by rw [hD], outA D kf hg⟩
    | false =>
      obtain ⟨T, hT⟩ : ∃ T, T = tickM c.a l.wait := ⟨_, rfl⟩
      have e0 : evM c l = if T.2.2 = true then evL T.1 T.2.1 else evS T.1 T.2.1 := by rw [hT]; exact (if_neg (by rw [hr]; simp)).trans (if_neg (by rw [ho]; simp))
      rw [e0] at k7 ⊢
      obtain ⟨a, m, t⟩ := T
      have KN := fun W => cnote_any c A' c.got.length cap' l.nmi W
      obtain ⟨F, hF⟩ : ∃ F, F = c.note l.nmi := ⟨_, rfl⟩
      rw [← hF] at KN
      have hFc : OkC F := by rw [hF]; exact ⟨hc.r, hc.got, hc.b⟩
      have hFg : F.got = c.got := by rw [hF]; rfl
      have KP := fun W => cpass_any F A' c.got.length cap' a m b W
      obtain ⟨G, hG⟩ : ∃ G, G = F.pass a m b := ⟨_, rfl⟩
      rw [← hG] at KP
      have hGc : OkC G := by rw [hG]; exact hFc.pass a m hb8
      have hGg : G.got = c.got := by rw [hG]; exact hFg
      cases t with
      | false =>
        rw [tick_in hr ho hT.symm rfl, ← hF, ← hG] at hD
        rw [hD]
        exact qQ [] k7 fun w8 k8 => coF <| qQ [] k8 fun w8 k8 => coF <| qQ [] k8 fun w8 k8 => coT <| qQ [3] k8 fun w9 k9 => qPz 6 k9 fun wa ka => qD 0 [0] ka <| qD 1 [1, 2] ka <| qD 3 [4] ka <| qM [5] ka <| qDc 3 (KN wa) ka fun wb kb => poE <| qC (KP wb) kb fun wc kc => qF [0] kc fun wd kd => eoB <| eoT <| qQ [0, 2] kd fun wf kf => coRet <| eoK1 (kf.row 2 (b := w.heap.size + 2) (t := 33) (coC G (.slice A' c.got.length cap')).toList (by kernel_rfl)) ⟨_, rfl, outA G kf hGg⟩
      | true =>
        rw [tick_over hr ho hT.symm rfl, ← hF, ← hG] at hD
        refine qQ [] k7 fun w8 k8 => coF <| qQ [] k8 fun w8 k8 => coF <| qQ [] k8 fun w8 k8 => coF <| qQ [] k8 fun w8 k8 => coT <| qQ [3] k8 fun w9 k9 => qPz 9 k9 fun wa ka => qD 0 [0] ka <| qD 1 [1, 2] ka <| qD 3 [4, 5] ka <| qM [6] ka <| qD 1 [8] ka <| qDc 3 (KN wa) ka fun wb kb => qDc 7 (KP wb) kb fun wc kc => poE <| ?_
        have own6 := ownA kc
        have hl6 := low kc
        have own6' : wc.ownsRow bs 5 1 (.slice A' c.got.length cap') G.got.length (bvs G.got) := by rw [hGg]; exact own6
        have sc := kc.touch.size
        refine kX (cfinish_any hA G hGc l (.slice A' c.got.length cap') bs (by rw [hGg]; omega) w wc hl6 (by omega) (by omega) ht own6') fun e wd ⟨v'', he, own7, q7⟩ => ⟨_, he, ?_⟩
        rw [← hD] at own7 he ⊢
        obtain ⟨A'', cap'', rfl, hcap'', -, hn''⟩ := own_slice own7
        have hne : ∀ x, (Value.slice A' c.got.length cap').ownBlock = some x → w.heap.size + 2 < x := fun x e => by have := own6.lt x e; omega
        have r0 := q7.row (kc.row 0 (b := w.heap.size) (t := 33) (coC c (.slice A' c.got.length cap')).toList (by kernel_rfl)) fun e => by have := hne _ e; omega
        have r2 := q7.row (kc.row 2 (b := w.heap.size + 2) (t := 33) (coC zeroCo (.slice none 0 0)).toList (by kernel_rfl)) fun e => by have := hne _ e; omega
        have kd := Many.two r0 r2 (by omega)
        refine qF [0] kd fun wf kf => eoB <| eoT <| qQ [0, 1] kf fun wg kg => coRet <| eoK1 (kg.row 1 (b := w.heap.size + 2) (t := 33) (coC D (.slice A'' D.got.length cap'')).toList (by kernel_rfl)) ⟨_, rfl, ⟨A'', cap'', rfl, hcap'', own_bytes (Kept.own (Kept.of_touch kg.touch) own7 fun x e h => ?_), hn''⟩, fun x e => (by have := own7.lt x e; omega), ?_⟩
        · have := own7.lt x e
          simp at h
          omega
        · have lowd := Kept.low hl6 q7 hl6.size fun x e => by have := hne x e; omega
          exact Kept.low lowd (Kept.of_touch kg.touch) lowd.size fun x e => by simp at e; omega
theorem casks_any (c : CoT) (A : Option Addr) (n cap : Nat) (l : LnT) (w : World) (hS : Samps w) : Calls Tryz.prog 12 #[coV c (.slice A n cap), lnV l] w fun e w' => e = .returned (.tuple #[cyV (asksC c l), .bool (asksB c l)]) ∧ Below w.heap.size w w' := by
  have KH := fun (W : World) (h : Samps W) => happens_any c A n cap l W h
  go_enter Tryz.func12, Tryz.ntmps12
  refine coStart <| qQ [] (Many.begin w) fun w1 k1 => coS <| coR <| qR 2 [0, 1] k1 fun w2 k2 => qC (KH w2 (hS.below k2.touch.below)) k2 fun w3 k3 => ?_
  have no : asksB c l = false → .returned (.tuple #[cyV zeroCy, .bool false]) = Ending.returned (.tuple #[cyV (asksC c l), .bool (asksB c l)]) := fun h => by
    unfold asksC
    rw [h]
    rfl
  cases hr : l.reset with
  | true =>
    rw [show evM c l = evR from if_pos hr] at ⊢
    have h0 : asksB c l = false := by unfold asksB; rw [hr]; rfl
    exact qC (mvr_any w3) k3 fun w4 k4 => qE [] k4 fun w5 k5 => coF <| coSkip <| eoT <| qQ [2] k5 fun w6 k6 => coRet <| eoK2 (k6.row 2 (b := w.heap.size + 2) (t := 29) (cyC zeroCy).toList (by kernel_rfl)) ⟨no h0, k6.touch.below⟩
  | false =>
    cases ho : c.off with
    | true =>
      rw [show evM c l = evA l.bus from (if_neg (by rw [hr]; simp)).trans (if_pos ho)] at ⊢
      have h0 : asksB c l = false := by unfold asksB; rw [hr, ho]; rfl
      exact qC (mva_any (!l.bus) w3) k3 fun w4 k4 => qE [] k4 fun w5 k5 => coF <| coSkip <| eoT <| qQ [2] k5 fun w6 k6 => coRet <| eoK2 (k6.row 2 (b := w.heap.size + 2) (t := 29) (cyC zeroCy).toList (by kernel_rfl)) ⟨no h0, k6.touch.below⟩
    | false =>
      have e0 : evM c l = if (tickM c.a l.wait).2.2 = true then evL (tickM c.a l.wait).1 (tickM c.a l.wait).2.1 else evS (tickM c.a l.wait).1 (tickM c.a l.wait).2.1 := (if_neg (by rw [hr]; simp)).trans (if_neg (by rw [ho]; simp))
      have hq : asksB c l = (tickM c.a l.wait).2.1 := by unfold asksB; rw [hr, ho]; rfl
      rw [e0] at ⊢
      generalize tickM c.a l.wait = T at hq ⊢
      obtain ⟨a, m, t⟩ := T
      dsimp only at hq ⊢
      cases m with
      | false => cases t <;> exact qC (mvs_any a false w3) k3 fun w4 k4 => qE [] k4 fun w5 k5 => coF <| coSkip <| eoT <| qQ [2] k5 fun w6 k6 => coRet <| eoK2 (k6.row 2 (b := w.heap.size + 2) (t := 29) (cyC zeroCy).toList (by kernel_rfl)) ⟨no hq, k6.touch.below⟩
      | true =>
        have yes : .returned (.tuple #[cyV c.a.c, .bool true]) = Ending.returned (.tuple #[cyV (asksC c l), .bool (asksB c l)]) := by
          unfold asksC
          rw [hq]
          rfl
        cases t <;> exact qC (mvs_any a true w3) k3 fun w4 k4 => qE [] k4 fun w5 k5 => coT <| qQ [0, 2] k5 fun w6 k6 => coRet <| eoTr <| eoK2 (k6.row 2 (b := w.heap.size + 2) (t := 29) (cyC c.a.c).toList (by kernel_rfl)) ⟨yes, k6.touch.below⟩
theorem cends_any (hA : AccOk) (c : CoT) (hc : OkC c) (l : LnT) (b : Int) (hb8 : B8 b) (v : Value) (hlen : c.got.length ≤ 100000) (w : World) (hin : GotIn w w.heap.size v c.got) (ht : Tabs w w.heap.size) (hS : Samps w) :
    Calls Tryz.prog 15 #[coV c v, lnV l, .int .u8 b] w fun e w' => e = .returned (.bool (endsB c l b)) ∧ Below w.heap.size w w' := by
  obtain ⟨A, cap, rfl, hcap, hby, hnil⟩ := hin
  have KH := fun (W : World) (h : Samps W) => happens_any c A c.got.length cap l W h
  have KT := fun (W : World) (h : Below w.heap.size w W) => ctick18_any hA c hc l b hb8 (.slice A c.got.length cap) hlen W ⟨A, cap, rfl, hcap, (hby.below h).more h.size, hnil⟩ (ht.below h) (hS.below h)
  obtain ⟨D, hD⟩ : ∃ D, D = tickC c l b := ⟨_, rfl⟩
  unfold endsB
  rw [← hD] at KT ⊢
  go_enter Tryz.func15, Tryz.ntmps15
  refine coStart <| qQ [] (Many.begin w) fun w1 k1 => coR <| qR 2 [0, 1] k1 fun w2 k2 => qC (KH w2 (hS.below k2.touch.below)) k2 fun w3 k3 => ?_
  cases hr : l.reset with
  | true =>
    rw [show evM c l = evR from if_pos hr] at ⊢
    rw [show overB c l = false by unfold overB; rw [hr]; rfl]
    exact qE [2] k3 fun w4 k4 => qQ [] k4 fun w5 k5 => coRet <| eoIr (.bool false) ⟨rfl, k5.touch.below⟩
  | false =>
    cases ho : c.off with
    | true =>
      rw [show evM c l = evA l.bus from (if_neg (by rw [hr]; simp)).trans (if_pos ho)] at ⊢
      rw [show overB c l = false by unfold overB; rw [hr, ho]; rfl]
      exact qE [2] k3 fun w4 k4 => qQ [] k4 fun w5 k5 => coRet <| eoIr (.bool false) ⟨rfl, k5.touch.below⟩
    | false =>
      have e0 : evM c l = if (tickM c.a l.wait).2.2 = true then evL (tickM c.a l.wait).1 (tickM c.a l.wait).2.1 else evS (tickM c.a l.wait).1 (tickM c.a l.wait).2.1 := (if_neg (by rw [hr]; simp)).trans (if_neg (by rw [ho]; simp))
      have hq : overB c l = (tickM c.a l.wait).2.2 := by unfold overB; rw [hr, ho]; rfl
      rw [e0] at ⊢
      generalize tickM c.a l.wait = T at hq ⊢
      obtain ⟨a, m, t⟩ := T
      dsimp only at hq ⊢
      rw [hq]
      cases t with
      | false => exact qE [2] k3 fun w4 k4 => qQ [] k4 fun w5 k5 => coRet <| eoIr (.bool false) ⟨rfl, k5.touch.below⟩
      | true =>
        refine qE [2] k3 fun w4 k4 => coR <| qR 5 [0, 1] k4 fun w5 k5 => kX (KT w5 k5.touch.below) fun e w6 ⟨v, he, hgo, _, hb⟩ => ⟨_, he, ?_⟩
        obtain ⟨A', cap', rfl, -, -⟩ := hgo
        exact qC (mayLeave_any D A' D.got.length cap' w6) (k5.below hb) fun w7 k7 => qE [] k7 fun w8 k8 => coRet <| eoIr (.bool (true && D.leaves)) ⟨rfl, k8.touch.below⟩
def lnN (v : Bool) : LnT := ⟨false, false, false, v, false⟩
def nopAt (g : Rg) (k : Int) (nmi was : Bool) : CoT := ⟨g, 0, [], ⟨⟨1, g.pc, 0, 4⟩, k, 0⟩, 0, nmi, was, false⟩
def nmiG (g : Rg) : Rg := jumpG (begG g false g.iff2) 102
def nmiAt (g : Rg) (was : Bool) : Nat → CoT
  | 0 => ⟨g, 1, [], ⟨⟨1, g.pc, 0, 4⟩, 0, 0⟩, 0, false, was, false⟩
  | 1 => ⟨g, 1, [], ⟨⟨1, g.pc, 0, 4⟩, 1, 0⟩, 0, false, was, false⟩
  | 2 => ⟨g, 1, [], ⟨⟨1, g.pc, 0, 4⟩, 2, 0⟩, 0, false, was, false⟩
  | 3 => ⟨g, 1, [], ⟨⟨1, g.pc, 0, 4⟩, 3, 0⟩, 0, false, was, false⟩
  | 4 => ⟨g, 1, [0], ⟨⟨7, 0, 0, 1⟩, 0, 0⟩, 0, false, was, false⟩
  | 5 => ⟨g, 1, [0, 0], ⟨⟨3, (g.sp - 1) % 65536, g.pc / 256, 3⟩, 0, 0⟩, 0, false, was, false⟩
  | 6 => ⟨g, 1, [0, 0], ⟨⟨3, (g.sp - 1) % 65536, g.pc / 256, 3⟩, 1, 0⟩, 0, false, was, false⟩
  | 7 => ⟨g, 1, [0, 0], ⟨⟨3, (g.sp - 1) % 65536, g.pc / 256, 3⟩, 2, 0⟩, 0, false, was, false⟩
  | 8 => ⟨g, 1, [0, 0, 0], ⟨⟨3, (g.sp - 2) % 65536, g.pc % 256, 3⟩, 0, 0⟩, 0, false, was, false⟩
  | 9 => ⟨g, 1, [0, 0, 0], ⟨⟨3, (g.sp - 2) % 65536, g.pc % 256, 3⟩, 1, 0⟩, 0, false, was, false⟩
  | _ => ⟨g, 1, [0, 0, 0], ⟨⟨3, (g.sp - 2) % 65536, g.pc % 256, 3⟩, 2, 0⟩, 0, false, was, false⟩
theorem tick_f (pc : Int) (k : Nat) (hk : k < 4) : tickM ⟨⟨1, pc, 0, 4⟩, (k : Nat), 0⟩ false = (⟨⟨1, pc, 0, 4⟩, ((k + 1 : Nat) : Int), 0⟩, decide (k = 2), decide (k = 3)) := by
  rcases (show k = 0 ∨ k = 1 ∨ k = 2 ∨ k = 3 by omega) with rfl | rfl | rfl | rfl <;> rfl
theorem note_nop (g : Rg) (k : Int) (nmi was v : Bool) : (nopAt g k nmi was).note v = nopAt g k (nmi || (v && !was)) v := rfl
theorem pass_nop (g : Rg) (k k' : Int) (nmi was m : Bool) : (nopAt g k nmi was).pass ⟨⟨1, g.pc, 0, 4⟩, k', 0⟩ m 0 = nopAt g k' nmi was := by
  cases m <;> rfl
theorem nop_in (g : Rg) {k : Nat} (hk : k < 3) (nmi was v : Bool) : tickC (nopAt g (k : Nat) nmi was) (lnN v) 0 = nopAt g ((k + 1 : Nat) : Int) (nmi || (v && !was)) v := by
  rw [tick_in rfl rfl (tick_f g.pc k (by omega)) (decide_eq_false (by omega)), note_nop, pass_nop]
  rfl
theorem fin_nop {g : Rg} (h : g.halted = false) (k : Int) (nmi was v : Bool) : (nopAt g k nmi was).fin (lnN v) = if nmi = true then nmiAt (nopG g) was 0 else nopAt (nopG g) 0 false was := by
  have e : ({ nopAt g k nmi was with got := (nopAt g k nmi was).got ++ [(nopAt g k nmi was).b], b := 0 } : CoT).go1 (accOf g 0 [0]) false = if nmi = true then nmiAt (nopG g) was 0 else nopAt (nopG g) 0 false was := by
    rw [acc_nop h]
    cases nmi with
    | true => rfl
    | false =>
      show ({ (⟨g, 0, [0], ⟨⟨1, g.pc, 0, 4⟩, k, 0⟩, 0, false, was, false⟩ : CoT) with nmi := false }.start (nopG g) 0) = nopAt (nopG g) 0 false was
      unfold CoT.start
      rw [acc_ask]
      rfl
  have e2 : (nopAt g k nmi was).fin1 false = if nmi = true then nmiAt (nopG g) was 0 else nopAt (nopG g) 0 false was := e
  unfold CoT.fin
  rw [show (lnN v).irq = false from rfl, e2]
  cases nmi <;> rfl
theorem nop_end {g : Rg} (h : g.halted = false) (nmi was v : Bool) : tickC (nopAt g 3 nmi was) (lnN v) 0 = if (nmi || (v && !was)) = true then nmiAt (nopG g) v 0 else nopAt (nopG g) 0 false v := by
  rw [tick_over rfl rfl (tick_f g.pc 3 (by omega)) rfl, note_nop, pass_nop, fin_nop h]
  rfl
theorem nmi_in (g : Rg) {was v : Bool} (h : (v && !was) = false) : ∀ {j : Nat}, j < 10 → tickC (nmiAt g was j) (lnN v) 0 = nmiAt g v (j + 1) := by
  intro j hj
  have key : ∀ x : Bool, x = (v && !was) → ∀ c : CoT, c.nmi = false → c.was = was → c.note v = { c with nmi := x, was := v } := fun x hx c h1 h2 => by
    unfold CoT.note; rw [h1, h2, Bool.false_or, hx]
  have hn := key false h.symm
  rcases (show j = 0 ∨ j = 1 ∨ j = 2 ∨ j = 3 ∨ j = 4 ∨ j = 5 ∨ j = 6 ∨ j = 7 ∨ j = 8 ∨ j = 9 by omega) with rfl | rfl | rfl | rfl | rfl | rfl | rfl | rfl | rfl | rfl
  · rw [tick_in rfl rfl (show tickM (nmiAt g was 0).a false = (⟨⟨1, g.pc, 0, 4⟩, 1, 0⟩, false, false) from rfl) rfl]; exact congrArg (fun d : CoT => d.pass _ _ _) (hn _ rfl rfl)
  · rw [tick_in rfl rfl (show tickM (nmiAt g was 1).a false = (⟨⟨1, g.pc, 0, 4⟩, 2, 0⟩, false, false) from rfl) rfl]; exact congrArg (fun d : CoT => d.pass _ _ _) (hn _ rfl rfl)
  · rw [tick_in rfl rfl (show tickM (nmiAt g was 2).a false = (⟨⟨1, g.pc, 0, 4⟩, 3, 0⟩, true, false) from rfl) rfl]; exact congrArg (fun d : CoT => d.pass _ _ _) (hn _ rfl rfl)
  · rw [tick_over rfl rfl (show tickM (nmiAt g was 3).a false = (⟨⟨1, g.pc, 0, 4⟩, 4, 0⟩, false, true) from rfl) rfl]; exact congrArg (fun d : CoT => (d.pass _ _ _).fin _) (hn _ rfl rfl)
  · rw [tick_over rfl rfl (show tickM (nmiAt g was 4).a false = (⟨⟨7, 0, 0, 1⟩, 1, 0⟩, false, true) from rfl) rfl]; exact congrArg (fun d : CoT => (d.pass _ _ _).fin _) (hn _ rfl rfl)
  · rw [tick_in rfl rfl (show tickM (nmiAt g was 5).a false = (⟨⟨3, (g.sp - 1) % 65536, g.pc / 256, 3⟩, 1, 0⟩, false, false) from rfl) rfl]; exact congrArg (fun d : CoT => d.pass _ _ _) (hn _ rfl rfl)
  · rw [tick_in rfl rfl (show tickM (nmiAt g was 6).a false = (⟨⟨3, (g.sp - 1) % 65536, g.pc / 256, 3⟩, 2, 0⟩, false, false) from rfl) rfl]; exact congrArg (fun d : CoT => d.pass _ _ _) (hn _ rfl rfl)
  · rw [tick_over rfl rfl (show tickM (nmiAt g was 7).a false = (⟨⟨3, (g.sp - 1) % 65536, g.pc / 256, 3⟩, 3, 0⟩, true, true) from rfl) rfl]; exact congrArg (fun d : CoT => (d.pass _ _ _).fin _) (hn _ rfl rfl)
  · rw [tick_in rfl rfl (show tickM (nmiAt g was 8).a false = (⟨⟨3, (g.sp - 2) % 65536, g.pc % 256, 3⟩, 1, 0⟩, false, false) from rfl) rfl]; exact congrArg (fun d : CoT => d.pass _ _ _) (hn _ rfl rfl)
  · rw [tick_in rfl rfl (show tickM (nmiAt g was 9).a false = (⟨⟨3, (g.sp - 2) % 65536, g.pc % 256, 3⟩, 2, 0⟩, false, false) from rfl) rfl]; exact congrArg (fun d : CoT => d.pass _ _ _) (hn _ rfl rfl)
theorem nmi_end (g : Rg) {was v : Bool} (h : (v && !was) = false) : tickC (nmiAt g was 10) (lnN v) 0 = nopAt (nmiG g) 0 false v := by
  have hn : (nmiAt g was 10).note (lnN v).nmi = { nmiAt g was 10 with nmi := false, was := v } := by
    unfold CoT.note
    rw [show (nmiAt g was 10).nmi = false from rfl, show (nmiAt g was 10).was = was from rfl, show (lnN v).nmi = v from rfl, Bool.false_or, h]
  rw [tick_over rfl rfl (show tickM (nmiAt g was 10).a false = (⟨⟨3, (g.sp - 2) % 65536, g.pc % 256, 3⟩, 3, 0⟩, true, true) from rfl) rfl, hn]
  have e1 : ∀ d : CoT, d = (({ nmiAt g was 10 with nmi := false, was := v } : CoT).pass ⟨⟨3, (g.sp - 2) % 65536, g.pc % 256, 3⟩, 3, 0⟩ true 0).fin1 false → d = nopAt (nmiG g) 0 false v → (({ nmiAt g was 10 with nmi := false, was := v } : CoT).pass ⟨⟨3, (g.sp - 2) % 65536, g.pc % 256, 3⟩, 3, 0⟩ true 0).fin (lnN v) = nopAt (nmiG g) 0 false v := fun d hd hd2 => by
    unfold CoT.fin
    rw [show (lnN v).irq = false from rfl, ← hd, hd2]
    rfl
  refine e1 (nopAt (nmiG g) 0 false v) ?_ rfl
  show nopAt (nmiG g) 0 false v = ({ (⟨g, 1, [0, 0, 0, 0], ⟨⟨3, (g.sp - 2) % 65536, g.pc % 256, 3⟩, 3, 0⟩, 0, false, v, false⟩ : CoT) with nmi := false }.start (nmiG g) 0)
  unfold CoT.start
  rw [acc_ask]
  rfl
def lineN (f t n : Nat) : Bool := decide (f ≤ n ∧ n < t)
def wasN (f t : Nat) : Nat → Bool | 0 => false | n + 1 => lineN f t n
theorem rise_no {f t n : Nat} (h : f < n) : (lineN f t n && !wasN f t n) = false := by
  cases n with
  | zero => omega
  | succ n =>
    show (decide (f ≤ n + 1 ∧ n + 1 < t) && !decide (f ≤ n ∧ n < t)) = false
    by_cases h1 : n + 1 < t
    · rw [decide_eq_true (show f ≤ n ∧ n < t by omega)]; simp
    · rw [decide_eq_false (show ¬ (f ≤ n + 1 ∧ n + 1 < t) by omega)]; rfl
theorem rise_all {f t n : Nat} (h : f < t) : (decide (f < n) || (lineN f t n && !wasN f t n)) = decide (f < n + 1) := by
  by_cases h1 : f < n
  · rw [decide_eq_true h1, decide_eq_true (show f < n + 1 by omega)]; rfl
  · by_cases h2 : f = n
    · subst h2
      have : wasN f t f = false := by
        cases f with
        | zero => rfl
        | succ n => exact decide_eq_false (by omega)
      rw [this, decide_eq_true (show f < f + 1 by omega), show lineN f t f = true from decide_eq_true ⟨Nat.le_refl _, h⟩]
      simp
    · rw [decide_eq_false h1, decide_eq_false (show ¬ f < n + 1 by omega), show lineN f t n = false from decide_eq_false (by omega)]; rfl
def NmiI (g : Rg) (f t n : Nat) (c : CoT) (tk : Int) : Prop :=
  (n ≤ 3 ∧ tk = 0 ∧ c = nopAt g (n : Nat) (decide (f < n)) (wasN f t n)) ∨
  (4 ≤ n ∧ n ≤ 14 ∧ tk = 1 ∧ ∃ h : Rg, c = nmiAt h (wasN f t n) (n - 4)) ∨
  (15 ≤ n ∧ tk = 1 ∧ ∃ h : Rg, h.halted = false ∧ (n ≤ 15 → h.pc = 102) ∧ c = nopAt h (((n - 15) % 4 : Nat) : Int) false (wasN f t n))
def cntB (c d : CoT) : Bool := d.wh == 1 && (c.wh != 1 || (freshB d && (d.got.isEmpty && d.a.k == 0)))
theorem nmi_wh (g : Rg) (was : Bool) (j : Nat) : (nmiAt g was j).wh = 1 := by unfold nmiAt; split <;> rfl
theorem nmi_not (g : Rg) (was : Bool) {j : Nat} (h : 0 < j) : freshB (nmiAt g was j) = false := by
  unfold nmiAt
  split <;> first | omega | rfl
theorem nmiI_zero {g : Rg} {f t : Nat} : NmiI g f t 0 (newM g) 0 := by
  refine .inl ⟨by omega, rfl, ?_⟩
  unfold newM CoT.start
  rw [acc_ask]
  rfl
theorem nmiI_step {g : Rg} {f t n : Nat} {c : CoT} {tk : Int} (hh : g.halted = false) (hf : f ≤ 3) (ht : f < t) (h : NmiI g f t n c tk) :
    NmiI g f t (n + 1) (tickC c (lnN (lineN f t n)) 0) (if cntB c (tickC c (lnN (lineN f t n)) 0) = true then tk + 1 else tk) ∧ (n = 3 → (tickC c (lnN (lineN f t n)) 0).wh = 1) ∧ (n = 14 → (tickC c (lnN (lineN f t n)) 0).r.pc = 102) := by
  rcases h with ⟨h3, rfl, rfl⟩ | ⟨h4, h14, rfl, h, rfl⟩ | ⟨h15, rfl, h, hhh, hpc, rfl⟩
  · by_cases e : n = 3
    · subst e
      have hr := rise_all (f := f) (t := t) (n := 3) ht
      have hk := nop_end hh (decide (f < 3)) (wasN f t 3) (lineN f t 3)
      rw [hr, decide_eq_true (show f < 3 + 1 by omega), if_pos rfl] at hk
      rw [show ((3 : Nat) : Int) = 3 from rfl, hk]
      exact ⟨.inr (.inl ⟨by omega, by omega, rfl, _, rfl⟩), fun _ => rfl, fun e => by omega⟩
    · have hk := nop_in g (k := n) (by omega) (decide (f < n)) (wasN f t n) (lineN f t n)
      rw [rise_all ht] at hk
      rw [hk]
      exact ⟨.inl ⟨by omega, rfl, rfl⟩, fun e' => absurd e' e, fun e' => by omega⟩
  · have hr : (lineN f t n && !wasN f t n) = false := rise_no (by omega)
    by_cases e : n = 14
    · subst e
      have hk := nmi_end h hr
      rw [show 14 - 4 = 10 from rfl, hk]
      exact ⟨.inr (.inr ⟨by omega, rfl, nmiG h, rfl, fun _ => rfl, rfl⟩), fun e => by omega, fun _ => rfl⟩
    · have hk := nmi_in h hr (j := n - 4) (by omega)
      rw [hk, show n - 4 + 1 = n + 1 - 4 by omega]
      have hc : cntB (nmiAt h (wasN f t n) (n - 4)) (nmiAt h (lineN f t n) (n + 1 - 4)) = false := by
        unfold cntB
        rw [nmi_wh, nmi_wh, nmi_not _ _ (by omega)]
        rfl
      rw [hc]
      exact ⟨.inr (.inl ⟨by omega, by omega, rfl, h, rfl⟩), fun e => nmi_wh _ _ _, fun e' => absurd e' e⟩
  · have hr : (lineN f t n && !wasN f t n) = false := rise_no (by omega)
    by_cases e : (n - 15) % 4 = 3
    · have hk := nop_end hhh false (wasN f t n) (lineN f t n)
      rw [Bool.false_or, hr, if_neg (by simp)] at hk
      rw [e, show ((3 : Nat) : Int) = 3 from rfl, hk]
      refine ⟨.inr (.inr ⟨by omega, rfl, nopG h, hhh, fun e => by omega, ?_⟩), fun e => by omega, fun e => by omega⟩
      rw [show (n + 1 - 15) % 4 = 0 by omega]
      rfl
    · have hk := nop_in h (k := (n - 15) % 4) (by omega) false (wasN f t n) (lineN f t n)
      rw [Bool.false_or, hr] at hk
      rw [hk]
      refine ⟨.inr (.inr ⟨by omega, rfl, h, hhh, fun e => by omega, ?_⟩), fun e => by omega, fun e => by omega⟩
      rw [show (n + 1 - 15) % 4 = (n - 15) % 4 + 1 by omega]
      rfl
theorem nmiI_end {g : Rg} {f t : Nat} {c : CoT} {tk : Int} (h : NmiI g f t 60 c tk) : tk = 1 := by
  rcases h with ⟨h, _⟩ | ⟨_, _, h, _⟩ | ⟨_, h, _⟩
  · omega
  · exact h
  · exact h
def awC (i : Nat) : CoT := if i < 4 then nopAt zeroRg (i : Nat) false false else nopAt (nopG zeroRg) 0 false false
theorem awC_got (i : Nat) : (awC i).got = [] := by unfold awC; split <;> rfl
theorem awC_new : newM zeroRg = awC 0 := by
  unfold newM CoT.start
  rw [acc_ask]
  rfl
theorem awC_step {i : Nat} (h : i < 4) : tickC (awC i) zeroLn 0 = awC (i + 1) := by
  unfold awC
  rw [if_pos h]
  by_cases h3 : i < 3
  · rw [if_pos (by omega)]
    exact nop_in zeroRg h3 false false false
  · obtain rfl : i = 3 := by omega
    exact nop_end (g := zeroRg) rfl false false false
theorem awC_ok (i : Nat) : OkC (awC i) := by
  refine ⟨?_, by rw [awC_got]; exact b8_nil, ?_⟩
  · unfold awC
    split
    · exact zeroRg_b
    · show RgB (nopG zeroRg)
      constructor <;> first | exact ⟨by decide, by decide⟩ | decide
  · unfold awC; split <;> exact B8.zero
structure AwX where
  i : Nat
  A : Option Addr
  cap : Nat
  y : Nat → Value
def awB18 (b1 b2 : Nat) (x : AwX) : List Value := [x.y 0, pT b1 0, pT b2 0, .bool false, .int .i64 (x.i : Int), x.y 5, x.y 6, x.y 7, x.y 8, x.y 9, x.y 10, x.y 11, x.y 12, x.y 13, x.y 14, x.y 15, x.y 16, x.y 17, x.y 18, x.y 19, x.y 20, x.y 21, x.y 22, x.y 23, x.y 24, x.y 25, x.y 26, x.y 27, x.y 28, x.y 29, x.y 30, x.y 31, x.y 32, x.y 33, x.y 34, x.y 35, x.y 36, x.y 37, x.y 38, x.y 39, x.y 40, x.y 41, x.y 42, x.y 43]
structure AwI (w : World) (b1 b2 : Nat) (x : AwX) (W : World) : Prop where
  le : x.i ≤ 4
  r1 : Row W b1 33 (coC (awC x.i) (.slice x.A 0 x.cap))
  r2 : Row W b2 29 (cyC zeroCy)
  hn : x.A = none → x.cap = 0
  low : Below w.heap.size w W
theorem cy_eqz (w : World) : (binOp .eql 29 (cyV zeroCy) (cyV zeroCy)).run Tryz.prog w = .ok (.bool true) w := by kernel_rfl
def cyF : Cy := ⟨1, 1, 0, 4⟩
theorem cy_eqf (w : World) : (binOp .eql 29 (cyV cyF) (cyV cyF)).run Tryz.prog w = .ok (.bool true) w := by kernel_rfl
theorem awake18_any (hA : AccOk) (w : World) (ht : Tabs w w.heap.size) (hS : Samps w) : Calls Tryz.prog 9 #[] w fun e w' => e = .returned (.bool true) ∧ Below w.heap.size w w' := by
  have KN := fun (W : World) (h : Tabs W W.heap.size) => cnew_any zeroRg zeroRg_b W h
  rw [awC_new] at KN
  have KA := fun (W : World) (h : Samps W) => casks_any (awC 0) none 0 0 zeroLn W h
  rw [show asksC (awC 0) zeroLn = zeroCy from rfl, show asksB (awC 0) zeroLn = false from rfl] at KA
  go_enter Tryz.func9, Tryz.ntmps9
  refine coStart <| qQ [] (Many.begin w) fun w1 k1 => coR <| qR 1 [] k1 fun w2 k2 => qC (KN w2 (ht.below k2.touch.below)) k2 fun w3 k3 => qE [0] k3 fun w4 k4 => coR <| qR 2 [0] k4 fun w5 k5 => qC (KA w5 (hS.below k5.touch.below)) k5 fun w6 k6 => qE [1] k6 fun w7 k7 => coS <| qQ [] k7 fun w8 k8 => coB <| ?_
  have r1 : Row w8 w3.heap.size 33 (coC (awC 0) (.slice none 0 0)) := k8.row 0 (coC (awC 0) (.slice none 0 0)).toList (by kernel_rfl)
  have r2 : Row w8 w6.heap.size 29 (cyC zeroCy) := k8.row 1 (cyC zeroCy).toList (by kernel_rfl)
  have hb1 : w.heap.size ≤ w3.heap.size := k3.touch.size
  have hb2 : w3.heap.size < w6.heap.size := k6.lt 0 ⟨w3.heap.size, 33, (coC (awC 0) (.slice none 0 0)).toList.map some⟩ (by kernel_rfl)
  have low8 := k8.touch.below
  refine coLoop (awB18 w3.heap.size w6.heap.size) (AwI w w3.heap.size w6.heap.size) (fun x => 5 - x.i) (fun y => ⟨0, none, 0, y⟩) ⟨Nat.zero_le _, r1, r2, fun _ => rfl, low8⟩ ?_
  clear k1 k2 k3 k4 k5 k6 k7 k8 r1 r2 low8
  generalize w3.heap.size = b1 at *
  generalize w6.heap.size = b2 at *
  rintro ⟨i, A, cap, y⟩ W ⟨hi, r1, r2, hn, low⟩
  dsimp only at hi r1 r2 hn low
  refine coS <| qQ [] (Many.begin W) fun wa ka => coI (decide ((i : Int) < 4)) (fun hlt => coSkip <| eoT <| coS <| coB <| ?_) fun hge => coX <| eoTx <| eoTx <| eoBx <| eoT ?_
  · have hi4 : i < 4 := by
      have : (i : Int) < 4 := by simpa using hlt
      omega
    have r1a := r1.below ka.touch.below r1.lt
    have r2a := r2.below ka.touch.below r2.lt
    have lowa := bOn low ka
    obtain ⟨c, hc⟩ : ∃ c, c = awC i := ⟨_, rfl⟩
    obtain ⟨d, hd⟩ : ∃ d, d = awC (i + 1) := ⟨_, rfl⟩
    have hgc : c.got = [] := by rw [hc]; exact awC_got i
    have hgd : d.got = [] := by rw [hd]; exact awC_got _
    rw [← hc] at r1a
    have KT := fun (W : World) (h : Tabs W W.heap.size) (h2 : Samps W) => ctick18_any hA c (by rw [hc]; exact awC_ok i) zeroLn 0 B8.zero (.slice A 0 cap) (by rw [hgc]; exact Nat.zero_le _) W ⟨A, cap, by rw [hgc]; rfl, by rw [hgc]; exact Nat.zero_le _, by rw [hgc]; exact BytesIn.nil _ _ _, hn⟩ h h2
    rw [show tickC c zeroLn 0 = d by rw [hc, hd]; exact awC_step hi4] at KT
    refine coZ <| qR 2 [0] (Many.two r1a r2a (by omega)) fun wb kb => ?_
    have lowb : Below w.heap.size w wb := Kept.low lowa (Kept.of_touch kb.touch) lowa.size fun x e => by simp at e; omega
    refine kX (KT wb (ht.below lowb) (hS.below lowb)) fun e wc ⟨v', he, hgo, _, hb⟩ => ⟨_, he, ?_⟩
    obtain ⟨A', cap', rfl, -, -, hn'⟩ := hgo
    rw [hgd]
    refine qF [0] (kb.below hb) fun wd kd => eoB <| eoT <| coZ <| qR 1 [] kd fun we ke => wM (xInc i (by omega)) <| qF [] ke fun wf kf => eoRound (fun y => ⟨i + 1, A', cap', y⟩) ⟨by show i + 1 ≤ 4; omega, ?_, kf.row 1 (cyC zeroCy).toList (by kernel_rfl), hn', ?_⟩ (by show 5 - (i + 1) < 5 - i; omega)
    · rw [← hd]
      exact kf.row 0 (coC d (.slice A' 0 cap')).toList (by kernel_rfl)
    · exact Kept.low lowa (Kept.of_touch kf.touch) lowa.size fun x e => by simp at e; omega
  · obtain rfl : i = 4 := by
      have : ¬ (i : Int) < 4 := by simpa using hge
      omega
    have e4 : awC 4 = nopAt (nopG zeroRg) 0 false false := rfl
    have r1a := r1.below ka.touch.below r1.lt
    have r2a := r2.below ka.touch.below r2.lt
    have lowa := bOn low ka
    have KF := fun W => cfresh_any (awC 4) A cap W
    rw [show freshB (awC 4) = true from rfl] at KF
    refine coR <| qR 3 [0] (Many.two r1a r2a (by omega)) fun wb kb => kBj 23 (regsV (nopG zeroRg)) (regsV (nopG zeroRg)) (.bool true) (regs_guard _ _ _ _ _) (regs_eql _) <| qR 2 [0] kb fun wc kc => qC (KF wc) kc fun wd kd => qR 8 [1] kd fun we ke => kBj 35 (cyV zeroCy) (cyV zeroCy) (.bool true) (cy_guard _ _ _ _ _) cy_eqz <| qR 6 [0] ke fun wf kf => kBj 42 (cyV cyF) (cyV cyF) (.bool true) (cy_guard _ _ _ _ _) cy_eqf <| qE [] kf fun wg kg => coRet <| eoIr (.bool true) ⟨rfl, Kept.low lowa (Kept.of_touch kg.touch) lowa.size fun x e => by simp at e; omega⟩
def strC (l : List Int) : ByteArray := ⟨(l.map (fun x => UInt8.ofNat x.toNat)).toArray⟩
theorem byteC {x : Int} (h : B8 x) : ((UInt8.ofNat x.toNat).toNat : Int) = x := by
  have h1 := h.1
  have h2 := h.2
  have e : (UInt8.ofNat x.toNat).toNat = x.toNat % 256 := UInt8.toNat_ofNat'
  omega
theorem conv_got {W : World} {B : Nat} {A : Option Addr} {l : List Int} (cap : Nat) (h : BytesIn W B A l) (hl : Bytes8 l) :
    (convert 26 9 (.slice A l.length cap)).run Tryz.prog W = .ok (.string (strC l)) W := by
  cases A with
  | none =>
    have hx : l = [] := by
      cases l with
      | nil => rfl
      | cons y ys => obtain ⟨ad, e, -⟩ := h 0 y rfl; cases e
    subst hx
    refine (run_convert_bytes_string W 26 9 5 none 0 cap Tryz.underlying26 Tryz.underlying5 Tryz.underlying9).trans ?_
    rfl
  | some p =>
    have hlen : (l.map (fun x => UInt8.ofNat x.toNat)).length = l.length := by simp
    have k := run_convert_bytes_back (P := Tryz.prog) W 26 9 5 p cap (l.map (fun x => UInt8.ofNat x.toNat)) Tryz.underlying26 Tryz.underlying5 Tryz.underlying9 (fun j hj => by
      have hj' : j < l.length := by simpa using hj
      obtain ⟨q, e, -, h1⟩ := h j l[j] (List.getElem?_eq_getElem hj')
      cases e
      rw [h1]
      have hb := byteC (hl l[j] (List.getElem_mem hj'))
      simp only [List.getElem_map]
      rw [hb])
    rw [hlen] at k
    exact k
theorem coat_same (a : AtT) (w : World) : (Op.equalIn 10000 35 (atV a) (atV a)).run Tryz.prog w = .ok true w := by
  unfold atV atC
  rw [run_equalIn_agg (P := Tryz.prog) w 9999 35 _ _ (by kernel_rfl) (by kernel_rfl)]
  simp [go_sem]
theorem coat_eql (a : AtT) (w : World) : (binOp .eql 35 (atV a) (atV a)).run Tryz.prog w = .ok (.bool true) w := by
  have h := coat_same a w
  unfold atV at *
  rw [run_eql_struct, h]
  rfl
theorem coat_guard (op : BinOp) (a b : AtT) (x y : Operand) (w : World) : (eqGuard op 35 x y (atV a) (atV b)).run Tryz.prog w = .ok () w := by
  unfold atV
  exact run_eqGuard_agg (P := Tryz.prog) w op _ x y _ _ (by kernel_rfl)
theorem e18B (b : Bool) (w : World) : (binOp .eql 4 (.bool b) (.bool b)).run Tryz.prog w = .ok (.bool true) w := by simp [go_sem]
theorem g18B (op : BinOp) (x y : Operand) (a b : Bool) (w : World) : (eqGuard op 4 x y (.bool a) (.bool b)).run Tryz.prog w = .ok () w := by simp [go_sem]
theorem e18I (n : Int) (w : World) : (binOp .eql 3 (.int .i64 n) (.int .i64 n)).run Tryz.prog w = .ok (.bool true) w := by simp [go_sem]
theorem e18U (n : Int) (w : World) : (binOp .eql 5 (.int .u8 n) (.int .u8 n)).run Tryz.prog w = .ok (.bool true) w := by simp [go_sem]
theorem g18U (op : BinOp) (x y : Operand) (a b : Int) (w : World) : (eqGuard op 5 x y (.int .u8 a) (.int .u8 b)).run Tryz.prog w = .ok () w := by simp [go_sem]
theorem e18S (s : ByteArray) (w : World) : (binOp .eql 9 (.string s) (.string s)).run Tryz.prog w = .ok (.bool true) w := by simp [go_sem]
theorem g18S (op : BinOp) (x y : Operand) (a b : ByteArray) (w : World) : (eqGuard op 9 x y (.string a) (.string b)).run Tryz.prog w = .ok () w := by simp [go_sem]
theorem same18_any (c : CoT) (h8 : Bytes8 c.got) (u v : Value) (w : World) (hu : GotIn w w.heap.size u c.got) (hv : GotIn w w.heap.size v c.got) : Calls Tryz.prog 19 #[coV c u, coV c v] w fun e w' => e = .returned (.bool true) ∧ Below w.heap.size w w' := by
  obtain ⟨A, cap, rfl, -, h1, -⟩ := hu
  obtain ⟨A', cap', rfl, -, h2, -⟩ := hv
  go_enter Tryz.func19, Tryz.ntmps19
  exact coStart <| qQ [] (Many.begin w) fun w1 k1 => coR <| qR 4 [0, 1] k1 fun w2 k2 => kBj 9 (regsV c.r) (regsV c.r) (.bool true) (regs_guard _ _ _ _ _) (regs_eql c.r) <| qR 5 [0, 1] k2 fun w3 k3 => kBj 15 (.int .i64 c.wh) (.int .i64 c.wh) (.bool true) (egI _ _ _ _ _) (e18I c.wh) <| qR 4 [0] k3 fun w4 k4 => wM (xConv (conv_got cap (h1.below k4.touch.below) h8)) <| qR 2 [1] k4 fun w5 k5 => wM (xConv (conv_got cap' (h2.below k5.touch.below) h8)) <|
    kBj 24 (.string (strC c.got)) (.string (strC c.got)) (.bool true) (g18S _ _ _ _ _) (e18S _) <| qR 6 [0, 1] k5 fun w6 k6 => kBj 31 (atV c.a) (atV c.a) (.bool true) (coat_guard _ _ _ _ _) (coat_eql c.a) <| qR 6 [0, 1] k6 fun w7 k7 => kBj 38 (.int .u8 c.b) (.int .u8 c.b) (.bool true) (g18U _ _ _ _ _) (e18U c.b) <| qR 6 [0, 1] k7 fun w8 k8 => kBj 45 (.bool c.nmi) (.bool c.nmi) (.bool true) (g18B _ _ _ _ _) (e18B c.nmi) <|
    qR 6 [0, 1] k8 fun w9 k9 => kBj 52 (.bool c.was) (.bool c.was) (.bool true) (g18B _ _ _ _ _) (e18B c.was) <| qR 6 [0, 1] k9 fun wa ka => kBj 59 (.bool c.off) (.bool c.off) (.bool true) (g18B _ _ _ _ _) (e18B c.off) <| qE [] ka fun wb kb => coRet <| eoIr (.bool true) ⟨rfl, kb.touch.below⟩
theorem plain18_any (c : CoT) (A : Option Addr) (n cap : Nat) (w : World) : Calls Tryz.prog 20 #[coV c (.slice A n cap)] w fun e w' => e = .returned (coV c (.slice A n cap)) ∧ Below w.heap.size w w' := by
  go_enter Tryz.func20, Tryz.ntmps20
  exact coStart <| qQ [] (Many.begin w) fun w1 k1 => qQ [0, 0, 0, 0, 0, 0, 0, 0, 0, 0, 1] k1 fun w2 k2 => coRet <| eoK1 (k2.row 1 (b := w.heap.size + 1) (t := 37) (coC c (.slice A n cap)).toList (by kernel_rfl)) ⟨rfl, k2.touch.below⟩
def ExB (X : Except Cy (Ms × List Int)) : Prop := match X with | .ok (s, _) => MsB s | .error c => CyW c
theorem exec_b {W : World} (ht : Tabs W W.heap.size) {s : Ms} (hs : MsB s) {c : Int} (hc : B8 c) {xs : List Int} (hx : Bytes8 xs) : ExB (execN xs c s.noLate) := by
  have r1 := Row.new W 5 (bvs xs).toArray
  have b1 := Below.alloc (Below.refl W.heap.size W) (Nat.le_refl _) (.cells (bvs xs).toArray 5)
  generalize W.alloc (.cells (bvs xs).toArray 5) = w1 at *
  have h1 : Tabs w1 w1.heap.size := ht.below b1
  have hy := plane_row r1
  have r2 := Row.new w1 118 (mC s (some ⟨W.heap.size, 0, none⟩) xs.length xs.length)
  have b2 := Below.alloc (Below.refl w1.heap.size w1) (Nat.le_refl _) (.cells (mC s (some ⟨W.heap.size, 0, none⟩) xs.length xs.length) 118)
  generalize w1.alloc (.cells (mC s (some ⟨W.heap.size, 0, none⟩) xs.length xs.length) 118) = w2 at *
  have hat : AtN w2 w1.heap.size w1.heap.size s xs := ⟨⟨_, _, Nat.le_refl _, r2, hy.below b2⟩, Nat.le_refl _, hx, hs, h1.keep fun b hb => b2.block b hb⟩
  obtain ⟨e, w', fr, hO, -⟩ := m_instruction c hc hat []
  unfold ExB
  cases hX : execN xs c s.noLate with
  | error d =>
    rw [hX] at hO
    have hO : _ ∧ BesC _ d _ _ := hO
    exact hO.2.cyw
  | ok q =>
    rw [hX] at hO
    have hO : _ ∧ NowN _ _ _ q.1 q.2 _ := hO
    exact hO.2.at_.ms
theorem ofX_b {X : Except Cy (Ms × List Int)} (h : ExB X) : ((ofX X).b = true → RgB (ofX X).g) ∧ ((ofX X).b = false → Wd16 (ofX X).c.addr ∧ B8 (ofX X).c.data) := by
  rcases X with c | ⟨s, ys⟩
  · exact ⟨fun e => (by cases e), fun _ => h⟩
  · have h : MsB s := h
    exact ⟨fun _ => h.r, fun e => (by cases e)⟩
theorem told_b {l : List Cy} {g : Rg} (hl : ∀ c ∈ l, CyW c) (n : Nat) (hg : l.length ≤ n → RgB g) : ((toldT l g n).b = true → RgB (toldT l g n).g) ∧ ((toldT l g n).b = false → Wd16 (toldT l g n).c.addr ∧ B8 (toldT l g n).c.data) := by
  unfold toldT
  split
  · rename_i hn
    refine ⟨fun e => (by cases e), fun _ => ?_⟩
    have e : (askT (l.getD n zeroCy)).c = l[n] := by rw [List.getD_eq_getElem?_getD, List.getElem?_eq_getElem hn]; rfl
    rw [e]
    exact hl _ (List.getElem_mem hn)
  · exact ⟨fun _ => hg (by omega), fun e => (by cases e)⟩
theorem push_b {sp pc : Int} (hp : Wd16 pc) : ∀ c ∈ pushL sp pc, CyW c := by
  intro c h
  simp only [pushL, List.mem_cons, List.not_mem_nil, or_false] at h
  rcases h with rfl | rfl | rfl
  · exact ⟨Wd16.zero, B8.zero⟩
  · exact ⟨Wd16.mod _, hp.hi⟩
  · exact ⟨Wd16.mod _, hp.lo8⟩
theorem table_b {a : Int} (ha : Wd16 a) : ∀ c ∈ tableL a, CyW c := by
  intro c h
  simp only [tableL, List.mem_cons, List.not_mem_nil, or_false] at h
  rcases h with rfl | rfl
  · exact ⟨ha, B8.zero⟩
  · exact ⟨Wd16.mod _, B8.zero⟩
theorem jump_b {g : Rg} (h : RgB g) {aim : Int} (ha : Wd16 aim) : RgB (jumpG g aim) := ⟨h.af, h.bc, h.de, h.hl, h.af2, h.bc2, h.de2, h.hl2, h.ix, h.iy, Wd16.mod _, ha, ha, h.i, h.r, h.mode⟩
theorem two_wd {a b : Int} (ha : B8 a) (hb : B8 b) : Wd16 (256 * a + b) := by
  obtain ⟨a0, a1⟩ := ha
  obtain ⟨b0, b1⟩ := hb
  exact ⟨by omega, by omega⟩
theorem acc_ok {W : World} (ht : Tabs W W.heap.size) : AccOk := by
  intro g which xs hg hx
  unfold accOf
  split
  · cases xs with
    | nil => exact ⟨fun e => (by cases e), fun _ => ⟨hg.pc, B8.zero⟩⟩
    | cons v ys => exact told_b (push_b hg.pc) _ fun _ => jump_b (hg.beg _ _) ⟨by decide, by decide⟩
  · split
    · cases xs with
      | nil => exact ⟨fun e => (by cases e), fun _ => ⟨hg.pc, B8.zero⟩⟩
      | cons v ys =>
        have hv := hx.head
        show ((irqT g v ys).b = true → RgB (irqT g v ys).g) ∧ ((irqT g v ys).b = false → Wd16 (irqT g v ys).c.addr ∧ B8 (irqT g v ys).c.data)
        unfold irqT
        split
        · split
          · exact ⟨fun _ => hg.beg _ _, fun e => (by cases e)⟩
          · exact ofX_b (exec_b ht (ms0_b (hg.beg false false)) hv hx.tail)
        · split
          · exact told_b (push_b hg.pc) _ fun _ => jump_b (hg.beg _ _) ⟨by decide, by decide⟩
          · exact told_b (fun c hc => (List.mem_append.1 hc).elim (push_b hg.pc c) (table_b (two_wd hg.i hv) c)) _ fun _ => jump_b (hg.beg _ _) (two_wd (hx.tail.getD 4) (hx.tail.getD 3))
    · refine ofX_b ?_
      cases xs with
      | nil => rw [next_nil]; exact ⟨hg.pc, B8.zero⟩
      | cons b bs =>
        have ht1 : RgB (tickG g 1) := hg.tick 1
        cases hh : g.halted with
        | true =>
          rw [next_halt hh]
          have h0 := ms0_b hg
          exact ⟨ht1, h0.plane, h0.x, h0.y, h0.z, h0.p, h0.q, h0.spot⟩
        | false =>
          rw [next_cons hh]
          have h0 := ms0_b hg
          have hB : MsB ({ ms0 g with r := tickG g 1 } : Ms).pcUp := ⟨⟨ht1.af, ht1.bc, ht1.de, ht1.hl, ht1.af2, ht1.bc2, ht1.de2, ht1.hl2, ht1.ix, ht1.iy, ht1.sp, Wd16.mod _, ht1.wz, ht1.i, ht1.r, ht1.mode⟩, .inl rfl, h0.x, h0.y, h0.z, h0.p, h0.q, h0.spot⟩
          exact exec_b ht hB hx.head hx.tail
theorem e18W (n : Int) (w : World) : (binOp .eql 22 (.int .u16 n) (.int .u16 n)).run Tryz.prog w = .ok (.bool true) w := by simp [go_sem]
theorem coreReset_walk (c : CoT) (A : Option Addr) (cap : Nat) (l : LnT) (b : Int) (hb0 : 0 ≤ b) (hb1 : b ≤ 255) (hg : RgB c.r) (hcb : B8 c.b) (w : World) (hl : c.got.length ≤ cap) (hm : cap ≤ maxLen) (h8 : Bytes8 c.got) (hin : BytesIn w w.heap.size A c.got) (hn : A = none → cap = 0) (hS : Samps w) (hM : Masks w) (hD : Digits w) (hC : Courses w) (hO : Modes w) :
    Calls Tryz.prog 7 #[coV c (.slice A c.got.length cap), lnV l, .int .u8 b] w fun e w' => e = .returned (.bool true) ∧ Below w.heap.size w w' := by
  have ht : Tabs w w.heap.size := (NextTabs.mk hM hC hD hO).tabs
  have hA : AccOk := acc_ok ht
  have hc : OkC c := ⟨hg, h8, hcb⟩
  obtain ⟨y, hy⟩ : ∃ y, y = (accOf (resetG c.r) 0 []).c := ⟨_, rfl⟩
  have eN : newM (resetG c.r) = ⟨resetG c.r, 0, [], at0 y, 0, false, false, false⟩ := by rw [hy]; rfl
  obtain ⟨wait, bus, irq, ln, rs⟩ := l
  obtain ⟨m, hml⟩ : ∃ m : LnT, m = ⟨wait, bus, irq, ln, true⟩ := ⟨_, rfl⟩
  have eT : tickC c m b = ⟨resetG c.r, 0, [], at0 y, 0, false, ln, false⟩ := by
    rw [tick_reset (by rw [hml]), eN, hml]
  have eA : asksB c m = false := by unfold asksB; rw [hml]; rfl
  have eE : endsB c m b = false := by unfold endsB overB; rw [hml]; rfl
  have hgi : GotIn w w.heap.size (.slice A c.got.length cap) c.got := ⟨A, cap, rfl, hl, hin, hn⟩
  go_enter Tryz.func7, Tryz.ntmps7
  refine coStart <| qQ [] (Many.begin w) fun w1 k1 => coR <| qC (awake18_any hA w1 (ht.below k1.touch.below) (hS.below k1.touch.below)) k1 fun w2 k2 => qE [] k2 fun w3 k3 => coS <| qQ [] k3 fun w4 k4 => coF <| coSkip <| eoT <| coS <| qQ [0] k4 fun w5 k5 => coI (decide ((c.got.length : Int) > 30)) (fun h1 => qQ [] k5 fun w6 k6 => coRet <| eoTr <| eoIr (.bool true) ⟨rfl, k6.touch.below⟩) fun h1 => coSkip <| eoT ?_
  have h30 : c.got.length ≤ 30 := by
    have : ¬ (c.got.length : Int) > 30 := by simpa using h1
    omega
  have KT := fun (W : World) (h : Below w.heap.size w W) => ctick18_any hA c hc m b ⟨hb0, hb1⟩ (.slice A c.got.length cap) (by omega) W (hgi.on h) (ht.below h) (hS.below h)
  have KA := fun (W : World) (h : Below w.heap.size w W) => casks_any c A c.got.length cap m W (hS.below h)
  have KE := fun (W : World) (h : Below w.heap.size w W) => cends_any hA c hc m b ⟨hb0, hb1⟩ (.slice A c.got.length cap) (by omega) W (hgi.on h) (ht.below h) (hS.below h)
  rw [eT] at KT
  rw [eA, show asksC c m = zeroCy by unfold asksC; rw [eA]; rfl] at KA
  rw [eE] at KE
  have KN := fun (W : World) (h : Below w.heap.size w W) => cnew_any (resetG c.r) (reset_b hg) W (ht.below h)
  rw [eN] at KN
  rw [hml] at KT KA KE
  refine qQ [1] k5 fun w6 k6 => coR <| qR 3 [0, 1] k6 fun w7 k7 => kX (KT w7 k7.touch.below) fun e w8 ⟨v', he, hgo, _, hb⟩ => ⟨_, he, ?_⟩
  obtain ⟨A', cap', rfl, hg1, hg2, hg3⟩ := hgo
  have k8 := k7.below hb
  have hgo2 : GotIn w8 w8.heap.size (.slice A' 0 cap') [] := ⟨A', cap', rfl, hg1, hg2, hg3⟩
  clear k1 k2 k3 k4 k5 k6 k7
  refine qE [2] k8 fun w9 k9 => coR <| qR 2 [0, 1] k9 fun wa ka => qC (KA wa ka.touch.below) ka fun wb kb => qE [3] kb fun wc kc => qQ [2, 4] kc fun wd kd => qQ [4] kd fun we ke => ?_
  have KF := fun W => cfresh_any ⟨resetG c.r, 0, [], at0 y, 0, false, ln, false⟩ A' cap' W
  rw [show freshB ⟨resetG c.r, 0, [], at0 y, 0, false, ln, false⟩ = true from rfl] at KF
  refine qP 55 ke fun wf kf => qM [0, 1, 2] kf <| qD 0 [3] kf <| qD 1 [4] kf <| qM [5] kf <| qDc 6 (KE wf kf.touch.below) kf fun wg kg => qM [7, 8, 9] kg <| qD 2 [10] kg <| qDc 11 (KF wg) kg fun wh kh => ?_
  refine qM [12, 13] kh <| qD 2 [14, 15, 16] kh <| qM [17, 18, 19] kh <| qD 2 [20, 21, 22] kh <| qD 0 [23, 24, 25] kh <| qT 26 kh (fun w' _ => xBin (guard16 _ _ _ _ _ _) (e18W c.r.sp _)) <| qM [27, 28] kh <| qD 2 [29, 30, 31] kh <| qD 0 [32, 33, 34] kh <| qT 35 kh (fun w' _ => xBin (guard16 _ _ _ _ _ _) (e18W c.r.af _)) <| qM [36, 37] kh ?_
  refine qD 2 [38, 39, 40] kh <| qM [41, 42, 43] kh <| qD 2 [44, 45] kh <| qD 1 [46, 47] kh <| qT 48 kh (fun w' _ => xBin (g18B _ _ _ _ _ _) (e18B ln _)) <| qM [49, 50] kh <| qD 4 [51] kh <| qD 2 [53, 54] kh <| qDc 52 (plain18_any ⟨resetG c.r, 0, [], at0 y, 0, false, false, false⟩ A' 0 cap' wh) kh fun wi ki => poE <| qC (KN wi ki.touch.below) ki fun wj kj => qC (plain18_any ⟨resetG c.r, 0, [], at0 y, 0, false, false, false⟩ none 0 0 wj) kj fun wk kk => ?_
  refine qC (same18_any ⟨resetG c.r, 0, [], at0 y, 0, false, false, false⟩ b8_nil (.slice A' 0 cap') (.slice none 0 0) wk ⟨A', cap', rfl, Nat.zero_le _, BytesIn.nil _ _ _, hg3⟩ (got_nil _ _)) kk fun wl kl => qE [] kl fun wm km => coRet <| eoIr (.bool true) ⟨rfl, km.touch.below⟩
section
open Go.ChangeShapes Go.WideShapes Go.ChangeAt Go.RowKit Go.Deep
theorem list20 {α : Type} (l : List α) (h : l.length = 20) : ∃ a0 a1 a2 a3 a4 a5 a6 a7 a8 a9 a10 a11 a12 a13 a14 a15 a16 a17 a18 a19, l = [a0, a1, a2, a3, a4, a5, a6, a7, a8, a9, a10, a11, a12, a13, a14, a15, a16, a17, a18, a19] := by
  match l, h with
  | [a0, a1, a2, a3, a4, a5, a6, a7, a8, a9, a10, a11, a12, a13, a14, a15, a16, a17, a18, a19], _ => exact ⟨a0, a1, a2, a3, a4, a5, a6, a7, a8, a9, a10, a11, a12, a13, a14, a15, a16, a17, a18, a19, rfl⟩
theorem open_regs1 {H : Type} {enc : TypeId × Value → H} {P : Program} {w : World} {base : Nat} {sp : Nat → Bool} {held : Bool} {t : TypeId} {f0 f1 f2 f3 f4 f5 f6 f7 f8 f9 f10 f11 f12 f13 f14 f15 f16 f17 f18 f19 : Field} {l : List Value} {fuel : Nat} {x : DataW H × List MemPlace}
    (hs : P.underlying t = some (.struct #[f0, f1, f2, f3, f4, f5, f6, f7, f8, f9, f10, f11, f12, f13, f14, f15, f16, f17, f18, f19])) (hone : oneCellFields P #[f0, f1, f2, f3, f4, f5, f6, f7, f8, f9, f10, f11, f12, f13, f14, f15, f16, f17, f18, f19] = true) (hC : P.cellsOf t = 20)
    (u0 : P.underlying f0.type = some (.int .u16)) (u1 : P.underlying f1.type = some (.int .u16)) (u2 : P.underlying f2.type = some (.int .u16)) (u3 : P.underlying f3.type = some (.int .u16)) (u4 : P.underlying f4.type = some (.int .u16)) (u5 : P.underlying f5.type = some (.int .u16)) (u6 : P.underlying f6.type = some (.int .u16)) (u7 : P.underlying f7.type = some (.int .u16)) (u8 : P.underlying f8.type = some (.int .u16)) (u9 : P.underlying f9.type = some (.int .u16)) (u10 : P.underlying f10.type = some (.int .u16)) (u11 : P.underlying f11.type = some (.int .u16)) (u12 : P.underlying f12.type = some (.int .u16)) (u13 : P.underlying f13.type = some (.int .u8)) (u14 : P.underlying f14.type = some (.int .u8)) (u15 : P.underlying f15.type = some .bool) (u16 : P.underlying f16.type = some .bool) (u17 : P.underlying f17.type = some .bool) (u18 : P.underlying f18.type = some .bool) (u19 : P.underlying f19.type = some (.int .i64))
    (hf : DataW.trod enc P w base sp held fuel t l = some x) : ∃ g : Rg, l = (regsC g).toList ∧ RgB g := by
  obtain ⟨xs, n, -, -, hsz, hlen, hg⟩ := DataW.trod_struct hs hf
  rw [hC] at hsz
  have hlen : xs.length = 20 := hlen
  have cell : ∀ (k : Nat) (f : Field), #[f0, f1, f2, f3, f4, f5, f6, f7, f8, f9, f10, f11, f12, f13, f14, f15, f16, f17, f18, f19][k]? = some f → ∃ u z, l[k]? = some u ∧ DataW.trod enc P w base sp held n f.type [u] = some z := by
    intro k f hk
    obtain ⟨ho, h1⟩ := hone_of hone k f hk
    have hkl : k < 20 := (Array.getElem?_eq_some_iff.1 hk).1
    have h2 := hg k f hk
    rw [ho, h1] at h2
    have e1 : (l.drop k).take 1 = [l[k]'(by omega)] := by
      rw [List.drop_eq_getElem_cons (by omega)]
      rfl
    rw [e1, List.getElem?_eq_getElem (by omega)] at h2
    exact ⟨_, _, List.getElem?_eq_getElem (by omega), h2⟩
  have one : ∀ (k : Nat) (f : Field) (K : IntKind), #[f0, f1, f2, f3, f4, f5, f6, f7, f8, f9, f10, f11, f12, f13, f14, f15, f16, f17, f18, f19][k]? = some f → P.underlying f.type = some (.int K) → ∃ z, l[k]? = some (.int K z) ∧ (Lit.int K z).wf = true := by
    intro k f K hk hu
    obtain ⟨u, z, hc, h2⟩ := cell k f hk
    obtain ⟨z, e2, -, hw⟩ := DataW.trod_int hu h2
    injection e2 with e3
    exact ⟨z, by rw [hc, e3], hw⟩
  have oneB : ∀ (k : Nat) (f : Field), #[f0, f1, f2, f3, f4, f5, f6, f7, f8, f9, f10, f11, f12, f13, f14, f15, f16, f17, f18, f19][k]? = some f → P.underlying f.type = some .bool → ∃ z, l[k]? = some (.bool z) := by
    intro k f hk hu
    obtain ⟨u, z, hc, h2⟩ := cell k f hk
    obtain ⟨z, e2, -⟩ := DataW.trod_bool hu h2
    injection e2 with e3
    exact ⟨z, by rw [hc, e3]⟩
  clear hg hlen hf hone
  obtain ⟨z0, e0, w0⟩ := one 0 f0 .u16 rfl u0
  have b0 := bounds_u16 w0
  obtain ⟨z1, e1, w1⟩ := one 1 f1 .u16 rfl u1
  have b1 := bounds_u16 w1
  obtain ⟨z2, e2, w2⟩ := one 2 f2 .u16 rfl u2
  have b2 := bounds_u16 w2
  obtain ⟨z3, e3, w3⟩ := one 3 f3 .u16 rfl u3
  have b3 := bounds_u16 w3
  obtain ⟨z4, e4, w4⟩ := one 4 f4 .u16 rfl u4
  have b4 := bounds_u16 w4
  obtain ⟨z5, e5, w5⟩ := one 5 f5 .u16 rfl u5
  have b5 := bounds_u16 w5
  obtain ⟨z6, e6, w6⟩ := one 6 f6 .u16 rfl u6
  have b6 := bounds_u16 w6
  obtain ⟨z7, e7, w7⟩ := one 7 f7 .u16 rfl u7
  have b7 := bounds_u16 w7
  obtain ⟨z8, e8, w8⟩ := one 8 f8 .u16 rfl u8
  have b8 := bounds_u16 w8
  obtain ⟨z9, e9, w9⟩ := one 9 f9 .u16 rfl u9
  have b9 := bounds_u16 w9
  obtain ⟨z10, e10, w10⟩ := one 10 f10 .u16 rfl u10
  have b10 := bounds_u16 w10
  obtain ⟨z11, e11, w11⟩ := one 11 f11 .u16 rfl u11
  have b11 := bounds_u16 w11
  obtain ⟨z12, e12, w12⟩ := one 12 f12 .u16 rfl u12
  have b12 := bounds_u16 w12
  obtain ⟨z13, e13, w13⟩ := one 13 f13 .u8 rfl u13
  have b13 := bounds_u8 w13
  obtain ⟨z14, e14, w14⟩ := one 14 f14 .u8 rfl u14
  have b14 := bounds_u8 w14
  obtain ⟨z15, e15⟩ := oneB 15 f15 rfl u15
  obtain ⟨z16, e16⟩ := oneB 16 f16 rfl u16
  obtain ⟨z17, e17⟩ := oneB 17 f17 rfl u17
  obtain ⟨z18, e18⟩ := oneB 18 f18 rfl u18
  obtain ⟨z19, e19, w19⟩ := one 19 f19 .i64 rfl u19
  have b19 := bounds_i64 w19
  clear one oneB cell
  refine ⟨⟨z0, z1, z2, z3, z4, z5, z6, z7, z8, z9, z10, z11, z12, z13, z14, z15, z16, z17, z18, z19⟩, ?_, ⟨b0, b1, b2, b3, b4, b5, b6, b7, b8, b9, b10, b11, b12, b13, b14, b19⟩⟩
  obtain ⟨a0, a1, a2, a3, a4, a5, a6, a7, a8, a9, a10, a11, a12, a13, a14, a15, a16, a17, a18, a19, rfl⟩ := list20 l hsz
  simp only [List.getElem?_cons_zero, List.getElem?_cons_succ, Option.some.injEq] at e0 e1 e2 e3 e4 e5 e6 e7 e8 e9 e10 e11 e12 e13 e14 e15 e16 e17 e18 e19
  rw [e0, e1, e2, e3, e4, e5, e6, e7, e8, e9, e10, e11, e12, e13, e14, e15, e16, e17, e18, e19]
theorem open_regs {H : Type} {enc : TypeId × Value → H} {P : Program} {w : World} {r : Reach} {b0 base : Nat} {sp : Nat → Bool} {held : Bool} {t : TypeId} {f0 f1 f2 f3 f4 f5 f6 f7 f8 f9 f10 f11 f12 f13 f14 f15 f16 f17 f18 f19 : Field} {v : Value} {d : DataW H} {ps : List MemPlace}
    (hs : P.underlying t = some (.struct #[f0, f1, f2, f3, f4, f5, f6, f7, f8, f9, f10, f11, f12, f13, f14, f15, f16, f17, f18, f19])) (hone : oneCellFields P #[f0, f1, f2, f3, f4, f5, f6, f7, f8, f9, f10, f11, f12, f13, f14, f15, f16, f17, f18, f19] = true) (hC : P.cellsOf t = 20)
    (u0 : P.underlying f0.type = some (.int .u16)) (u1 : P.underlying f1.type = some (.int .u16)) (u2 : P.underlying f2.type = some (.int .u16)) (u3 : P.underlying f3.type = some (.int .u16)) (u4 : P.underlying f4.type = some (.int .u16)) (u5 : P.underlying f5.type = some (.int .u16)) (u6 : P.underlying f6.type = some (.int .u16)) (u7 : P.underlying f7.type = some (.int .u16)) (u8 : P.underlying f8.type = some (.int .u16)) (u9 : P.underlying f9.type = some (.int .u16)) (u10 : P.underlying f10.type = some (.int .u16)) (u11 : P.underlying f11.type = some (.int .u16)) (u12 : P.underlying f12.type = some (.int .u16)) (u13 : P.underlying f13.type = some (.int .u8)) (u14 : P.underlying f14.type = some (.int .u8)) (u15 : P.underlying f15.type = some .bool) (u16 : P.underlying f16.type = some .bool) (u17 : P.underlying f17.type = some .bool) (u18 : P.underlying f18.type = some .bool) (u19 : P.underlying f19.type = some (.int .i64))
    (hv : Value.okWide P w r b0 t v) (h : DataW.Trod enc P w base sp held t v d ps) : ∃ g : Rg, v = regsV g ∧ RgB g := by
  obtain ⟨cs, rfl, hsz⟩ := okWide_struct hs hv
  obtain ⟨fuel, hf⟩ := h
  obtain ⟨g, h1, h2⟩ := open_regs1 hs hone hC u0 u1 u2 u3 u4 u5 u6 u7 u8 u9 u10 u11 u12 u13 u14 u15 u16 u17 u18 u19 hf
  refine ⟨g, ?_, h2⟩
  have e : cs.toList = (regsC g).toList := h1
  show Value.agg cs = .agg (regsC g)
  rw [← Array.toArray_toList (xs := cs), e]
end
section
open Go.ChangeShapes Go.WideShapes Go.ChangeAt Go.RowKit
theorem open_bytes1 {H : Type} {enc : TypeId × Value → H} {P : Program} {w : World} {base : Nat} {sp : Nat → Bool} {held : Bool} {t e : TypeId} {u : Value} {fuel : Nat} {x : DataW H × List MemPlace}
    (ht : P.underlying t = some (.slice e)) (he : P.underlying e = some (.int .u8)) (hc : P.cellsOf e = 1) (hf : DataW.trod enc P w base sp held fuel t [u] = some x) :
    ∃ (A : Option Addr) (cap : Nat) (xs : List Int), u = .slice A xs.length cap ∧ xs.length ≤ cap ∧ cap ≤ maxLen ∧ Bytes8 xs ∧ BytesIn w w.heap.size A xs ∧ (A = none → cap = 0) := by
  rcases open_ints ht he hc hf with ⟨e1, -⟩ | ⟨ad, len', cap', zs, e1, hb, hle, hm, hz, -, hcell, hwf⟩
  · have e2 : u = .slice none 0 0 := by simpa using e1
    refine ⟨none, 0, [], e2, Nat.le_refl _, Nat.zero_le _, fun x hx => by simp at hx, BytesIn.nil _ _ _, fun _ => rfl⟩
  · have e2 : u = .slice (some ad) len' cap' := by simpa using e1
    have hzl : len' ≤ zs.length := by rw [hz]; split <;> omega
    have htl : (zs.take len').length = len' := by rw [List.length_take]; omega
    refine ⟨some ad, cap', zs.take len', by rw [htl]; exact e2, by omega, hm, fun x hx => ?_, fun j x hx => ?_, fun h => by cases h⟩
    · have hw := hwf x (List.mem_of_mem_take hx)
      have := bounds_u8 hw
      exact ⟨by omega, by omega⟩
    · rw [List.getElem?_take] at hx
      split at hx
      · rename_i hj
        have hj2 : j < zs.length := by omega
        have hce := hcell j hj2
        rw [List.getD_eq_getElem?_getD, hx] at hce
        refine ⟨ad, rfl, ?_, hce⟩
        have := World.block_lt_of_cell? _ _ hce
        rw [add_block] at this
        exact this
      · cases hx
end
end Go.Proofs.YtkenebbjodcbcaaGreatDoor
