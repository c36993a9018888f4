/- Contracts and facts that the claim's proof wants (several texts in one). -/
import Derived.WalkKit
import Derived.ProofKit
import Derived.OpenShut
import Derived.ChangeArms
import Derived.Deep.Fields
import Derived.Deep.Grids
import Derived.LaidLaws
import Derived.FnData
import Derived.Test.YtoifkefonejeiaaDoorCyG3
import Derived.Test.YtoifkefonejeiaaDoorCyG4
import Derived.Test.YtoifkefonejeiaaDoorCyG5
namespace Go.Proofs.YtoifkefonejeiaaDoor
open Go.RowKit
set_option linter.unusedVariables false
set_option linter.unusedSimpArgs false
set_option maxRecDepth 20000
set_option maxHeartbeats 20000000
theorem eoIr2 {P : Program} {base : List Value} {l : Slots} {w : World} {fn : Func} {R : Ending → World → Prop} {t u : Tmp} (V U : Value) (hR : R (.returned (.tuple #[V, U])) w) (h : fn.results = #[.tmp t, .tmp u] := by exact rfl) (hv : lkO base t l = V := by kernel_rfl) (hu : lkO base u l = U := by kernel_rfl) : EO (bodyPost P fn R) .ret base l w :=
  ⟨fun hin => bodyPost_ret (v := .tuple #[V, U]) (by
    have e1 : (actO base l).tmps.getD t undef = V := (congrFun (evO_eq hin) (.tmp t)).trans hv
    have e2 : (actO base l).tmps.getD u undef = U := (congrFun (evO_eq hin) (.tmp u)).trans hu
    rw [results_tmp2 h, e1, e2]) rfl hR⟩
theorem Many.back3 {w w' : World} {a b c : Nat} {t u v : TypeId} {cs ds es : Array Value} (ha : Row w a t cs) (hb : Row w b u ds) (hc : Row w c v es) (k : Many w [a, b, c] [⟨a, t, cs.toList.map some⟩, ⟨b, u, ds.toList.map some⟩, ⟨c, v, es.toList.map some⟩] w') : Below w.heap.size w w' :=
  (((((Kept.of_touch k.touch).drop ha (by simpa using k.row 0 cs.toList rfl)).drop hb (by simpa using k.row 1 ds.toList rfl)).drop hc (by simpa using k.row 2 es.toList rfl)).mono (U := fun _ => False) fun x _ e => by simp at e; omega).below fun _ e => e.elim
structure RwX where
  i : Nat
  la : Nat
  v : Value
  y : Nat → Value
def rwB (h b8 : Nat) (A : Option Addr) (n cap : Nat) (x : RwX) : List Value := [x.y 0, .slice A n cap, pT h 0, x.y 3, x.y 4, x.y 5, x.v, .int .i64 (x.la : Int), pT b8 0, .int .i64 (x.i : Int), x.y 10, x.y 11, x.y 12, x.y 13, x.y 14, x.y 15, x.y 16, x.y 17, x.y 18, x.y 19, x.y 20, x.y 21, x.y 22, x.y 23, x.y 24, x.y 25, x.y 26, x.y 27, x.y 28, x.y 29, x.y 30, x.y 31, x.y 32, x.y 33, x.y 34, x.y 35, x.y 36, x.y 37, x.y 38, x.y 39, x.y 40, x.y 41, x.y 42, x.y 43, x.y 44, x.y 45, x.y 46, x.y 47, x.y 48, x.y 49, x.y 50, x.y 51, x.y 52, x.y 53, x.y 54, x.y 55, x.y 56, x.y 57, x.y 58, x.y 59, x.y 60]
def rwB1 (h b8 : Nat) (A : Option Addr) (n cap s k : Nat) (v : Value) (i : Nat) (wait : Bool) (x : SlotsY) : List Value := [x.y 0, .slice A n cap, pT h 0, x.y 3, x.y 4, x.y 5, v, .int .i64 (mAt s k i : Nat), pT b8 0, .int .i64 (i : Int), .bool wait, x.y 11, x.y 12, x.y 13, x.y 14, x.y 15, x.y 16, x.y 17, x.y 18, x.y 19, x.y 20, x.y 21, x.y 22, x.y 23, x.y 24, x.y 25, x.y 26, x.y 27, x.y 28, x.y 29, x.y 30, x.y 31, x.y 32, x.y 33, x.y 34, x.y 35, x.y 36, x.y 37, x.y 38, x.y 39, x.y 40, x.y 41, x.y 42, x.y 43, x.y 44, x.y 45, x.y 46, x.y 47, x.y 48, x.y 49, x.y 50, x.y 51, x.y 52, x.y 53, x.y 54, x.y 55, x.y 56, x.y 57, x.y 58, x.y 59, x.y 60]
structure RwV where
  v : Value
  y : Nat → Value
def rwB2 (h b8 b11 : Nat) (A : Option Addr) (n cap s k : Nat) (i : Nat) (moved last : Bool) (x : RwV) : List Value := [x.y 0, .slice A n cap, pT h 0, x.y 3, x.y 4, x.y 5, x.v, .int .i64 (mAt s k i : Nat), pT b8 0, .int .i64 (i : Int), x.y 10, pT b11 0, .bool moved, .bool last, x.y 14, x.y 15, x.y 16, x.y 17, x.y 18, x.y 19, x.y 20, x.y 21, x.y 22, x.y 23, x.y 24, x.y 25, x.y 26, x.y 27, x.y 28, x.y 29, x.y 30, x.y 31, x.y 32, x.y 33, x.y 34, x.y 35, x.y 36, x.y 37, x.y 38, x.y 39, x.y 40, x.y 41, x.y 42, x.y 43, x.y 44, x.y 45, x.y 46, x.y 47, x.y 48, x.y 49, x.y 50, x.y 51, x.y 52, x.y 53, x.y 54, x.y 55, x.y 56, x.y 57, x.y 58, x.y 59, x.y 60]
def rwB3 (h b8 b11 : Nat) (A : Option Addr) (n cap : Nat) (i : Nat) (v : Value) (la : Nat) (last : Bool) (x : SlotsY) : List Value := [x.y 0, .slice A n cap, pT h 0, x.y 3, x.y 4, x.y 5, v, .int .i64 (la : Int), pT b8 0, .int .i64 (i : Int), x.y 10, pT b11 0, x.y 12, .bool last, x.y 14, x.y 15, x.y 16, x.y 17, x.y 18, x.y 19, x.y 20, x.y 21, x.y 22, x.y 23, x.y 24, x.y 25, x.y 26, x.y 27, x.y 28, x.y 29, x.y 30, x.y 31, x.y 32, x.y 33, x.y 34, x.y 35, x.y 36, x.y 37, x.y 38, x.y 39, x.y 40, x.y 41, x.y 42, x.y 43, x.y 44, x.y 45, x.y 46, x.y 47, x.y 48, x.y 49, x.y 50, x.y 51, x.y 52, x.y 53, x.y 54, x.y 55, x.y 56, x.y 57, x.y 58, x.y 59, x.y 60]
structure RwI (W : World) (b8 : Nat) (c : Cy) (ws : List Bool) (q : RwX) (w : World) : Prop where
  lt : q.i < nSt c ws
  la : q.la = mAt (sampN c.kind) (heldN (sampN c.kind) ws) q.i
  row : Row w b8 30 (atC ⟨c, (atK (sampN c.kind) (heldN (sampN c.kind) ws) q.i : Nat), ((q.i - atK (sampN c.kind) (heldN (sampN c.kind) ws) q.i : Nat) : Int)⟩)
  box : Row w W.heap.size 24 (cyC c)
  own : w.ownsRow (b8 + 1) 9 1 q.v q.i (tvs (namesL c ws q.i))
  low : Below W.heap.size W w
theorem rwalkY_any (c : Cy) (ws : List Bool) (A : Option Addr) (cap : Nat) (hl : ws.length ≤ 100) (W : World) (hw : ValsIn W W.heap.size A (blv ws)) :
    Calls Tryd.prog 21 #[cyV c, .slice A ws.length cap] W fun e W' => ∃ A' c', e = .returned (.tuple #[.slice A' (nSt c ws) c', .int .i64 (mSt c ws : Nat)]) ∧ StrsIn W' W'.heap.size A' (namesL c ws (nSt c ws)) ∧ Below W.heap.size W W' := by
  go_enter Tryd.func21, Tryd.ntmps21
  refine coStart <| qQ [] (Many.begin W) fun w1 k1 => coS <| coR <| qR 1 [0] k1 fun w2 k2 => qC (rcheckY_any c w2) k2 fun w3 k3 => qR 1 [] k3 fun w4 k4 => tell 16 (errC_ne c) <| qE [] k4 fun w5 k5 => ?_
  cases hok : okCy c with
  | false =>
    have e1 : nSt c ws = 0 := if_neg (by rw [hok]; simp)
    have e2 : mSt c ws = 0 := if_neg (by rw [hok]; simp)
    rw [e1, e2]
    exact coT <| qQ [] k5 fun w6 k6 => coRet <| eoTr <| eoIr2 (.slice none 0 0) (.int .i64 0) ⟨none, 0, rfl, fun j u h => by simp [namesL, tvs] at h, k6.touch.below⟩
  | true =>
    have hz : sampN c.kind = 0 → heldN (sampN c.kind) ws = 0 := fun e => by rw [e]; rfl
    have hN0 : 0 < nSt c ws := by
      have := (okCy_iff c).1 hok
      unfold nSt
      rw [if_pos hok]
      omega
    have hN132 := nSt_le c ws
    refine coF <| coSkip <| eoT <| qQ [] k5 fun w6 k6 => qQ [] k6 fun w7 k7 => qQ [0, 1] k7 fun w8 k8 => qQ [] k8 fun w9 k9 => coB <| ?_
    have rz : Row w9 w7.heap.size 30 (atC ⟨c, 0, 0⟩) := k9.row 1 (atC ⟨c, 0, 0⟩).toList (by kernel_rfl)
    have rb : Row w9 W.heap.size 24 (cyC c) := k9.row 0 (cyC c).toList (by kernel_rfl)
    have rb7 : Row w7 W.heap.size 24 (cyC c) := k7.row 0 (cyC c).toList (by kernel_rfl)
    have s7 := rb7.lt
    obtain ⟨b8, hb8⟩ : ∃ b8, b8 = w7.heap.size := ⟨_, rfl⟩
    refine coLoop (rwB W.heap.size w7.heap.size A ws.length cap) (RwI W w7.heap.size c ws) (fun x => nSt c ws - x.i) (fun y => ⟨0, 0, .slice none 0 0, y⟩) ⟨hN0, (mAt_zero _ _).symm, by dsimp only; rw [atK_zero]; exact rz, rb, World.ownsRow_nil .., k9.touch.below⟩ ?_
    clear k1 k2 k3 k4 k5 k6 k7 k8 k9 rz rb
    rw [← hb8]
    rintro ⟨i, la, v, y⟩ w ⟨hlt, hla, row, box, own, low⟩
    dsimp only at hlt hla row box own low
    subst hla
    obtain ⟨a0, ha0⟩ : ∃ a0 : AtT, a0 = ⟨c, (atK (sampN c.kind) (heldN (sampN c.kind) ws) i : Nat), ((i - atK (sampN c.kind) (heldN (sampN c.kind) ws) i : Nat) : Int)⟩ := ⟨_, rfl⟩
    obtain ⟨a1, ha1⟩ : ∃ a1 : AtT, a1 = ⟨c, (atK (sampN c.kind) (heldN (sampN c.kind) ws) (i + 1) : Nat), ((i + 1 - atK (sampN c.kind) (heldN (sampN c.kind) ws) (i + 1) : Nat) : Int)⟩ := ⟨_, rfl⟩
    have hT : ∀ W, Calls Tryd.prog 8 #[atV a0, .bool (wt ws i)] W fun e W' => e = .returned (.tuple #[atV a1, .bool (stMv (sampN c.kind) (heldN (sampN c.kind) ws) (i + 1)), .bool (decide (i + 1 = nSt c ws))]) ∧ Below W.heap.size W W' := fun W => by
      have := rtickY_any a0 (wt ws i) W
      unfold tickV at this
      rwa [ha0, tick_round (okCy_of hlt) hlt (by omega), ← ha0, ← ha1] at this
    have heq : (a1.k == a0.k) = stW (sampN c.kind) (heldN (sampN c.kind) ws) (i + 1) := by
      rw [ha0, ha1]
      exact taken_turn hz
    rw [← ha0] at row
    have l8 := row.lt
    have l0 := box.lt
    refine coS <| coB <| coCut (rwB1 W.heap.size b8 A ws.length cap (sampN c.kind) (heldN (sampN c.kind) ws) v i (wt ws i)) (fun _ w' => Below w.heap.size w w') ?_ ?_
    · refine coZ <| qR 3 [] (Many.begin w) fun wa ka => ?_
      rcases Nat.lt_or_ge i ws.length with hw1 | hw1
      · obtain ⟨p, rfl⟩ := hw.atB hw1
        have hwt : wt ws i = ws[i] := by unfold wt; rw [List.getD_eq_getElem?_getD, List.getElem?_eq_getElem hw1]; rfl
        rw [hwt]
        exact qR 1 [] ka fun wb kb => tell 24 (show decide ((i : Int) < (ws.length : Int)) = true from decide_eq_true (by omega)) <| qR 3 [] kb fun wc kc => wM (xIndex (ixBool p ws.length cap i hw1 _)) <| wM (xLoad ((hw.below (low.trans (kc.touch.below.mono low.size))).ldB hw1)) <| qF [] kc fun wd kd => eoCut (fun y => ⟨y⟩) kd.touch.below
      · have hwt : wt ws i = false := by unfold wt; rw [List.getD_eq_getElem?_getD, List.getElem?_eq_none hw1]; rfl
        rw [hwt]
        exact qR 1 [] ka fun wb kb => tell 24 (show decide ((i : Int) < (ws.length : Int)) = false from decide_eq_false (by omega)) <| qF [] kb fun wd kd => eoCut (fun y => ⟨y⟩) kd.touch.below
    rintro ⟨y⟩ wa hba
    have rowa := row.below hba l8
    have boxa := box.below hba l0
    have owna := own_below own hba
    have lowa := low.trans (hba.mono low.size)
    have sa := lowa.size
    refine coR <| qR 2 [0] (Many.start rowa) fun wb kb => qC (hT wb) kb fun wc kc => ?_
    have rowc : Row wc b8 30 (atC a0) := kc.row 0 (atC a0).toList (by kernel_rfl)
    have qc : Kept (fun _ => False) wa wc := ((Kept.of_touch kc.touch).drop rowa rowc).mono fun x _ e => e.2 (List.mem_singleton.1 e.1)
    have hbc : Below wa.heap.size wa wc := qc.below fun _ e => e.elim
    have boxc := boxa.below hbc boxa.lt
    have sc := hbc.size
    have l8c := rowc.lt
    have kc2 := Many.two boxc rowc (by omega)
    refine qE [2] kc2 fun wd kd => ?_
    have row0 : Row wd b8 30 (atC a0) := kd.row 1 (atC a0).toList (by kernel_rfl)
    have row1 : Row wd wc.heap.size 30 (atC a1) := kd.row 2 (atC a1).toList (by kernel_rfl)
    have boxd : Row wd W.heap.size 24 (cyC c) := kd.row 0 (cyC c).toList (by kernel_rfl)
    have hbd : Below wc.heap.size wc wd := ((((Kept.of_touch kd.touch).drop boxc boxd).drop rowc row0).mono (U := fun _ => False) fun x _ e => by simp at e; omega).below fun _ e => e.elim
    have had : Below wa.heap.size wa wd := hbc.trans (hbd.mono sc)
    have ownd := own_below owna had
    have lowd := lowa.trans (had.mono lowa.size)
    have vlr := owna.lt
    have sd := hbd.size
    have hk := atK_T (i := i + 1) hlt
    clear hT kc kc2
    have fin : ∀ (wf wg wh : World), Below wd.heap.size wd wf → wf.grownBy wg v.ownBlock → Below wg.heap.size wg wh → Row wh b8 30 (atC a0) ∧ Row wh wc.heap.size 30 (atC a1) ∧ Row wh W.heap.size 24 (cyC c) ∧ Below W.heap.size W wh := fun wf wg wh h1 h2 h3 => by
      have q : Kept (fun x => v.ownBlock = some x) wd wh := ((Kept.of_below (S := fun x => v.ownBlock = some x) h1).trans (Kept.of_grown h2) (fun _ e => e) fun _ _ e => e).trans (Kept.of_below (S := fun _ => False) h3) (fun _ e => e) fun _ _ e => e.elim
      exact ⟨q.row row0 fun e => by have := vlr _ e; omega, q.row row1 fun e => by have := vlr _ e; omega, q.row boxd fun e => by have := vlr _ e; omega, q.low lowd lowd.size fun x e => by have := vlr _ e; omega⟩
    refine coCut (rwB2 W.heap.size b8 wc.heap.size A ws.length cap (sampN c.kind) (heldN (sampN c.kind) ws) i (stMv (sampN c.kind) (heldN (sampN c.kind) ws) (i + 1)) (decide (i + 1 = nSt c ws))) (fun q w' => w'.ownsRow (b8 + 1) 9 1 q.v (i + 1) (tvs (namesL c ws (i + 1))) ∧ Row w' b8 30 (atC a0) ∧ Row w' wc.heap.size 30 (atC a1) ∧ Row w' W.heap.size 24 (cyC c) ∧ Below W.heap.size W w') ?_ ?_
    · have e2 : ∀ X, X = nmJ (sampN c.kind) (heldN (sampN c.kind) ws) (i + 1) → tvs (namesL c ws i) ++ [.string X] = tvs (namesL c ws (i + 1)) := fun X hX => by rw [names_succ, ← tvs_append, hX]; rfl
      have km := Many.three boxd row0 row1 (by omega) (by omega) (by omega)
      refine coR <| qR 5 [2, 1] km fun we ke => tell 42 heq <| qE [] ke fun wf kf => coI (stW (sampN c.kind) (heldN (sampN c.kind) ws) (i + 1)) (fun hs => ?_) fun hs => ?_
      · have hX : twB = nmJ (sampN c.kind) (heldN (sampN c.kind) ws) (i + 1) := by
          unfold nmJ
          rw [hs]
          exact (if_pos (.inl rfl)).symm
        refine coZ <| qR 1 [] kf fun wg kg => wM (xBuildS (bsS twB wg)) ?_
        have hbg : Below wd.heap.size wd wg := Many.back3 boxd row0 row1 (kg.take 3 _)
        have hgh : Below wg.heap.size wg (wg.alloc (.cells #[.string twB] 9)) := Below.alloc (Below.refl _ _) (Nat.le_refl _) _
        have hbh := hbg.trans (hgh.mono hbg.size)
        have sh := hbh.size
        refine qOwn (.tmp 43) (.tmp 44) 42 9 1 16 (.string ⟨#[]⟩) (b8 + 1) v i (tvs (namesL c ws i)) ⟨wg.heap.size, 0, none⟩ 1 1 [.string twB] (by omega) (own_below ownd hbh) rfl (fun j u hu => (Row.new wg 9 #[.string twB]).values j u hu) (fun u hu => by rw [List.mem_singleton.1 hu]; rfl) (by omega) (by omega) fun vn wh own' gr hnew => ?_
        rw [e2 _ hX] at own'
        refine qF [] (Many.begin wh) fun wi ki => eoCut (fun y => ⟨vn, y⟩) ⟨own_below own' ki.touch.below, fin _ _ _ hbh gr ki.touch.below⟩
      · obtain ⟨X, hX⟩ : ∃ X, X = nmJ (sampN c.kind) (heldN (sampN c.kind) ws) (i + 1) := ⟨_, rfl⟩
        have hnm : ∀ W', Calls Tryd.prog 24 #[.int .i64 c.kind, .int .i64 a1.k] W' fun e w' => e = .returned (.string X) ∧ Below W'.heap.size W' w' := fun W' => by
          have := rnameY_any c.kind _ hk W'
          rw [hX, ha1]
          unfold nmJ
          rw [hs]
          exact this
        refine coZ <| qR 5 [0, 2] kf fun wg kg => qC (hnm wg) kg fun wg kg => wM (xBuildS (bsS X wg)) ?_
        have hbg : Below wd.heap.size wd wg := Many.back3 boxd row0 row1 (kg.take 3 _)
        have hgh : Below wg.heap.size wg (wg.alloc (.cells #[.string X] 9)) := Below.alloc (Below.refl _ _) (Nat.le_refl _) _
        have hbh := hbg.trans (hgh.mono hbg.size)
        have sh := hbh.size
        refine qOwn (.tmp 46) (.tmp 52) 42 9 1 16 (.string ⟨#[]⟩) (b8 + 1) v i (tvs (namesL c ws i)) ⟨wg.heap.size, 0, none⟩ 1 1 [.string X] (by omega) (own_below ownd hbh) rfl (fun j u hu => (Row.new wg 9 #[.string X]).values j u hu) (fun u hu => by rw [List.mem_singleton.1 hu]; rfl) (by omega) (by omega) fun vn wh own' gr hnew => ?_
        rw [e2 _ hX] at own'
        refine qF [] (Many.begin wh) fun wi ki => eoCut (fun y => ⟨vn, y⟩) ⟨own_below own' ki.touch.below, fin _ _ _ hbh gr ki.touch.below⟩
    · clear fin rowa boxa owna lowa rowc boxc row0 row1 boxd ownd lowd vlr kd
      rintro ⟨v2, y⟩ wx ⟨ownx, row0, row1, boxx, lowx⟩
      dsimp only at ownx
      refine coCut (rwB3 W.heap.size b8 wc.heap.size A ws.length cap i v2 (mAt (sampN c.kind) (heldN (sampN c.kind) ws) (i + 1)) (decide (i + 1 = nSt c ws))) (fun _ w' => Below wx.heap.size wx w') ?_ ?_
      · refine coR <| qE [] (Many.begin wx) fun wa ka => coI (stMv (sampN c.kind) (heldN (sampN c.kind) ws) (i + 1)) (fun hm => ?_) fun hm => ?_
        · have e : mAt (sampN c.kind) (heldN (sampN c.kind) ws) (i + 1) = i + 1 := by rw [mAt_succ, if_pos hm]
          rw [e]
          exact coZ <| qR 1 [] ka fun wb kb => wM (xInc i (by omega)) <| qF [] kb fun wc kc => eoCut (fun y => ⟨y⟩) kc.touch.below
        · have e : mAt (sampN c.kind) (heldN (sampN c.kind) ws) (i + 1) = mAt (sampN c.kind) (heldN (sampN c.kind) ws) i := by rw [mAt_succ, if_neg (by rw [hm]; simp)]
          rw [e]
          exact coSkip <| eoCut (fun y => ⟨y⟩) ka.touch.below
      rintro ⟨y⟩ wy hby
      have row0 := row0.below hby row0.lt
      have row1 := row1.below hby row1.lt
      have boxy := boxx.below hby boxx.lt
      have owny := own_below ownx hby
      have lowy := lowx.trans (hby.mono lowx.size)
      obtain ⟨An, cn, rfl, hcn, hst, -⟩ := own_strs owny
      refine coS <| qQ [] (Many.begin wy) fun wz kz => coI (decide (i + 1 = nSt c ws)) (fun hl => ?_) fun hl => ?_
      · have e : i + 1 = nSt c ws := by simpa using hl
        refine qQ [] kz fun wp kp => coRet ?_
        repeat (first | refine eoTr ?_ | refine eoBr ?_)
        refine eoIr2 (.slice An (i + 1) cn) (.int .i64 (mAt (sampN c.kind) (heldN (sampN c.kind) ws) (i + 1) : Nat)) ⟨An, cn, ?_, ?_, lowy.trans (kp.touch.below.mono lowy.size)⟩
        · rw [e, mAt_end]
        · rw [← e]
          exact hst.on kp.touch.below
      · have hl2 : i + 1 < nSt c ws := by
          have : ¬ i + 1 = nSt c ws := by simpa using hl
          omega
        have hbz : Below wy.heap.size wy wz := kz.touch.below
        have km := Many.two (row0.below hbz row0.lt) (row1.below hbz row1.lt) (by omega)
        refine coSkip <| eoT <| coZ <| qF [1, 0] km fun wp kp => eoB <| eoT <| coZ <| qR 1 [] kp fun wq kq => wM (xInc i (by omega)) <| qF [] kq fun wr kr => ?_
        have qz : Kept (fun x => x = b8) wz wr := ((Kept.of_touch kr.touch).drop (row1.below hbz row1.lt) (kr.row 1 (atC a1).toList (by kernel_rfl))).mono fun x _ e => by
          have := e.1
          simp at this
          exact this.resolve_right e.2
        have lowz := lowy.trans (hbz.mono lowy.size)
        refine eoRound (fun y => ⟨i + 1, mAt (sampN c.kind) (heldN (sampN c.kind) ws) (i + 1), .slice An (i + 1) cn, y⟩) ⟨hl2, rfl, ?_, qz.row (boxy.below hbz boxy.lt) (by omega), qz.own (own_below owny hbz) fun x e h => by have := (owny.lt x e).1; omega, qz.low lowz lowz.size fun x e => by omega⟩ (by show nSt c ws - (i + 1) < nSt c ws - i; omega)
        · show Row wr b8 30 (atC ⟨c, (atK (sampN c.kind) (heldN (sampN c.kind) ws) (i + 1) : Nat), ((i + 1 - atK (sampN c.kind) (heldN (sampN c.kind) ws) (i + 1) : Nat) : Int)⟩)
          rw [← ha1]
          exact kr.row 0 (atC a1).toList (by kernel_rfl)
theorem rtakeY_any (c : Cy) (ws : List Bool) (A : Option Addr) (cap : Nat) (hl : ws.length ≤ 100) (W : World) (hw : ValsIn W W.heap.size A (blv ws)) :
    Calls Tryd.prog 15 #[cyV c, .slice A ws.length cap] W fun e W' => e = .returned (.tuple #[.int .i64 (nSt c ws : Nat), .int .i64 (mSt c ws : Nat)]) ∧ Below W.heap.size W W' := by
  go_enter Tryd.func15, Tryd.ntmps15
  refine coStart <| qQ [] (Many.begin W) fun w1 k1 => coR <| qR 2 [0] k1 fun w2 k2 => kX (rwalkY_any c ws A cap hl w2 ((hw.below k2.touch.below).more k2.touch.size)) fun e w3 ⟨A', c', he, _, hb⟩ => ⟨_, he, ?_⟩
  have hB := k2.touch.below.trans (hb.mono k2.touch.size)
  exact qE [] (Many.begin w3) fun w4 k4 => qQ [] k4 fun w5 k5 => coRet <| eoIr2 (.int .i64 (nSt c ws : Nat)) (.int .i64 (mSt c ws : Nat)) ⟨rfl, bOn hB k5⟩
theorem rnamesY_any (c : Cy) (ws : List Bool) (A : Option Addr) (cap : Nat) (hl : ws.length ≤ 100) (W : World) (hw : ValsIn W W.heap.size A (blv ws)) :
    Calls Tryd.prog 18 #[cyV c, .slice A ws.length cap] W fun e W' => ∃ A' c', e = .returned (.slice A' (nSt c ws) c') ∧ StrsIn W' W'.heap.size A' (namesL c ws (nSt c ws)) ∧ Below W.heap.size W W' := by
  go_enter Tryd.func18, Tryd.ntmps18
  refine coStart <| qQ [] (Many.begin W) fun w1 k1 => coR <| qR 2 [0] k1 fun w2 k2 => kX (rwalkY_any c ws A cap hl w2 ((hw.below k2.touch.below).more k2.touch.size)) fun e w3 ⟨A', c', he, hst, hb⟩ => ⟨_, he, ?_⟩
  have hB := k2.touch.below.trans (hb.mono k2.touch.size)
  exact qE [] (Many.begin w3) fun w4 k4 => qQ [] k4 fun w5 k5 => coRet <| eoIr (.slice A' (nSt c ws) c') ⟨A', c', rfl, hst.on k5.touch.below, bOn hB k5⟩
theorem plainA_any (a : AtT) (W : World) : Calls Tryd.prog 9 #[atV a] W fun e W' => e = .returned (atV a) ∧ Below W.heap.size W W' := by
  go_enter Tryd.func9, Tryd.ntmps9
  exact coStart <| qQ [] (Many.begin W) fun w1 k1 => qQ [0, 0, 0, 1] k1 fun w2 k2 => coRet <| eoK1 (k2.row 1 (b := W.heap.size + 1) (t := 30) (atC a).toList (by kernel_rfl)) ⟨rfl, k2.touch.below⟩
def cyX : Cy := ⟨2, 0, 0, 3⟩
def txtX : List ByteArray := [⟨#[84, 49]⟩, ⟨#[84, 87]⟩, ⟨#[84, 87]⟩, ⟨#[84, 50]⟩, ⟨#[84, 51]⟩]
theorem dec_small (k : Nat) (h : k < 10) : tNum k = ⟨#[84, UInt8.ofNat (48 + k)]⟩ := by
  unfold tNum
  rw [Lib.decDigits, dif_pos h]
theorem awY_n : nSt cyX [false, true, true, false] = 5 := by kernel_rfl
theorem awY_m : mSt cyX [false, true, true, false] = 5 := by kernel_rfl
theorem awY_k : nSt cyX [false, true, true] = 5 := by kernel_rfl
theorem awY_t : tickV ⟨cyX, 2, 0⟩ true = .tuple #[atV ⟨cyX, 3, 0⟩, .bool true, .bool true] := by kernel_rfl
theorem awY_l : namesL cyX [false, true, true] 5 = txtX := by
  have e : namesL cyX [false, true, true] 5 = [tNum 1, twB, twB, tNum 2, tNum 3] := by kernel_rfl
  rw [e, dec_small 1 (by omega), dec_small 2 (by omega), dec_small 3 (by omega)]
  rfl
theorem awY_e : errC zeroCy = 1 := by kernel_rfl
theorem awY_s : sampN 4 = 3 := rfl
theorem row_strs {w : World} {b : Nat} {t : TypeId} {cs : Array Value} (l : List ByteArray) (h : Row w b t cs) (e : cs.toList = tvs l) : StrsIn w w.heap.size (some ⟨b, 0, none⟩) l := fun j u hu => ⟨_, rfl, h.lt, h.values j u (by rw [e]; exact hu)⟩
theorem bsX5 (w : World) : (Instr.buildSlice 42 5 #[(0, .string ⟨#[84, 49]⟩), (1, .string ⟨#[84, 87]⟩), (2, .string ⟨#[84, 87]⟩), (3, .string ⟨#[84, 50]⟩), (4, .string ⟨#[84, 51]⟩)]).run Tryd.prog w = .ok (.slice (some ⟨w.heap.size, 0, none⟩) 5 5) (w.alloc (.cells (tvs txtX).toArray 9)) := by simp [go_sem, tvs, txtX]
theorem awakeY_any (w : World) (ht : Samps w) : Calls Tryd.prog 6 #[] w fun e w' => e = .returned (.bool true) ∧ Below w.heap.size w w' := by
  go_enter Tryd.func6, Tryd.ntmps6
  refine coStart <| qQ [] (Many.begin w) fun w1 k1 => qQ [0] k1 fun w2 k2 => coR <| qR 2 [0] k2 fun w3 k3 => ?_
  have hv := vals_row (k3.row 1 (b := w2.heap.size) (t := 4) (blv [false, true, true, false]) (by kernel_rfl))
  have c1 := ctake_any cyX [false, true, true, false] (some ⟨w2.heap.size, 0, none⟩) 4 (by decide) w3 (ht.below k3.touch.below) hv
  rw [awY_n, awY_m] at c1
  have c2 := fun W (h : Samps W) => ctick_any ⟨cyX, 2, 0⟩ true W h
  simp only [awY_t] at c2
  refine qC c1 k3 fun w4 k4 => qE [] k4 fun w5 k5 => coR <| qR 2 [0] k5 fun w6 k6 => qC (c2 w6 (ht.below k6.touch.below)) k6 fun w7 k7 => qE [2] k7 fun w8 k8 => coR <| qR 9 [0] k8 fun w9 k9 => ?_
  have hv2 := vals_row (k9.row 3 (b := w8.heap.size) (t := 4) (blv [false, true, true]) (by kernel_rfl))
  have c3 := cnames_any cyX [false, true, true] (some ⟨w8.heap.size, 0, none⟩) 3 (by decide) w9 (ht.below k9.touch.below) hv2
  rw [awY_k, awY_l] at c3
  refine kX c3 fun e wa ⟨A', he, hst, hba⟩ => ⟨_, he, wM (xBuildS (bsX5 wa)) ?_⟩
  have kb := (k9.below hba).alloc 9 (tvs txtX).toArray
  have hab : Below wa.heap.size wa (wa.alloc (.cells (tvs txtX).toArray 9)) := Below.alloc (Below.refl _ _) (Nat.le_refl _) _
  obtain ⟨wb, hwb⟩ : ∃ wb, wb = wa.alloc (.cells (tvs txtX).toArray 9) := ⟨_, rfl⟩
  rw [← hwb] at kb hab ⊢
  have r5 := row_strs txtX (kb.row 4 (b := wa.heap.size) (t := 9) (tvs txtX) (by kernel_rfl)) rfl
  have c4 := fun W (h : Samps W) => csample_any 4 W h
  rw [awY_s] at c4
  have c5 := fun W (h : Samps W) => ccheck_any zeroCy W h
  rw [awY_e] at c5
  refine qC (rsameS_any A' (some ⟨wa.heap.size, 0, none⟩) 5 5 txtX (by decide) wb (hst.on hab) r5) kb fun wc kc => qR 13 [2] kc fun wd kd => qC (c4 wd (ht.below kd.touch.below)) kd fun we ke => qR 4 [] ke fun wf kf => qC (c5 wf (ht.below kf.touch.below)) kf fun wg kg => qE [] kg fun wh kh => coRet <| eoIr (.bool true) ⟨rfl, kh.touch.below⟩
theorem ata_same (a : AtT) (w : World) : (Op.equalIn 10000 30 (atV a) (atV a)).run Tryd.prog w = .ok true w := by
  unfold atV atC
  rw [run_equalIn_agg (P := Tryd.prog) w 9999 30 _ _ (by kernel_rfl) (by kernel_rfl)]
  simp [go_sem]
theorem ata_eql (a : AtT) (w : World) : (binOp .eql 30 (atV a) (atV a)).run Tryd.prog w = .ok (.bool true) w := by
  have h := ata_same a w
  unfold atV at *
  rw [run_eql_struct, h]
  rfl
theorem ata_guard (op : BinOp) (a b : AtT) (x y : Operand) (w : World) : (eqGuard op 30 x y (atV a) (atV b)).run Tryd.prog w = .ok () w := by
  unfold atV
  exact run_eqGuard_agg (P := Tryd.prog) w op _ x y _ _ (by kernel_rfl)
theorem beqT (b : Bool) (w : World) : (binOp .eql 4 (.bool b) (.bool b)).run Tryd.prog w = .ok (.bool true) w := by simp [go_sem]
theorem bgT (op : BinOp) (x y : Operand) (a b : Bool) (w : World) : (eqGuard op 4 x y (.bool a) (.bool b)).run Tryd.prog w = .ok () w := by simp [go_sem]
theorem beqE (n : Int) (w : World) : (binOp .eql 34 (.int .i64 n) (.int .i64 n)).run Tryd.prog w = .ok (.bool true) w := by simp [go_sem]
theorem bgE (op : BinOp) (x y : Operand) (a b : Int) (w : World) : (eqGuard op 34 x y (.int .i64 a) (.int .i64 b)).run Tryd.prog w = .ok () w := by simp [go_sem]
theorem beqI (n : Int) (w : World) : (binOp .eql 3 (.int .i64 n) (.int .i64 n)).run Tryd.prog w = .ok (.bool true) w := by simp [go_sem]
theorem cycleTicks_walk (a : AtT) (wait : Bool) (w : World) (hS : Samps w) : Calls Tryd.prog 3 #[atV a, .bool wait] w fun e w' => e = .returned (.bool true) ∧ Below w.heap.size w w' := by
  have c1 := fun W (h : Samps W) => ctick_any a wait W h
  have c2 := fun W => rtickY_any a wait W
  unfold tickV at c1 c2
  generalize tickM a wait = T at c1 c2
  obtain ⟨a', m, l⟩ := T
  dsimp only at c1 c2
  go_enter Tryd.func3, Tryd.ntmps3
  refine coStart <| qQ [] (Many.begin w) fun w1 k1 => coR <| qC (awakeY_any w1 (hS.below k1.touch.below)) k1 fun w2 k2 => qE [] k2 fun w3 k3 => coS <| qQ [] k3 fun w4 k4 => coF <| coSkip <| eoT <| coR <| qR 2 [0] k4 fun w5 k5 => qC (c1 w5 (hS.below k5.touch.below)) k5 fun w6 k6 => qE [1] k6 fun w7 k7 => ?_
  refine coR <| qR 1 [0] k7 fun w8 k8 => qC (plainA_any a w8) k8 fun w9 k9 => qR 1 [] k9 fun wa ka => qC (c2 wa) ka fun wb kb => qE [2] kb fun wc kc => ?_
  refine qP 43 kc fun wd kd => qD 1 [0] kd <| qD 2 [2] kd <| qDc 1 (plainA_any a' wd) kd fun we ke => qT 3 ke (fun w' _ => xBin (ata_guard _ a' a' _ _ _) (ata_eql a' _)) <| qM [4, 5, 6] ke <| qT 7 ke (fun w' _ => xBin (bgT _ _ _ _ _ _) (beqT m _)) <| qM [8, 9, 10, 11] ke <| qT 12 ke (fun w' _ => xBin (bgT _ _ _ _ _ _) (beqT l _)) <| qM [13, 14] ke ?_
  refine qD 0 [15, 16, 18, 19] ke <| qDc 17 (ccheck_any a.c we (hS.below ke.touch.below)) ke fun wf kf => qDc 20 (rcheckY_any a.c wf) kf fun wg kg => qT 21 kg (fun w' _ => xBin (bgE _ _ _ _ _ _) (beqE (errC a.c) _)) <| qM [22, 23] kg <| qD 0 [24, 25, 26, 28, 29, 30] kg <| qDc 27 (csample_any a.c.kind wg (hS.below kg.touch.below)) kg fun wh kh => qDc 31 (rsampleY_any a.c.kind wh) kh fun wi ki => qT 32 ki (fun w' _ => xBin (egI _ _ _ _ _ _) (beqI (sampN a.c.kind : Nat) _)) <| qM [33, 34] ki ?_
  exact qD 0 [35, 36, 38, 39] ki <| qDc 37 (csample_any a.k wi (hS.below ki.touch.below)) ki fun wj kj => qDc 40 (rsampleY_any a.k wj) kj fun wl kl => qT 41 kl (fun w' _ => xBin (egI _ _ _ _ _ _) (beqI (sampN a.k : Nat) _)) <| qM [42] kl <| poE <| qE [] kl fun wm km => coRet <| eoIr (.bool true) ⟨rfl, km.touch.below⟩
section
open Go.ChangeShapes Go.WideShapes Go.ChangeAt Go.RowKit Go.Deep
theorem open_cycle {H : Type} {enc : TypeId × Value → H} {P : Program} {w : World} {r : Reach} {b0 base : Nat} {sp : Nat → Bool} {held : Bool} {t : TypeId} {f0 f1 f2 f3 : Field} {v : Value} {d : DataW H} {ps : List MemPlace}
    (hs : P.underlying t = some (.struct #[f0, f1, f2, f3])) (hone : oneCellFields P #[f0, f1, f2, f3] = true) (hC : P.cellsOf t = 4)
    (u0 : P.underlying f0.type = some (.int .i64)) (u1 : P.underlying f1.type = some (.int .u16)) (u2 : P.underlying f2.type = some (.int .u8)) (u3 : P.underlying f3.type = some (.int .i64))
    (hv : Value.okWide P w r b0 t v) (h : DataW.Trod enc P w base sp held t v d ps) :
    ∃ c : Cy, v = cyV c ∧ (0 ≤ c.addr ∧ c.addr ≤ 65535) ∧ B8 c.data ∧ (-9223372036854775808 ≤ c.t ∧ c.t ≤ 9223372036854775807) := by
  obtain ⟨cs, rfl, hsz⟩ := okWide_struct hs hv
  obtain ⟨fuel, hf⟩ := h
  obtain ⟨xs, n, -, -, -, hlen, hg⟩ := DataW.trod_struct hs hf
  rw [hC] at hsz
  have hlen : xs.length = 4 := hlen
  have one : ∀ (k : Nat) (f : Field) (K : IntKind), #[f0, f1, f2, f3][k]? = some f → P.underlying f.type = some (.int K) → ∃ z, cs[k]? = some (.int K z) ∧ (Lit.int K z).wf = true := by
    intro k f K hk hu
    obtain ⟨ho, h1⟩ := hone_of hone k f hk
    have hkl : k < 4 := (Array.getElem?_eq_some_iff.1 hk).1
    have h2 := hg k f hk
    rw [ho, h1] at h2
    have e1 : ((Value.agg cs).cells.toList.drop k).take 1 = [cs[k]'(by omega)] := by
      have e : (Value.agg cs).cells.toList = cs.toList := rfl
      rw [e, List.drop_eq_getElem_cons (by simp; omega)]
      simp
    rw [e1, List.getElem?_eq_getElem (by omega)] at h2
    obtain ⟨z, e2, -, hw⟩ := DataW.trod_int hu h2
    injection e2 with e3
    exact ⟨z, by rw [Array.getElem?_eq_getElem (by omega), e3], hw⟩
  obtain ⟨z0, e0, -⟩ := one 0 f0 .i64 rfl u0
  obtain ⟨z1, e1, w1⟩ := one 1 f1 .u16 rfl u1
  obtain ⟨z2, e2, w2⟩ := one 2 f2 .u8 rfl u2
  obtain ⟨z3, e3, w3⟩ := one 3 f3 .i64 rfl u3
  have b1 := bounds_u16 w1
  have b2 := bounds_u8 w2
  have b3 := bounds_i64 w3
  refine ⟨⟨z0, z1, z2, z3⟩, ?_, ⟨by show 0 ≤ z1; omega, by show z1 ≤ 65535; omega⟩, ⟨by show 0 ≤ z2; omega, by show z2 ≤ 255; omega⟩, ⟨by show _ ≤ z3; omega, by show z3 ≤ _; omega⟩⟩
  obtain ⟨l⟩ := cs
  match l, hsz with
  | [a0, a1, a2, a3], _ =>
    simp at e0 e1 e2 e3
    rw [e0, e1, e2, e3]
end
section
open Go.ChangeShapes Go.WideShapes Go.ChangeAt Go.RowKit Go.Deep
theorem open_boolS {H : Type} {enc : TypeId × Value → H} {P : Program} {w : World} {r : Reach} {b0 base : Nat} {held : Bool} {t e : TypeId} {v : Value} {d : DataW H} {ps : List MemPlace}
    (ht : P.underlying t = some (.slice e)) (he : P.underlying e = some .bool) (hc : P.cellsOf e = 1) (hv : Value.okWide P w r b0 t v) (h : DataW.Trod enc P w base (fun _ => true) held t v d ps) :
    ∃ (A : Option Addr) (cap : Nat) (xs : List Bool), v = .slice A xs.length cap ∧ xs.length ≤ cap ∧ cap ≤ maxLen ∧ ValsIn w w.heap.size A (blv xs) ∧ (A = none → cap = 0) := by
  obtain ⟨a, len, cap, rfl⟩ := okWide_slice ht hv
  obtain ⟨fuel, hf⟩ := h
  rcases Go.Deep.open_bools ht he hc hf with ⟨e1, -⟩ | ⟨ad, len', cap', B, e1, hb, hle, hm, -, hcell⟩
  · have e2 : Value.slice a len cap = .slice none 0 0 := by
      have h : [Value.slice a len cap] = [.slice none 0 0] := e1
      injection h
    exact ⟨none, 0, [], e2, Nat.le_refl _, Nat.zero_le _, ValsIn.nil _ _ _, fun _ => rfl⟩
  · have e2 : Value.slice a len cap = .slice (some ad) len' cap' := by
      have h : [Value.slice a len cap] = [.slice (some ad) len' cap'] := e1
      injection h
    refine ⟨some ad, cap', (List.range len').map B, by rw [List.length_map, List.length_range]; exact e2, by rw [List.length_map, List.length_range]; exact hle, hm, fun j u hu => ?_, fun h => by cases h⟩
    obtain ⟨hj, rfl⟩ : j < len' ∧ u = .bool (B j) := by
      rw [blv, List.getElem?_map, List.getElem?_map] at hu
      by_cases hj : j < len'
      · rw [List.getElem?_range hj] at hu
        injection hu with hu
        exact ⟨hj, hu.symm⟩
      · rw [List.getElem?_eq_none (by simpa using hj)] at hu
        cases hu
    have hce := hcell j (by omega)
    refine ⟨ad, rfl, ?_, hce⟩
    have := World.block_lt_of_cell? _ _ hce
    rwa [add_block] at this
theorem open_cycle1 {H : Type} {enc : TypeId × Value → H} {P : Program} {w : World} {base : Nat} {sp : Nat → Bool} {held : Bool} {t : TypeId} {f0 f1 f2 f3 : Field} {l : List Value} {fuel : Nat} {x : DataW H × List MemPlace}
    (hs : P.underlying t = some (.struct #[f0, f1, f2, f3])) (hone : oneCellFields P #[f0, f1, f2, f3] = true) (hC : P.cellsOf t = 4)
    (u0 : P.underlying f0.type = some (.int .i64)) (u1 : P.underlying f1.type = some (.int .u16)) (u2 : P.underlying f2.type = some (.int .u8)) (u3 : P.underlying f3.type = some (.int .i64))
    (hf : DataW.trod enc P w base sp held fuel t l = some x) : ∃ c : Cy, l = (cyC c).toList := by
  obtain ⟨xs, n, -, -, hsz, hlen, hg⟩ := DataW.trod_struct hs hf
  rw [hC] at hsz
  have hlen : xs.length = 4 := hlen
  have one : ∀ (k : Nat) (f : Field) (K : IntKind), #[f0, f1, f2, f3][k]? = some f → P.underlying f.type = some (.int K) → ∃ z, l[k]? = some (.int K z) := by
    intro k f K hk hu
    obtain ⟨ho, h1⟩ := hone_of hone k f hk
    have hkl : k < 4 := (Array.getElem?_eq_some_iff.1 hk).1
    have h2 := hg k f hk
    rw [ho, h1] at h2
    have e1 : (l.drop k).take 1 = [l[k]'(by omega)] := by
      rw [List.drop_eq_getElem_cons (by omega)]
      rfl
    rw [e1, List.getElem?_eq_getElem (by omega)] at h2
    obtain ⟨z, e2, -, hw⟩ := DataW.trod_int hu h2
    injection e2 with e3
    exact ⟨z, by rw [List.getElem?_eq_getElem (by omega), e3]⟩
  obtain ⟨z0, e0⟩ := one 0 f0 .i64 rfl u0
  obtain ⟨z1, e1⟩ := one 1 f1 .u16 rfl u1
  obtain ⟨z2, e2⟩ := one 2 f2 .u8 rfl u2
  obtain ⟨z3, e3⟩ := one 3 f3 .i64 rfl u3
  refine ⟨⟨z0, z1, z2, z3⟩, ?_⟩
  match l, hsz with
  | [a0, a1, a2, a3], _ =>
    simp at e0 e1 e2 e3
    rw [e0, e1, e2, e3]
theorem open_at {H : Type} {enc : TypeId × Value → H} {P : Program} {w : World} {r : Reach} {b0 base : Nat} {sp : Nat → Bool} {held : Bool} {t : TypeId} {q0 q1 q2 f0 f1 f2 f3 : Field} {v : Value} {d : DataW H} {ps : List MemPlace}
    (hs : P.underlying t = some (.struct #[q0, q1, q2])) (hq : (P.cellsOf t, q0.offset, q1.offset, q2.offset, P.cellsOf q0.type, P.cellsOf q1.type, P.cellsOf q2.type) = (6, 0, 4, 5, 4, 1, 1))
    (hr : P.underlying q0.type = some (.struct #[f0, f1, f2, f3])) (hone : oneCellFields P #[f0, f1, f2, f3] = true)
    (u0 : P.underlying f0.type = some (.int .i64)) (u1 : P.underlying f1.type = some (.int .u16)) (u2 : P.underlying f2.type = some (.int .u8)) (u3 : P.underlying f3.type = some (.int .i64)) (k1 : P.underlying q1.type = some (.int .i64)) (k2 : P.underlying q2.type = some (.int .i64))
    (hv : Value.okWide P w r b0 t v) (h : DataW.Trod enc P w base sp held t v d ps) : ∃ a : AtT, v = atV a := by
  simp only [Prod.mk.injEq] at hq
  obtain ⟨hC, o0, o1, o2, c0, c1, c2⟩ := hq
  obtain ⟨cs, rfl, hsz⟩ := okWide_struct hs hv
  obtain ⟨fuel, hf⟩ := h
  obtain ⟨xs, n, -, -, hl, hlen, hg⟩ := DataW.trod_struct hs hf
  rw [hC] at hsz hl
  have hlen : xs.length = 3 := hlen
  obtain ⟨l, hcs⟩ : ∃ l, l = cs.toList := ⟨_, rfl⟩
  have hcl : (Value.agg cs).cells.toList = l := by rw [hcs]; rfl
  rw [hcl] at hg hl
  have t0 := hg 0 q0 rfl
  have t1 := hg 1 q1 rfl
  have t2 := hg 2 q2 rfl
  rw [o0, c0, List.getElem?_eq_getElem (by omega)] at t0
  rw [o1, c1, List.getElem?_eq_getElem (by omega), show (l.drop 4).take 1 = [l[4]'(by omega)] by rw [List.drop_eq_getElem_cons (by omega)]; rfl] at t1
  rw [o2, c2, List.getElem?_eq_getElem (by omega), show (l.drop 5).take 1 = [l[5]'(by omega)] by rw [List.drop_eq_getElem_cons (by omega)]; rfl] at t2
  obtain ⟨c, e0⟩ := open_cycle1 hr hone c0 u0 u1 u2 u3 t0
  obtain ⟨z1, e1, -, -⟩ := DataW.trod_int k1 t1
  obtain ⟨z2, e2, -, -⟩ := DataW.trod_int k2 t2
  injection e1 with e1
  injection e2 with e2
  refine ⟨⟨c, z1, z2⟩, ?_⟩
  have e3 : l = l.take 4 ++ [l[4]'(by omega), l[5]'(by omega)] := by
    conv => lhs; rw [← List.take_append_drop 4 l]
    rw [List.drop_eq_getElem_cons (by omega), List.drop_eq_getElem_cons (by omega), List.drop_of_length_le (by omega)]
  have e4 : l.take 4 = (cyC c).toList := by simpa using e0
  rw [e4, e1, e2] at e3
  show Value.agg cs = .agg _
  rw [← Array.toArray_toList (xs := cs), ← hcs, e3]
  rfl
end
def flats {H : Type} (F : TypeId → DataW H → Option (List Value)) : List (TypeId × Nat) → List (DataW H) → Nat → Option (List Value)
  | [], [], _ => some []
  | (e, o) :: L, d :: ds, cur => if o = cur then (F e d).bind fun a => (flats F L ds (cur + a.length)).map fun b => a ++ b else none
  | _, _, _ => none
def flat {H : Type} (P : Program) : Nat → TypeId → DataW H → Option (List Value)
  | 0, _, _ => none
  | k + 1, t, d => match P.underlying t, d with
    | some (.int q), .lit (.int q' n) => if q = q' then some [.int q n] else none
    | some .bool, .lit (.bool b) => some [.bool b]
    | some .string, .lit (.string bs) => some [.string ⟨bs.toArray⟩]
    | some (.array n e), .agg ds => (flats (flat P k) ((List.range n).map fun i => (e, i * P.cellsOf e)) ds 0).bind fun out => if out.length = P.cellsOf t then some out else none
    | some (.struct fs), .agg ds => (flats (flat P k) (fs.toList.map fun f => (f.type, f.offset)) ds 0).bind fun out => if out.length = P.cellsOf t then some out else none
    | _, _ => none
section
variable {H : Type} {enc : TypeId × Value → H} {P : Program} {w : World} {base : Nat} {sp : Nat → Bool} {held : Bool}
theorem flats_ok (F : TypeId → DataW H → Option (List Value)) (m : Nat) (cs : List Value)
    (hF : ∀ e d cs' p a, DataW.trod enc P w base sp held m e cs' = some (d, p) → F e d = some a → cs' = a) :
    ∀ (L : List (TypeId × Nat)) (xs : List (DataW H × List MemPlace)) (cur : Nat) (out : List Value), L.length = xs.length →
      (∀ (i : Nat) (e : TypeId) (o : Nat), L[i]? = some (e, o) → DataW.trod enc P w base sp held m e ((cs.drop o).take (P.cellsOf e)) = xs[i]?) → flats F L (xs.map (·.1)) cur = some out → (cs.drop cur).take out.length = out
  | [], [], cur, out, _, _, h => by
    simp only [List.map_nil, flats, Option.some.injEq] at h
    subst h; simp
  | (e, o) :: L, (d, p) :: xs, cur, out, hl, hx, h => by
    simp only [List.map_cons, flats] at h
    split at h
    · rename_i ho
      subst ho
      obtain ⟨a, ha, h⟩ := Option.bind_eq_some_iff.1 h
      obtain ⟨b, hb, rfl⟩ := Option.map_eq_some_iff.1 h
      have h0 := hx 0 e o rfl
      have e1 := hF e d _ p a (by simpa using h0) ha
      have ih := flats_ok F m cs hF L xs (o + a.length) b (by simpa using hl) (fun i e' o' hi => by simpa using hx (i + 1) e' o' (by simpa using hi)) hb
      have e2 : (cs.drop o).take a.length = a := by
        conv => rhs; rw [← e1]
        rw [← e1, List.length_take]
        rcases Nat.le_total (P.cellsOf e) (cs.drop o).length with hq | hq
        · rw [Nat.min_eq_left hq]
        · rw [Nat.min_eq_right hq, List.take_length, List.take_of_length_le hq]
      have e3 : cs.drop o = a ++ cs.drop (o + a.length) := by
        conv => lhs; rw [← List.take_append_drop a.length (cs.drop o), e2, List.drop_drop]
      rw [e3, List.length_append, List.take_length_add_append, ih]
    · cases h
  | [], _ :: _, _, _, hl, _, _ => by simp at hl
  | _ :: _, [], _, _, hl, _, _ => by simp at hl
theorem flat_ok : ∀ (k : Nat) (t : TypeId) (d : DataW H) (cs : List Value) (fuel : Nat) (p : List MemPlace) (out : List Value), DataW.trod enc P w base sp held fuel t cs = some (d, p) → flat P k t d = some out → cs = out
  | 0, _, _, _, _, _, _, _, h => by simp [flat] at h
  | k + 1, t, d, cs, fuel, p, out, ht, h => by
    unfold flat at h
    split at h
    · rename_i hu
      split at h
      · rename_i hq
        subst hq
        obtain ⟨n, rfl, e, _⟩ := DataW.trod_int hu ht
        simp only [Prod.mk.injEq, DataW.lit.injEq, Lit.int.injEq, true_and] at e
        obtain ⟨rfl, _⟩ := e
        exact Option.some.inj h
      · cases h
    · rename_i hu
      obtain ⟨b, rfl, e⟩ := DataW.trod_bool hu ht
      simp only [Prod.mk.injEq, DataW.lit.injEq, Lit.bool.injEq] at e
      obtain ⟨rfl, _⟩ := e
      exact Option.some.inj h
    · rename_i hu
      obtain ⟨s, rfl, e, _⟩ := DataW.trod_string hu ht
      simp only [Prod.mk.injEq, DataW.lit.injEq, Lit.string.injEq] at e
      obtain ⟨rfl, _⟩ := e
      exact Option.some.inj h
    · rename_i n e ds hu
      obtain ⟨xs, m, rfl, hx, hlen, hxl, hi⟩ := DataW.trod_array hu ht
      simp only [Prod.mk.injEq, DataW.agg.injEq] at hx
      obtain ⟨rfl, rfl⟩ := hx
      obtain ⟨o, ho, h⟩ := Option.bind_eq_some_iff.1 h
      split at h
      · rename_i hol
        obtain rfl := Option.some.inj h
        have := flats_ok (flat P k) m cs (fun e d cs' p a h1 h2 => flat_ok k e d cs' m p a h1 h2) _ xs 0 o (by simp [hxl]) (fun i e' o' hq => by
          simp only [List.getElem?_map, Option.map_eq_some_iff, Prod.mk.injEq] at hq
          obtain ⟨j, hj, rfl, rfl⟩ := hq
          obtain ⟨hj1, hj2⟩ := List.getElem?_eq_some_iff.1 hj
          simp only [List.getElem_range] at hj2
          subst hj2
          exact hi _ (by simpa using hj1)) ho
        rwa [List.drop_zero, hol, ← hlen, List.take_length] at this
      · cases h
    · rename_i fs ds hu
      obtain ⟨xs, m, rfl, hx, hlen, hxl, hi⟩ := DataW.trod_struct hu ht
      simp only [Prod.mk.injEq, DataW.agg.injEq] at hx
      obtain ⟨rfl, rfl⟩ := hx
      obtain ⟨o, ho, h⟩ := Option.bind_eq_some_iff.1 h
      split at h
      · rename_i hol
        obtain rfl := Option.some.inj h
        have := flats_ok (flat P k) m cs (fun e d cs' p a h1 h2 => flat_ok k e d cs' m p a h1 h2) _ xs 0 o (by simp [hxl]) (fun i e' o' hq => by
          simp only [List.getElem?_map, Option.map_eq_some_iff, Prod.mk.injEq] at hq
          obtain ⟨f, hf, rfl, rfl⟩ := hq
          exact hi i f (by simpa using hf)) ho
        rwa [List.drop_zero, hol, ← hlen, List.take_length] at this
      · cases h
    · cases h
end
theorem laidVars_at {P : Program} {W : World} {name : String} {d : DataW Unit} : ∀ (laid : List (String × DataW Unit)) (ps : List MemPlace), DataW.LaidVars P W laid ps → ∀ (i : Nat), laid[i]? = some (name, d) →
    ∃ g t cs fuel p, P.globalNamed name = some g ∧ (P.globals[g]?).map (·.type) = some t ∧ W.var? P name = some cs ∧ DataW.trod (fun _ => ()) P W 0 (fun _ => true) false fuel t cs.toList = some (d, p)
  | [], _, _, i, hi => by simp at hi
  | (n, d') :: r, ps, h, 0, hi => by
    obtain ⟨g, t, cs, fuel, p, q, h1, h2, h3, h4, _, _⟩ := h
    simp only [List.getElem?_cons_zero, Option.some.injEq, Prod.mk.injEq] at hi
    obtain ⟨rfl, rfl⟩ := hi
    exact ⟨g, t, cs, fuel, p, h1, h2, h3, h4⟩
  | (n, d') :: r, ps, h, i + 1, hi => by
    obtain ⟨g, t, cs, fuel, p, q, _, _, _, _, h5, _⟩ := h
    exact laidVars_at r q h5 i (by simpa using hi)
theorem laid_var {P : Program} {W : World} {name : String} {d : DataW Unit} {laid : List (String × DataW Unit)} {g : Nat} {t : TypeId} {k : Nat} {out : List Value} (i : Nat) (hi : laid[i]? = some (name, d)) (hg : P.globalNamed name = some g) (hty : (P.globals[g]?).map (·.type) = some t)
    (hf : flat P k t d = some out) (h : laidMet P laid W) : W.var? P name = some out.toArray := by
  obtain ⟨ps, h1, _⟩ := h
  obtain ⟨g', t', cs, fuel, p, hg', ht', hvar, hd⟩ := laidVars_at laid ps h1 i hi
  obtain rfl := Option.some.inj (hg.symm.trans hg')
  obtain rfl := Option.some.inj (hty.symm.trans ht')
  rw [hvar, ← flat_ok k t d _ _ _ _ hd hf]
theorem laid_cell {P : Program} {W : World} {name : String} {g : Nat} {out : List Value} (h : W.var? P name = some out.toArray) (hg : P.globalNamed name = some g) (i : Nat) (v : Value) (hv : out[i]? = some v) : W.cell? ⟨g, i, none⟩ = some v := by
  rw [World.var?_cell hg h i]
  simpa using hv
end Go.Proofs.YtoifkefonejeiaaDoor
