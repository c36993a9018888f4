/- The law's walk and what it wants (several texts in one). -/
import Derived.Test.YtkgaeamdhhceiaaGreatDoorStG15
namespace Go.Proofs.YtkgaeamdhhceiaaGreatDoor
open Go.RowKit
set_option linter.unusedVariables false
set_option linter.unusedSimpArgs false
set_option maxRecDepth 20000
set_option maxHeartbeats 20000000
theorem wr_append (a b : List Cy) (m : List (Int × Int)) : wrS (a ++ b) m = wrS b (wrS a m) := List.foldl_append
theorem wr_sub (l : List Cy) : ∀ (m : List (Int × Int)), ∀ c ∈ m, c ∈ wrS l m := by
  induction l with
  | nil => intro m c h; exact h
  | cons d r ih =>
    intro m c h
    refine ih (memS d m) c ?_
    unfold memS
    split
    · exact List.mem_append_left _ h
    · exact h
theorem wr_mem (l : List Cy) (m : List (Int × Int)) (k : Nat) (h : k < l.length) (h3 : l[k].kind = 3) : (l[k].addr, l[k].data) ∈ wrS l m := by
  have e : wrS l m = wrS (l.drop (k + 1)) (wrS (l.take (k + 1)) m) := by rw [← wr_append, List.take_append_drop]
  rw [e]
  refine wr_sub _ _ _ ?_
  rw [wr_take l k h]
  unfold memS
  rw [if_pos h3]
  exact List.mem_append_right _ (List.mem_singleton.2 rfl)
theorem wr_pre (l : List Cy) (m : List (Int × Int)) (k : Nat) : ∀ c ∈ wrS (l.take k) m, c ∈ wrS l m := fun c h => by
  have e : wrS l m = wrS (l.drop k) (wrS (l.take k) m) := by rw [← wr_append, List.take_append_drop]
  rw [e]
  exact wr_sub _ _ _ h
theorem wr_len (l : List Cy) : ∀ (m : List (Int × Int)), (wrS l m).length ≤ m.length + l.length := by
  induction l with
  | nil => intro m; exact Nat.le_refl _
  | cons c r ih =>
    intro m
    have h1 := ih (memS c m)
    have h2 := memS_len c m
    show (wrS r (memS c m)).length ≤ m.length + (r.length + 1)
    omega
theorem fldY (q : Addr) (i : Nat) (h : i < 4) (w : World) : (Instr.fieldAt 54 (.pointer (some q)) i).run Tryz.prog w = .ok (.pointer (some (q.add i))) w := by
  match i, h with
  | 0, _ => simp [go_sem]
  | 1, _ => simp [go_sem]
  | 2, _ => simp [go_sem]
  | 3, _ => simp [go_sem]
theorem ldAt {P : Program} {w : World} {q : Addr} {V : Value} {t : TypeId} (hc : w.cell? q = some V) (hu : (P.underlying t).map (·.isRow) = some false := by kernel_rfl) : (Instr.loadAt t (.pointer (some q))).run P w = .ok V w := by
  cases hp : P.underlying t with
  | none => rw [hp] at hu; cases hu
  | some d => rw [hp] at hu; injection hu with hu; exact loadOne hp hu hc
theorem CysIn.parts {w : World} {B : Nat} {p : Addr} {l : List Cy} (h : CysIn w B (some p) l) {k : Nat} (hk : k < l.length) : w.cell? ((p.add (k * 4)).add 0) = some (.int .i64 l[k].kind) ∧ w.cell? ((p.add (k * 4)).add 1) = some (.int .u16 l[k].addr) ∧ w.cell? ((p.add (k * 4)).add 2) = some (.int .u8 l[k].data) ∧ w.cell? ((p.add (k * 4)).add 3) = some (.int .i64 l[k].t) := by
  obtain ⟨h0, h1, h2, h3⟩ := cyvs_at l k hk
  exact ⟨by rw [add_zero']; exact h.values _ _ h0, by rw [add_more _ _ _ (by omega)]; exact h.values _ _ h1, by rw [add_more _ _ _ (by omega)]; exact h.values _ _ h2, by rw [add_more _ _ _ (by omega)]; exact h.values _ _ h3⟩
def maxI (a b : Int) : Int := if b > a then b else a
theorem xMax {P : Program} {ρ : Operand → Value} {o : Oper} {x y : Operand} (a b : Int) {w : World} (ho : o.op = .call { callee := .builtin .max, args := #[x, y], argTypes := #[3, 3] } := by exact rfl) (hx : ρ x = .int .i64 a := by kernel_rfl) (hy : ρ y = .int .i64 b := by kernel_rfl) : (execOp ρ o).run P w = .ok (.value (.int .i64 (maxI a b))) w := by
  unfold execOp
  simp [ho, hx, hy, resolve, invoke, builtin, Builtin.max_, Builtin.max2, Sem.run_bind, Sem.run_pure, Result.andThen_ok, maxI, go_sem]
structure WrX where
  k : Nat
  A : Option Addr
  c : Nat
  m : List (Int × Int)
  cnt : Nat
  y : Nat → Value
def wrB (V : Value) (which v : Int) (b3 b9 : Nat) (p : Option Addr) (n c : Nat) (x : WrX) : List Value := [V, .int .i64 which, .int .u8 v, pT b3 0, x.y 4, x.y 5, x.y 6, x.y 7, x.y 8, pT b9 0, .slice p n c, x.y 11, .slice x.A (mkS x.m).length x.c, .int .i64 (x.cnt : Int), .int .i64 (x.k : Int), x.y 15, x.y 16, x.y 17, x.y 18, x.y 19, x.y 20, x.y 21, x.y 22, x.y 23, x.y 24, x.y 25, x.y 26, x.y 27, x.y 28, x.y 29, x.y 30, x.y 31, x.y 32, x.y 33, x.y 34, x.y 35, x.y 36, x.y 37, x.y 38, x.y 39, x.y 40, x.y 41, x.y 42, x.y 43, x.y 44, x.y 45, x.y 46, x.y 47, x.y 48, x.y 49, x.y 50, x.y 51, x.y 52, x.y 53, x.y 54, x.y 55, x.y 56, x.y 57, x.y 58, x.y 59, x.y 60, x.y 61, x.y 62, x.y 63, x.y 64, x.y 65, x.y 66, x.y 67, x.y 68, x.y 69, x.y 70, x.y 71, x.y 72, x.y 73, x.y 74, x.y 75, x.y 76, x.y 77, x.y 78, x.y 79, x.y 80, x.y 81, x.y 82, x.y 83, x.y 84, x.y 85, x.y 86, x.y 87, x.y 88, x.y 89, x.y 90, x.y 91, x.y 92, x.y 93, x.y 94, x.y 95, x.y 96, x.y 97, x.y 98, x.y 99, x.y 100, x.y 101, x.y 102, x.y 103, x.y 104]
structure WrI (Z : World) (l : List Cy) (m : List (Int × Int)) (x : WrX) (W : World) : Prop where
  low : Below Z.heap.size Z W
  k : x.k ≤ l.length
  m : x.m = wrS (l.take x.k) m
  cnt : x.cnt = inS (l.take x.k)
  at_ : CellsIn W W.heap.size x.A (mkS x.m)
  none : x.A = none → x.c = 0
theorem stepWrites_walk (g : Rg) (A : Option Addr) (cap : Nat) (ms : List (Int × Int)) (A' : Option Addr) (cap' : Nat) (ps : List Int) (which v : Int) (v0 : 0 ≤ v) (v1 : v ≤ 255) (hg : RgB g) (w : World)
    (hc : ms.length ≤ cap) (hm : cap ≤ maxLen) (h16 : Cells16 ms) (hin : CellsIn w w.heap.size A ms) (hn : A = none → cap = 0) (hc' : ps.length ≤ cap') (hm' : cap' ≤ maxLen) (h8 : Bytes8 ps) (hin' : BytesIn w w.heap.size A' ps) (hn' : A' = none → cap' = 0) (hM : Masks w) (hD : Digits w) (hC : Courses w) (hO : Modes w) :
    Calls Tryz.prog 6 #[worldV g (.slice A ms.length cap) (.slice A' ps.length cap'), .int .i64 which, .int .u8 v] w fun e w' => e = .returned (.bool true) ∧ Below w.heap.size w w' := by
  have ht : Tabs w w.heap.size := (NextTabs.mk hM hC hD hO).tabs
  have hA : AccOk := acc_ok ht
  have hI : InW w w.heap.size (worldV g (.slice A ms.length cap) (.slice A' ps.length cap')) ⟨g, ms, ps⟩ := ⟨A, cap, A', cap', rfl, hin, hn, hc, hin', hn', hc'⟩
  have hok : OkW ⟨g, ms, ps⟩ := ⟨hg, h16, h8⟩
  have hv : B8 v := ⟨v0, v1⟩
  go_enter Tryz.func6, Tryz.ntmps6
  refine coStart <| qQ [] (Many.begin w) fun w1 k1 => coR <| qC (awake15_any hA w1 (ht.below k1.touch.below)) k1 fun w2 k2 => qE [] k2 fun w3 k3 => coS <| qQ [] k3 fun w4 k4 => coF <| coSkip <| eoT <| coR <| qR 1 [0] k4 fun w5 k5 => qC (sfew_any w5 (hI.on k5.touch.below)) k5 fun w6 k6 => qE [] k6 fun w7 k7 => coS <| coR <| qR 1 [] k7 fun w8 k8 => ?_
  by_cases hf : fewS ⟨g, ms, ps⟩ = true
  case neg => exact qE [] k8 fun w9 k9 => coI (!fewS ⟨g, ms, ps⟩) (fun _ => qQ [] k9 fun wa ka => coRet <| eoTr <| eoIr (.bool true) ⟨rfl, ka.touch.below⟩) fun h => absurd h (by simpa using hf)
  refine qE [] k8 fun w9 k9 => coI (!fewS ⟨g, ms, ps⟩) (fun h => absurd h (by simp [hf])) fun _ => coSkip <| eoT <| coR <| qR 3 [0] k9 fun wa ka => ?_
  have hlen : ms.length ≤ 80 ∧ ps.length ≤ 40 := few_len hf
  have hba := ka.touch.below
  have r3 : Row wa w.heap.size 28 (worldC g (.slice A ms.length cap) (.slice A' ps.length cap')) := ka.row 0 (worldC g (.slice A ms.length cap) (.slice A' ps.length cap')).toList (by kernel_rfl)
  have tel := step_tells ⟨g, ms, ps⟩ which v
  have hxl := step_list ⟨g, ms, ps⟩ which v
  have hx16 : Cells16 (stepX ⟨g, ms, ps⟩ which v).m := (hok.x hA which hv).m
  have KS := pstep_any hA which v wa hok hv (by show ms.length ≤ _; omega) (by show ps.length ≤ _; omega) (hI.on hba) (ht.below hba)
  obtain ⟨X, hX⟩ : ∃ X, X = stepX ⟨g, ms, ps⟩ which v := ⟨_, rfl⟩
  obtain ⟨l, hl⟩ : ∃ l, l = X.l := ⟨_, rfl⟩
  have hpw : mkW (pstepW ⟨g, ms, ps⟩ which v) = ⟨endP g which X, mkS X.m, X.p⟩ := by rw [hX]; rfl
  rw [hpw, ← hX, ← hl] at KS
  rw [← hX] at tel hxl hx16
  have telm := tel.m
  have telp := tel.p
  have tela := tel.at_
  rw [← hl] at telm telp hxl
  have telm : X.m = wrS l ms := telm
  have telp : X.p = ps.drop (inS l) := telp
  have tela : ∀ (k : Nat) (h : k < l.length), l[k].kind ≠ 7 ∧ (l[k].kind = 1 ∨ l[k].kind = 2 → l[k].data = getC (wrS (l.take k) ms) l[k].addr) ∧ (l[k].kind = 6 → l[k].data = v) := by rw [hl]; exact tela
  rw [telm] at hx16
  refine kX KS fun e wb ⟨V2, Ay, cy, he, h2, hcy, hny, hly, hbb⟩ => ⟨_, he, ?_⟩
  have h2' := h2
  obtain ⟨A2, c2, B2, d2, rfl, hc2, -⟩ := h2'
  refine qE [0] (Many.begin wb) fun wc kc => ?_
  have hbc := kc.touch.below
  have r9 : Row wc wb.heap.size 28 (worldC (endP g which X) (.slice A2 (mkS X.m).length c2) (.slice B2 X.p.length d2)) := kc.row 0 (worldC (endP g which X) (.slice A2 (mkS X.m).length c2) (.slice B2 X.p.length d2)).toList (by kernel_rfl)
  have hac : Below wa.heap.size wa wc := hbb.trans (hbc.mono hbb.size)
  have hBc : Below w.heap.size w wc := hba.trans (hac.mono hba.size)
  have r3c := r3.below hac r3.lt
  have hcy := (hcy.below hbc).more hbc.size
  have hc2 := (hc2.below hbc).more hbc.size
  refine coR <| qR 1 [] (Many.begin wc) fun wd kd => ?_
  have hbd := kd.touch.below
  have r3d := r3c.below hbd r3c.lt
  refine wM (xLoad (ldOne (r3d.cell 20))) <| kX (rcmake_any A cap ms (by omega) h16 wd (((hin.below hBc).below (hbd.mono hBc.size)).more (Nat.le_trans hBc.size hbd.size))) fun e we ⟨A5, c5, he5, hc5, hl5, hn5, hb5⟩ => ⟨_, he5, qE [] (Many.begin we) fun wf kf => qQ [] kf fun wg kg => coS <| qQ [] kg fun wh kh => ?_⟩
  have hbh := kh.touch.below
  have hch : Below wc.heap.size wc wh := hbd.trans ((hb5.trans (hbh.mono hb5.size)).mono hbd.size)
  have hBh := hBc.trans (hch.mono hBc.size)
  have r3h := r3c.below hch r3c.lt
  have r9h := r9.below hch r9.lt
  have hcyh := (hcy.below hch).more hch.size
  have hc2h := (hc2.below hch).more hch.size
  refine coB <| coLoop (wrB (worldV g (.slice A ms.length cap) (.slice A' ps.length cap')) which v w.heap.size wb.heap.size Ay l.length cy) (WrI wh l ms) (fun x => l.length - x.k) (fun y => ⟨0, A5, c5, ms, 0, y⟩) ⟨Below.refl _ _, Nat.zero_le _, rfl, rfl, (hc5.below hbh).more hbh.size, hn5⟩ ?_
  rintro ⟨k, Ax, cx, mx, cnt, y⟩ W ⟨hlow, hk0, hmx0, hcnt0, hcx0, hnx0⟩
  have hk : k ≤ l.length := hk0
  have hmx : mx = wrS (l.take k) ms := hmx0
  have hcnt : cnt = inS (l.take k) := hcnt0
  have hcx : CellsIn W W.heap.size Ax (mkS mx) := hcx0
  have hnx : Ax = none → cx = 0 := hnx0
  clear hk0 hmx0 hcnt0 hcx0 hnx0
  have hm16 : Cells16 mx := fun c hc => hx16 c (wr_pre l ms k c (hmx ▸ hc))
  have hml : (mkS mx).length ≤ 1000 := by
    have h1 := len_mkS mx
    have h2 := wr_len (l.take k) ms
    rw [← hmx, List.length_take] at h2
    omega
  have hcl : cnt ≤ l.length := by
    rw [hcnt]
    exact Nat.le_trans (in_le _) (by rw [List.length_take]; omega)
  refine coS <| qQ [] (Many.begin W) fun wi ki => coI (decide ((k : Int) < (l.length : Int))) (fun hlt => coSkip <| eoT <| coS <| coB <| ?_) fun hge => coX <| eoTx <| eoTx <| eoBx <| eoT ?_
  · have hlt : k < l.length := by have : (k : Int) < (l.length : Int) := by simpa using hlt
                                  omega
    obtain ⟨p, rfl⟩ := hcyh.addr hlt
    obtain ⟨t7, t12, t6⟩ := tela k hlt
    have hS : ∀ {w' : World}, Below wh.heap.size wh w' → CysIn w' wh.heap.size (some p) l := fun hb => hcyh.below hb
    have bki := hlow.trans (ki.touch.below.mono hlow.size)
    have next : ∀ {W' : World} {m' : List (Int × Int)} {A6 : Option Addr} {c6 cnt' : Nat}, Below wh.heap.size wh W' → m' = memS l[k] mx → cnt' = (if l[k].kind = 4 then cnt + 1 else cnt) → CellsIn W' W'.heap.size A6 (mkS m') → (A6 = none → c6 = 0) → ∀ y, WrI wh l ms ⟨k + 1, A6, c6, m', cnt', y⟩ W' := fun hb h1 h2 h3 h4 y =>
      ⟨hb, hlt, by show _ = wrS (l.take (k + 1)) ms; rw [wr_take l k hlt, ← hmx]; exact h1, by show _ = inS (l.take (k + 1)); rw [in_take l k hlt, ← hcnt]; exact h2, h3, h4⟩
    have stay : ∀ {W' : World}, Below W.heap.size W W' → Below wh.heap.size wh W' ∧ CellsIn W' W'.heap.size Ax (mkS mx) := fun hb => ⟨hlow.trans (hb.mono hlow.size), (hcx.below hb).more hb.size⟩
    have noW : ¬ l[k].kind = 3 → mx = memS l[k] mx := fun h => by unfold memS; rw [if_neg h]
    refine coR <| qR 2 [] ki fun wj kj => wM (xIndex (cixY p l.length cy k hlt _)) <| wM (xField (fldY (p.add (k * 4)) 0 (by decide) _)) <| wM (xLoad (ldAt ((hS (stay kj.touch.below).1).parts hlt).1)) <| qE [] kj fun wl kl => coB <| qQ [] kl fun wm km => coI (l[k].kind == 3) (fun h3 => ?_) fun h3 => coS <| qQ [] km fun wn kn => coI (l[k].kind == 1) (fun h1 => coSkip <| eoT <| coJ (l[k].kind == 1) (fun e => by rw [h1] at e; cases e) fun _ => ?_) fun h1 => coZ <| qF [] kn fun wo ko => eoT <| coI (l[k].kind == 2) (fun h2 => ?_) fun h2 => qQ [] ko fun wn kn => coI (l[k].kind == 4) (fun h4 => ?_) fun h4 => qQ [] kn fun wo ko => coI (l[k].kind == 6) (fun h6 => ?_) fun h6 => qQ [] ko fun wp kp => coI (l[k].kind == 7) (fun h7 => absurd (by simpa using h7) t7) fun h7 => ?_
    · have h3 : l[k].kind = 3 := by simpa using h3
      have bx := hx16 _ (wr_mem l ms k hlt h3)
      refine coDz (w0 := wh) 12 (stay km.touch.below).1 fun wn hn1 hn2 => qM [0, 1, 2, 6, 7] hn2 <| qT 3 hn2 (fun w' _ => xIndex (cixY p l.length cy k hlt _)) <| qT 4 hn2 (fun w' _ => xField (fldY (p.add (k * 4)) 1 (by decide) _)) <| qT 5 hn2 (fun w' hS' => xLoad (ldAt ((hS hS').parts hlt).2.1)) <| qT 8 hn2 (fun w' _ => xIndex (cixY p l.length cy k hlt _)) <| qT 9 hn2 (fun w' _ => xField (fldY (p.add (k * 4)) 2 (by decide) _)) <| qT 10 hn2 (fun w' hS' => xLoad (ldAt ((hS hS').parts hlt).2.2.1)) ?_
      have hW := stay (km.touch.below.trans (hn1.mono km.touch.size))
      have KP := rcput_any Ax cx (mkS mx) l[k].addr l[k].data (by omega) (c16_mkS hm16) ⟨bx.1, bx.2.1⟩ ⟨bx.2.2.1, bx.2.2.2⟩ wn hW.2 hnx
      have e6 : mkS (mkS mx ++ [(l[k].addr, l[k].data)]) = mkS (mx ++ [(l[k].addr, l[k].data)]) := ((sameM_mkS mx).snoc _).mk
      rw [e6] at KP
      refine poOne 11 (soC KP fun e wo ⟨A6, c6, he6, hc6, hl6, hn6, hb6⟩ => ⟨_, he6, hn2.trans (hb6.mono hn2.size), poE <| qF [] (Many.begin wo) fun wp kp => eoB <| eoB <| eoT <| coZ <| qR 1 [] kp fun wq kq => wM (xInc k (by omega)) <| qF [] kq fun wr kr => eoRound (fun y => ⟨k + 1, A6, c6, mx ++ [(l[k].addr, l[k].data)], cnt, y⟩) (next (bOn (hn2.trans (hb6.mono hn2.size)) kr) (by unfold memS; rw [if_pos h3]) (by rw [if_neg (by omega)]) ((hc6.below kr.touch.below).more kr.touch.size) hn6 _) (by show l.length - (k + 1) < l.length - k; omega)⟩)
    · have h1 : l[k].kind = 1 := by simpa using h1
      have h3 : ¬ l[k].kind = 3 := by omega
      have hd := t12 (.inl h1)
      rw [← hmx] at hd
      have bn := (stay kn.touch.below).1
      refine coD (w0 := wh) 12 bn fun wo ho1 ho2 => qM [0, 1, 5, 6, 7] ho2 <| qT 2 ho2 (fun w' _ => xIndex (cixY p l.length cy k hlt _)) <| qT 3 ho2 (fun w' _ => xField (fldY (p.add (k * 4)) 2 (by decide) _)) <| qT 4 ho2 (fun w' hS' => xLoad (ldAt ((hS hS').parts hlt).2.2.1)) <| qT 8 ho2 (fun w' _ => xIndex (cixY p l.length cy k hlt _)) <| qT 9 ho2 (fun w' _ => xField (fldY (p.add (k * 4)) 1 (by decide) _)) <| qT 10 ho2 (fun w' hS' => xLoad (ldAt ((hS hS').parts hlt).2.1)) ?_
      have bW := kn.touch.below.trans (ho1.mono kn.touch.size)
      have hW := stay bW
      have KG := rcget_any Ax cx (mkS mx) l[k].addr (by omega) wo hW.2
      rw [getC_mkS, ← hd] at KG
      refine poOne 11 (soC KG fun e wp ⟨he, hb⟩ => ⟨_, he, ho2.trans (hb.mono ho2.size), poE <| qE [] (Many.begin wp) fun wq kq => coI (l[k].data != l[k].data) (fun h => by simp at h) fun _ => coSkip <| eoB <| eoB <| eoT <| coZ <| qR 1 [] kq fun wr kr => wM (xInc k (by omega)) <| qF [] kr fun ws ks => eoRound (fun y => ⟨k + 1, Ax, cx, mx, cnt, y⟩) (next (bOn (ho2.trans (hb.mono ho2.size)) ks) (noW h3) (by rw [if_neg (by omega)]) (stay (bW.trans ((hb.trans (ks.touch.below.mono hb.size)).mono bW.size))).2 hnx _) (by show l.length - (k + 1) < l.length - k; omega)⟩)
    · have h2 : l[k].kind = 2 := by simpa using h2
      have h3 : ¬ l[k].kind = 3 := by omega
      have hd := t12 (.inr h2)
      rw [← hmx] at hd
      have bn := (stay ko.touch.below).1
      refine coD (w0 := wh) 12 bn fun wo ho1 ho2 => qM [0, 1, 5, 6, 7] ho2 <| qT 2 ho2 (fun w' _ => xIndex (cixY p l.length cy k hlt _)) <| qT 3 ho2 (fun w' _ => xField (fldY (p.add (k * 4)) 2 (by decide) _)) <| qT 4 ho2 (fun w' hS' => xLoad (ldAt ((hS hS').parts hlt).2.2.1)) <| qT 8 ho2 (fun w' _ => xIndex (cixY p l.length cy k hlt _)) <| qT 9 ho2 (fun w' _ => xField (fldY (p.add (k * 4)) 1 (by decide) _)) <| qT 10 ho2 (fun w' hS' => xLoad (ldAt ((hS hS').parts hlt).2.1)) ?_
      have bW := ko.touch.below.trans (ho1.mono ko.touch.size)
      have hW := stay bW
      have KG := rcget_any Ax cx (mkS mx) l[k].addr (by omega) wo hW.2
      rw [getC_mkS, ← hd] at KG
      refine poOne 11 (soC KG fun e wp ⟨he, hb⟩ => ⟨_, he, ho2.trans (hb.mono ho2.size), poE <| qE [] (Many.begin wp) fun wq kq => coI (l[k].data != l[k].data) (fun h => by simp at h) fun _ => coSkip <| eoB <| eoB <| eoT <| coZ <| qR 1 [] kq fun wr kr => wM (xInc k (by omega)) <| qF [] kr fun ws ks => eoRound (fun y => ⟨k + 1, Ax, cx, mx, cnt, y⟩) (next (bOn (ho2.trans (hb.mono ho2.size)) ks) (noW h3) (by rw [if_neg (by omega)]) (stay (bW.trans ((hb.trans (ks.touch.below.mono hb.size)).mono bW.size))).2 hnx _) (by show l.length - (k + 1) < l.length - k; omega)⟩)
    · have h4 : l[k].kind = 4 := by simpa using h4
      refine coZ <| qR 1 [] kn fun wo ko => wM (xInc cnt (by omega)) <| qF [] ko fun wp kp => eoB <| eoB <| eoT <| coZ <| qR 1 [] kp fun wq kq => wM (xInc k (by omega)) <| qF [] kq fun wr kr => eoRound (fun y => ⟨k + 1, Ax, cx, mx, cnt + 1, y⟩) (next (stay kr.touch.below).1 (noW (by omega)) (by rw [if_pos h4]) (stay kr.touch.below).2 hnx _) (by show l.length - (k + 1) < l.length - k; omega)
    · have h6 : l[k].kind = 6 := by simpa using h6
      have hd := t6 h6
      refine coR <| qR 2 [] ko fun wp kp => wM (xIndex (cixY p l.length cy k hlt _)) <| wM (xField (fldY (p.add (k * 4)) 2 (by decide) _)) <| wM (xLoad (ldAt ((hS (stay kp.touch.below).1).parts hlt).2.2.1)) <| qE [] kp fun wq kq => coI (l[k].data != v) (fun h => by rw [hd] at h; simp at h) fun _ => coSkip <| eoB <| eoB <| eoT <| coZ <| qR 1 [] kq fun wr kr => wM (xInc k (by omega)) <| qF [] kr fun ws ks => eoRound (fun y => ⟨k + 1, Ax, cx, mx, cnt, y⟩) (next (stay ks.touch.below).1 (noW (by omega)) (by rw [if_neg (by omega)]) (stay ks.touch.below).2 hnx _) (by show l.length - (k + 1) < l.length - k; omega)
    · have h4 : ¬ l[k].kind = 4 := by simpa using h4
      have h3 : ¬ l[k].kind = 3 := by simpa using h3
      refine coSkip <| eoB <| eoB <| eoT <| coZ <| qR 1 [] kp fun wr kr => wM (xInc k (by omega)) <| qF [] kr fun ws ks => eoRound (fun y => ⟨k + 1, Ax, cx, mx, cnt, y⟩) (next (stay ks.touch.below).1 (noW h3) (by rw [if_neg h4]) (stay ks.touch.below).2 hnx _) (by show l.length - (k + 1) < l.length - k; omega)
  · have hkl : k = l.length := by have : ¬ ((k : Int) < (l.length : Int)) := by simpa using hge
                                  omega
    subst hkl
    rw [List.take_length] at hmx hcnt
    have hMX : mx = X.m := by rw [hmx, telm]
    subst hMX
    have bW := fun {W' : World} (k : Below W.heap.size W W') => (hlow.trans (k.mono hlow.size) : Below wh.heap.size wh W')
    refine coR <| qR 1 [] ki fun wj kj => wM (xLoad (ldOne ((r9h.below (bW kj.touch.below) r9h.lt).cell 20))) <| qR 1 [] kj fun wk kk => ?_
    have bk := bW kk.touch.below
    have KC := (csame_any A2 c2 (mkS X.m) Ax cx (mkS X.m) (by omega) wk ((hc2h.below bk).more bk.size) ((hcx.below kk.touch.below).more kk.touch.size)).mono (R' := fun e w' => e = .returned (.bool true) ∧ Below wk.heap.size wk w') fun e w' ⟨h1, h2⟩ => ⟨by rw [h1, decide_eq_true rfl], h2⟩
    have hpl : X.p.length = ps.length - inS l := by rw [telp, List.length_drop]
    refine qC KC kk fun wm km => qR 2 [] km fun wn kn => wM (xLoad (ldOne ((r9h.below (bW kn.touch.below) r9h.lt).cell 21))) <| qR 2 [] kn fun wo ko => wM (xLoad (ldOne ((r3h.below (bW ko.touch.below) r3h.lt).cell 21))) <| qR 2 [] ko fun wp kp => kBj 101 (.int .i64 (ps.length : Int)) (.int .i64 (cnt : Int)) (.int .i64 ((ps.length : Int) - cnt)) (egI _ _ _ _ _) (bSubI _ _ (by omega) (by omega)) <| wM (xMax 0 ((ps.length : Int) - cnt)) <| qR 1 [] kp fun wq kq => tell 103 (show ((X.p.length : Int) == maxI 0 ((ps.length : Int) - cnt)) = true by rw [hpl, hcnt]; unfold maxI; simp; split <;> omega) <| qE [] kq fun wr kr => coRet <| eoIr (.bool true) ⟨rfl, bOn (hBh.trans (hlow.mono hBh.size)) kr⟩
end Go.Proofs.YtkgaeamdhhceiaaGreatDoor
