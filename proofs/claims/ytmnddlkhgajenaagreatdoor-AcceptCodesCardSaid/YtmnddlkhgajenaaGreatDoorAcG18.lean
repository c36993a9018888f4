/- Contracts and facts that the claim's proof wants (several texts in one). -/
import Derived.Test.YtmnddlkhgajenaaGreatDoorAcG2
import Derived.Test.YtmnddlkhgajenaaGreatDoorAcG7
import Derived.Test.YtmnddlkhgajenaaGreatDoorAcG8
import Derived.Test.YtmnddlkhgajenaaGreatDoorAcG9
import Derived.Test.YtmnddlkhgajenaaGreatDoorAcG10
import Derived.Test.YtmnddlkhgajenaaGreatDoorAcG17
namespace Go.Proofs.YtmnddlkhgajenaaGreatDoor
open Go.RowKit
set_option linter.unusedVariables false
set_option linter.unusedSimpArgs false
set_option maxRecDepth 20000
set_option maxHeartbeats 20000000
def T3.v (T : T3) : Value := .tuple #[cyV T.c, regsV T.g, .bool T.b]
def cyvs : List Cy → List Value
  | [] => []
  | c :: r => .int .i64 c.kind :: .int .u16 c.addr :: .int .u8 c.data :: .int .i64 c.t :: cyvs r
theorem cyvs_length : ∀ l : List Cy, (cyvs l).length = l.length * 4
  | [] => rfl
  | c :: r => by simp only [cyvs, List.length_cons, cyvs_length r]; omega
theorem cyvs_append : ∀ l m : List Cy, cyvs l ++ cyvs m = cyvs (l ++ m)
  | [], _ => rfl
  | c :: r, m => by simp only [cyvs, List.cons_append, cyvs_append r m]
theorem cyvs_one : ∀ l : List Cy, ∀ u ∈ cyvs l, u.oneCell' = true
  | [], _, h => by cases h
  | c :: r, u, h => by
    simp only [cyvs, List.mem_cons] at h
    rcases h with rfl | rfl | rfl | rfl | h
    · rfl
    · rfl
    · rfl
    · rfl
    · exact cyvs_one r u h
theorem cyvs_at : ∀ (l : List Cy) (k : Nat) (hk : k < l.length), (cyvs l)[k * 4]? = some (.int .i64 l[k].kind) ∧ (cyvs l)[k * 4 + 1]? = some (.int .u16 l[k].addr) ∧ (cyvs l)[k * 4 + 2]? = some (.int .u8 l[k].data) ∧ (cyvs l)[k * 4 + 3]? = some (.int .i64 l[k].t)
  | [], k, h => by simp at h
  | c :: r, 0, _ => ⟨rfl, rfl, rfl, rfl⟩
  | c :: r, k + 1, h => by
    have := cyvs_at r k (by simpa using h)
    rw [show (k + 1) * 4 = k * 4 + 1 + 1 + 1 + 1 by omega, show k * 4 + 1 + 1 + 1 + 1 + 1 = k * 4 + 1 + 1 + 1 + 1 + 1 from rfl, show k * 4 + 1 + 1 + 1 + 1 + 2 = k * 4 + 2 + 1 + 1 + 1 + 1 by omega, show k * 4 + 1 + 1 + 1 + 1 + 3 = k * 4 + 3 + 1 + 1 + 1 + 1 by omega]
    simp only [cyvs, List.getElem?_cons_succ, List.getElem_cons_succ]
    exact this
def CysIn (w : World) (B : Nat) (A : Option Addr) (l : List Cy) : Prop := ∀ (j : Nat) (u : Value), (cyvs l)[j]? = some u → ∃ p, A = some p ∧ p.block < B ∧ w.cell? (p.add j) = some u
theorem CysIn.keep {w w' : World} {B : Nat} {A : Option Addr} {l : List Cy} (h : CysIn w B A l) (k : ∀ b, b < B → w'.heap[b]? = w.heap[b]?) : CysIn w' B A l := fun j c hc => by
  obtain ⟨p, e, hb, h1⟩ := h j c hc
  exact ⟨p, e, hb, (World.cell?_of_block (by rw [add_block]; exact k _ hb)).trans h1⟩
theorem CysIn.more {w : World} {B B' : Nat} {A : Option Addr} {l : List Cy} (h : CysIn w B A l) (k : B ≤ B') : CysIn w B' A l := fun j c hc => by
  obtain ⟨p, e, hb, h1⟩ := h j c hc
  exact ⟨p, e, Nat.lt_of_lt_of_le hb k, h1⟩
theorem CysIn.below {w w' : World} {B : Nat} {A : Option Addr} {l : List Cy} (h : CysIn w B A l) (k : Below B w w') : CysIn w' B A l := h.keep fun b hb => k.block b hb
theorem CysIn.addr {w : World} {B : Nat} {A : Option Addr} {l : List Cy} (h : CysIn w B A l) {k : Nat} (hk : k < l.length) : ∃ p, A = some p := by
  obtain ⟨p, e, -⟩ := h _ _ (cyvs_at l k hk).1
  exact ⟨p, e⟩
theorem CysIn.values {w : World} {B : Nat} {p : Addr} {l : List Cy} (h : CysIn w B (some p) l) : ∀ j u, (cyvs l)[j]? = some u → w.cell? (p.add j) = some u := fun j u hu => by
  obtain ⟨q, e, -, h1⟩ := h j u hu
  cases e
  exact h1
theorem CysIn.of_values {w : World} {B : Nat} {p : Addr} {l : List Cy} (hb : p.block < B) (h : ∀ j u, (cyvs l)[j]? = some u → w.cell? (p.add j) = some u) : CysIn w B (some p) l := fun j c hc => ⟨p, rfl, hb, h j c hc⟩
theorem ldCyA {w : World} {p : Addr} {a b c d : Int} (h0 : w.cell? p = some (.int .i64 a)) (h1 : w.cell? (p.add 1) = some (.int .u16 b)) (h2 : w.cell? (p.add 2) = some (.int .u8 c)) (h3 : w.cell? (p.add 3) = some (.int .i64 d)) : (Instr.loadAt 28 (.pointer (some p))).run Tryz.prog w = .ok (cyV ⟨a, b, c, d⟩) w := by
  have e1 : w.cell? { block := p.block, off := p.off + 1 } = some (.int .u16 b) := by simpa [Addr.add] using h1
  have e2 : w.cell? { block := p.block, off := p.off + 2 } = some (.int .u8 c) := by simpa [Addr.add] using h2
  have e3 : w.cell? { block := p.block, off := p.off + 3 } = some (.int .i64 d) := by simpa [Addr.add] using h3
  simp [go_sem, h0, e1, e2, e3]
theorem add_more (p : Addr) (a b : Nat) (hb : b ≠ 0) : (p.add a).add b = p.add (a + b) := by
  cases p
  unfold Addr.add
  split <;> split <;> simp_all <;> omega
theorem CysIn.ld {w : World} {B : Nat} {p : Addr} {l : List Cy} (h : CysIn w B (some p) l) {k : Nat} (hk : k < l.length) : (Instr.loadAt 28 (.pointer (some (p.add (k * 4))))).run Tryz.prog w = .ok (cyV l[k]) w := by
  obtain ⟨h0, h1, h2, h3⟩ := cyvs_at l k hk
  exact ldCyA (h.values _ _ h0) (by rw [add_more _ _ _ (by omega)]; exact h.values _ _ h1) (by rw [add_more _ _ _ (by omega)]; exact h.values _ _ h2) (by rw [add_more _ _ _ (by omega)]; exact h.values _ _ h3)
theorem cixY (p : Addr) (n c k : Nat) (h : k < n) (w : World) : (Instr.indexAt 50 (.slice (some p) n c) (.int .i64 (k : Int))).run Tryz.prog w = .ok (.pointer (some (p.add (k * 4)))) w := by
  have h1 : (k : Int) < n := by omega
  simp [go_sem, h]
theorem cyc_info : (Tryz.prog.info? 28).map (fun i => (i.zero, i.size, i.bytes)) = some (some (cyV zeroCy), 4, 24) := by kernel_rfl
section
variable {ops : Array Oper} {Q : Exit → Act → World → Prop} {base : List Value} {rest : List Oper} {l : Slots} {w : World} {o : Oper}
theorem qAy (s x : Operand) (bs B : Nat) (v : Value) (n : Nat) (got : List Cy) (p : Addr) (c m : Nat) (ys : List Cy) (hbs : bs ≤ w.heap.size)
    (hown : w.ownsRow bs 28 4 v n (cyvs got)) (hy : CysIn w B (some p) ys) (hm : m = ys.length) (hmax : n + m ≤ 1000000)
    (h : ∀ v' w', w'.ownsRow bs 28 4 v' (n + m) (cyvs (got ++ ys)) → w.grownBy w' v.ownBlock → WO Tryz.prog ops Q base rest (putO o.dst v' l) w')
    (ho : o.op = .call { callee := .builtin .append, args := #[s, x], argTypes := #[50, 50] } := by exact rfl) (hg : o.guard = none := by exact rfl) (hs : evO base l s = v := by kernel_rfl) (hx : evO base l x = .slice (some p) m c := by kernel_rfl) (hd : dstO o.dst base.length = true := by kernel_rfl) : WO Tryz.prog ops Q base (o :: rest) l w :=
  ⟨fun hi => ⟨by
    obtain ⟨i0, hi0, hz0, hz1, hz2⟩ := info_parts cyc_info
    subst hm
    refine wpList_append_own_at _ hg s x _ ho bs 28 i0 _ 4 24 Tryz.underlying50 hi0 hz0 hz1 hz2 rfl (by omega) v n (cyvs got) (by rw [evO_eq hi]; exact hs) hown p ys.length c (cyvs ys) (by rw [evO_eq hi]; exact hx) (cyvs_length ys) hy.values (cyvs_one ys) (by simp only [maxLen]; omega) (by omega) hbs ?_
    intro v' w' own' hgr _ _
    rw [cyvs_append] at own'
    rw [put_actO]
    exact ((h v' w' own' hgr).h (inO_put hd hi)).h⟩⟩
end
theorem cys_new (w : World) (l : List Cy) (t : TypeId) : CysIn (w.alloc (.cells (cyvs l).toArray t)) (w.heap.size + 1) (some ⟨w.heap.size, 0, none⟩) l := CysIn.of_values (by simp) (cells_list_new' w (cyvs l) t)
theorem cys_row {w : World} {b : Nat} {t : TypeId} {l : List Cy} (h : Row w b t (cyvs l).toArray) : CysIn w w.heap.size (some ⟨b, 0, none⟩) l := CysIn.of_values h.lt fun j u hu => by
  rw [show (⟨b, 0, none⟩ : Addr).add j = ⟨b, j, none⟩ by simp [Addr.add]; omega, h.cell j]
  simpa using hu
theorem cys_cur {w : World} {b : Nat} {t : TypeId} {cur : List Value} {l : List Cy} (n : Nat) (h : Row w b t cur.toArray) (e : cur.take n = cyvs l) : CysIn w w.heap.size (some ⟨b, 0, none⟩) l := CysIn.of_values h.lt fun j u hu => by
  rw [show (⟨b, 0, none⟩ : Addr).add j = ⟨b, j, none⟩ by simp [Addr.add]; omega, h.cell j]
  rw [← e, List.getElem?_take] at hu
  split at hu
  · simpa using hu
  · cases hu
theorem own_crow {w : World} {b base : Nat} {l : List Cy} (n : Nat) (h : Row w b 28 (cyvs l).toArray) (hb : base ≤ b) (hn : n = l.length) (hm : n ≤ 1000) : w.ownsRow base 28 4 (.slice (some ⟨b, 0, none⟩) n n) n (cyvs l) :=
  ⟨by rw [cyvs_length, hn], .inr ⟨b, n, _, rfl, hb, h, Nat.le_refl _, by simp only [maxLen]; omega, by simp [cyvs_length, hn], by simp only []; exact List.take_of_length_le (by rw [cyvs_length, hn]; exact Nat.le_refl _)⟩⟩
section
variable {ops : Array Oper} {Q : Exit → Act → World → Prop} {base : List Value} {l : Slots} {w w0 : World} {L : List Nat} {rs : List RowK}
theorem soZ {n f i : Nat} {listed : Array Bool} {x y : Operand} (j b : Nat) (hm : Many w0 L rs w) (h : ∀ w', Many w0 L rs w' → PO Tryz.prog ops Q (Many w0 L rs) n base f (listed.setIfInBounds i true) l w')
    (hj : rs[j]? = some ⟨b, 28, (cyC zeroCy).toList.map some⟩ := by kernel_rfl) (ho : (opNo ops i).op = .store 28 x y := by exact rfl) (hx : evO base l x = pT b 0 := by kernel_rfl) (hy : evO base l y = cyV zeroCy := by kernel_rfl)
    (hd : ((opNo ops i).dst.isNone, decide (i < n), wantO ops base.length base l (opNo ops i), (ops[i]?).isSome) = (true, true, some true, true) := by kernel_rfl) : SO Tryz.prog ops Q (Many w0 L rs) n base f listed i l w := by
  simp only [Prod.mk.injEq] at hd
  obtain ⟨d1, d2, d3, d4⟩ := hd
  have ho' := opNo_eq d4
  have hdn : (opNo ops i).dst = none := Option.isNone_iff_eq_none.1 d1
  have r := hm.row j (cyC zeroCy).toList hj
  have hs := stCy (c := zeroCy) r
  have he : ∀ l', (execOp (evO base l) (opNo ops i)).run Tryz.prog w = .ok .skip l' ↔ l' = w.setCells b 0 (cyC zeroCy).toList := fun l' => by
    rw [xStore hs ho hx hy]
    constructor
    · intro e; injection e with _ e; exact e.symm
    · rintro rfl; rfl
  have e1 := (he _).2 rfl
  have hm' : Many w0 L rs (w.setCells b 0 (cyC zeroCy).toList) := by
    have k := hm.turn (cs := (cyC zeroCy).toList.map some) hj (r.setAll rfl) ⟨by simp, fun k v e => by rw [List.getElem?_map] at e; obtain ⟨u, h1, h2⟩ := Option.map_eq_some_iff.1 e; injection h2 with h2; rw [← h2, ← Array.getElem?_toList]; exact h1⟩ (setsB b _ 0 (Besides.refl ..))
    have : rs.set j ⟨b, 28, (cyC zeroCy).toList.map some⟩ = rs := by
      apply List.ext_getElem?
      intro q
      rw [List.getElem?_set]
      split
      · rename_i e; subst e; split
        · exact hj.symm
        · rename_i e; rw [List.getElem?_eq_none (by omega)]
      · rfl
    rwa [this] at k
  refine ⟨fun hi hr inv => ⟨of_decide_eq_true d2, ?_⟩⟩
  unfold wpOp
  simp only [ho', wantO_sound d3 hi, if_true]
  refine .inl ?_
  unfold Oper.wp
  rw [evO_eq hi, e1, Oper.upon_skip, hdn]
  exact ⟨hm', (h _ hm').h hi (inv.set hr (of_decide_eq_true d2))⟩
end
section
variable {base : List Value} {l : Slots} {w w0 : World} {L : List Nat} {rs : List RowK}
theorem Many.rowK (h : Many w0 L rs w) (i : Nat) (vs : List Value) {b : Nat} (e : (rs[i]?).map (fun r => (pT r.b 0, r.cs)) = some (pT b 0, vs.map some)) : ∃ t, Row w b t vs.toArray := by
  cases hr : rs[i]? with
  | none => rw [hr] at e; cases e
  | some r =>
    obtain ⟨rb, rt, rc⟩ := r
    rw [hr] at e
    injection e with e; injection e with e1 e2
    injection e1 with e1; injection e1 with e1; injection e1 with e1
    dsimp only at e1 e2
    subst e1 e2
    exact ⟨rt, h.row i vs hr⟩
theorem eoT3 {fn : Func} {R : Ending → World → Prop} {s1 s2 s3 : Tmp} (i j : Nat) (c : Cy) (g : Rg) (b : Bool) (b1 b2 : Nat) (hm : Many w0 L rs w) (hR : R (.returned (.tuple #[cyV c, regsV g, .bool b])) w)
    (hres : fn.results = #[.cell s1 28, .cell s2 24, .tmp s3] := by exact rfl)
    (h1 : (rs[i]?).map (fun r => (pT r.b 0, r.cs)) = some (pT b1 0, (cyC c).toList.map some) := by kernel_rfl) (h2 : (rs[j]?).map (fun r => (pT r.b 0, r.cs)) = some (pT b2 0, (regsC g).toList.map some) := by kernel_rfl)
    (k1 : lkO base s1 l = pT b1 0 := by kernel_rfl) (k2 : lkO base s2 l = pT b2 0 := by kernel_rfl) (k3 : lkO base s3 l = .bool b := by kernel_rfl) : EO (bodyPost Tryz.prog fn R) .ret base l w := by
  obtain ⟨t1, r1⟩ := hm.rowK i _ h1
  obtain ⟨t2, r2⟩ := hm.rowK j _ h2
  exact ⟨fun hin => bodyPost_ret (results_told hres ((congrFun (evO_eq hin) (.tmp s1)).trans k1) ((congrFun (evO_eq hin) (.tmp s2)).trans k2) ((congrFun (evO_eq hin) (.tmp s3)).trans k3) r1 r2) rfl hR⟩
theorem results_two {fn : Func} {t1 t3 : Tmp} {u : TypeId} (h : fn.results = #[.cell t1 28, .tmp t3]) {tmps : Array Value} {w : World} {L : Nat} {c : Cy} {b : Bool}
    (h1 : tmps.getD t1 undef = pT L 0) (h3 : tmps.getD t3 undef = .bool b) (hL : Row w L u (cyC c)) : (results fn tmps).run Tryz.prog w = .ok (.tuple #[cyV c, .bool b]) w := by
  have h1' : tmps[t1]?.getD undef = pT L 0 := by simpa using h1
  have h3' : tmps[t3]?.getD undef = .bool b := by simpa using h3
  have e1 := loadVar_row (P := Tryz.prog) hL Tryz.underlying28 rfl infoCy
  simp [results, h, h1', h3', asAddr, e1]
theorem eoT2 {fn : Func} {R : Ending → World → Prop} {s1 s3 : Tmp} (i : Nat) (c : Cy) (b : Bool) (b1 : Nat) (hm : Many w0 L rs w) (hR : R (.returned (.tuple #[cyV c, .bool b])) w)
    (hres : fn.results = #[.cell s1 28, .tmp s3] := by exact rfl)
    (h1 : (rs[i]?).map (fun r => (pT r.b 0, r.cs)) = some (pT b1 0, (cyC c).toList.map some) := by kernel_rfl)
    (k1 : lkO base s1 l = pT b1 0 := by kernel_rfl) (k3 : lkO base s3 l = .bool b := by kernel_rfl) : EO (bodyPost Tryz.prog fn R) .ret base l w := by
  obtain ⟨t1, r1⟩ := hm.rowK i _ h1
  exact ⟨fun hin => bodyPost_ret (results_two hres ((congrFun (evO_eq hin) (.tmp s1)).trans k1) ((congrFun (evO_eq hin) (.tmp s3)).trans k3) r1) rfl hR⟩
end
@[reducible] def svC (g : Rg) (v : Int) (A : Option Addr) (n cap : Nat) : Array Value := #[.int .u16 g.af, .int .u16 g.bc, .int .u16 g.de, .int .u16 g.hl, .int .u16 g.af2, .int .u16 g.bc2, .int .u16 g.de2, .int .u16 g.hl2, .int .u16 g.ix, .int .u16 g.iy, .int .u16 g.sp, .int .u16 g.pc, .int .u16 g.wz, .int .u8 g.i, .int .u8 g.r, .bool g.iff1, .bool g.iff2, .bool g.halted, .bool g.late, .int .i64 g.mode, .int .u8 v, .slice A n cap]
@[reducible] def svV (g : Rg) (v : Int) (A : Option Addr) (n cap : Nat) : Value := .agg (svC g v A n cap)
def openC (pc which : Int) : Cy := if which = 1 then ⟨1, pc, 0, 4⟩ else if which = 2 then ⟨6, pc, 0, 6⟩ else zeroCy
theorem opening_any (pc which : Int) (w : World) :
    Calls Tryz.prog 18 #[.int .u16 pc, .int .i64 which] w fun e w' => e = .returned (.tuple #[cyV (openC pc which), .bool (which == 1 || which == 2)]) ∧ Below w.heap.size w w' := by
  go_enter Tryz.func18, Tryz.ntmps18
  refine coStart <| qQ [] (Many.begin w) fun w1 k1 => coS <| qQ [] k1 fun w2 k2 => coB <| qQ [] k2 fun w3 k3 => coI (which == 1) (fun h => ?_) fun h => qQ [] k3 fun w4 k4 => coI (which == 2) (fun h2 => ?_) fun h2 => coSkip <| eoB <| eoT <| qQ [0] k4 fun w5 k5 => coRet <| ?_
  · refine qQ [0] k3 fun w4 k4 => coRet <| eoBr <| eoTr <| eoT2 0 ⟨1, pc, 0, 4⟩ true w.heap.size k4 ⟨?_, k4.touch.below⟩
    have h' : which = 1 := by simpa using h
    unfold openC
    rw [if_pos h', h]; rfl
  · refine qQ [0] k4 fun w5 k5 => coRet <| eoBr <| eoTr <| eoT2 0 ⟨6, pc, 0, 6⟩ true w.heap.size k5 ⟨?_, k5.touch.below⟩
    have h' : which ≠ 1 := by simpa using h
    have h2' : which = 2 := by simpa using h2
    unfold openC
    rw [if_neg h', if_pos h2', h, h2]; rfl
  · refine eoT2 0 zeroCy false w.heap.size k5 ⟨?_, k5.touch.below⟩
    have h' : which ≠ 1 := by simpa using h
    have h2' : which ≠ 2 := by simpa using h2
    unfold openC
    rw [if_neg h', if_neg h2', h, h2]; rfl
theorem asked_any (c : Cy) (w : World) : Calls Tryz.prog 20 #[cyV c] w fun e w' => e = .returned (askT c).v ∧ Below w.heap.size w w' := by
  go_enter Tryz.func20, Tryz.ntmps20
  refine coStart <| qQ [] (Many.begin w) fun w1 k1 => qQ [0, 1, 2] k1 fun w2 k2 => coRet <| eoT3 1 2 c zeroRg false (w.heap.size + 1) (w.heap.size + 2) k2 ⟨rfl, k2.touch.below⟩
theorem aread_any (at_ : Int) (w : World) : Calls Tryz.prog 70 #[.int .u16 at_] w fun e w' => e = .returned (cyV ⟨2, at_, 0, 3⟩) ∧ Below w.heap.size w w' := by
  go_enter Tryz.func70, Tryz.ntmps70
  refine coStart <| qQ [] (Many.begin w) fun w1 k1 => qQ [0] k1 fun w2 k2 => coRet <| eoC 0 (cyC ⟨2, at_, 0, 3⟩).toList k2 ⟨rfl, k2.touch.below⟩
theorem awrite_any (at_ b : Int) (w : World) : Calls Tryz.prog 111 #[.int .u16 at_, .int .u8 b] w fun e w' => e = .returned (cyV ⟨3, at_, b, 3⟩) ∧ Below w.heap.size w w' := by
  go_enter Tryz.func111, Tryz.ntmps111
  refine coStart <| qQ [] (Many.begin w) fun w1 k1 => qQ [0] k1 fun w2 k2 => coRet <| eoC 0 (cyC ⟨3, at_, b, 3⟩).toList k2 ⟨rfl, k2.touch.below⟩
theorem enter_any (g : Rg) (v : Int) (A : Option Addr) (n cap : Nat) (aim : Int) (w : World) : Calls Tryz.prog 67 #[svV g v A n cap, .int .u16 aim] w fun e w' => e = .returned (endT (jumpG g aim)).v ∧ Below w.heap.size w w' := by
  go_enter Tryz.func67, Tryz.ntmps67
  refine coStart <| qQ [] (Many.begin w) fun w1 k1 => qQ [0, 0] k1 fun w2 k2 => qQ [0, 0] k2 fun w3 k3 => qP 4 k3 fun w4 k4 => qD 0 [0, 1, 2] k4 <| poOne 3 <| soZ 1 (w.heap.size + 1) k4 fun w4 k4 => poE <| qE [2] k4 fun w5 k5 => coRet <| eoT3 1 2 zeroCy (jumpG g aim) true (w.heap.size + 1) (w.heap.size + 2) k5 ⟨rfl, k5.touch.below⟩
def LeftAt (w : World) (l : List Cy) (e : Ending) (w' : World) : Prop := ∃ b, e = .returned (.slice (some ⟨b, 0, none⟩) 3 3) ∧ w.heap.size ≤ b ∧ Row w' b 28 (cyvs l).toArray ∧ Below w.heap.size w w'
theorem bs3Y (c d e : Cy) (w : World) : (Instr.buildSlice 50 3 #[(0, cyV c), (1, cyV d), (2, cyV e)]).run Tryz.prog w = .ok (.slice (some ⟨w.heap.size, 0, none⟩) 3 3) (w.alloc (.cells (cyvs [c, d, e]).toArray 28)) := by simp [go_sem, cyvs]
theorem bs2Y (c d : Cy) (w : World) : (Instr.buildSlice 50 2 #[(0, cyV c), (1, cyV d)]).run Tryz.prog w = .ok (.slice (some ⟨w.heap.size, 0, none⟩) 2 2) (w.alloc (.cells (cyvs [c, d]).toArray 28)) := by simp [go_sem, cyvs]
theorem bs1Y (c : Cy) (w : World) : (Instr.buildSlice 50 1 #[(0, cyV c)]).run Tryz.prog w = .ok (.slice (some ⟨w.heap.size, 0, none⟩) 1 1) (w.alloc (.cells (cyvs [c]).toArray 28)) := by simp [go_sem, cyvs]
theorem leave_any (g : Rg) (hp : 0 ≤ g.pc ∧ g.pc ≤ 65535) (v : Int) (A : Option Addr) (n cap : Nat) (w : World) : Calls Tryz.prog 66 #[svV g v A n cap] w (LeftAt w (pushL g.sp g.pc)) := by
  go_enter Tryz.func66, Tryz.ntmps66
  refine coStart <| qQ [] (Many.begin w) fun w1 k1 => ?_
  refine qP 19 k1 fun w2 k2 => ?_
  refine qD 0 [0, 1, 2, 3, 4, 5, 6, 7, 10, 11, 12, 13, 14, 15, 16] k2 ?_
  refine qDe 8 (hi_any g.pc hp.1 hp.2 w2) k2 fun w3 k3 => qDc 9 (awrite_any ((g.sp - 1) % 65536) (g.pc / 256) w3) k3 fun w4 k4 => qDe 17 (lo_any g.pc hp.1 hp.2 w4) k4 fun w5 k5 => qDc 18 (awrite_any ((g.sp - 2) % 65536) (g.pc % 256) w5) k5 fun w6 k6 => poE ?_
  refine wM (xBuildS (bs3Y ⟨7, 0, 0, 1⟩ ⟨3, (g.sp - 1) % 65536, g.pc / 256, 3⟩ ⟨3, (g.sp - 2) % 65536, g.pc % 256, 3⟩ w6)) ?_
  refine qE [] (Many.begin _) fun w7 k7 => coRet <| eoIr (.slice (some ⟨w6.heap.size, 0, none⟩) 3 3) ⟨w6.heap.size, rfl, k6.touch.size, (Row.new w6 28 (cyvs (pushL g.sp g.pc)).toArray).below k7.touch.below (Row.new w6 _ _).lt, bOn (bAlloc k6.touch.below _) k7⟩
theorem restart_any (g : Rg) (hp : 0 ≤ g.pc ∧ g.pc ≤ 65535) (v : Int) (A : Option Addr) (n cap : Nat) (hn : n ≤ 1000000000) (aim : Int) (w : World) : Calls Tryz.prog 48 #[svV g v A n cap, .int .u16 aim] w fun e w' => e = .returned (toldT (pushL g.sp g.pc) (jumpG g aim) n).v ∧ Below w.heap.size w w' := by
  go_enter Tryz.func48, Tryz.ntmps48
  refine coStart <| qQ [] (Many.begin w) fun w1 k1 => coR <| qR 1 [0] k1 fun w2 k2 => kX (leave_any g hp v A n cap w2) ?_
  rintro e w3 ⟨b, rfl, hb, hrow, hB⟩
  have k3 := (k2.below hB).add hrow (Nat.le_trans k2.touch.size hb) fun i r hi => Nat.ne_of_lt (Nat.lt_of_lt_of_le (k2.lt i r hi) hb)
  refine ⟨_, rfl, qE [] k3 fun w4 k4 => coS <| qQ [0] k4 fun w5 k5 => coI (decide ((n : Int) < 3)) (fun h => ?_) fun h => coSkip <| eoT <| coR <| qR 2 [0] k5 fun w6 k6 => qC (enter_any g v A n cap aim w6) k6 fun w7 k7 => qE [1, 2] k7 fun w8 k8 => coRet <| eoT3 1 2 zeroCy (jumpG g aim) true (w.heap.size + 1) (w.heap.size + 2) k8 ⟨?_, k8.touch.below⟩⟩
  · have h3 : n < 3 := by have : (n : Int) < 3 := by simpa using h
                          omega
    have h3' : n < (pushL g.sp g.pc).length := h3
    refine coR <| qR 4 [0] k5 fun w6 k6 => wM (xIndex (cixY ⟨b, 0, none⟩ 3 3 n h3 w6)) <| wM (xLoad (CysIn.ld (cys_row (b := b) (t := 28) (k6.row 3 (cyvs (pushL g.sp g.pc)) (by kernel_rfl))) h3')) <| qC (asked_any (pushL g.sp g.pc)[n] _) k6 fun w7 k7 => qE [1, 2] k7 fun w8 k8 => coRet <| eoTr <| eoT3 1 2 (pushL g.sp g.pc)[n] zeroRg false (w.heap.size + 1) (w.heap.size + 2) k8 ⟨?_, k8.touch.below⟩
    unfold toldT
    rw [if_pos h3', List.getD_eq_getElem?_getD, List.getElem?_eq_getElem h3']
    rfl
  · have h3 : ¬ n < 3 := by have : ¬ (n : Int) < 3 := by simpa using h
                            omega
    unfold toldT
    rw [if_neg (show ¬ n < (pushL g.sp g.pc).length from h3)]
    rfl
theorem nmi_any (g : Rg) (hp : 0 ≤ g.pc ∧ g.pc ≤ 65535) (v : Int) (A : Option Addr) (n cap : Nat) (hn : n ≤ 1000000000) (w : World) : Calls Tryz.prog 22 #[svV g v A n cap] w fun e w' => e = .returned (toldT (pushL g.sp g.pc) (jumpG { g with iff1 := false } 102) n).v ∧ Below w.heap.size w w' := by
  go_enter Tryz.func22, Tryz.ntmps22
  obtain ⟨T, hT⟩ : ∃ T, T = toldT (pushL g.sp g.pc) (jumpG { g with iff1 := false } 102) n := ⟨_, rfl⟩
  have K := fun w => restart_any { g with iff1 := false } hp v A n cap hn 102 w
  dsimp only at K
  rw [← hT] at K ⊢
  refine coStart <| qQ [] (Many.begin w) fun w1 k1 => qQ [0] k1 fun w2 k2 => coR <| qR 1 [0] k2 fun w3 k3 => qC (K w3) k3 fun w4 k4 => qE [1, 2] k4 fun w5 k5 => coRet <| eoT3 1 2 T.c T.g T.b (w.heap.size + 1) (w.heap.size + 2) k5 ⟨rfl, k5.touch.below⟩
theorem fixed_any (g : Rg) (hp : 0 ≤ g.pc ∧ g.pc ≤ 65535) (v : Int) (A : Option Addr) (n cap : Nat) (hn : n ≤ 1000000000) (w : World) : Calls Tryz.prog 50 #[svV g v A n cap] w fun e w' => e = .returned (toldT (pushL g.sp g.pc) (jumpG g 56) n).v ∧ Below w.heap.size w w' := by
  go_enter Tryz.func50, Tryz.ntmps50
  obtain ⟨T, hT⟩ : ∃ T, T = toldT (pushL g.sp g.pc) (jumpG g 56) n := ⟨_, rfl⟩
  have K := fun w => restart_any g hp v A n cap hn 56 w
  rw [← hT] at K ⊢
  refine coStart <| qQ [] (Many.begin w) fun w1 k1 => coR <| qR 1 [0] k1 fun w3 k3 => qC (K w3) k3 fun w4 k4 => qE [1, 2] k4 fun w5 k5 => coRet <| eoT3 1 2 T.c T.g T.b (w.heap.size + 1) (w.heap.size + 2) k5 ⟨rfl, k5.touch.below⟩
theorem begin_any (g : Rg) (hg : RgB g) (v : Int) (ys : List Int) (A : Option Addr) (cap : Nat) (hc : ys.length + 1 ≤ cap) (w : World) (hin : BytesIn w w.heap.size A (v :: ys)) : Calls Tryz.prog 21 #[regsV g, .slice A (v :: ys).length cap] w fun e w' => e = .returned (svV (tickG { g with halted := false, late := false } 1) v (if cap = 1 then A else A.map (·.add 1)) ys.length (cap - 1)) ∧ Below w.heap.size w w' := by
  go_enter Tryz.func21, Tryz.ntmps21
  obtain ⟨p, rfl⟩ := hin.addr (k := 0) (by simp)
  refine coStart <| qQ [] (Many.begin w) fun w1 k1 => qQ [0, 0] k1 fun w2 k2 => qP 8 k2 fun w3 k3 => qD 0 [0, 2, 5] k3 <| qT 3 k3 (fun w' _ => xIndex (ixB p (v :: ys).length cap 0 (by simp) _)) <| qT 4 k3 (fun w' hS => xLoad (BytesIn.ld (hin.below hS.touch.below) (k := 0) (by simp))) <| qT 6 k3 (fun w' hS => xSlice (slFrom1 (some p) (v :: ys).length cap (by simp) hc _)) <| qDc 1 (tick_any { g with halted := false, late := false } 1 hg.r w3) k3 fun w4 k4 => qM [7] k4 <| poE <| qE [1] k4 fun w5 k5 => coRet <| eoC 1 (svC (tickG { g with halted := false, late := false } 1) v (if cap = 1 then some p else (some p).map (·.add 1)) ys.length (cap - 1)).toList k5 ⟨rfl, k5.touch.below⟩
abbrev blocksO (rs : List RowK) : List Nat := rs.map (·.b)
theorem Many.rebase {w0 w : World} {L : List Nat} {rs : List RowK} (h : Many w0 L rs w) : Many w (blocksO rs) rs w :=
  ⟨h.rows, h.dis, fun i r hr => .inl (List.mem_map.2 ⟨r, List.mem_of_getElem? hr, rfl⟩), .refl ..⟩
theorem Many.anew {w0 w w' : World} {L : List Nat} {rs : List RowK} {b : Nat} (h : Many w0 L rs w) (k : w.grownBy w' (some b)) (hn : ∀ (i : Nat) (r : RowK), rs[i]? = some r → r.b ≠ b) : Many w' (blocksO rs) rs w' :=
  ⟨fun i r hr => by obtain ⟨full, h1, h2⟩ := h.rows i r hr; exact ⟨full, h1.of (k.block r.b h1.lt (by simpa using hn i r hr)), h2⟩, h.dis, fun i r hr => .inl (List.mem_map.2 ⟨r, List.mem_of_getElem? hr, rfl⟩), .refl ..⟩
theorem Many.rebaseL {w0 w : World} {L : List Nat} {rs : List RowK} (h : Many w0 L rs w) (L' : List Nat) (e : blocksO rs = L' := by kernel_rfl) : Many w L' rs w := e ▸ h.rebase
theorem Many.anewL {w0 w w' : World} {L : List Nat} {rs : List RowK} {b : Nat} (h : Many w0 L rs w) (k : w.grownBy w' (some b)) (L' : List Nat) (hn : ∀ x ∈ L', x ≠ b) (e : blocksO rs = L' := by kernel_rfl) : Many w' L' rs w' := by
  subst e
  exact h.anew k fun i r hr => hn _ (List.mem_map.2 ⟨r, List.mem_of_getElem? hr, rfl⟩)
theorem Touch.underL {L : List Nat} {n : Nat} {w w' w1 : World} (h : Touch L w w') (k : Below n w1 w) (hL : ∀ b ∈ L, n ≤ b) (hn : n ≤ w.heap.size) : Below n w1 w' :=
  ⟨h.os.trans k.os, h.tape.trans k.tape, h.output.trans k.output, Nat.le_trans k.size h.size, fun b hb => (h.block b (Nat.lt_of_lt_of_le hb hn) fun hm => by have := hL b hm; omega).trans (k.block b hb)⟩
theorem Many.low {w0 w : World} {rs : List RowK} (h : Many w0 [] rs w) : ∀ b ∈ blocksO rs, w0.heap.size ≤ b := fun b hb => by
  obtain ⟨r, hr, rfl⟩ := List.mem_map.1 hb
  obtain ⟨i, hi⟩ := List.getElem?_of_mem hr
  rcases h.own i r hi with e | e
  · cases e
  · exact e
theorem run_insert_any {P : Program} (W : World) (t kt et : TypeId) (ht : P.underlying t = some (.map kt et)) (hk : P.underlying kt = some (.int .i64)) (es : List MapEntry) (clock : Nat) (n : Int) (val : Value) (b : Nat)
    (hb : W.heap[b]? = some (.map es.toArray clock)) (hnew : Instr.findNow (.int .i64) (.int .i64 n) es 0 = some none) :
    ∃ W', (Instr.mapUpdate t (.map (some b)) (.int .i64 n) val).run P W = .ok () W' ∧ W'.heap[b]? = some (.map (es ++ [({ key := .int .i64 n, val := val, born := clock } : MapEntry)]).toArray (clock + 1)) ∧ W.grownBy W' (some b) := by
  have hlt := (Array.getElem?_eq_some_iff.1 hb).1
  refine ⟨{ W with heap := W.heap.setIfInBounds b (.map (es ++ [({ key := .int .i64 n, val := val, born := clock } : MapEntry)]).toArray (clock + 1)) }, ?_, by simp [hlt], ⟨rfl, rfl, rfl, by simp, fun i hi hne => by
    show (W.heap.setIfInBounds b _)[i]? = _
    rw [Array.getElem?_setIfInBounds]
    rw [if_neg (fun e => hne (by rw [e]))]⟩⟩
  simp [Instr.mapUpdate, run_underlying ht, MapKept.run_getObj_map hb, MapKept.run_checkKey hk (k := .int .i64 n) (by simp [MapKept.IsKey]) false 9999, MapKept.run_findKey hk hnew, MapKept.run_setObj_map _ hb, Result.andThen]
section
variable {P : Program} {ρ : Operand → Value} {o : Oper} {x y z : Operand} {V W R U : Value}
theorem xInsert {t : TypeId} {w w' : World} (hl : (Instr.mapUpdate t V W U).run P w = .ok () w') (ho : o.op = .insert t x y z := by exact rfl) (hx : ρ x = V := by kernel_rfl) (hy : ρ y = W := by kernel_rfl) (hz : ρ z = U := by kernel_rfl) : (execOp ρ o).run P w = .ok .skip w' := by
  unfold execOp
  simp only [ho, hx, hy, hz, Sem.run_bind, Sem.run_pure, hl, Result.andThen_ok]
end
theorem b8_at {ys : List Int} (h : Bytes8 ys) {k : Nat} (hk : k < ys.length) : B8 ys[k] := h _ (List.getElem_mem hk)
def throughT (g : Rg) (v : Int) (ys : List Int) : T3 := toldT (pushL g.sp g.pc ++ tableL (256 * g.i + v)) (jumpG g (256 * ys.getD 4 0 + ys.getD 3 0)) ys.length
theorem through_any (g : Rg) (hp : 0 ≤ g.pc ∧ g.pc ≤ 65535) (hi : B8 g.i) (v : Int) (hv : B8 v) (A : Option Addr) (cap : Nat) (ys : List Int) (h8 : Bytes8 ys) (hl : ys.length ≤ 1000000000) (w : World) (hin : BytesIn w w.heap.size A ys) : Calls Tryz.prog 51 #[svV g v A ys.length cap] w fun e w' => e = .returned (throughT g v ys).v ∧ Below w.heap.size w w' := by
  go_enter Tryz.func51, Tryz.ntmps51
  refine coStart <| qQ [] (Many.begin w) fun w1 k1 => coR <| qR 1 [0] k1 fun w2 k2 => kX (leave_any g hp v A ys.length cap w2) ?_
  rintro e w3 ⟨b, rfl, hb, hrow, hB⟩
  have k3 := (k2.below hB).add hrow (Nat.le_trans k2.touch.size hb) fun i r hi => Nat.ne_of_lt (Nat.lt_of_lt_of_le (k2.lt i r hi) hb)
  have h2b : w.heap.size + 2 < b := Nat.lt_of_lt_of_le (k2.lt 2 ⟨w.heap.size + 2, 24, (regsC zeroRg).toList.map some⟩ (by kernel_rfl)) hb
  have hwb : w.heap.size ≤ b := Nat.le_trans k2.touch.size hb
  refine ⟨_, rfl, qE [] k3 fun w4 k4 => coR <| qR 5 [0, 0] k4 fun w5 k5 => qCe (word_any g.i v hi.1 hi.2 hv.1 hv.2 w5) <| qE [] k5 fun w6 k6 => qQ [] k6 fun w7 k7 => qQ [] k7 fun w8 k8 => coR <| qR 2 [] k8 fun w9 k9 => qC (aread_any (256 * g.i + v) w9) k9 fun w10 k10 => qR 2 [] k10 fun w11 k11 => qC (aread_any ((256 * g.i + v + 1) % 65536) w11) k11 fun w12 k12 => wM (xBuildS (bs2Y ⟨2, 256 * g.i + v, 0, 3⟩ ⟨2, (256 * g.i + v + 1) % 65536, 0, 3⟩ w12)) <| ?_⟩
  have rA := k12.row 3 (b := b) (t := 28) (cyvs (pushL g.sp g.pc)) (by kernel_rfl)
  have kA := (k12.take 3 [⟨w.heap.size, 46, (svC g v A ys.length cap).toList.map some⟩, ⟨w.heap.size + 1, 28, (cyC zeroCy).toList.map some⟩, ⟨w.heap.size + 2, 24, (regsC zeroRg).toList.map some⟩]).allocO (.cells (cyvs (tableL (256 * g.i + v))).toArray 28)
  have hb12 : b ≤ w12.heap.size := Nat.le_of_lt rA.lt
  refine qAy (.tmp 21) (.tmp 27) b _ (.slice (some ⟨b, 0, none⟩) 3 3) 3 (pushL g.sp g.pc) ⟨w12.heap.size, 0, none⟩ 2 2 (tableL (256 * g.i + v)) (Nat.le_trans hb12 (by simp)) ((own_crow 3 rA (Nat.le_refl b) rfl (by omega)).alloc _) (cys_new w12 (tableL (256 * g.i + v)) _) rfl (by omega) fun v' w13 own' hg => ?_
  have hA := kA.grown (b := b) hg hwb (three_ne (by omega) (by omega) (by omega))
  obtain ⟨l5, hl5⟩ : ∃ l, l = pushL g.sp g.pc ++ tableL (256 * g.i + v) := ⟨_, rfl⟩
  have e5 : l5.length = 5 := by rw [hl5]; rfl
  have hT : throughT g v ys = toldT l5 (jumpG g (256 * ys.getD 4 0 + ys.getD 3 0)) ys.length := by rw [hl5]; rfl
  rw [← hl5] at own'
  rcases own'.2 with ⟨-, e0⟩ | ⟨g', c', cur, rfl, hbg, hh, hle, hmx, hcs, htk⟩
  · cases e0
  clear kA rA k12 k11 k10 k9 k8 k7 k6 k5 k4 k3 k2 k1 own' hg
  have hC := hA.add (b := g') (t := 28) (cells := cur) hh (Nat.le_trans hwb hbg) (three_ne (by omega) (by omega) (by omega))
  refine qE [] hC fun w14 k14 => coS <| qQ [0] k14 fun w15 k15 => coI (decide ((ys.length : Int) < 5)) (fun h => ?_) fun h => coSkip <| eoT <| ?_
  · have h3 : ys.length < l5.length := by have : (ys.length : Int) < 5 := by simpa using h
                                          omega
    refine coR <| qR 4 [0] k15 fun w16 k16 => ?_
    have hcy := cys_cur _ (k16.row 3 (b := g') (t := 28) cur.toList (by kernel_rfl)) htk
    refine wM (xIndex (cixY ⟨g', 0, none⟩ 5 c' ys.length (by omega) w16)) <| wM (xLoad (hcy.ld h3)) <| qC (asked_any l5[ys.length] w16) k16 fun w17 k17 => qE [1, 2] k17 fun w18 k18 => coRet <| eoTr <| eoT3 1 2 l5[ys.length] zeroRg false (w.heap.size + 1) (w.heap.size + 2) k18 ⟨?_, k18.touch.below⟩
    rw [hT]
    unfold toldT
    rw [if_pos h3, List.getD_eq_getElem?_getD, List.getElem?_eq_getElem h3]
    rfl
  · have h3 : ¬ ys.length < l5.length := by have : ¬ (ys.length : Int) < 5 := by simpa using h
                                            omega
    have h4 : 4 < ys.length := by omega
    obtain ⟨p, rfl⟩ := hin.addr h4
    have e3 : ys.getD 3 0 = ys[3] := by rw [List.getD_eq_getElem?_getD, List.getElem?_eq_getElem (by omega)]; rfl
    have e4 : ys.getD 4 0 = ys[4] := by rw [List.getD_eq_getElem?_getD, List.getElem?_eq_getElem (by omega)]; rfl
    have b3 := b8_at h8 (k := 3) (by omega)
    have b4 := b8_at h8 h4
    refine qP 16 k15 fun w16 k16 => qD 0 [0, 1, 2, 3] k16 <| qT 4 k16 (fun w' _ => xIndex (ixB p ys.length cap 4 h4 _)) <| qT 5 k16 (fun w' hS => xLoad (BytesIn.ld (hin.below hS.touch.below) h4)) <| qD 0 [6, 7, 8] k16 <| qT 9 k16 (fun w' _ => xIndex (ixB p ys.length cap 3 (by omega) _)) <| qT 10 k16 (fun w' hS => xLoad (BytesIn.ld (hin.below hS.touch.below) (k := 3) (by omega))) <| qDe 11 (word_any ys[4] ys[3] b4.1 b4.2 b3.1 b3.2 w16) k16 fun w17 k17 => qDc 12 (enter_any g v (some p) ys.length cap (256 * ys[4] + ys[3]) w17) k17 fun w18 k18 => qM [13, 14, 15] k18 <| poE <| qE [1, 2] k18 fun w19 k19 => coRet <| eoT3 1 2 zeroCy (jumpG g (256 * ys[4] + ys[3])) true (w.heap.size + 1) (w.heap.size + 2) k19 ⟨?_, k19.touch.below⟩
    rw [hT]
    unfold toldT
    rw [if_neg h3, e3, e4]
    rfl
def instrT (g : Rg) (v : Int) (ys : List Int) : T3 := if prefixed v = true then endT g else ofX (afterOf g v ys)
theorem instruction_any (g : Rg) (hg : RgB g) (v : Int) (hv : B8 v) (A : Option Addr) (cap : Nat) (ys : List Int) (hc : ys.length ≤ cap) (h8 : Bytes8 ys) (w : World) (hin : BytesIn w w.heap.size A ys) (ht : Tabs w w.heap.size) : Calls Tryz.prog 49 #[svV g v A ys.length cap] w fun e w' => e = .returned (instrT g v ys).v ∧ Below w.heap.size w w' := by
  go_enter Tryz.func49, Tryz.ntmps49
  obtain ⟨T, hT⟩ : ∃ T, T = ofX (afterOf g v ys) := ⟨_, rfl⟩
  have K : ∀ W, Below w.heap.size w W → Calls Tryz.prog 68 #[regsV g, .int .u8 v, .slice A ys.length cap] W fun e w' => e = .returned T.v ∧ Below W.heap.size W w' := by rw [hT]; exact after_hid g hg v hv A cap ys hc h8 w hin ht
  have hq : prefixed v = (v == 203 || (v == 221 || (v == 237 || v == 253))) := rfl
  have hend : prefixed v = true → (instrT g v ys).v = (endT g).v := fun h => by unfold instrT; rw [if_pos h]
  have hgo : prefixed v = false → (instrT g v ys).v = T.v := fun h => by unfold instrT; rw [if_neg (by rw [h]; simp), hT]
  refine coStart <| qQ [] (Many.begin w) fun w1 k1 => coS <| qQ [0] k1 fun w2 k2 => coB <| coS <| qQ [] k2 fun w3 k3 => coI (v == 203) (fun h => coSkip <| eoT <| coJ (v == 203) (fun e => by rw [h] at e; cases e) fun _ => ?_) fun h1 => qQ [] k3 fun w3 k3 => coI (v == 221) (fun h => coSkip <| eoT <| coJ (v == 221) (fun e => by rw [h] at e; cases e) fun _ => ?_) fun h2 => qQ [] k3 fun w3 k3 => coI (v == 237) (fun h => coSkip <| eoT <| coJ (v == 237) (fun e => by rw [h] at e; cases e) fun _ => ?_) fun h3 => coZ <| qF [] k3 fun w3 k3 => eoT <| coI (v == 253) (fun h => ?_) fun h4 => coSkip <| eoB <| eoT <| coR <| qR 6 [0, 0, 0] k3 fun w4 k4 => qC (K w4 k4.touch.below) k4 fun w5 k5 => qE [1, 2] k5 fun w6 k6 => coRet <| eoT3 1 2 T.c T.g T.b (w.heap.size + 1) (w.heap.size + 2) k6 ⟨by rw [hgo (by rw [hq, h1, h2, h3, h4]; rfl)]; rfl, k6.touch.below⟩
  all_goals exact qP 4 k3 fun w4 k4 => qD 0 [0, 1, 2] k4 <| poOne 3 <| soZ 1 (w.heap.size + 1) k4 fun w4 k4 => poE <| qE [2] k4 fun w5 k5 => coRet <| eoBr <| eoTr <| eoT3 1 2 zeroCy g true (w.heap.size + 1) (w.heap.size + 2) k5 ⟨by rw [hend (by rw [hq, h]; simp)]; rfl, k5.touch.below⟩
abbrev fnS (f : FuncId) (s : Value) : Value := .func (.func f) #[s] #[]
def modesE (s : Value) : List MapEntry := [{ key := .int .i64 0, val := fnS 49 s, born := 0 }, { key := .int .i64 1, val := fnS 50 s, born := 1 }, { key := .int .i64 2, val := fnS 51 s, born := 2 }]
theorem modes_no (s : Value) {m : Int} (h0 : m ≠ 0) (h1 : m ≠ 1) (h2 : m ≠ 2) : Instr.findNow (.int .i64) (.int .i64 m) (modesE s) 0 = some none := by
  have e0 : (m == 0) = false := by simpa using h0
  have e1 : (m == 1) = false := by simpa using h1
  have e2 : (m == 2) = false := by simpa using h2
  simp only [modesE, Instr.findNow, Instr.sameNow, e0, e1, e2, if_true]
def serveT (g : Rg) (v : Int) (ys : List Int) : T3 := if g.mode = 0 then instrT g v ys else if g.mode = 1 then toldT (pushL g.sp g.pc) (jumpG g 56) ys.length else throughT g v ys
theorem serve_any (g0 : Rg) (hg : RgB g0) (v : Int) (hv : B8 v) (A : Option Addr) (cap : Nat) (ys : List Int) (hc : ys.length ≤ cap) (h8 : Bytes8 ys) (hl : ys.length ≤ 1000000000) (w : World) (hin : BytesIn w w.heap.size A ys) (ht : Tabs w w.heap.size) : Calls Tryz.prog 23 #[svV g0 v A ys.length cap] w fun e w' => e = .returned (serveT { g0 with iff1 := false, iff2 := false } v ys).v ∧ Below w.heap.size w w' := by
  go_enter Tryz.func23, Tryz.ntmps23
  obtain ⟨g, hgE⟩ : ∃ g : Rg, g = { g0 with iff1 := false, iff2 := false } := ⟨_, rfl⟩
  have hb : RgB g := by rw [hgE]; exact ⟨hg.af, hg.bc, hg.de, hg.hl, hg.af2, hg.bc2, hg.de2, hg.hl2, hg.ix, hg.iy, hg.sp, hg.pc, hg.wz, hg.i, hg.r, hg.mode⟩
  have hs : svV { g0 with iff1 := false, iff2 := false } v A ys.length cap = svV g v A ys.length cap := by rw [hgE]
  have hm : g.mode = g0.mode := by rw [hgE]
  obtain ⟨T, hT⟩ : ∃ T, T = serveT g v ys := ⟨_, rfl⟩
  have eT : serveT { g0 with iff1 := false, iff2 := false } v ys = T := by rw [hT, hgE]
  rw [eT]
  have K0 : g.mode = 0 → ∀ W, Below w.heap.size w W → Calls Tryz.prog 49 #[svV { g0 with iff1 := false, iff2 := false } v A ys.length cap] W fun e w' => e = .returned T.v ∧ Below W.heap.size W w' := fun h W hW => by
    have := instruction_any g hb v hv A cap ys hc h8 W ((hin.below hW).more hW.size) (ht.below hW)
    rw [hs, hT]; unfold serveT; rwa [if_pos h]
  have K1 : g.mode = 1 → ∀ W, Calls Tryz.prog 50 #[svV { g0 with iff1 := false, iff2 := false } v A ys.length cap] W fun e w' => e = .returned T.v ∧ Below W.heap.size W w' := fun h W => by
    have := fixed_any g hb.pc v A ys.length cap hl W
    rw [hs, hT]; unfold serveT; rwa [if_neg (by omega), if_pos h]
  have K2 : g.mode ≠ 0 → g.mode ≠ 1 → ∀ W, Below w.heap.size w W → Calls Tryz.prog 51 #[svV { g0 with iff1 := false, iff2 := false } v A ys.length cap] W fun e w' => e = .returned T.v ∧ Below W.heap.size W w' := fun h h' W hW => by
    have := through_any g hb.pc hb.i v hv A cap ys h8 hl W ((hin.below hW).more hW.size)
    rw [hs, hT]; unfold serveT; rwa [if_neg h, if_neg h']
  rw [hm] at K0 K1 K2
  clear hT eT hs hb hm hgE
  obtain ⟨S, hS⟩ : ∃ S, S = svV { g0 with iff1 := false, iff2 := false } v A ys.length cap := ⟨_, rfl⟩
  refine coStart <| qQ [] (Many.begin w) fun w1 k1 => qQ [0, 0] k1 fun w2 k2 => coR <| wM (xMakeMap (run_makeMap _ w2)) <| ?_
  obtain ⟨M, hM⟩ : ∃ M, M = w2.heap.size := ⟨_, rfl⟩
  have hw2 : w.heap.size + 2 < M := by rw [hM]; exact k2.lt 2 ⟨w.heap.size + 2, 24, (regsC zeroRg).toList.map some⟩ (by kernel_rfl)
  have nin : M ∉ [w.heap.size, w.heap.size + 1, w.heap.size + 2] := fun h => by simp only [List.mem_cons, List.not_mem_nil, or_false] at h; omega
  have hL0 : ∀ b ∈ [w.heap.size, w.heap.size + 1, w.heap.size + 2], w.heap.size ≤ b := fun b h => by simp only [List.mem_cons, List.not_mem_nil, or_false] at h; omega
  have hne : ∀ b ∈ [w.heap.size, w.heap.size + 1, w.heap.size + 2], b ≠ M := fun b h => by simp only [List.mem_cons, List.not_mem_nil, or_false] at h; omega
  have m1 : (w2.alloc (.map #[] 0)).heap[M]? = some (.map #[] 0) := by rw [hM]; exact World.alloc_heap_new w2 _
  have B1 := bAlloc k2.touch.below (.map #[] 0)
  have lt1 : M < (w2.alloc (.map #[] 0)).heap.size := (Array.getElem?_eq_some_iff.1 m1).1
  have kb1 := (k2.allocO (.map #[] 0)).rebaseL [w.heap.size, w.heap.size + 1, w.heap.size + 2]
  rw [← hM]
  generalize w2.alloc (.map #[] 0) = W1 at *
  refine qR 2 [0] kb1 fun w3 k3 => ?_
  have m3 := (k3.touch.block M lt1 nin).trans m1
  have B3 := k3.touch.underL B1 hL0 B1.size
  obtain ⟨w4, r4, m4, g4⟩ := run_insert_any w3 74 _ _ Tryz.underlying74 Tryz.underlying3 [] 0 0 (fnS 49 (svV { g0 with iff1 := false, iff2 := false } v A ys.length cap)) M m3 rfl
  refine wD (xInsert r4) ?_
  have B4 := below_some B3 g4 (by omega) B3.size
  have kb4 := k3.anewL g4 [w.heap.size, w.heap.size + 1, w.heap.size + 2] hne
  have lt4 := (Array.getElem?_eq_some_iff.1 m4).1
  refine qR 2 [0] kb4 fun w5 k5 => ?_
  have m5 := (k5.touch.block M lt4 nin).trans m4
  have B5 := k5.touch.underL B4 hL0 B4.size
  obtain ⟨w6, r6, m6, g6⟩ := run_insert_any w5 74 _ _ Tryz.underlying74 Tryz.underlying3 _ 1 1 (fnS 50 (svV { g0 with iff1 := false, iff2 := false } v A ys.length cap)) M m5 rfl
  refine wD (xInsert r6) ?_
  have B6 := below_some B5 g6 (by omega) B5.size
  have kb6 := k5.anewL g6 [w.heap.size, w.heap.size + 1, w.heap.size + 2] hne
  have lt6 := (Array.getElem?_eq_some_iff.1 m6).1
  refine qR 2 [0] kb6 fun w7 k7 => ?_
  have m7 := (k7.touch.block M lt6 nin).trans m6
  have B7 := k7.touch.underL B6 hL0 B6.size
  obtain ⟨w8, r8, m8, g8⟩ := run_insert_any w7 74 _ _ Tryz.underlying74 Tryz.underlying3 _ 2 2 (fnS 51 (svV { g0 with iff1 := false, iff2 := false } v A ys.length cap)) M m7 rfl
  refine wD (xInsert r8) ?_
  have B8' := below_some B7 g8 (by omega) B7.size
  have kb8 := k7.anewL g8 [w.heap.size, w.heap.size + 1, w.heap.size + 2] hne
  have lt8 := (Array.getElem?_eq_some_iff.1 m8).1
  have m8 : w8.heap[M]? = some (.map (modesE (svV { g0 with iff1 := false, iff2 := false } v A ys.length cap)).toArray 3) := m8
  clear r4 r6 r8 m1 m3 m4 m5 m6 m7 g4 g6 g8 B1 B3 B4 B5 B6 B7 kb1 kb4 kb6 k1 k2 k3 k5 k7 lt1 lt4 lt6 hM
  refine qE [] kb8 fun w9 k9 => coR <| qR 4 [0] k9 fun wA kA => ?_
  have mA := (kA.touch.block M lt8 nin).trans m8
  have BA := kA.touch.underL B8' hL0 B8'.size
  have ht := Tryz.underlying74
  have hk := Tryz.underlying3
  by_cases h0 : g0.mode = 0
  · refine wM (xLookup (V := .map (some M)) (W := .int .i64 g0.mode) (by rw [h0]; exact run_look ht hk mA rfl)) <| qE [] kA fun wB kB => coS <| qQ [] kB fun wC kC => coF <| coSkip <| eoT <| coR <| qR 1 [] kC fun wD kD => qC (K0 h0 wD (kD.touch.underL B8' hL0 B8'.size)) kD fun wE kE => qE [1, 2] kE fun wF kF => coRet <| eoT3 1 2 T.c T.g T.b (w.heap.size + 1) (w.heap.size + 2) kF ⟨rfl, kF.touch.underL B8' hL0 B8'.size⟩
  by_cases h1 : g0.mode = 1
  · refine wM (xLookup (V := .map (some M)) (W := .int .i64 g0.mode) (by rw [h1]; exact run_look ht hk mA rfl)) <| qE [] kA fun wB kB => coS <| qQ [] kB fun wC kC => coF <| coSkip <| eoT <| coR <| qR 1 [] kC fun wD kD => qC (K1 h1 wD) kD fun wE kE => qE [1, 2] kE fun wF kF => coRet <| eoT3 1 2 T.c T.g T.b (w.heap.size + 1) (w.heap.size + 2) kF ⟨rfl, kF.touch.underL B8' hL0 B8'.size⟩
  by_cases h2 : g0.mode = 2
  · refine wM (xLookup (V := .map (some M)) (W := .int .i64 g0.mode) (by rw [h2]; exact run_look ht hk mA rfl)) <| qE [] kA fun wB kB => coS <| qQ [] kB fun wC kC => coF <| coSkip <| eoT <| coR <| qR 1 [] kC fun wD kD => qC (K2 h0 h1 wD (kD.touch.underL B8' hL0 B8'.size)) kD fun wE kE => qE [1, 2] kE fun wF kF => coRet <| eoT3 1 2 T.c T.g T.b (w.heap.size + 1) (w.heap.size + 2) kF ⟨rfl, kF.touch.underL B8' hL0 B8'.size⟩
  · refine wM (xLookup (V := .map (some M)) (W := .int .i64 g0.mode) (run_look_no (z := .nilFunc) ht hk mA (modes_no _ h0 h1 h2) (by kernel_rfl))) <| qE [] kA fun wB kB => coS <| qQ [] kB fun wC kC => coT <| coZ <| qF [0] kC fun wC kC => eoT <| coR <| qR 1 [] kC fun wD kD => qC (K2 h0 h1 wD (kD.touch.underL B8' hL0 B8'.size)) kD fun wE kE => qE [1, 2] kE fun wF kF => coRet <| eoT3 1 2 T.c T.g T.b (w.heap.size + 1) (w.heap.size + 2) kF ⟨rfl, kF.touch.underL B8' hL0 B8'.size⟩
theorem which_any (g : Rg) (nmi irq : Bool) (w : World) : Calls Tryz.prog 11 #[regsV g, .bool nmi, .bool irq] w fun e w' => e = .returned (.int .i64 (whichM g nmi irq)) ∧ Below w.heap.size w w' := by
  go_enter Tryz.func11, Tryz.ntmps11
  refine coStart <| qQ [] (Many.begin w) fun w1 k1 => coS <| qQ [] k1 fun w2 k2 => coI nmi (fun h => qQ [] k2 fun w3 k3 => coRet <| eoTr <| eoIr (.int .i64 1) ⟨?_, k3.touch.below⟩) fun h => coSkip <| eoT <| coS <| coR <| qR 2 [] k2 fun w3 k3 => ?_
  · unfold whichM; rw [h]; rfl
  cases irq with
  | false => exact qE [] k3 fun w4 k4 => coF <| coSkip <| eoT <| qQ [] k4 fun w5 k5 => coRet <| eoIr (.int .i64 0) ⟨by unfold whichM; rw [h]; rfl, k5.touch.below⟩
  | true =>
    refine qR 4 [0] k3 fun w4 k4 => ?_
    cases hi : g.iff1 with
    | false => exact tell 12 hi <| tell 13 hi <| qE [] k4 fun w5 k5 => coF <| coSkip <| eoT <| qQ [] k5 fun w5 k5 => coRet <| eoIr (.int .i64 0) ⟨by unfold whichM; rw [h, hi]; rfl, k5.touch.below⟩
    | true =>
      refine tell 12 hi <| tell 13 hi <| qE [0] k4 fun w5 k5 => coI (!g.late) (fun hl => qQ [] k5 fun w6 k6 => coRet <| eoTr <| eoIr (.int .i64 2) ⟨by unfold whichM; rw [h, hi, hl]; rfl, k6.touch.below⟩) fun hl => coSkip <| eoT <| qQ [] k5 fun w6 k6 => coRet <| eoIr (.int .i64 0) ⟨by unfold whichM; rw [h, hi, hl]; rfl, k6.touch.below⟩
theorem rwhich_any (g : Rg) (nmi irq : Bool) (w : World) : Calls Tryz.prog 12 #[regsV g, .bool nmi, .bool irq] w fun e w' => e = .returned (.int .i64 (whichM g nmi irq)) ∧ Below w.heap.size w w' := by
  go_enter Tryz.func12, Tryz.ntmps12
  refine coStart <| qQ [] (Many.begin w) fun w1 k1 => coS <| qQ [] k1 fun w2 k2 => coI nmi (fun h => qQ [] k2 fun w3 k3 => coRet <| eoTr <| eoIr (.int .i64 1) ⟨?_, k3.touch.below⟩) fun h => coSkip <| eoT <| coS <| coR <| qR 2 [] k2 fun w3 k3 => ?_
  · unfold whichM; rw [h]; rfl
  cases irq with
  | false => exact qE [] k3 fun w4 k4 => coF <| coSkip <| eoT <| qQ [] k4 fun w5 k5 => coRet <| eoIr (.int .i64 0) ⟨by unfold whichM; rw [h]; rfl, k5.touch.below⟩
  | true =>
    refine qR 4 [0] k3 fun w4 k4 => ?_
    cases hi : g.iff1 with
    | false => exact tell 12 hi <| tell 13 hi <| qE [] k4 fun w5 k5 => coF <| coSkip <| eoT <| qQ [] k5 fun w5 k5 => coRet <| eoIr (.int .i64 0) ⟨by unfold whichM; rw [h, hi]; rfl, k5.touch.below⟩
    | true =>
      refine tell 12 hi <| tell 13 hi <| qE [0] k4 fun w5 k5 => coI (!g.late) (fun hl => qQ [] k5 fun w6 k6 => coRet <| eoTr <| eoIr (.int .i64 2) ⟨by unfold whichM; rw [h, hi, hl]; rfl, k6.touch.below⟩) fun hl => coSkip <| eoT <| qQ [] k5 fun w6 k6 => coRet <| eoIr (.int .i64 0) ⟨by unfold whichM; rw [h, hi, hl]; rfl, k6.touch.below⟩
theorem areads_any (k : Int) (w : World) : Calls Tryz.prog 30 #[.int .i64 k] w fun e w' => e = .returned (.bool (readsA k)) ∧ Below w.heap.size w w' := by
  go_enter Tryz.func30, Tryz.ntmps30
  have hq : readsA k = (k == 1 || (k == 2 || (k == 4 || k == 6))) := rfl
  refine coStart <| qQ [] (Many.begin w) fun w1 k1 => coS <| qQ [] k1 fun w2 k2 => coB <| coS <| qQ [] k2 fun w3 k3 => coI (k == 1) (fun h => coSkip <| eoT <| coJ (k == 1) (fun e => by rw [h] at e; cases e) fun _ => ?_) fun h1 => qQ [] k3 fun w3 k3 => coI (k == 2) (fun h => coSkip <| eoT <| coJ (k == 2) (fun e => by rw [h] at e; cases e) fun _ => ?_) fun h2 => qQ [] k3 fun w3 k3 => coI (k == 4) (fun h => coSkip <| eoT <| coJ (k == 4) (fun e => by rw [h] at e; cases e) fun _ => ?_) fun h3 => coZ <| qF [] k3 fun w3 k3 => eoT <| coI (k == 6) (fun h => ?_) fun h4 => coSkip <| eoB <| eoT <| qQ [] k3 fun w6 k6 => coRet <| eoIr (.bool false) ⟨by rw [hq, h1, h2, h3, h4]; rfl, k6.touch.below⟩
  all_goals exact qQ [] k3 fun w4 k4 => coRet <| eoBr <| eoTr <| eoIr (.bool true) ⟨by rw [hq, h]; simp, k4.touch.below⟩
theorem accept_any (g : Rg) (hg : RgB g) (which : Int) (A : Option Addr) (cap : Nat) (xs : List Int) (hc : xs.length ≤ cap) (h8 : Bytes8 xs) (hl : xs.length ≤ 1000000000) (w : World) (hin : BytesIn w w.heap.size A xs) (ht : Tabs w w.heap.size) : Calls Tryz.prog 9 #[regsV g, .int .i64 which, .slice A xs.length cap] w fun e w' => e = .returned (accOf g which xs).v ∧ Below w.heap.size w w' := by
  go_enter Tryz.func9, Tryz.ntmps9
  obtain ⟨X, hX⟩ : ∃ X, X = ofX (nextOf g xs) := ⟨_, rfl⟩
  have KX : ∀ W, Below w.heap.size w W → Calls Tryz.prog 19 #[regsV g, .slice A xs.length cap] W fun e w' => e = .returned X.v ∧ Below W.heap.size W w' := by rw [hX]; exact next_hid g hg A cap xs hc h8 w hin ht
  refine coStart <| qQ [] (Many.begin w) fun w1 k1 => coR <| qR 3 [0] k1 fun w2 k2 => qC (opening_any g.pc which w2) k2 fun w3 k3 => qE [3] k3 fun w4 k4 => coS <| qQ [] k4 fun w5 k5 => coI (!(which == 1 || which == 2)) (fun h => ?_) fun h => coSkip <| eoT <| coS <| qQ [] k5 fun w6 k6 => coI ((xs.length : Int) == 0) (fun h0 => ?_) fun h0 => coSkip <| eoT <| ?_
  · have h1 : which ≠ 1 := by intro e; subst e; cases h
    have h2 : which ≠ 2 := by intro e; subst e; cases h
    refine coR <| qR 2 [0] k5 fun w6 k6 => qC (KX w6 k6.touch.below) k6 fun w7 k7 => qE [1, 2] k7 fun w8 k8 => coRet <| eoTr <| eoT3 1 2 X.c X.g X.b (w.heap.size + 1) (w.heap.size + 2) k8 ⟨?_, k8.touch.below⟩
    unfold accOf
    rw [if_neg h1, if_neg h2, ← hX]
    rfl
  · have hx : xs = [] := List.eq_nil_of_length_eq_zero (by have : (xs.length : Int) = 0 := by simpa using h0
                                                           omega)
    refine coR <| qR 1 [3] k6 fun w7 k7 => qC (asked_any (openC g.pc which) w7) k7 fun w8 k8 => qE [1, 2] k8 fun w9 k9 => coRet <| eoTr <| eoT3 1 2 (openC g.pc which) zeroRg false (w.heap.size + 1) (w.heap.size + 2) k9 ⟨?_, k9.touch.below⟩
    subst hx
    unfold accOf openC
    by_cases h1 : which = 1
    · rw [if_pos h1, if_pos h1]; rfl
    · have h2 : which = 2 := by
        have : (which == 1 || which == 2) = true := by cases hq : (which == 1 || which == 2) with | true => rfl | false => (rw [hq] at h; cases h)
        simpa [h1] using this
      rw [if_neg h1, if_neg h1, if_pos h2, if_pos h2]; rfl
  · obtain ⟨v, ys, rfl⟩ : ∃ v ys, xs = v :: ys := by
      cases xs with
      | nil => cases h0
      | cons v ys => exact ⟨v, ys, rfl⟩
    have hcy : ys.length + 1 ≤ cap := hc
    have hly : ys.length ≤ 1000000000 := by have : ys.length + 1 ≤ 1000000000 := hl
                                            omega
    have hv : B8 v := h8.head
    have hy8 : Bytes8 ys := h8.tail
    obtain ⟨A', hA'⟩ : ∃ A', A' = (if cap = 1 then A else A.map (·.add 1)) := ⟨_, rfl⟩
    have hiny : BytesIn w w.heap.size A' ys := by rw [hA']; exact hin.drop (k := 1) (by simp) hc
    have KB := fun (W : World) (hW : Below w.heap.size w W) => begin_any g hg v ys A cap hcy W ((hin.below hW).more hW.size)
    rw [← hA'] at KB
    obtain ⟨g1, hg1⟩ : ∃ g1 : Rg, g1 = tickG { g with halted := false, late := false } 1 := ⟨_, rfl⟩
    have b1 : RgB g1 := by
      have := hg.tick 1
      rw [hg1]
      exact ⟨this.af, this.bc, this.de, this.hl, this.af2, this.bc2, this.de2, this.hl2, this.ix, this.iy, this.sp, this.pc, this.wz, this.i, this.r, this.mode⟩
    rw [← hg1] at KB
    refine coR <| qR 2 [0] k6 fun w7 k7 => qC (KB w7 k7.touch.below) k7 fun w8 k8 => qE [4] k8 fun w9 k9 => coS <| qQ [] k9 fun wA kA => coI (which == 1) (fun h1 => ?_) fun h1 => coSkip <| eoT <| ?_
    · obtain ⟨T, hT⟩ : ∃ T, T = toldT (pushL g1.sp g1.pc) (jumpG { g1 with iff1 := false } 102) ys.length := ⟨_, rfl⟩
      have KN := fun W => nmi_any g1 b1.pc v A' ys.length (cap - 1) hly W
      rw [← hT] at KN
      refine coR <| qR 1 [4] kA fun wB kB => qC (KN wB) kB fun wC kC => qE [1, 2] kC fun wD kD => coRet <| eoTr <| eoT3 1 2 T.c T.g T.b (w.heap.size + 1) (w.heap.size + 2) kD ⟨?_, kD.touch.below⟩
      have e : accOf g which (v :: ys) = T := by
        unfold accOf
        rw [if_pos (by simpa using h1), hT, hg1]
        rfl
      rw [e]; rfl
    · have h1' : which ≠ 1 := by simpa using h1
      have h2 : which = 2 := by
        have : (which == 1 || which == 2) = true := by cases hq : (which == 1 || which == 2) with | true => rfl | false => (rw [hq] at h; cases h)
        simpa [h1'] using this
      obtain ⟨T, hT⟩ : ∃ T, T = serveT { g1 with iff1 := false, iff2 := false } v ys := ⟨_, rfl⟩
      have KN := fun (W : World) (hW : Below w.heap.size w W) => serve_any g1 b1 v hv A' (cap - 1) ys (by omega) hy8 hly W ((hiny.below hW).more hW.size) (ht.below hW)
      rw [← hT] at KN
      refine coR <| qR 1 [4] kA fun wB kB => qC (KN wB kB.touch.below) kB fun wC kC => qE [1, 2] kC fun wD kD => coRet <| eoT3 1 2 T.c T.g T.b (w.heap.size + 1) (w.heap.size + 2) kD ⟨?_, kD.touch.below⟩
      have e : accOf g which (v :: ys) = T := by
        unfold accOf
        rw [if_neg h1', if_pos h2, hT, hg1]
        rfl
      rw [e]; rfl
theorem irq_zero {g : Rg} (h : g.mode = 0) (v : Int) (ys : List Int) : accOf g 2 (v :: ys) = if prefixed v = true then endT (begG g false false) else ofX (afterOf (begG g false false) v ys) := by
  show irqT g v ys = _
  unfold irqT
  rw [if_pos h]
end Go.Proofs.YtmnddlkhgajenaaGreatDoor
