/- Contracts and facts that the claim's proof wants (several texts in one). -/
import Derived.Maps.RangeWalk
import Derived.KernelRfl
import Derived.Test.YtkgaeamdhhceiaaGreatDoorStG6
import Derived.Test.YtkgaeamdhhceiaaGreatDoorStG7
import Derived.Test.YtkgaeamdhhceiaaGreatDoorStG8
namespace Go.Proofs.YtkgaeamdhhceiaaGreatDoor
open Go.RowKit
set_option linter.unusedVariables false
set_option linter.unusedSimpArgs false
set_option maxRecDepth 20000
set_option maxHeartbeats 20000000
def T3.v (T : T3) : Value := .tuple #[cyV T.c, regsV T.g, .bool T.b]
def cyvs : List Cy → List Value
  | [] => []
  | c :: r => .int .i64 c.kind :: .int .u16 c.addr :: .int .u8 c.data :: .int .i64 c.t :: cyvs r
theorem cyvs_length : ∀ l : List Cy, (cyvs l).length = l.length * 4
  | [] => rfl
  | c :: r => by simp only [cyvs, List.length_cons, cyvs_length r]; omega
theorem cyvs_append : ∀ l m : List Cy, cyvs l ++ cyvs m = cyvs (l ++ m)
  | [], _ => rfl
  | c :: r, m => by simp only [cyvs, List.cons_append, cyvs_append r m]
theorem cyvs_one : ∀ l : List Cy, ∀ u ∈ cyvs l, u.oneCell' = true
  | [], _, h => by cases h
  | c :: r, u, h => by
    simp only [cyvs, List.mem_cons] at h
    rcases h with rfl | rfl | rfl | rfl | h
    · rfl
    · rfl
    · rfl
    · rfl
    · exact cyvs_one r u h
theorem cyvs_at : ∀ (l : List Cy) (k : Nat) (hk : k < l.length), (cyvs l)[k * 4]? = some (.int .i64 l[k].kind) ∧ (cyvs l)[k * 4 + 1]? = some (.int .u16 l[k].addr) ∧ (cyvs l)[k * 4 + 2]? = some (.int .u8 l[k].data) ∧ (cyvs l)[k * 4 + 3]? = some (.int .i64 l[k].t)
  | [], k, h => by simp at h
  | c :: r, 0, _ => ⟨rfl, rfl, rfl, rfl⟩
  | c :: r, k + 1, h => by
    have := cyvs_at r k (by simpa using h)
    rw [show (k + 1) * 4 = k * 4 + 1 + 1 + 1 + 1 by omega, show k * 4 + 1 + 1 + 1 + 1 + 1 = k * 4 + 1 + 1 + 1 + 1 + 1 from rfl, show k * 4 + 1 + 1 + 1 + 1 + 2 = k * 4 + 2 + 1 + 1 + 1 + 1 by omega, show k * 4 + 1 + 1 + 1 + 1 + 3 = k * 4 + 3 + 1 + 1 + 1 + 1 by omega]
    simp only [cyvs, List.getElem?_cons_succ, List.getElem_cons_succ]
    exact this
def CysIn (w : World) (B : Nat) (A : Option Addr) (l : List Cy) : Prop := ∀ (j : Nat) (u : Value), (cyvs l)[j]? = some u → ∃ p, A = some p ∧ p.block < B ∧ w.cell? (p.add j) = some u
theorem CysIn.keep {w w' : World} {B : Nat} {A : Option Addr} {l : List Cy} (h : CysIn w B A l) (k : ∀ b, b < B → w'.heap[b]? = w.heap[b]?) : CysIn w' B A l := fun j c hc => by
  obtain ⟨p, e, hb, h1⟩ := h j c hc
  exact ⟨p, e, hb, (World.cell?_of_block (by rw [add_block]; exact k _ hb)).trans h1⟩
theorem CysIn.more {w : World} {B B' : Nat} {A : Option Addr} {l : List Cy} (h : CysIn w B A l) (k : B ≤ B') : CysIn w B' A l := fun j c hc => by
  obtain ⟨p, e, hb, h1⟩ := h j c hc
  exact ⟨p, e, Nat.lt_of_lt_of_le hb k, h1⟩
theorem CysIn.below {w w' : World} {B : Nat} {A : Option Addr} {l : List Cy} (h : CysIn w B A l) (k : Below B w w') : CysIn w' B A l := h.keep fun b hb => k.block b hb
theorem CysIn.addr {w : World} {B : Nat} {A : Option Addr} {l : List Cy} (h : CysIn w B A l) {k : Nat} (hk : k < l.length) : ∃ p, A = some p := by
  obtain ⟨p, e, -⟩ := h _ _ (cyvs_at l k hk).1
  exact ⟨p, e⟩
theorem CysIn.values {w : World} {B : Nat} {p : Addr} {l : List Cy} (h : CysIn w B (some p) l) : ∀ j u, (cyvs l)[j]? = some u → w.cell? (p.add j) = some u := fun j u hu => by
  obtain ⟨q, e, -, h1⟩ := h j u hu
  cases e
  exact h1
theorem CysIn.of_values {w : World} {B : Nat} {p : Addr} {l : List Cy} (hb : p.block < B) (h : ∀ j u, (cyvs l)[j]? = some u → w.cell? (p.add j) = some u) : CysIn w B (some p) l := fun j c hc => ⟨p, rfl, hb, h j c hc⟩
theorem ldCyA {w : World} {p : Addr} {a b c d : Int} (h0 : w.cell? p = some (.int .i64 a)) (h1 : w.cell? (p.add 1) = some (.int .u16 b)) (h2 : w.cell? (p.add 2) = some (.int .u8 c)) (h3 : w.cell? (p.add 3) = some (.int .i64 d)) : (Instr.loadAt 54 (.pointer (some p))).run Tryz.prog w = .ok (cyV ⟨a, b, c, d⟩) w := by
  have e1 : w.cell? { block := p.block, off := p.off + 1 } = some (.int .u16 b) := by simpa [Addr.add] using h1
  have e2 : w.cell? { block := p.block, off := p.off + 2 } = some (.int .u8 c) := by simpa [Addr.add] using h2
  have e3 : w.cell? { block := p.block, off := p.off + 3 } = some (.int .i64 d) := by simpa [Addr.add] using h3
  simp [go_sem, h0, e1, e2, e3]
theorem add_more (p : Addr) (a b : Nat) (hb : b ≠ 0) : (p.add a).add b = p.add (a + b) := by
  cases p
  unfold Addr.add
  split <;> split <;> simp_all <;> omega
theorem CysIn.ld {w : World} {B : Nat} {p : Addr} {l : List Cy} (h : CysIn w B (some p) l) {k : Nat} (hk : k < l.length) : (Instr.loadAt 54 (.pointer (some (p.add (k * 4))))).run Tryz.prog w = .ok (cyV l[k]) w := by
  obtain ⟨h0, h1, h2, h3⟩ := cyvs_at l k hk
  exact ldCyA (h.values _ _ h0) (by rw [add_more _ _ _ (by omega)]; exact h.values _ _ h1) (by rw [add_more _ _ _ (by omega)]; exact h.values _ _ h2) (by rw [add_more _ _ _ (by omega)]; exact h.values _ _ h3)
theorem cixY (p : Addr) (n c k : Nat) (h : k < n) (w : World) : (Instr.indexAt 31 (.slice (some p) n c) (.int .i64 (k : Int))).run Tryz.prog w = .ok (.pointer (some (p.add (k * 4)))) w := by
  have h1 : (k : Int) < n := by omega
  simp [go_sem, h]
theorem cyc_info : (Tryz.prog.info? 54).map (fun i => (i.zero, i.size, i.bytes)) = some (some (cyV zeroCy), 4, 24) := by kernel_rfl
theorem own_cys {W : World} {b n : Nat} {v : Value} {l : List Cy} (h : W.ownsRow b 54 4 v n (cyvs l)) : ∃ A c, v = .slice A n c ∧ n ≤ c ∧ CysIn W W.heap.size A l ∧ (A = none → c = 0) := by
  rcases h.2 with ⟨e1, e2⟩ | ⟨g, c, cur, e1, -, hh, hle, -⟩
  · subst e1 e2
    have h1 := h.1
    rw [cyvs_length] at h1
    obtain rfl : l = [] := List.eq_nil_of_length_eq_zero (by omega)
    exact ⟨none, 0, rfl, Nat.le_refl _, fun j u h => by simp [cyvs] at h, fun _ => rfl⟩
  · subst e1
    exact ⟨_, c, rfl, hle, CysIn.of_values (Array.getElem?_eq_some_iff.1 hh).1 (h.cells (g := g) rfl), fun e => by cases e⟩
section
variable {ops : Array Oper} {Q : Exit → Act → World → Prop} {base : List Value} {rest : List Oper} {l : Slots} {w : World} {o : Oper}
theorem qAy (s x : Operand) (bs B : Nat) (v : Value) (n : Nat) (got : List Cy) (p : Addr) (c m : Nat) (ys : List Cy) (hbs : bs ≤ w.heap.size)
    (hown : w.ownsRow bs 54 4 v n (cyvs got)) (hy : CysIn w B (some p) ys) (hm : m = ys.length) (hmax : n + m ≤ 1000000)
    (h : ∀ v' w', w'.ownsRow bs 54 4 v' (n + m) (cyvs (got ++ ys)) → w.grownBy w' v.ownBlock → WO Tryz.prog ops Q base rest (putO o.dst v' l) w')
    (ho : o.op = .call { callee := .builtin .append, args := #[s, x], argTypes := #[31, 31] } := by exact rfl) (hg : o.guard = none := by exact rfl) (hs : evO base l s = v := by kernel_rfl) (hx : evO base l x = .slice (some p) m c := by kernel_rfl) (hd : dstO o.dst base.length = true := by kernel_rfl) : WO Tryz.prog ops Q base (o :: rest) l w :=
  ⟨fun hi => ⟨by
    obtain ⟨i0, hi0, hz0, hz1, hz2⟩ := info_parts cyc_info
    subst hm
    refine wpList_append_own_at _ hg s x _ ho bs 54 i0 _ 4 24 Tryz.underlying31 hi0 hz0 hz1 hz2 rfl (by omega) v n (cyvs got) (by rw [evO_eq hi]; exact hs) hown p ys.length c (cyvs ys) (by rw [evO_eq hi]; exact hx) (cyvs_length ys) hy.values (cyvs_one ys) (by simp only [maxLen]; omega) (by omega) hbs ?_
    intro v' w' own' hgr _ _
    rw [cyvs_append] at own'
    rw [put_actO]
    exact ((h v' w' own' hgr).h (inO_put hd hi)).h⟩⟩
end
theorem cys_new (w : World) (l : List Cy) (t : TypeId) : CysIn (w.alloc (.cells (cyvs l).toArray t)) (w.heap.size + 1) (some ⟨w.heap.size, 0, none⟩) l := CysIn.of_values (by simp) (cells_list_new' w (cyvs l) t)
theorem cys_row {w : World} {b : Nat} {t : TypeId} {l : List Cy} (h : Row w b t (cyvs l).toArray) : CysIn w w.heap.size (some ⟨b, 0, none⟩) l := CysIn.of_values h.lt fun j u hu => by
  rw [show (⟨b, 0, none⟩ : Addr).add j = ⟨b, j, none⟩ by simp [Addr.add]; omega, h.cell j]
  simpa using hu
theorem cys_cur {w : World} {b : Nat} {t : TypeId} {cur : List Value} {l : List Cy} (n : Nat) (h : Row w b t cur.toArray) (e : cur.take n = cyvs l) : CysIn w w.heap.size (some ⟨b, 0, none⟩) l := CysIn.of_values h.lt fun j u hu => by
  rw [show (⟨b, 0, none⟩ : Addr).add j = ⟨b, j, none⟩ by simp [Addr.add]; omega, h.cell j]
  rw [← e, List.getElem?_take] at hu
  split at hu
  · simpa using hu
  · cases hu
theorem own_crow {w : World} {b base : Nat} {l : List Cy} (n : Nat) (h : Row w b 54 (cyvs l).toArray) (hb : base ≤ b) (hn : n = l.length) (hm : n ≤ 1000) : w.ownsRow base 54 4 (.slice (some ⟨b, 0, none⟩) n n) n (cyvs l) :=
  ⟨by rw [cyvs_length, hn], .inr ⟨b, n, _, rfl, hb, h, Nat.le_refl _, by simp only [maxLen]; omega, by simp [cyvs_length, hn], by simp only []; exact List.take_of_length_le (by rw [cyvs_length, hn]; exact Nat.le_refl _)⟩⟩
section
variable {ops : Array Oper} {Q : Exit → Act → World → Prop} {base : List Value} {l : Slots} {w w0 : World} {L : List Nat} {rs : List RowK}
theorem soZ {n f i : Nat} {listed : Array Bool} {x y : Operand} (j b : Nat) (hm : Many w0 L rs w) (h : ∀ w', Many w0 L rs w' → PO Tryz.prog ops Q (Many w0 L rs) n base f (listed.setIfInBounds i true) l w')
    (hj : rs[j]? = some ⟨b, 54, (cyC zeroCy).toList.map some⟩ := by kernel_rfl) (ho : (opNo ops i).op = .store 54 x y := by exact rfl) (hx : evO base l x = pT b 0 := by kernel_rfl) (hy : evO base l y = cyV zeroCy := by kernel_rfl)
    (hd : ((opNo ops i).dst.isNone, decide (i < n), wantO ops base.length base l (opNo ops i), (ops[i]?).isSome) = (true, true, some true, true) := by kernel_rfl) : SO Tryz.prog ops Q (Many w0 L rs) n base f listed i l w := by
  simp only [Prod.mk.injEq] at hd
  obtain ⟨d1, d2, d3, d4⟩ := hd
  have ho' := opNo_eq d4
  have hdn : (opNo ops i).dst = none := Option.isNone_iff_eq_none.1 d1
  have r := hm.row j (cyC zeroCy).toList hj
  have hs := stCy (c := zeroCy) r
  have he : ∀ l', (execOp (evO base l) (opNo ops i)).run Tryz.prog w = .ok .skip l' ↔ l' = w.setCells b 0 (cyC zeroCy).toList := fun l' => by
    rw [xStore hs ho hx hy]
    constructor
    · intro e; injection e with _ e; exact e.symm
    · rintro rfl; rfl
  have e1 := (he _).2 rfl
  have hm' : Many w0 L rs (w.setCells b 0 (cyC zeroCy).toList) := by
    have k := hm.turn (cs := (cyC zeroCy).toList.map some) hj (r.setAll rfl) ⟨by simp, fun k v e => by rw [List.getElem?_map] at e; obtain ⟨u, h1, h2⟩ := Option.map_eq_some_iff.1 e; injection h2 with h2; rw [← h2, ← Array.getElem?_toList]; exact h1⟩ (setsB b _ 0 (Besides.refl ..))
    have : rs.set j ⟨b, 54, (cyC zeroCy).toList.map some⟩ = rs := by
      apply List.ext_getElem?
      intro q
      rw [List.getElem?_set]
      split
      · rename_i e; subst e; split
        · exact hj.symm
        · rename_i e; rw [List.getElem?_eq_none (by omega)]
      · rfl
    rwa [this] at k
  refine ⟨fun hi hr inv => ⟨of_decide_eq_true d2, ?_⟩⟩
  unfold wpOp
  simp only [ho', wantO_sound d3 hi, if_true]
  refine .inl ?_
  unfold Oper.wp
  rw [evO_eq hi, e1, Oper.upon_skip, hdn]
  exact ⟨hm', (h _ hm').h hi (inv.set hr (of_decide_eq_true d2))⟩
end
section
variable {base : List Value} {l : Slots} {w w0 : World} {L : List Nat} {rs : List RowK}
theorem Many.rowK (h : Many w0 L rs w) (i : Nat) (vs : List Value) {b : Nat} (e : (rs[i]?).map (fun r => (pT r.b 0, r.cs)) = some (pT b 0, vs.map some)) : ∃ t, Row w b t vs.toArray := by
  cases hr : rs[i]? with
  | none => rw [hr] at e; cases e
  | some r =>
    obtain ⟨rb, rt, rc⟩ := r
    rw [hr] at e
    injection e with e; injection e with e1 e2
    injection e1 with e1; injection e1 with e1; injection e1 with e1
    dsimp only at e1 e2
    subst e1 e2
    exact ⟨rt, h.row i vs hr⟩
theorem eoT3 {fn : Func} {R : Ending → World → Prop} {s1 s2 s3 : Tmp} (i j : Nat) (c : Cy) (g : Rg) (b : Bool) (b1 b2 : Nat) (hm : Many w0 L rs w) (hR : R (.returned (.tuple #[cyV c, regsV g, .bool b])) w)
    (hres : fn.results = #[.cell s1 54, .cell s2 24, .tmp s3] := by exact rfl)
    (h1 : (rs[i]?).map (fun r => (pT r.b 0, r.cs)) = some (pT b1 0, (cyC c).toList.map some) := by kernel_rfl) (h2 : (rs[j]?).map (fun r => (pT r.b 0, r.cs)) = some (pT b2 0, (regsC g).toList.map some) := by kernel_rfl)
    (k1 : lkO base s1 l = pT b1 0 := by kernel_rfl) (k2 : lkO base s2 l = pT b2 0 := by kernel_rfl) (k3 : lkO base s3 l = .bool b := by kernel_rfl) : EO (bodyPost Tryz.prog fn R) .ret base l w := by
  obtain ⟨t1, r1⟩ := hm.rowK i _ h1
  obtain ⟨t2, r2⟩ := hm.rowK j _ h2
  exact ⟨fun hin => bodyPost_ret (results_told hres ((congrFun (evO_eq hin) (.tmp s1)).trans k1) ((congrFun (evO_eq hin) (.tmp s2)).trans k2) ((congrFun (evO_eq hin) (.tmp s3)).trans k3) r1 r2) rfl hR⟩
theorem results_two {fn : Func} {t1 t3 : Tmp} {u : TypeId} (h : fn.results = #[.cell t1 54, .tmp t3]) {tmps : Array Value} {w : World} {L : Nat} {c : Cy} {b : Bool}
    (h1 : tmps.getD t1 undef = pT L 0) (h3 : tmps.getD t3 undef = .bool b) (hL : Row w L u (cyC c)) : (results fn tmps).run Tryz.prog w = .ok (.tuple #[cyV c, .bool b]) w := by
  have h1' : tmps[t1]?.getD undef = pT L 0 := by simpa using h1
  have h3' : tmps[t3]?.getD undef = .bool b := by simpa using h3
  have e1 := loadVar_row (P := Tryz.prog) hL Tryz.underlying54 rfl infoCy
  simp [results, h, h1', h3', asAddr, e1]
theorem eoT2 {fn : Func} {R : Ending → World → Prop} {s1 s3 : Tmp} (i : Nat) (c : Cy) (b : Bool) (b1 : Nat) (hm : Many w0 L rs w) (hR : R (.returned (.tuple #[cyV c, .bool b])) w)
    (hres : fn.results = #[.cell s1 54, .tmp s3] := by exact rfl)
    (h1 : (rs[i]?).map (fun r => (pT r.b 0, r.cs)) = some (pT b1 0, (cyC c).toList.map some) := by kernel_rfl)
    (k1 : lkO base s1 l = pT b1 0 := by kernel_rfl) (k3 : lkO base s3 l = .bool b := by kernel_rfl) : EO (bodyPost Tryz.prog fn R) .ret base l w := by
  obtain ⟨t1, r1⟩ := hm.rowK i _ h1
  exact ⟨fun hin => bodyPost_ret (results_two hres ((congrFun (evO_eq hin) (.tmp s1)).trans k1) ((congrFun (evO_eq hin) (.tmp s3)).trans k3) r1) rfl hR⟩
end
def getC (l : List (Int × Int)) (a : Int) : Int := l.foldl (fun b c => if c.1 = a then c.2 else b) 0
def insS (x : Int × Int) : List (Int × Int) → List (Int × Int)
  | [] => [x]
  | y :: r => if x.1 < y.1 then x :: y :: r else y :: insS x r
def delS (a : Int) (m : List (Int × Int)) : List (Int × Int) := m.filter fun p => !decide (p.1 = a)
def putS (a b : Int) (m : List (Int × Int)) : List (Int × Int) := insS (a, b) (delS a m)
def stepS (m : List (Int × Int)) (c : Int × Int) : List (Int × Int) := if c.2 = 0 then delS c.1 m else putS c.1 c.2 m
def mkS (l : List (Int × Int)) : List (Int × Int) := l.foldl stepS []
def Srt (m : List (Int × Int)) : Prop := m.Pairwise fun x y => x.1 < y.1
def Cells16 (l : List (Int × Int)) : Prop := ∀ c ∈ l, 0 ≤ c.1 ∧ c.1 ≤ 65535 ∧ 0 ≤ c.2 ∧ c.2 ≤ 255
def NoZero (m : List (Int × Int)) : Prop := ∀ c ∈ m, c.2 ≠ 0
theorem mem_insS {x p : Int × Int} : ∀ {m : List (Int × Int)}, p ∈ insS x m ↔ p = x ∨ p ∈ m
  | [] => by simp [insS]
  | y :: r => by
    unfold insS
    split
    · simp
    · simp only [List.mem_cons, mem_insS (m := r)]
      constructor
      · rintro (h | h | h)
        · exact .inr (.inl h)
        · exact .inl h
        · exact .inr (.inr h)
      · rintro (h | h | h)
        · exact .inr (.inl h)
        · exact .inl h
        · exact .inr (.inr h)
theorem mem_delS {a : Int} {m : List (Int × Int)} {p : Int × Int} : p ∈ delS a m ↔ p ∈ m ∧ p.1 ≠ a := by
  unfold delS
  rw [List.mem_filter]
  simp
theorem mem_putS {a b : Int} {m : List (Int × Int)} {p : Int × Int} : p ∈ putS a b m ↔ p = (a, b) ∨ (p ∈ m ∧ p.1 ≠ a) := by
  unfold putS
  rw [mem_insS, mem_delS]
theorem srt_insS {x : Int × Int} : ∀ {m : List (Int × Int)}, Srt m → (∀ p ∈ m, p.1 ≠ x.1) → Srt (insS x m)
  | [], _, _ => by simp [insS, Srt]
  | y :: r, h, hn => by
    obtain ⟨h1, h2⟩ := List.pairwise_cons.1 h
    unfold insS
    split
    · rename_i hb
      refine List.pairwise_cons.2 ⟨fun q hq => ?_, h⟩
      rcases List.mem_cons.1 hq with rfl | hq
      · exact hb
      · exact Int.lt_trans hb (h1 q hq)
    · rename_i hb
      have hyx : y.1 < x.1 := by have := hn y (by simp); omega
      refine List.pairwise_cons.2 ⟨fun q hq => ?_, srt_insS h2 fun p hp => hn p (by simp [hp])⟩
      rcases mem_insS.1 hq with rfl | hq
      · exact hyx
      · exact h1 q hq
theorem srt_delS {a : Int} {m : List (Int × Int)} (h : Srt m) : Srt (delS a m) := h.filter _
theorem srt_putS {a b : Int} {m : List (Int × Int)} (h : Srt m) : Srt (putS a b m) := srt_insS (srt_delS h) fun p hp => (mem_delS.1 hp).2
theorem srt_stepS {m : List (Int × Int)} (h : Srt m) (c : Int × Int) : Srt (stepS m c) := by
  unfold stepS
  split
  · exact srt_delS h
  · exact srt_putS h
theorem srt_foldl : ∀ (l : List (Int × Int)) {m : List (Int × Int)}, Srt m → Srt (l.foldl stepS m)
  | [], _, h => h
  | c :: r, _, h => srt_foldl r (srt_stepS h c)
theorem srt_mkS (l : List (Int × Int)) : Srt (mkS l) := srt_foldl l List.Pairwise.nil
theorem nz_stepS {m : List (Int × Int)} (h : NoZero m) (c : Int × Int) : NoZero (stepS m c) := by
  unfold stepS
  split
  · exact fun p hp => h p (mem_delS.1 hp).1
  · rename_i hc
    intro p hp
    rcases mem_putS.1 hp with rfl | hp
    · exact hc
    · exact h p hp.1
theorem nz_foldl : ∀ (l : List (Int × Int)) {m : List (Int × Int)}, NoZero m → NoZero (l.foldl stepS m)
  | [], _, h => h
  | c :: r, _, h => nz_foldl r (nz_stepS h c)
theorem nz_mkS (l : List (Int × Int)) : NoZero (mkS l) := nz_foldl l fun _ h => by cases h
theorem c16_step {m : List (Int × Int)} (h : Cells16 m) {c : Int × Int} (hc : 0 ≤ c.1 ∧ c.1 ≤ 65535 ∧ 0 ≤ c.2 ∧ c.2 ≤ 255) : Cells16 (stepS m c) := by
  unfold stepS
  split
  · exact fun p hp => h p (mem_delS.1 hp).1
  · intro p hp
    rcases mem_putS.1 hp with rfl | hp
    · exact hc
    · exact h p hp.1
theorem c16_foldl : ∀ (l : List (Int × Int)) {m : List (Int × Int)}, Cells16 l → Cells16 m → Cells16 (l.foldl stepS m)
  | [], _, _, h => h
  | c :: r, _, hl, h => c16_foldl r (fun p hp => hl p (by simp [hp])) (c16_step h (hl c (by simp)))
theorem c16_mkS {l : List (Int × Int)} (h : Cells16 l) : Cells16 (mkS l) := c16_foldl l h fun _ h => by cases h
theorem len_delS (a : Int) (m : List (Int × Int)) : (delS a m).length ≤ m.length := List.length_filter_le _ _
theorem len_insS (x : Int × Int) : ∀ m : List (Int × Int), (insS x m).length = m.length + 1
  | [] => rfl
  | y :: r => by
    unfold insS
    split
    · rfl
    · simp [len_insS x r]
theorem len_stepS (m : List (Int × Int)) (c : Int × Int) : (stepS m c).length ≤ m.length + 1 := by
  unfold stepS
  split
  · have := len_delS c.1 m; omega
  · unfold putS
    rw [len_insS]
    have := len_delS c.1 m
    omega
theorem len_foldl : ∀ (l m : List (Int × Int)), (l.foldl stepS m).length ≤ m.length + l.length
  | [], m => by simp
  | c :: r, m => by
    have h1 := len_foldl r (stepS m c)
    have h2 := len_stepS m c
    simp only [List.foldl_cons, List.length_cons]
    omega
theorem len_mkS (l : List (Int × Int)) : (mkS l).length ≤ l.length := by have := len_foldl l []; unfold mkS; simpa using this
theorem eq_of_mem : ∀ {l m : List (Int × Int)}, Srt l → Srt m → (∀ p, p ∈ l ↔ p ∈ m) → l = m
  | [], [], _, _, _ => rfl
  | [], b :: s, _, _, h => by have := (h b).2 (by simp); simp at this
  | a :: r, [], _, _, h => by have := (h a).1 (by simp); simp at this
  | a :: r, b :: s, h1, h2, h => by
    obtain ⟨a1, a2⟩ := List.pairwise_cons.1 h1
    obtain ⟨b1, b2⟩ := List.pairwise_cons.1 h2
    have hab : a = b := by
      rcases List.mem_cons.1 ((h a).1 (by simp)) with e | ha
      · exact e
      · rcases List.mem_cons.1 ((h b).2 (by simp)) with e | hb
        · exact e.symm
        · have := a1 b hb; have := b1 a ha; omega
    subst hab
    rw [eq_of_mem a2 b2 fun p => ⟨fun hp => by
      rcases List.mem_cons.1 ((h p).1 (by simp [hp])) with e | hp'
      · have := a1 p hp; rw [e] at this; omega
      · exact hp', fun hp => by
      rcases List.mem_cons.1 ((h p).2 (by simp [hp])) with e | hp'
      · have := b1 p hp; rw [e] at this; omega
      · exact hp'⟩]
theorem srt_one {m : List (Int × Int)} (h : Srt m) : ∀ {p q : Int × Int}, p ∈ m → q ∈ m → p.1 = q.1 → p = q := by
  induction m with
  | nil => intro p q hp; cases hp
  | cons a r ih =>
    obtain ⟨a1, a2⟩ := List.pairwise_cons.1 h
    intro p q hp hq e
    rcases List.mem_cons.1 hp with e1 | hp' <;> rcases List.mem_cons.1 hq with e2 | hq'
    · rw [e1, e2]
    · have := a1 q hq'; rw [e1] at e; omega
    · have := a1 p hp'; rw [e2] at e; omega
    · exact ih a2 hp' hq' e
theorem getC_snoc (l : List (Int × Int)) (c : Int × Int) (a : Int) : getC (l ++ [c]) a = if c.1 = a then c.2 else getC l a := by unfold getC; rw [List.foldl_append]; rfl
theorem mkS_snoc (l : List (Int × Int)) (c : Int × Int) : mkS (l ++ [c]) = stepS (mkS l) c := by unfold mkS; rw [List.foldl_append]; rfl
theorem mem_mkS (l : List (Int × Int)) : ∀ p : Int × Int, p ∈ mkS l ↔ getC l p.1 = p.2 ∧ p.2 ≠ 0 := by
  have key : ∀ (n : Nat) (l : List (Int × Int)), l.length = n → ∀ p : Int × Int, p ∈ mkS l ↔ getC l p.1 = p.2 ∧ p.2 ≠ 0 := by
    intro n
    induction n with
    | zero =>
      intro l hl p
      obtain rfl := List.eq_nil_of_length_eq_zero hl
      constructor
      · intro h; cases h
      · rintro ⟨h1, h2⟩; exact absurd h1.symm h2
    | succ n ih =>
      intro l hl p
      obtain ⟨l', c, rfl⟩ : ∃ l' c, l = l' ++ [c] := ⟨l.dropLast, l.getLast (by intro h; rw [h] at hl; cases hl), (List.dropLast_concat_getLast _).symm⟩
      have ih := ih l' (by simpa using hl)
      rw [mkS_snoc, getC_snoc]
      unfold stepS
      by_cases hc : c.1 = p.1
      · rw [if_pos hc]
        split
        · rename_i h0
          rw [mem_delS]
          constructor
          · rintro ⟨-, h⟩; exact absurd hc.symm h
          · rintro ⟨h1, h2⟩; exact absurd (h1.symm.trans h0) h2
        · rename_i h0
          rw [mem_putS]
          constructor
          · rintro (rfl | ⟨-, h⟩)
            · exact ⟨rfl, h0⟩
            · exact absurd hc.symm h
          · rintro ⟨h1, h2⟩
            exact .inl (Prod.ext hc.symm h1.symm)
      · rw [if_neg hc]
        have hne : p.1 ≠ c.1 := fun e => hc e.symm
        split
        · rw [mem_delS, ih]
          exact ⟨fun h => h.1, fun h => ⟨h, hne⟩⟩
        · rw [mem_putS, ih]
          constructor
          · rintro (rfl | h)
            · exact absurd rfl hc
            · exact h.1
          · exact fun h => .inr ⟨h, hne⟩
  exact key _ l rfl
theorem getC_mem (l : List (Int × Int)) (a : Int) (h : getC l a ≠ 0) : ∃ c ∈ l, c.1 = a := by
  have key : ∀ (n : Nat) (l : List (Int × Int)), l.length = n → getC l a ≠ 0 → ∃ c ∈ l, c.1 = a := by
    intro n
    induction n with
    | zero =>
      intro l hl h
      obtain rfl := List.eq_nil_of_length_eq_zero hl
      exact absurd rfl h
    | succ n ih =>
      intro l hl h
      obtain ⟨l', c, rfl⟩ : ∃ l' c, l = l' ++ [c] := ⟨l.dropLast, l.getLast (by intro h; rw [h] at hl; cases hl), (List.dropLast_concat_getLast _).symm⟩
      rw [getC_snoc] at h
      split at h
      · rename_i e; exact ⟨c, by simp, e⟩
      · obtain ⟨d, hd, e⟩ := ih l' (by simpa using hl) h
        exact ⟨d, by simp [hd], e⟩
  exact key _ l rfl h
theorem getC_srt {m : List (Int × Int)} (h : Srt m) {p : Int × Int} (hp : p ∈ m) : getC m p.1 = p.2 := by
  have key : ∀ (n : Nat) (m : List (Int × Int)), m.length = n → Srt m → p ∈ m → getC m p.1 = p.2 := by
    intro n
    induction n with
    | zero =>
      intro m hm _ hp
      obtain rfl := List.eq_nil_of_length_eq_zero hm
      cases hp
    | succ n ih =>
      intro m hm hs hp
      obtain ⟨l', c, rfl⟩ : ∃ l' c, m = l' ++ [c] := ⟨m.dropLast, m.getLast (by intro h; rw [h] at hm; cases hm), (List.dropLast_concat_getLast _).symm⟩
      rw [getC_snoc]
      have hs' := List.pairwise_append.1 hs
      by_cases hc : c.1 = p.1
      · rw [if_pos hc, srt_one hs (p := c) (q := p) (by simp) hp hc]
      · rw [if_neg hc]
        refine ih l' (by simpa using hm) hs'.1 ?_
        rcases List.mem_append.1 hp with h | h
        · exact h
        · simp at h; exact absurd (congrArg Prod.fst h).symm hc
  exact key _ m rfl h hp
theorem mkS_get {l : List (Int × Int)} {m : List (Int × Int)} (h : Srt m) (hn : NoZero m) (hg : ∀ a, getC m a = getC l a) : mkS l = m :=
  eq_of_mem (srt_mkS l) h fun p => by
    rw [mem_mkS, ← hg]
    constructor
    · rintro ⟨h1, h2⟩
      obtain ⟨c, hc, e⟩ := getC_mem m p.1 (by rw [h1]; exact h2)
      have := getC_srt h hc
      rw [e, h1] at this
      have : c = p := Prod.ext e this.symm
      exact this ▸ hc
    · exact fun hp => ⟨getC_srt h hp, hn p hp⟩
theorem getC_mkS (l : List (Int × Int)) (a : Int) : getC (mkS l) a = getC l a := by
  by_cases h : getC l a = 0
  · rw [h]
    by_cases h2 : getC (mkS l) a = 0
    · exact h2
    · obtain ⟨c, hc, rfl⟩ := getC_mem _ _ h2
      exact absurd ((mem_mkS l c).1 hc).1 (by rw [h]; exact fun e => (nz_mkS l c hc) e.symm)
  · exact getC_srt (srt_mkS l) (p := (a, getC l a)) ((mem_mkS l _).2 ⟨rfl, h⟩)
theorem mkS_congr {l l' : List (Int × Int)} (h : ∀ a, getC l a = getC l' a) : mkS l = mkS l' := mkS_get (srt_mkS l') (nz_mkS l') fun a => by rw [getC_mkS, h]
theorem getC_b8 {l : List (Int × Int)} (h : Cells16 l) (a : Int) : 0 ≤ getC l a ∧ getC l a ≤ 255 := by
  have key : ∀ (l : List (Int × Int)) (b : Int), Cells16 l → 0 ≤ b ∧ b ≤ 255 → 0 ≤ l.foldl (fun b c => if c.1 = a then c.2 else b) b ∧ l.foldl (fun b c => if c.1 = a then c.2 else b) b ≤ 255 := by
    intro l
    induction l with
    | nil => intro b _ hb; exact hb
    | cons c r ih =>
      intro b hl hb
      refine ih _ (fun p hp => hl p (by simp [hp])) ?_
      have := hl c (by simp)
      show 0 ≤ (if c.1 = a then c.2 else b) ∧ (if c.1 = a then c.2 else b) ≤ 255
      by_cases e : c.1 = a
      · rw [if_pos e]; exact ⟨this.2.2.1, this.2.2.2⟩
      · rw [if_neg e]; exact hb
  exact key l 0 h ⟨by omega, by omega⟩
def pickB (l0 : List (Int × Int)) (last best : Int) (c : Int × Int) : Int := if decide (c.1 > last) && decide (c.1 < best) && (getC l0 c.1 != 0) then c.1 else best
def nextB (l0 : List (Int × Int)) (last : Int) (l : List (Int × Int)) : Int := l.foldl (pickB l0 last) 65536
theorem foldB_spec (l0 : List (Int × Int)) (last : Int) : ∀ (l : List (Int × Int)) (b : Int), l.foldl (pickB l0 last) b ≤ b ∧ (l.foldl (pickB l0 last) b = b ∨ ∃ c ∈ l, c.1 = l.foldl (pickB l0 last) b ∧ c.1 > last ∧ getC l0 c.1 ≠ 0) ∧ ∀ c ∈ l, c.1 > last → getC l0 c.1 ≠ 0 → l.foldl (pickB l0 last) b ≤ c.1
  | [], b => ⟨Int.le_refl _, .inl rfl, fun _ h => by cases h⟩
  | c :: r, b => by
    obtain ⟨h1, h2, h3⟩ := foldB_spec l0 last r (pickB l0 last b c)
    simp only [List.foldl_cons]
    generalize hg : r.foldl (pickB l0 last) (pickB l0 last b c) = g at h1 h2 h3 ⊢
    by_cases hc : (decide (c.1 > last) && decide (c.1 < b) && (getC l0 c.1 != 0)) = true
    · have e : pickB l0 last b c = c.1 := if_pos hc
      simp only [Bool.and_eq_true, decide_eq_true_eq, bne_iff_ne] at hc
      rw [e] at h1 h2
      refine ⟨by omega, .inr ?_, fun d hd a1 a2 => ?_⟩
      · rcases h2 with h2 | ⟨d, hd, e1, e2⟩
        · exact ⟨c, by simp, h2.symm, hc.1.1, hc.2⟩
        · exact ⟨d, by simp [hd], e1, e2⟩
      · rcases List.mem_cons.1 hd with rfl | hd
        · exact h1
        · exact h3 d hd a1 a2
    · have e : pickB l0 last b c = b := if_neg hc
      rw [e] at h1 h2
      refine ⟨h1, ?_, fun d hd a1 a2 => ?_⟩
      · rcases h2 with h2 | ⟨d, hd, e1, e2⟩
        · exact .inl h2
        · exact .inr ⟨d, by simp [hd], e1, e2⟩
      · rcases List.mem_cons.1 hd with rfl | hd
        · have : ¬ (d.1 < b) := fun hlt => hc (by simp [a1, a2, hlt])
          omega
        · exact h3 d hd a1 a2
theorem nextB_snoc (l0 : List (Int × Int)) (last : Int) (l : List (Int × Int)) (k : Nat) (h : k < l.length) : nextB l0 last (l.take (k + 1)) = pickB l0 last (nextB l0 last (l.take k)) l[k] := by
  unfold nextB
  rw [← List.take_append_getElem h, List.foldl_append]
  rfl
theorem nextB_nil {l out rest : List (Int × Int)} {last : Int} (h16 : Cells16 l) (hm : mkS l = out ++ rest) (ho : ∀ p ∈ out, p.1 ≤ last) (hr : ∀ p ∈ rest, last < p.1) :
    nextB l last l = (match rest with | [] => 65536 | c :: _ => c.1) := by
  obtain ⟨h1, h2, h3⟩ := foldB_spec l last l 65536
  unfold nextB
  generalize l.foldl (pickB l last) 65536 = b at h1 h2 h3 ⊢
  have inM : ∀ a, getC l a ≠ 0 → (a, getC l a) ∈ out ++ rest := fun a ha => by rw [← hm]; exact (mem_mkS l _).2 ⟨rfl, ha⟩
  have hs : Srt (out ++ rest) := by rw [← hm]; exact srt_mkS l
  cases rest with
  | nil =>
    rcases h2 with h2 | ⟨c, hc, e1, e2, e3⟩
    · exact h2
    · have := inM _ e3
      rw [List.append_nil] at this
      have := ho _ this
      simp at this
      omega
  | cons d r =>
    show b = d.1
    have hd : d ∈ mkS l := by rw [hm]; simp
    obtain ⟨g1, g2⟩ := (mem_mkS l d).1 hd
    have hb : b ≤ d.1 := by
      obtain ⟨c, hc, e⟩ := getC_mem l d.1 (by rw [g1]; exact g2)
      have := h3 c hc (by rw [e]; exact hr d (by simp)) (by rw [e, g1]; exact g2)
      rw [e] at this
      exact this
    have h65 := (c16_mkS h16 d hd).2.1
    rcases h2 with h2 | ⟨c, hc, e1, e2, e3⟩
    · omega
    · have hin := inM _ e3
      rcases List.mem_append.1 hin with hin | hin
      · have := ho _ hin
        simp at this
        omega
      · rcases List.mem_cons.1 hin with e | hin
        · rw [← e1, ← e]
        · have := (List.pairwise_cons.1 (List.pairwise_append.1 hs).2.1).1 _ hin
          simp at this
          omega
def loadL (a : Int) : List Int → List (Int × Int)
  | [] => []
  | b :: r => (a, b) :: loadL ((a + 1) % 65536) r
theorem loadL_append : ∀ (bs cs : List Int) (a : Int), 0 ≤ a ∧ a ≤ 65535 → loadL a (bs ++ cs) = loadL a bs ++ loadL ((a + (bs.length : Int)) % 65536) cs
  | [], cs, a, h => by simp only [List.nil_append, loadL, List.length_nil]; congr 1; omega
  | b :: r, cs, a, h => by
    simp only [List.cons_append, loadL]
    have e : ((a + 1) % 65536 + (r.length : Int)) % 65536 = (a + ((b :: r).length : Int)) % 65536 := by rw [List.length_cons]; omega
    rw [loadL_append r cs _ (by omega), e]
theorem loadL_take (bs : List Int) (a : Int) (h : 0 ≤ a ∧ a ≤ 65535) (k : Nat) (hk : k < bs.length) : loadL a (bs.take (k + 1)) = loadL a (bs.take k) ++ [((a + (k : Int)) % 65536, bs[k])] := by
  rw [← List.take_append_getElem hk, loadL_append _ _ _ h, List.length_take, Nat.min_eq_left (by omega)]
  rfl
theorem loadL_length : ∀ (bs : List Int) (a : Int), (loadL a bs).length = bs.length
  | [], _ => rfl
  | b :: r, a => by simp only [loadL, List.length_cons, loadL_length r]
theorem c16_loadL : ∀ (bs : List Int) (a : Int), (∀ b ∈ bs, 0 ≤ b ∧ b ≤ 255) → 0 ≤ a ∧ a ≤ 65535 → Cells16 (loadL a bs)
  | [], _, _, _ => fun _ h => by cases h
  | b :: r, a, hb, ha => by
    intro c hc
    rcases List.mem_cons.1 hc with rfl | hc
    · have := hb b (by simp)
      exact ⟨ha.1, ha.2, this.1, this.2⟩
    · exact c16_loadL r _ (fun x hx => hb x (by simp [hx])) (by omega) c hc
theorem c16_append {l m : List (Int × Int)} (h : Cells16 l) (k : Cells16 m) : Cells16 (l ++ m) := fun c hc => (List.mem_append.1 hc).elim (h c) (k c)
def dm (m : List (Int × Int)) : DataW Unit := .map (m.map fun c => (Lit.int .u16 c.1, .lit (.int .u8 c.2)))
theorem same16 (a b : Int) : (Lit.int .u16 a).sameKey (.int .u16 b) = decide (a = b) := by simp [Lit.sameKey]
theorem dm_insert (x : Int × Int) : ∀ m : List (Int × Int), DataW.insert (Lit.int .u16 x.1, (DataW.lit (.int .u8 x.2) : DataW Unit)) (m.map fun c => (Lit.int .u16 c.1, .lit (.int .u8 c.2))) = (insS x m).map fun c => (Lit.int .u16 c.1, .lit (.int .u8 c.2))
  | [] => rfl
  | y :: r => by
    unfold insS
    rw [List.map_cons, DataW.insert]
    by_cases h : x.1 < y.1
    · rw [if_pos h]
      exact if_pos (decide_eq_true h)
    · rw [if_neg h, List.map_cons, ← dm_insert x r]
      exact if_neg (fun e => h (of_decide_eq_true e))
theorem dm_filter (a : Int) : ∀ m : List (Int × Int), ((m.map fun c => (Lit.int .u16 c.1, (DataW.lit (.int .u8 c.2) : DataW Unit))).filter fun p => !p.1.sameKey (.int .u16 a)) = (delS a m).map fun c => (Lit.int .u16 c.1, .lit (.int .u8 c.2))
  | [] => rfl
  | y :: r => by
    have ih := dm_filter a r
    unfold delS at ih ⊢
    simp only [List.map_cons, List.filter_cons, same16]
    split
    · rw [List.map_cons, ih]
    · exact ih
theorem dm_put (m : List (Int × Int)) (a b : Int) : (dm m).put (.int .u16 a) (.lit (.int .u8 b)) = dm (putS a b m) := by
  unfold dm putS
  show DataW.map _ = DataW.map _
  rw [dm_filter]
  exact congrArg DataW.map (dm_insert (a, b) (delS a m))
theorem dm_del (m : List (Int × Int)) (a : Int) : (dm m).del (.int .u16 a) = dm (delS a m) := by
  unfold dm
  show DataW.map _ = DataW.map _
  rw [dm_filter]
theorem dm_has (m : List (Int × Int)) (a : Int) : Maps.has (dm m) (.int .u16 a) = m.any fun p => decide (p.1 = a) := by
  unfold dm
  rw [Maps.has_eq, List.any_map]
  congr 1
  funext p
  exact same16 _ _
theorem dm_size (m : List (Int × Int)) : Maps.size (dm m) = m.length := by unfold dm; rw [Maps.size_eq, List.length_map]
theorem dm_mem {m : List (Int × Int)} {x c : Int} (h : ∀ zd, (dm m).atKey (.int .u16 x) zd = .lit (.int .u8 c)) : (x, c) ∈ m := by
  have h1 := h (.lit (.bool true))
  unfold dm DataW.atKey at h1
  simp only at h1
  split at h1
  · rename_i p hp
    obtain ⟨d, hd, e⟩ := List.mem_map.1 (List.mem_of_find?_eq_some hp)
    subst e
    have hk := List.find?_some hp
    simp only [same16, decide_eq_true_eq] at hk
    simp at h1
    have : d = (x, c) := Prod.ext hk h1
    exact this ▸ hd
  · cases h1
structure Sx where
  got : List Int
  m : List (Int × Int)
  p : List Int
  l : List Cy
  n : Int
structure Wd where
  g : Rg
  m : List (Int × Int)
  p : List Int
def ansS (c : Cy) (v : Int) (m : List (Int × Int)) (p : List Int) : Int :=
  if c.kind = 1 ∨ c.kind = 2 then getC m c.addr else if c.kind = 4 then p.headD 255 else if c.kind = 6 then v else 0
def memS (c : Cy) (m : List (Int × Int)) : List (Int × Int) := if c.kind = 3 then m ++ [(c.addr, c.data)] else m
def porS (c : Cy) (p : List Int) : List Int := if c.kind = 4 then p.tail else p
def cycS (c : Cy) (b : Int) : Cy := if c.kind = 3 ∨ c.kind = 5 then c else { c with data := b }
def lisS (c : Cy) (b : Int) (l : List Cy) : List Cy := if c.kind = 7 then l else l ++ [cycS c b]
def nextS (c : Cy) (v : Int) (x : Sx) : Sx := ⟨x.got ++ [ansS c v x.m x.p], memS c x.m, porS c x.p, lisS c (ansS c v x.m x.p) x.l, x.n + c.t⟩
def goS (g : Rg) (which v : Int) : Nat → Sx → Sx
  | 0, x => x
  | k + 1, x => if (accOf g which x.got).b = true then x else goS g which v k (nextS (accOf g which x.got).c v x)
def begS (w : Wd) : Sx := ⟨[], w.m, w.p, [], 0⟩
def stepX (w : Wd) (which v : Int) : Sx := goS w.g which v 200 (begS w)
def endP (g : Rg) (which : Int) (x : Sx) : Rg := if (accOf g which x.got).b = true then (accOf g which x.got).g else g
def pstepW (w : Wd) (which v : Int) : Wd := ⟨endP w.g which (stepX w which v), (stepX w which v).m, (stepX w which v).p⟩
def runW : Nat → Wd → Wd × Int
  | 0, w => (w, 0)
  | k + 1, w => ((runW k (pstepW w 0 0)).1, (stepX w 0 0).n + (runW k (pstepW w 0 0)).2)
def stopsW (pc : Int) (w : Wd) : Bool := decide (w.g.pc = pc) || w.g.halted
def untW (pc : Int) : Nat → Wd → Wd × Nat
  | 0, w => (w, 0)
  | k + 1, w => if stopsW pc w = true then (w, 0) else ((untW pc k (pstepW w 0 0)).1, (untW pc k (pstepW w 0 0)).2 + 1)
def sentL (l : List Cy) : List (Int × Int) := (l.filter fun c => decide (c.kind = 5)).map fun c => (c.addr, c.data)
theorem sent_snoc (l : List Cy) (c : Cy) : sentL (l ++ [c]) = if c.kind = 5 then sentL l ++ [(c.addr, c.data)] else sentL l := by
  unfold sentL
  rw [List.filter_append, List.map_append]
  by_cases h : c.kind = 5 <;> simp [h]
def SameM (m m' : List (Int × Int)) : Prop := ∀ a, getC m a = getC m' a
theorem SameM.refl (m : List (Int × Int)) : SameM m m := fun _ => rfl
theorem SameM.symm {m m' : List (Int × Int)} (h : SameM m m') : SameM m' m := fun a => (h a).symm
theorem SameM.trans {a b c : List (Int × Int)} (h : SameM a b) (k : SameM b c) : SameM a c := fun x => (h x).trans (k x)
theorem sameM_mkS (m : List (Int × Int)) : SameM (mkS m) m := fun a => getC_mkS m a
theorem SameM.snoc {m m' : List (Int × Int)} (h : SameM m m') (c : Int × Int) : SameM (m ++ [c]) (m' ++ [c]) := fun a => by rw [getC_snoc, getC_snoc, h a]
theorem SameM.mk {m m' : List (Int × Int)} (h : SameM m m') : mkS m = mkS m' := mkS_congr h
structure SimS (x y : Sx) : Prop where
  got : x.got = y.got
  m : SameM x.m y.m
  p : x.p = y.p
  l : x.l = y.l
  n : x.n = y.n
theorem ansS_sim {m m' : List (Int × Int)} (h : SameM m m') (c : Cy) (v : Int) (p : List Int) : ansS c v m p = ansS c v m' p := by unfold ansS; rw [h]
theorem nextS_sim {x y : Sx} (h : SimS x y) (c : Cy) (v : Int) : SimS (nextS c v x) (nextS c v y) := by
  obtain ⟨h1, h2, h3, h4, h5⟩ := h
  have e : ansS c v x.m x.p = ansS c v y.m y.p := by rw [h3]; exact ansS_sim h2 c v _
  refine ⟨by simp only [nextS, e, h1], ?_, by simp only [nextS, h3], by simp only [nextS, e, h4], by simp only [nextS, h5]⟩
  simp only [nextS, memS]
  split
  · exact h2.snoc _
  · exact h2
theorem goS_sim (g : Rg) (which v : Int) : ∀ (k : Nat) {x y : Sx}, SimS x y → SimS (goS g which v k x) (goS g which v k y)
  | 0, x, y, h => h
  | k + 1, x, y, h => by
    unfold goS
    rw [h.got]
    split
    · exact h
    · exact goS_sim g which v k (nextS_sim h _ v)
structure SimW (w u : Wd) : Prop where
  g : w.g = u.g
  m : SameM w.m u.m
  p : w.p = u.p
theorem SimW.refl (w : Wd) : SimW w w := ⟨rfl, .refl _, rfl⟩
theorem stepX_sim {w u : Wd} (h : SimW w u) (which v : Int) : SimS (stepX w which v) (stepX u which v) := by
  unfold stepX
  rw [h.g]
  exact goS_sim _ _ _ _ ⟨rfl, h.m, h.p, rfl, rfl⟩
theorem stepW_sim {w u : Wd} (h : SimW w u) (which v : Int) : SimW (pstepW w which v) (pstepW u which v) := by
  have k := stepX_sim h which v
  exact ⟨by simp only [pstepW, endP, h.g, k.got], k.m, k.p⟩
theorem runW_sim : ∀ (k : Nat) {w u : Wd}, SimW w u → SimW (runW k w).1 (runW k u).1 ∧ (runW k w).2 = (runW k u).2
  | 0, w, u, h => ⟨h, rfl⟩
  | k + 1, w, u, h => by
    have ih := runW_sim k (stepW_sim h 0 0)
    exact ⟨ih.1, by simp only [runW, ih.2, (stepX_sim h 0 0).n]⟩
theorem runW_add : ∀ (j k : Nat) (w : Wd), (runW (j + k) w).1 = (runW k (runW j w).1).1 ∧ (runW (j + k) w).2 = (runW j w).2 + (runW k (runW j w).1).2
  | 0, k, w => by rw [Nat.zero_add]; exact ⟨rfl, by simp [runW]⟩
  | j + 1, k, w => by
    rw [show j + 1 + k = (j + k) + 1 by omega]
    have ih := runW_add j k (pstepW w 0 0)
    exact ⟨ih.1, by simp only [runW, ih.2]; omega⟩
def itS (g : Rg) (which v : Int) : Nat → Sx → Sx
  | 0, x => x
  | j + 1, x => nextS (accOf g which (itS g which v j x).got).c v (itS g which v j x)
theorem itS_front (g : Rg) (which v : Int) : ∀ (j : Nat) (x : Sx), itS g which v (j + 1) x = itS g which v j (nextS (accOf g which x.got).c v x)
  | 0, x => rfl
  | j + 1, x => by
    have ih := itS_front g which v j x
    rw [itS, ih, itS]
theorem goS_it (g : Rg) (which v : Int) : ∀ (k : Nat) (x : Sx), ∃ N, N ≤ k ∧ goS g which v k x = itS g which v N x ∧ (∀ j, j < N → (accOf g which (itS g which v j x).got).b = false) ∧ (N < k → (accOf g which (itS g which v N x).got).b = true)
  | 0, x => ⟨0, Nat.le_refl _, rfl, fun j h => by omega, fun h => by omega⟩
  | k + 1, x => by
    by_cases hb : (accOf g which x.got).b = true
    · exact ⟨0, by omega, by rw [goS, if_pos hb]; rfl, fun j h => by omega, fun _ => hb⟩
    · obtain ⟨N, h1, h2, h3, h4⟩ := goS_it g which v k (nextS (accOf g which x.got).c v x)
      refine ⟨N + 1, by omega, by rw [goS, if_neg hb, h2, itS_front], fun j hj => ?_, fun h => ?_⟩
      · cases j with
        | zero => show (accOf g which x.got).b = false; simpa using hb
        | succ j => rw [itS_front]; exact h3 j (by omega)
      · rw [itS_front]; exact h4 (by omega)
theorem stepX_it (w : Wd) (which v : Int) : ∃ N, N ≤ 200 ∧ stepX w which v = itS w.g which v N (begS w) ∧ (∀ j, j < N → (accOf w.g which (itS w.g which v j (begS w)).got).b = false) ∧ (N < 200 → (accOf w.g which (itS w.g which v N (begS w)).got).b = true) := goS_it _ _ _ _ _
theorem itS_n (g : Rg) (which v : Int) (x : Sx) : ∀ (N : Nat), (∀ j, j < N → (accOf g which (itS g which v j x).got).b = false) → x.n + N ≤ (itS g which v N x).n ∧ (itS g which v N x).n ≤ x.n + 7 * N
  | 0, _ => by simp [itS]
  | N + 1, h => by
    have ih := itS_n g which v x N fun j hj => h j (by omega)
    have ht := acc_t g which _ (h N (by omega))
    simp only [itS, nextS]
    omega
theorem stepX_n (w : Wd) (which v : Int) : 0 ≤ (stepX w which v).n ∧ (stepX w which v).n ≤ 1400 := by
  obtain ⟨N, h1, h2, h3, -⟩ := stepX_it w which v
  have := itS_n w.g which v (begS w) N h3
  rw [h2]
  have e : (begS w).n = 0 := rfl
  omega
theorem acc0_nil (g : Rg) : accOf g 0 [] = askT ⟨1, g.pc, 0, 4⟩ := by
  show ofX (nextOf g []) = _
  rw [next_nil]
  rfl
theorem stepX_four (w : Wd) : 4 ≤ (stepX w 0 0).n := by
  obtain ⟨N, h1, h2, h3, h4⟩ := stepX_it w 0 0
  cases N with
  | zero =>
    have := h4 (by omega)
    rw [show (itS w.g 0 0 0 (begS w)).got = [] from rfl, acc0_nil] at this
    cases this
  | succ N =>
    rw [h2, itS_front]
    have hN : ∀ j, j < N → (accOf w.g 0 (itS w.g 0 0 j (nextS (accOf w.g 0 (begS w).got).c 0 (begS w))).got).b = false := fun j hj => by
      have := h3 (j + 1) (by omega)
      rwa [itS_front] at this
    have := (itS_n w.g 0 0 _ N hN).1
    have e : (nextS (accOf w.g 0 (begS w).got).c 0 (begS w)).n = 4 := by
      rw [show (begS w).got = [] from rfl, acc0_nil]
      rfl
    rw [e] at this
    omega
theorem runW_n : ∀ (k : Nat) (w : Wd), 4 * (k : Int) ≤ (runW k w).2 ∧ (runW k w).2 ≤ 1400 * (k : Int)
  | 0, w => by simp [runW]
  | k + 1, w => by
    have ih := runW_n k (pstepW w 0 0)
    have h4 := stepX_four w
    have h5 := (stepX_n w 0 0).2
    simp only [runW]
    omega
theorem memS_len (c : Cy) (m : List (Int × Int)) : (memS c m).length ≤ m.length + 1 := by
  unfold memS
  split
  · simp
  · omega
theorem itS_mlen (g : Rg) (which v : Int) (x : Sx) (j : Nat) : ∀ k, (itS g which v (j + k) x).m.length ≤ (itS g which v j x).m.length + k
  | 0 => Nat.le_refl _
  | k + 1 => by
    have ih := itS_mlen g which v x j k
    have := memS_len (accOf g which (itS g which v (j + k) x).got).c (itS g which v (j + k) x).m
    show (memS (accOf g which (itS g which v (j + k) x).got).c (itS g which v (j + k) x).m).length ≤ _
    omega
theorem stepX_mlen (w : Wd) (which v : Int) : (stepX w which v).m.length ≤ w.m.length + 200 := by
  obtain ⟨N, h1, h2, -, -⟩ := stepX_it w which v
  rw [h2]
  have := itS_mlen w.g which v (begS w) 0 N
  rw [Nat.zero_add] at this
  simp only [itS, begS] at this ⊢
  omega
theorem porS_len (c : Cy) (p : List Int) : (porS c p).length ≤ p.length := by
  unfold porS
  split
  · simp
  · omega
theorem goS_plen (g : Rg) (which v : Int) : ∀ (k : Nat) (x : Sx), (goS g which v k x).p.length ≤ x.p.length
  | 0, x => Nat.le_refl _
  | k + 1, x => by
    unfold goS
    split
    · exact Nat.le_refl _
    · exact Nat.le_trans (goS_plen g which v k _) (porS_len _ _)
theorem stepX_plen (w : Wd) (which v : Int) : (stepX w which v).p.length ≤ w.p.length := goS_plen _ _ _ _ _
def AccOk : Prop := ∀ (g : Rg) (which : Int) (xs : List Int), RgB g → Bytes8 xs → ((accOf g which xs).b = true → RgB (accOf g which xs).g) ∧ ((accOf g which xs).b = false → Wd16 (accOf g which xs).c.addr ∧ B8 (accOf g which xs).c.data)
structure OkS (x : Sx) : Prop where
  got : Bytes8 x.got
  m : Cells16 x.m
  p : Bytes8 x.p
structure OkW (w : Wd) : Prop where
  g : RgB w.g
  m : Cells16 w.m
  p : Bytes8 w.p
theorem OkW.beg {w : Wd} (h : OkW w) : OkS (begS w) := ⟨fun x hx => (by cases hx), h.m, h.p⟩
theorem headD_b8 {p : List Int} (h : Bytes8 p) : B8 (p.headD 255) := by
  cases p with
  | nil => exact ⟨by decide, by decide⟩
  | cons b r => exact h.head
theorem ansS_b8 {x : Sx} (h : OkS x) (c : Cy) {v : Int} (hv : B8 v) : B8 (ansS c v x.m x.p) := by
  unfold ansS
  split
  · exact getC_b8 h.m _
  split
  · exact headD_b8 h.p
  split
  · exact hv
  · exact B8.zero
theorem Bytes8.snoc {xs : List Int} (h : Bytes8 xs) {b : Int} (hb : B8 b) : Bytes8 (xs ++ [b]) := fun x hx => by
  rcases List.mem_append.1 hx with e | e
  · exact h x e
  · rw [List.mem_singleton.1 e]; exact hb
theorem Bytes8.tl {p : List Int} (h : Bytes8 p) : Bytes8 p.tail := fun x hx => h x (List.mem_of_mem_tail hx)
theorem OkS.next {x : Sx} (h : OkS x) {c : Cy} (hc : Wd16 c.addr ∧ B8 c.data) {v : Int} (hv : B8 v) : OkS (nextS c v x) := by
  refine ⟨h.got.snoc (ansS_b8 h c hv), ?_, ?_⟩
  · show Cells16 (memS c x.m)
    unfold memS
    split
    · exact c16_append h.m fun d hd => by
        rw [List.mem_singleton.1 hd]
        exact ⟨hc.1.1, hc.1.2, hc.2.1, hc.2.2⟩
    · exact h.m
  · show Bytes8 (porS c x.p)
    unfold porS
    split
    · exact h.p.tl
    · exact h.p
theorem OkS.go (hA : AccOk) {g : Rg} (hg : RgB g) (which : Int) {v : Int} (hv : B8 v) : ∀ (k : Nat) {x : Sx}, OkS x → OkS (goS g which v k x)
  | 0, x, h => h
  | k + 1, x, h => by
    unfold goS
    split
    · exact h
    · rename_i hb
      exact OkS.go hA hg which hv k (h.next ((hA g which x.got hg h.got).2 (by simpa using hb)) hv)
theorem OkW.x (hA : AccOk) {w : Wd} (h : OkW w) (which : Int) {v : Int} (hv : B8 v) : OkS (stepX w which v) := h.beg.go hA h.g which hv 200
theorem OkW.pstepW (hA : AccOk) {w : Wd} (h : OkW w) (which : Int) {v : Int} (hv : B8 v) : OkW (pstepW w which v) := by
  have k := h.x hA which hv
  refine ⟨?_, k.m, k.p⟩
  show RgB (endP w.g which _)
  unfold endP
  split
  · rename_i hb
    exact (hA _ _ _ h.g k.got).1 hb
  · exact h.g
theorem OkW.run (hA : AccOk) : ∀ (k : Nat) {w : Wd}, OkW w → OkW (runW k w).1
  | 0, w, h => h
  | k + 1, w, h => OkW.run hA k (h.pstepW hA 0 B8.zero)
def wrS (l : List Cy) (m : List (Int × Int)) : List (Int × Int) := l.foldl (fun m c => memS c m) m
def inS (l : List Cy) : Nat := (l.filter fun c => decide (c.kind = 4)).length
theorem wr_snoc (l : List Cy) (c : Cy) (m : List (Int × Int)) : wrS (l ++ [c]) m = memS c (wrS l m) := by unfold wrS; rw [List.foldl_append]; rfl
theorem in_snoc (l : List Cy) (c : Cy) : inS (l ++ [c]) = if c.kind = 4 then inS l + 1 else inS l := by
  unfold inS
  rw [List.filter_append, List.length_append]
  by_cases h : c.kind = 4 <;> simp [h]
theorem wr_take (l : List Cy) (k : Nat) (h : k < l.length) (m : List (Int × Int)) : wrS (l.take (k + 1)) m = memS l[k] (wrS (l.take k) m) := by rw [← List.take_append_getElem h, wr_snoc]
theorem in_take (l : List Cy) (k : Nat) (h : k < l.length) : inS (l.take (k + 1)) = if l[k].kind = 4 then inS (l.take k) + 1 else inS (l.take k) := by rw [← List.take_append_getElem h, in_snoc]
theorem in_le (l : List Cy) : inS l ≤ l.length := List.length_filter_le _ _
structure TellS (v : Int) (m0 : List (Int × Int)) (p0 : List Int) (x : Sx) : Prop where
  m : x.m = wrS x.l m0
  p : x.p = p0.drop (inS x.l)
  at_ : ∀ (k : Nat) (h : k < x.l.length), x.l[k].kind ≠ 7 ∧ (x.l[k].kind = 1 ∨ x.l[k].kind = 2 → x.l[k].data = getC (wrS (x.l.take k) m0) x.l[k].addr) ∧ (x.l[k].kind = 6 → x.l[k].data = v)
theorem cyc_kind (c : Cy) (b : Int) : (cycS c b).kind = c.kind := by unfold cycS; split <;> rfl
theorem cyc_addr (c : Cy) (b : Int) : (cycS c b).addr = c.addr := by unfold cycS; split <;> rfl
theorem cyc_mem (c : Cy) (b : Int) (m : List (Int × Int)) : memS (cycS c b) m = memS c m := by
  unfold memS
  rw [cyc_kind, cyc_addr]
  by_cases h : c.kind = 3
  · rw [if_pos h, if_pos h]
    unfold cycS
    rw [if_pos (.inl h)]
  · rw [if_neg h, if_neg h]
theorem TellS.next {v : Int} {m0 : List (Int × Int)} {p0 : List Int} {x : Sx} (h : TellS v m0 p0 x) (c : Cy) : TellS v m0 p0 (nextS c v x) := by
  obtain ⟨h1, h2, h3⟩ := h
  by_cases h7 : c.kind = 7
  · have e : (nextS c v x).l = x.l := by show lisS c _ x.l = x.l; unfold lisS; rw [if_pos h7]
    have em : (nextS c v x).m = x.m := by show memS c x.m = x.m; unfold memS; rw [if_neg (by omega)]
    have ep : (nextS c v x).p = x.p := by show porS c x.p = x.p; unfold porS; rw [if_neg (by omega)]
    exact ⟨by rw [em, e]; exact h1, by rw [ep, e]; exact h2, by rw [e]; exact h3⟩
  · have e : (nextS c v x).l = x.l ++ [cycS c (ansS c v x.m x.p)] := by show lisS c _ x.l = _; unfold lisS; rw [if_neg h7]
    refine ⟨?_, ?_, ?_⟩
    · rw [e, wr_snoc, cyc_mem, ← h1]; rfl
    · rw [e, in_snoc, cyc_kind]
      show porS c x.p = _
      unfold porS
      split
      · rw [h2, List.tail_drop]
      · exact h2
    · rw [e]
      intro k hk
      rw [List.length_append, List.length_singleton] at hk
      by_cases hl : k < x.l.length
      · rw [List.getElem_append_left hl, List.take_append_of_le_length (by omega)]
        exact h3 k hl
      · obtain rfl : k = x.l.length := by omega
        rw [List.getElem_append_right (Nat.le_refl _), List.take_left]
        simp only [Nat.sub_self, List.getElem_cons_zero]
        rw [cyc_kind, cyc_addr, ← h1]
        refine ⟨h7, fun hk => ?_, fun hk => ?_⟩
        · unfold cycS
          rw [if_neg (by omega)]
          show ansS c v x.m x.p = _
          unfold ansS
          rw [if_pos hk]
        · unfold cycS
          rw [if_neg (by omega)]
          show ansS c v x.m x.p = _
          unfold ansS
          rw [if_neg (by omega), if_neg (by omega), if_pos hk]
theorem TellS.go {v : Int} {m0 : List (Int × Int)} {p0 : List Int} (g : Rg) (which : Int) : ∀ (k : Nat) {x : Sx}, TellS v m0 p0 x → TellS v m0 p0 (goS g which v k x)
  | 0, x, h => h
  | k + 1, x, h => by
    unfold goS
    split
    · exact h
    · exact TellS.go g which k (h.next _)
theorem step_tells (w : Wd) (which v : Int) : TellS v w.m w.p (stepX w which v) := TellS.go w.g which 200 (x := begS w) ⟨rfl, rfl, fun k h => by cases h⟩
theorem step_list (w : Wd) (which v : Int) : (stepX w which v).l.length ≤ 200 := by
  have key : ∀ (k : Nat) (x : Sx), (goS w.g which v k x).l.length ≤ x.l.length + k := by
    intro k
    induction k with
    | zero => intro x; exact Nat.le_refl _
    | succ k ih =>
      intro x
      unfold goS
      split
      · omega
      · have := ih (nextS (accOf w.g which x.got).c v x)
        have e : (nextS (accOf w.g which x.got).c v x).l.length ≤ x.l.length + 1 := by
          show (lisS _ _ x.l).length ≤ _
          unfold lisS
          split
          · omega
          · simp
        omega
  have := key 200 (begS w)
  rw [show (begS w).l.length + 200 = 200 from rfl] at this
  exact this
end Go.Proofs.YtkgaeamdhhceiaaGreatDoor
