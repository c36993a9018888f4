/- Layer 8 (decode): All: contract. -/
import Derived.Test.YtlmeekaemhghgaaDoorDecodeEach
import Derived.BigQuiet
import Derived.Deep.QuietTactic
namespace Go.Proofs.YtlmeekaemhghgaaDoor
open Go.RowKit Go.Shelf
set_option linter.unusedVariables false
set_option linter.unusedSimpArgs false
attribute [local go_sem] Oper.semAt_some

/-- the cells of instructions in a row -/
def opCs (o : OpM) : List Value := [.int .i64 o.plane, .int .u8 o.code, .int .u8 o.disp, .int .u16 o.imm, .int .i64 o.len, .int .i64 o.skip]
def rowCs (l : List OpM) : List Value := l.flatMap opCs
theorem rowCs_snoc (l : List OpM) (o : OpM) : rowCs (l ++ [o]) = rowCs l ++ opCs o := by simp [rowCs]
/-- what is left behind instructions -/
def leftF (n : Int) (l : List OpM) : Int := l.foldl (fun a o => wrap64 (a - o.len)) n
theorem leftF_snoc (n : Int) (l : List OpM) (o : OpM) : leftF n (l ++ [o]) = wrap64 (leftF n l - o.len) := by simp [leftF]
theorem leftF_ops (xs : List Int) (hl : xs.length ≤ 140737488355328) (k : Nat) (h : Runs xs k) : leftF (xs.length : Int) (opsL xs k) = (xs.length : Int) - (posM xs k : Int) := by
  induction k with
  | zero => show (xs.length : Int) = (xs.length : Int) - 0; omega
  | succ k ih =>
    have h0 : Runs xs k := fun j hj => h j (by omega)
    have hp := h.pos
    have hp0 := h0.pos
    have e := lenOf_eq (xs.drop (posM xs k))
    have e2 : (opK xs k).len = (lenOf (xs.drop (posM xs k)) : Int) := e
    have e3 : posM xs (k + 1) = posM xs k + lenOf (xs.drop (posM xs k)) := rfl
    rw [opsL_succ, leftF_snoc, ih h0, e2, e3]
    rw [e3] at hp
    unfold wrap64
    omega
theorem boxed_own {β : Type} (F : Nat) (t : TypeId) (f : β → Value) : Own (fun s W => Boxed W F t (f s)) := by
  intro s X Y row hv hg hrow
  refine hv.kept hg (fun e' => ?_)
  obtain ⟨o, ho, hc⟩ := hrow F e'.symm
  rw [show X.heap[F]? = _ from hv] at ho
  cases ho
  cases hc
theorem cells_list_new (w : World) (cs : List Value) (t : TypeId) : ∀ j u, cs[j]? = some u → (w.alloc (.cells cs.toArray t)).cell? ((⟨w.heap.size, 0, none⟩ : Addr).add j) = some u := by
  intro j u hj
  have h := (Row.new w t cs.toArray).cell j
  have e : (⟨w.heap.size, 0, none⟩ : Addr).add j = ⟨w.heap.size, j, none⟩ := by
    unfold Addr.add
    split
    · rename_i h0; rw [h0]
    · simp
  rw [e, h]
  simpa using hj
theorem op_info : (Tryd.prog.info? 24).map (fun i => (i.zero, i.size, i.bytes)) = some (some (.agg #[.int .i64 0, .int .u8 0, .int .u8 0, .int .u16 0, .int .i64 0, .int .i64 0]), 6, 32) := by kernel_rfl
/-- the loop's invariant: the box of the row, the box of what is left -/
def InAll (w : World) (n : Int) (pre : List OpM) (W : World) : Prop :=
  ((∃ v, Boxed W w.heap.size 36 v ∧ W.ownsRow w.heap.size 24 6 v pre.length (rowCs pre) ∧ True) ∧ Boxed W (w.heap.size + 1) 3 (.int .i64 (leftF n pre))) ∧ Below w.heap.size w W
/-- the loop's variable lies in a box of its own -/
def VarAll (w : World) (fr : Nat → Value → Act) (x : OpM) (a : Act) (W : World) : Prop :=
  ∃ O v, a = fr O (opVM x) ∧ Row W O 24 (opCs x).toArray ∧ Boxed W w.heap.size 36 v ∧ v.ownBlock ≠ some O ∧ w.heap.size + 1 < O
theorem row_own {X Y : World} {row : Option Nat} {g : Nat} {t : TypeId} {cs : Array Value} (h : Row X g t cs) (hg : X.grownBy Y row) (hrow : ∀ r, row = some r → ∃ o : Obj, X.heap[r]? = some o ∧ o.isCells = false) : Row Y g t cs := by
  refine (hg.block g h.lt (fun e' => ?_)).trans h
  obtain ⟨o, ho, hc⟩ := hrow g e'.symm
  rw [show X.heap[g]? = _ from h] at ho
  cases ho
  cases hc
theorem varAll_own (w : World) (fr : Nat → Value → Act) (x : OpM) (a : Act) (B : Nat) : OwnFrom B (fun (_ : Unit) W => VarAll w fr x a W) := by
  rintro _ X Y row ⟨O, v, ha, hr, hb, hn, hO⟩ hg hrow
  exact ⟨O, v, ha, row_own hr hg (fun r e => (hrow r e).2), row_own (g := w.heap.size) (cs := #[v]) hb hg (fun r e => (hrow r e).2), hn, hO⟩
theorem inAll_own (w : World) (n : Int) (B : Nat) (hB : w.heap.size ≤ B) : OwnFrom B (InAll w n) := by
  refine OwnFrom.and (OwnFrom.and (Own.from (holdsRow_own w.heap.size w.heap.size _ _ 6 (fun s : List OpM => s.length) rowCs (fun _ _ => True)) _) (Own.from (boxed_own (w.heap.size + 1) _ (fun s : List OpM => .int .i64 (leftF n s))) _)) (ownFrom_below (Nat.le_refl _) hB)
set_option maxRecDepth 100000 in
set_option maxHeartbeats 4000000 in
theorem all_in (ad : Option Addr) (cap : Nat) (xs : List Int) (hl : xs.length ≤ 4096) (hc : xs.length ≤ cap) (hx : Bytes8 xs) (w : World) (h : BytesIn w w.heap.size ad xs) :
    CallsIn Fence.wide 4 Tryd.prog 28 #[.slice ad xs.length cap] w fun e W' => ∃ k v, Stops xs k ∧ e = .returned (.tuple #[v, .int .i64 ((xs.length : Int) - (posM xs k : Int))]) ∧ W'.ownsRow w.heap.size 24 6 v k (rowCs (opsL xs k)) ∧ Below w.heap.size w W' := by
  refine callsIn_of_wp_marks Tryd.func28 rfl trivial ?_ rfl
  simp only [Tryd.ntmps28, List.size_toArray, List.length_cons, List.length_nil, Nat.reduceAdd, Nat.reduceSub, Array.replicate_succ, Array.replicate_zero, List.push_toArray, List.append_toArray, List.nil_append, List.cons_append]
  gi_wp2_with (refine ⟨trivial, ?_⟩; gi_at_call 35; refine (eachd_make _ _ _ _ _).mono ?_; rintro e w' ⟨rfl, rfl⟩)
  have b1 := Boxed.new w 36 (.slice none 0 0)
  have b2 := Boxed.new (w.alloc (.cells #[.slice none 0 0] 36)) 3 (.int .i64 (xs.length : Int))
  have b3 := Boxed.new ((w.alloc (.cells #[.slice none 0 0] 36)).alloc (.cells #[.int .i64 (xs.length : Int)] 3)) 29 (.slice ad xs.length cap)
  simp only [World.size_alloc] at b2 b3
  have hB0 : Below w.heap.size w (((w.alloc (.cells #[.slice none 0 0] 36)).alloc (.cells #[.int .i64 (xs.length : Int)] 3)).alloc (.cells #[.slice ad xs.length cap] 29)) := (by repeat (first | exact Below.refl _ _ | assumption | refine bstep ?_ (by assumption) | refine Below.drew ?_ | refine Below.alloc ?_ (by first | (simp; done) | (simp; omega) | omega) _ | refine Below.setCell ?_ (by first | (simp; done) | (simp; omega) | omega) _))
  have hnil : ∀ b, ¬ RowOf (((w.alloc (.cells #[.slice none 0 0] 36)).alloc (.cells #[.int .i64 (xs.length : Int)] 3)).alloc (.cells #[.slice ad xs.length cap] 29)) w.heap.size b := by
    rintro b ⟨v, hv, ho⟩
    rw [((b1.alloc _).alloc _).cell] at hv
    cases hv
    cases ho
  refine wpIn_rangeFunc_ownH (F := Fence.wide) rfl (by decide) (gf := 41) (lb := #[.pointer (some ⟨w.heap.size + 1 + 1, 0, none⟩)]) rfl trivial (enters_of Tryd.func41 (by kernel_rfl) rfl)
    (eachd_stops 3 (by omega) (w.heap.size + 1 + 1) w.heap.size (w.heap.size + 1) w.heap.size ad cap xs (by omega) hc hx _ b3 (h.below hB0) (Nat.le_refl _) (by omega) (by simp only [World.size_alloc]; omega) (by simp only [World.size_alloc]; omega) (by simp only [World.size_alloc]; omega) hnil)
    (fun h k => h.trans k) (fun W l o o' hl => KeepsRest.putObj (by simp only [World.size_alloc]; omega) W l o o' hl) (Below.refl _ _) (fun _ => rfl)
    (InAll w (xs.length : Int)) (fun _ _ _ => False) (inAll_own w _ _ (by simp; omega)) (fun _ _ _ _ _ hs _ _ => hs)
    ⟨⟨⟨_, (b1.alloc _).alloc _, World.ownsRow_nil _ _ _ _, trivial⟩, b2.alloc _⟩, hB0⟩
    (VarAll w (fun O xv => { tmps := #[.slice ad xs.length cap, undef, .slice none 0 0, .int .i64 0, .pointer (some ⟨w.heap.size, 0, none⟩), .pointer (some ⟨w.heap.size + 1, 0, none⟩), .pointer (some ⟨O, 0, none⟩), .slice ad xs.length cap, .int .i64 (xs.length : Int), .slice ad xs.length cap, .func (.func 41) #[] #[.pointer (some ⟨w.heap.size + 1 + 1, 0, none⟩)], xv, undef, undef, undef, undef, undef, undef, undef, undef, undef, undef], defers := [] }))
    (fun x a' => varAll_own w _ x a' _) ?assign ?body ?done ?stop
  case assign =>
    rintro l pre ⟨pl, co, di, im, le, sk⟩ W K hI hK
    have hI2 := hI
    obtain ⟨⟨⟨v, hv, hown, -⟩, hF⟩, hBel⟩ := hI2
    have hlt := hF.lt
    gi_wp2
    refine hK _ _ ((KeepsOthers.alloc W _).from _) (KeepsRest.of_below ((Below.refl _ W).alloc (Nat.le_refl _) _) hv.lt) (OwnFrom.alloc (inAll_own w _ w.heap.size (Nat.le_refl _)) _ hI) ⟨W.heap.size, v, rfl, Row.new W _ _, hv.alloc _, fun e => ?_, hlt⟩
    have := hown.lt _ e
    omega
  case body =>
    rintro l pre ⟨pl, co, di, im, le, sk⟩ a' W hl ⟨r, hr⟩ ⟨⟨⟨v', hv', hown, -⟩, hF⟩, hBel⟩ ⟨O, v, rfl, hrow, hbx, hn, hO⟩ hN
    obtain rfl : v' = v := by
      have h1 := hv'.cell
      rw [hbx.cell] at h1
      injection h1 with h1
      exact h1.symm
    have hrow' : Row W O 24 #[.int .i64 pl, .int .u8 co, .int .u8 di, .int .u16 im, .int .i64 le, .int .i64 sk] := hrow
    obtain ⟨⟨c0, c1, c2, c3, c4, c5⟩, f⟩ := row6 hrow'
    have l1 := hbx.cell
    have l2 := hbx.frozen
    have f1 := hF.cell
    have f2 := hF.frozen
    obtain ⟨i0, hi0, hz0, hz1, hz2⟩ := info_parts op_info
    have hlen : pre.length ≤ 4096 := by omega
    have hbs := hBel.size
    have hownA := hown.alloc (.cells #[.int .i64 pl, .int .u8 co, .int .u8 di, .int .u16 im, .int .i64 le, .int .i64 sk] 24)
    have hnews := cells_list_new W [.int .i64 pl, .int .u8 co, .int .u8 di, .int .u16 im, .int .i64 le, .int .i64 sk] 24
    gi_wp2_with (gi_at_builtin
                 go_loud (refine wpListIn_append_own_at _ rfl (.tmp 12) (.tmp 14) _ rfl w.heap.size 24 i0 _ 6 32 Tryd.underlying36 hi0 hz0 hz1 hz2 rfl (by omega) v' pre.length (rowCs pre) rfl hownA ⟨W.heap.size, 0, none⟩ 1 1 [.int .i64 pl, .int .u8 co, .int .u8 di, .int .u16 im, .int .i64 le, .int .i64 sk] rfl rfl hnews (by intro u hu; simp at hu; rcases hu with rfl | rfl | rfl | rfl | rfl | rfl <;> rfl) (by simp only [maxLen]; omega) (by omega) (by simp; omega) ?_)
                 intro v1 w1 hown1 hg1 hni1 hat1
                 obtain ⟨g, cp, rfl⟩ := ownsRow_succ hown1
                 obtain ⟨bw1, bL2, own2, ko, bel2⟩ := Boxed.appended hv' (by decide) hown hbs (Nat.le_refl _) hown1 hg1
                 have hFw := (hF.alloc _).kept hg1 ((hF.alloc _).not_row (by decide) hownA)
                 have hOw : Row w1 O 24 #[.int .i64 pl, .int .u8 co, .int .u8 di, .int .u16 im, .int .i64 le, .int .i64 sk] := (hg1.block O (by have := hrow'.lt; simp; omega) (fun e => hn e.symm)).trans (hrow'.alloc _)
                 obtain ⟨⟨e0, e1, e2, e3, e4, e5⟩, ef⟩ := row6 hOw
                 have m1 := bw1.cell
                 have m2 := bw1.frozen
                 have m3 := hFw.cell
                 have m4 := hFw.frozen)
    have hFf : Boxed (w1.setCell ⟨w.heap.size, 0, none⟩ (.slice (some ⟨g, 0, none⟩) (pre.length + 1) cp)) (w.heap.size + 1) 3 (.int .i64 (leftF (xs.length : Int) pre)) := (Below.heap_setCell w1 ⟨w.heap.size, 0, none⟩ _ (w.heap.size + 1) (by show w.heap.size + 1 ≠ w.heap.size; omega)).trans hFw
    have post : ∀ (u : Value) (hu : u = .int .i64 (leftF (xs.length : Int) (pre ++ [⟨pl, co, di, im, le, sk⟩]))),
        KeepsFrom (((w.alloc (.cells #[.slice none 0 0] 36)).alloc (.cells #[.int .i64 (xs.length : Int)] 3)).alloc (.cells #[.slice ad xs.length cap] 29)).heap.size W ((w1.setCell ⟨w.heap.size, 0, none⟩ (.slice (some ⟨g, 0, none⟩) (pre.length + 1) cp)).setCell ⟨w.heap.size + 1, 0, none⟩ u) ∧
        KeepsRest w.heap.size (w.heap.size + 1) W ((w1.setCell ⟨w.heap.size, 0, none⟩ (.slice (some ⟨g, 0, none⟩) (pre.length + 1) cp)).setCell ⟨w.heap.size + 1, 0, none⟩ u) ∧
        InAll w (xs.length : Int) (pre ++ [⟨pl, co, di, im, le, sk⟩]) ((w1.setCell ⟨w.heap.size, 0, none⟩ (.slice (some ⟨g, 0, none⟩) (pre.length + 1) cp)).setCell ⟨w.heap.size + 1, 0, none⟩ u) := by
      rintro u rfl
      have bL3 : Boxed ((w1.setCell ⟨w.heap.size, 0, none⟩ (.slice (some ⟨g, 0, none⟩) (pre.length + 1) cp)).setCell ⟨w.heap.size + 1, 0, none⟩ (.int .i64 (leftF (xs.length : Int) (pre ++ [⟨pl, co, di, im, le, sk⟩])))) w.heap.size 36 (.slice (some ⟨g, 0, none⟩) (pre.length + 1) cp) := (Below.heap_setCell _ ⟨w.heap.size + 1, 0, none⟩ _ w.heap.size (by show w.heap.size ≠ w.heap.size + 1; omega)).trans bL2
      have own3 := own2.kept (grownBy_setCell' (w1.setCell ⟨w.heap.size, 0, none⟩ (.slice (some ⟨g, 0, none⟩) (pre.length + 1) cp)) (w.heap.size + 1) (.int .i64 (leftF (xs.length : Int) (pre ++ [⟨pl, co, di, im, le, sk⟩])))) (.inr (hFf.not_row (by decide) own2).symm)
      refine ⟨((ko.trans (KeepsOthers.setCell _ _ _)).from _), ⟨?_, ?_, ?_, ?_⟩, ⟨⟨⟨_, bL3, ?_, trivial⟩, hFf.set _⟩, ?_⟩⟩
      · have := bel2.size
        simpa [World.setCell] using this
      · rintro b ⟨v2, h2, ho⟩
        rw [bL3.cell] at h2
        injection h2 with h2
        subst h2
        rcases hat1 with e | e
        · exact .inl ⟨v', hv'.cell, e.symm.trans ho⟩
        · right
          rw [ho] at e
          injection e with e
          rw [e]
          simp
      · rintro _ b ⟨v2, h2, ho⟩
        rw [bL3.cell] at h2
        injection h2 with h2
        subst h2
        have := (hown1.lt _ ho).2
        simpa [World.setCell] using this
      · intro b o hb ho n1 n2 n3
        have hbl := (Array.getElem?_eq_some_iff.1 hb).1
        rw [Below.heap_setCell _ ⟨w.heap.size + 1, 0, none⟩ _ b n2, Below.heap_setCell _ ⟨w.heap.size, 0, none⟩ _ b n1, hg1.block b (by simp; omega) (fun e => n3 ⟨v', hv'.cell, e.symm⟩), Below.heap_alloc _ _ _ hbl]
        exact hb
      · rw [List.length_append, rowCs_snoc]
        exact own3
      · exact (hBel.trans bel2).setCell (p := ⟨w.heap.size + 1, 0, none⟩) (by show w.heap.size ≤ w.heap.size + 1; omega) _
    exact post _ (by rw [leftF_snoc])
  case done =>
    rintro D ys W hD ⟨k, hst, rfl⟩ ⟨⟨⟨v, hv, hown, -⟩, hF⟩, hBel⟩ hK
    have hleft := leftF_ops xs (by omega) k hst.1
    rw [hleft] at hF
    have l1 := hv.cell
    have f1 := hF.cell
    gi_wp2
    gi_region
    all_goals
      gi_wp2
      refine ⟨by simp, .inl ⟨_, _, rfl, run_takeDeferred hK, ?_⟩⟩
      refine ⟨_, results_tmp2 rfl _ _ _, k, v, hst, rfl, ?_, ?_⟩
      · have := ownsRow_putObj hown (l := D) (o := .deferred (some [])) (.deferred none) hK rfl
        rw [opsL_length] at this
        exact this
      · exact (hBel.trans (Below.drew (Below.refl _ W))).trans (belowK_b (w := w) (Nat.le_refl _) W.drew D _ _ (by simp at hD; omega) hK rfl rfl)
  case stop =>
    rintro D c pre W _ _ h _
    exact h.elim
theorem all_any (ad : Option Addr) (cap : Nat) (xs : List Int) (hl : xs.length ≤ 4096) (hc : xs.length ≤ cap) (hx : Bytes8 xs) (w : World) (h : BytesIn w w.heap.size ad xs) :
    Calls Tryd.prog 28 #[.slice ad xs.length cap] w fun e W' => ∃ k v, Stops xs k ∧ e = .returned (.tuple #[v, .int .i64 ((xs.length : Int) - (posM xs k : Int))]) ∧ W'.ownsRow w.heap.size 24 6 v k (rowCs (opsL xs k)) ∧ Below w.heap.size w W' :=
  callsIn_wide.1 (all_in ad cap xs hl hc hx w h)
end Go.Proofs.YtlmeekaemhghgaaDoor
