/- Contracts and facts that the claim's proof wants (several texts in one). -/
import Derived.Test.YtkenebbjodcbcaaGreatDoorCoG1
import Derived.Test.YtkenebbjodcbcaaGreatDoorCoG2
import Derived.Test.YtkenebbjodcbcaaGreatDoorCoG3
import Derived.Test.YtkenebbjodcbcaaGreatDoorCoG4
namespace Go.Proofs.YtkenebbjodcbcaaGreatDoor
open Go.RowKit
set_option linter.unusedVariables false
set_option linter.unusedSimpArgs false
set_option maxRecDepth 20000
set_option maxHeartbeats 20000000
def zeroRg : Rg := ⟨0, 0, 0, 0, 0, 0, 0, 0, 0, 0, 0, 0, 0, 0, 0, false, false, false, false, 0⟩
def Modes (w : World) : Prop := w.cell? ⟨1, 0, none⟩ = some (.int .i64 0) ∧ w.cell? ⟨1, 1, none⟩ = some (.int .i64 0) ∧ w.cell? ⟨1, 2, none⟩ = some (.int .i64 1) ∧ w.cell? ⟨1, 3, none⟩ = some (.int .i64 2)
structure Tabs (w : World) (B : Nat) : Prop where
  masks : Masks w
  courses : Courses w
  digits : Digits w
  modes : Modes w
  gMasks : 3 < B
  gCourses : 2 < B
  gDigits : 4 < B
  gModes : 1 < B
theorem Tabs.keep {w w' : World} {B : Nat} (h : Tabs w B) (k : ∀ b, b < B → w'.heap[b]? = w.heap[b]?) : Tabs w' B := by
  have c : ∀ g i V, g < B → w.cell? ⟨g, i, none⟩ = some V → w'.cell? ⟨g, i, none⟩ = some V := fun g i V hg hc => (World.cell?_of_block (k g hg)).trans hc
  obtain ⟨m, cs, d, mo, g1, g2, g3, g4⟩ := h
  refine ⟨?_, ?_, ?_, ?_, g1, g2, g3, g4⟩
  · unfold Masks at m ⊢; simp only [c _ _ _ g1 m.1, c _ _ _ g1 m.2.1, c _ _ _ g1 m.2.2.1, c _ _ _ g1 m.2.2.2, and_self]
  · unfold Courses at cs ⊢; simp only [c _ _ _ g2 cs.1, c _ _ _ g2 cs.2.1, c _ _ _ g2 cs.2.2.1, c _ _ _ g2 cs.2.2.2.1, c _ _ _ g2 cs.2.2.2.2.1, c _ _ _ g2 cs.2.2.2.2.2, and_self]
  · unfold Digits at d ⊢; simp only [c _ _ _ g3 d.1, c _ _ _ g3 d.2.1, c _ _ _ g3 d.2.2.1, c _ _ _ g3 d.2.2.2.1, c _ _ _ g3 d.2.2.2.2.1, c _ _ _ g3 d.2.2.2.2.2.1, c _ _ _ g3 d.2.2.2.2.2.2.1, c _ _ _ g3 d.2.2.2.2.2.2.2, and_self]
  · unfold Modes at mo ⊢; simp only [c _ _ _ g4 mo.1, c _ _ _ g4 mo.2.1, c _ _ _ g4 mo.2.2.1, c _ _ _ g4 mo.2.2.2, and_self]
theorem Besides.drew {A S : Nat} {a w : World} (h : Besides A S a w) : Besides A S a w.drew := ⟨h.os, h.tape, h.output, h.size, h.block⟩
theorem Besides.setCells {A S : Nat} {a : World} {b : Nat} (hb : b = A ∨ b = S ∨ a.heap.size ≤ b) : ∀ (vs : List Value) (o : Nat) {w : World}, Besides A S a w → Besides A S a (w.setCells b o vs)
  | [], _, _, h => h
  | v :: r, o, _, h => Besides.setCells hb r (o + 1) (h.setCell (p := ⟨b, o, none⟩) hb v)
theorem Row.drew {w : World} {g : Nat} {t : TypeId} {cs : Array Value} (h : Row w g t cs) : Row w.drew g t cs := h
theorem BytesIn.drew {w : World} {B : Nat} {A : Option Addr} {xs : List Int} (h : BytesIn w B A xs) : BytesIn w.drew B A xs := h
@[reducible] def mC (s : Ms) (A : Option Addr) (n cap : Nat) : Array Value := #[.int .u16 s.r.af, .int .u16 s.r.bc, .int .u16 s.r.de, .int .u16 s.r.hl, .int .u16 s.r.af2, .int .u16 s.r.bc2, .int .u16 s.r.de2, .int .u16 s.r.hl2, .int .u16 s.r.ix, .int .u16 s.r.iy, .int .u16 s.r.sp, .int .u16 s.r.pc, .int .u16 s.r.wz, .int .u8 s.r.i, .int .u8 s.r.r, .bool s.r.iff1, .bool s.r.iff2, .bool s.r.halted, .bool s.r.late, .int .i64 s.r.mode, .slice A n cap, .int .i64 s.plane, .int .i64 s.x, .int .i64 s.y, .int .i64 s.z, .int .i64 s.p, .int .i64 s.q, .int .u16 s.spot, .bool s.near]
structure AtN (w : World) (p B : Nat) (s : Ms) (xs : List Int) : Prop where
  row : ∃ A cap, xs.length ≤ cap ∧ Row w p 118 (mC s A xs.length cap) ∧ BytesIn w B A xs
  low : B ≤ p
  bytes : Bytes8 xs
  ms : MsB s
  tabs : Tabs w B
theorem AtN.lt {w : World} {p B : Nat} {s : Ms} {xs : List Int} (h : AtN w p B s xs) : p < w.heap.size := by
  obtain ⟨A, cap, hc, hr, hb⟩ := h.row
  exact hr.lt
theorem AtN.below {w w' : World} {p B : Nat} {s : Ms} {xs : List Int} (h : AtN w p B s xs) (k : Below w.heap.size w w') : AtN w' p B s xs := by
  have hp := h.lt
  obtain ⟨⟨A, cap, hc, hr, hb⟩, hl, h8, hm, ht⟩ := h
  exact ⟨⟨A, cap, hc, hr.below k hp, hb.keep fun b hlt => k.block b (by omega)⟩, hl, h8, hm, ht.keep fun b hlt => k.block b (by omega)⟩
theorem AtN.drew {w : World} {p B : Nat} {s : Ms} {xs : List Int} (h : AtN w p B s xs) : AtN w.drew p B s xs := by
  obtain ⟨⟨A, cap, hc, hr, hb⟩, hl, h8, hm, ht⟩ := h
  exact ⟨⟨A, cap, hc, hr, hb⟩, hl, h8, hm, ht.keep fun _ _ => rfl⟩
theorem AtN.cell {w : World} {p B : Nat} {s : Ms} {xs : List Int} (h : AtN w p B s xs) (i : Nat) (V : Value) (hV : ∀ A n cap, (mC s A n cap)[i]? = some V) : w.cell? ⟨p, i, none⟩ = some V := by
  obtain ⟨A, cap, hc, hr, hb⟩ := h.row
  rw [hr.cell i]
  exact hV ..
theorem AtN.frozen {w : World} {p B : Nat} {s : Ms} {xs : List Int} (h : AtN w p B s xs) (i : Nat) : w.frozen? ⟨p, i, none⟩ = false := by
  obtain ⟨A, cap, hc, hr, hb⟩ := h.row
  exact hr.frozen i
theorem AtN.regs {w : World} {p B : Nat} {s : Ms} {xs : List Int} (h : AtN w p B s xs) : w.rangeAt p 0 (regsC s.r).toList := by
  obtain ⟨A, cap, hc, hr, hb⟩ := h.row
  intro j v hv
  rw [Nat.zero_add, hr.cell j]
  have hj : j < 20 := (List.getElem?_eq_some_iff.1 hv).1
  revert hv
  match j, hj with

  | 0, _ => exact id
  | 1, _ => exact id
  | 2, _ => exact id
  | 3, _ => exact id
  | 4, _ => exact id
  | 5, _ => exact id
  | 6, _ => exact id
  | 7, _ => exact id
  | 8, _ => exact id
  | 9, _ => exact id
  | 10, _ => exact id
  | 11, _ => exact id
  | 12, _ => exact id
  | 13, _ => exact id
  | 14, _ => exact id
  | 15, _ => exact id
  | 16, _ => exact id
  | 17, _ => exact id
  | 18, _ => exact id
  | 19, _ => exact id
  | n + 20, h => omega
theorem AtN.set {w : World} {p B : Nat} {s : Ms} {xs : List Int} (h : AtN w p B s xs) (i : Nat) (v : Value) (s' : Ms) (hs : ∀ A n cap, (mC s A n cap).setIfInBounds i v = mC s' A n cap) (hb : MsB s') : AtN (w.setCell ⟨p, i, none⟩ v) p B s' xs := by
  have hp := h.lt
  obtain ⟨⟨A, cap, hc, hr, hby⟩, hl, h8, hm, ht⟩ := h
  have k : ∀ b, b < B → (w.setCell ⟨p, i, none⟩ v).heap[b]? = w.heap[b]? := fun b hlt => Below.heap_setCell w _ v b (by show b ≠ p; omega)
  refine ⟨⟨A, cap, hc, ?_, hby.keep k⟩, hl, h8, hb, ht.keep k⟩
  have := hr.set i v
  rwa [hs] at this
theorem heap_setCells (b : Nat) (c : Nat) (hb : c ≠ b) : ∀ (vs : List Value) (o : Nat) (w : World), (w.setCells b o vs).heap[c]? = w.heap[c]?
  | [], _, _ => rfl
  | v :: r, o, w => (heap_setCells b c hb r (o + 1) _).trans (Below.heap_setCell w ⟨b, o, none⟩ v c hb)
structure NowN (w0 : World) (p B : Nat) (s : Ms) (xs : List Int) (w : World) : Prop where
  at_ : AtN w p B s xs
  bes : Besides p p w0 w
theorem NowN.begin {w : World} {p B : Nat} {s : Ms} {xs : List Int} (h : AtN w p B s xs) : NowN w p B s xs w := ⟨h, .refl ..⟩
theorem NowN.below {w0 w w' : World} {p B : Nat} {s : Ms} {xs : List Int} (h : NowN w0 p B s xs w) (k : Below w.heap.size w w') : NowN w0 p B s xs w' := ⟨h.at_.below k, h.bes.trans (.of_below k)⟩
theorem NowN.drew {w0 w : World} {p B : Nat} {s : Ms} {xs : List Int} (h : NowN w0 p B s xs w) : NowN w0 p B s xs w.drew := ⟨h.at_.drew, h.bes.drew⟩
theorem NowN.set {w0 w : World} {p B : Nat} {s : Ms} {xs : List Int} (h : NowN w0 p B s xs w) (i : Nat) (v : Value) (s' : Ms) (hs : ∀ A n cap, (mC s A n cap).setIfInBounds i v = mC s' A n cap) (hb : MsB s') : NowN w0 p B s' xs (w.setCell ⟨p, i, none⟩ v) :=
  ⟨h.at_.set i v s' hs hb, h.bes.setCell (.inl rfl) v⟩
def kB : IntKind → Int → Prop
  | .u8, v => B8 v
  | .u16, v => Wd16 v
  | _, _ => True
def CyW (c : Cy) : Prop := Wd16 c.addr ∧ B8 c.data
structure BesC (p : Nat) (c : Cy) (w w' : World) : Prop where
  bes : Besides p p w w'
  cyw : CyW c
theorem BesC.after {p : Nat} {c : Cy} {a b d : World} (k : BesC p c b d) (h : Besides p p a b) : BesC p c a d := ⟨h.trans k.bes, k.cyw⟩
def OutI (w0 : World) (p B : Nat) (k : IntKind) : Except Cy ((Int × Ms) × List Int) → Ending → World → Prop
  | .ok ((v, s), ys), e, w' => e = .returned (.int k v) ∧ kB k v ∧ NowN w0 p B s ys w'
  | .error c, e, w' => e = .panicked [{ v := .iface 29 (cyV c), recovered := false }] ∧ BesC p c w0 w'
def OutV (w0 : World) (p B : Nat) : Except Cy (Ms × List Int) → Ending → World → Prop
  | .ok (s, ys), e, w' => e = .returned (.tuple #[]) ∧ NowN w0 p B s ys w'
  | .error c, e, w' => e = .panicked [{ v := .iface 29 (cyV c), recovered := false }] ∧ BesC p c w0 w'
theorem OutI.ok {w0 w : World} {p B : Nat} {k : IntKind} {X : Except Cy ((Int × Ms) × List Int)} {v : Int} {s : Ms} {ys : List Int} (h : X = .ok ((v, s), ys)) (hk : kB k v) (hn : NowN w0 p B s ys w) : OutI w0 p B k X (.returned (.int k v)) w := by
  subst h
  exact ⟨rfl, hk, hn⟩
theorem OutI.err {w0 w : World} {p B : Nat} {k : IntKind} {X : Except Cy ((Int × Ms) × List Int)} {c : Cy} (h : X = .error c) (hb : BesC p c w0 w) : OutI w0 p B k X (.panicked [{ v := .iface 29 (cyV c), recovered := false }]) w := by
  subst h
  exact ⟨rfl, hb⟩
theorem OutV.ok {w0 w : World} {p B : Nat} {X : Except Cy (Ms × List Int)} {s : Ms} {ys : List Int} (h : X = .ok (s, ys)) (hn : NowN w0 p B s ys w) : OutV w0 p B X (.returned (.tuple #[])) w := by
  subst h
  exact ⟨rfl, hn⟩
theorem OutV.err {w0 w : World} {p B : Nat} {X : Except Cy (Ms × List Int)} {c : Cy} (h : X = .error c) (hb : BesC p c w0 w) : OutV w0 p B X (.panicked [{ v := .iface 29 (cyV c), recovered := false }]) w := by
  subst h
  exact ⟨rfl, hb⟩
theorem NowN.after {w0 w w' : World} {p B : Nat} {s s' : Ms} {xs xs' : List Int} (h : NowN w0 p B s xs w) (k : NowN w p B s' xs' w') : NowN w0 p B s' xs' w' := ⟨k.at_, h.bes.trans k.bes⟩
section
variable {ops : Array Oper} {Q : Exit → Act → World → Prop} {a : Act} {w w0 : World} {o : Oper} {rest : List Oper} {p B : Nat} {s0 : Ms} {xs0 : List Int}
theorem sCallI {k : IntKind} {X : Except Cy ((Int × Ms) × List Int)} {g : FuncId} {args : Array Value} (hn : NowN w0 p B s0 xs0 w) (hg : o.guard = none) (he : (execOp a.eval o).run Tryz.prog w = .ok (.enter g args) w) (hc : Calls Tryz.prog g args w (OutI w p B k X))
    (hP : ∀ c w', X = .error c → BesC p c w0 w' → Q (.panic [{ v := .iface 29 (cyV c), recovered := false }]) a w')
    (hK : ∀ v s ys w', X = .ok ((v, s), ys) → kB k v → NowN w0 p B s ys w' → WL Tryz.prog ops Q rest (a.put o.dst (.int k v)) w') : WL Tryz.prog ops Q (o :: rest) a w :=
  list_call (wantedN hg) he hc fun e w' ho => by
    rcases X with c | ⟨⟨v, s⟩, ys⟩
    · obtain ⟨rfl, hb⟩ := ho
      exact hP c w' rfl (hb.after hn.bes)
    · obtain ⟨rfl, hk, hN⟩ := ho
      exact hK v s ys w' rfl hk (hn.after hN)
theorem sCallV {X : Except Cy (Ms × List Int)} {g : FuncId} {args : Array Value} (hn : NowN w0 p B s0 xs0 w) (hg : o.guard = none) (he : (execOp a.eval o).run Tryz.prog w = .ok (.enter g args) w) (hc : Calls Tryz.prog g args w (OutV w p B X))
    (hP : ∀ c w', X = .error c → BesC p c w0 w' → Q (.panic [{ v := .iface 29 (cyV c), recovered := false }]) a w')
    (hK : ∀ s ys w', X = .ok (s, ys) → NowN w0 p B s ys w' → WL Tryz.prog ops Q rest (a.put o.dst (.tuple #[])) w') : WL Tryz.prog ops Q (o :: rest) a w :=
  list_call (wantedN hg) he hc fun e w' ho => by
    rcases X with c | ⟨s, ys⟩
    · obtain ⟨rfl, hb⟩ := ho
      exact hP c w' rfl (hb.after hn.bes)
    · obtain ⟨rfl, hN⟩ := ho
      exact hK s ys w' rfl (hn.after hN)
end
def Ms.u_af (s : Ms) (v : Int) : Ms := { s with r := { s.r with af := v } }
theorem MsB.u_af {s : Ms} (h : MsB s) {v : Int} (hv : Wd16 v) : MsB (s.u_af v) := ⟨⟨hv, h.r.bc, h.r.de, h.r.hl, h.r.af2, h.r.bc2, h.r.de2, h.r.hl2, h.r.ix, h.r.iy, h.r.sp, h.r.pc, h.r.wz, h.r.i, h.r.r, h.r.mode⟩, h.plane, h.x, h.y, h.z, h.p, h.q, h.spot⟩
def Ms.u_bc (s : Ms) (v : Int) : Ms := { s with r := { s.r with bc := v } }
theorem MsB.u_bc {s : Ms} (h : MsB s) {v : Int} (hv : Wd16 v) : MsB (s.u_bc v) := ⟨⟨h.r.af, hv, h.r.de, h.r.hl, h.r.af2, h.r.bc2, h.r.de2, h.r.hl2, h.r.ix, h.r.iy, h.r.sp, h.r.pc, h.r.wz, h.r.i, h.r.r, h.r.mode⟩, h.plane, h.x, h.y, h.z, h.p, h.q, h.spot⟩
def Ms.u_de (s : Ms) (v : Int) : Ms := { s with r := { s.r with de := v } }
theorem mu_de (s : Ms) (v : Int) (A : Option Addr) (n cap : Nat) : (mC s A n cap).setIfInBounds 2 (.int .u16 v) = mC (s.u_de v) A n cap := rfl
theorem MsB.u_de {s : Ms} (h : MsB s) {v : Int} (hv : Wd16 v) : MsB (s.u_de v) := ⟨⟨h.r.af, h.r.bc, hv, h.r.hl, h.r.af2, h.r.bc2, h.r.de2, h.r.hl2, h.r.ix, h.r.iy, h.r.sp, h.r.pc, h.r.wz, h.r.i, h.r.r, h.r.mode⟩, h.plane, h.x, h.y, h.z, h.p, h.q, h.spot⟩
def Ms.u_hl (s : Ms) (v : Int) : Ms := { s with r := { s.r with hl := v } }
theorem mu_hl (s : Ms) (v : Int) (A : Option Addr) (n cap : Nat) : (mC s A n cap).setIfInBounds 3 (.int .u16 v) = mC (s.u_hl v) A n cap := rfl
theorem MsB.u_hl {s : Ms} (h : MsB s) {v : Int} (hv : Wd16 v) : MsB (s.u_hl v) := ⟨⟨h.r.af, h.r.bc, h.r.de, hv, h.r.af2, h.r.bc2, h.r.de2, h.r.hl2, h.r.ix, h.r.iy, h.r.sp, h.r.pc, h.r.wz, h.r.i, h.r.r, h.r.mode⟩, h.plane, h.x, h.y, h.z, h.p, h.q, h.spot⟩
def Ms.u_sp (s : Ms) (v : Int) : Ms := { s with r := { s.r with sp := v } }
theorem MsB.u_sp {s : Ms} (h : MsB s) {v : Int} (hv : Wd16 v) : MsB (s.u_sp v) := ⟨⟨h.r.af, h.r.bc, h.r.de, h.r.hl, h.r.af2, h.r.bc2, h.r.de2, h.r.hl2, h.r.ix, h.r.iy, hv, h.r.pc, h.r.wz, h.r.i, h.r.r, h.r.mode⟩, h.plane, h.x, h.y, h.z, h.p, h.q, h.spot⟩
def Ms.u_pc (s : Ms) (v : Int) : Ms := { s with r := { s.r with pc := v } }
theorem MsB.u_pc {s : Ms} (h : MsB s) {v : Int} (hv : Wd16 v) : MsB (s.u_pc v) := ⟨⟨h.r.af, h.r.bc, h.r.de, h.r.hl, h.r.af2, h.r.bc2, h.r.de2, h.r.hl2, h.r.ix, h.r.iy, h.r.sp, hv, h.r.wz, h.r.i, h.r.r, h.r.mode⟩, h.plane, h.x, h.y, h.z, h.p, h.q, h.spot⟩
def Ms.u_wz (s : Ms) (v : Int) : Ms := { s with r := { s.r with wz := v } }
theorem mu_wz (s : Ms) (v : Int) (A : Option Addr) (n cap : Nat) : (mC s A n cap).setIfInBounds 12 (.int .u16 v) = mC (s.u_wz v) A n cap := rfl
theorem MsB.u_wz {s : Ms} (h : MsB s) {v : Int} (hv : Wd16 v) : MsB (s.u_wz v) := ⟨⟨h.r.af, h.r.bc, h.r.de, h.r.hl, h.r.af2, h.r.bc2, h.r.de2, h.r.hl2, h.r.ix, h.r.iy, h.r.sp, h.r.pc, hv, h.r.i, h.r.r, h.r.mode⟩, h.plane, h.x, h.y, h.z, h.p, h.q, h.spot⟩
def Ms.u_i (s : Ms) (v : Int) : Ms := { s with r := { s.r with i := v } }
theorem MsB.u_i {s : Ms} (h : MsB s) {v : Int} (hv : B8 v) : MsB (s.u_i v) := ⟨⟨h.r.af, h.r.bc, h.r.de, h.r.hl, h.r.af2, h.r.bc2, h.r.de2, h.r.hl2, h.r.ix, h.r.iy, h.r.sp, h.r.pc, h.r.wz, hv, h.r.r, h.r.mode⟩, h.plane, h.x, h.y, h.z, h.p, h.q, h.spot⟩
def Ms.u_r (s : Ms) (v : Int) : Ms := { s with r := { s.r with r := v } }
theorem MsB.u_r {s : Ms} (h : MsB s) {v : Int} (hv : B8 v) : MsB (s.u_r v) := ⟨⟨h.r.af, h.r.bc, h.r.de, h.r.hl, h.r.af2, h.r.bc2, h.r.de2, h.r.hl2, h.r.ix, h.r.iy, h.r.sp, h.r.pc, h.r.wz, h.r.i, hv, h.r.mode⟩, h.plane, h.x, h.y, h.z, h.p, h.q, h.spot⟩
def Ms.u_iff1 (s : Ms) (v : Bool) : Ms := { s with r := { s.r with iff1 := v } }
theorem MsB.u_iff1 {s : Ms} (h : MsB s) {v : Bool} : MsB (s.u_iff1 v) := ⟨⟨h.r.af, h.r.bc, h.r.de, h.r.hl, h.r.af2, h.r.bc2, h.r.de2, h.r.hl2, h.r.ix, h.r.iy, h.r.sp, h.r.pc, h.r.wz, h.r.i, h.r.r, h.r.mode⟩, h.plane, h.x, h.y, h.z, h.p, h.q, h.spot⟩
def Ms.u_iff2 (s : Ms) (v : Bool) : Ms := { s with r := { s.r with iff2 := v } }
theorem MsB.u_iff2 {s : Ms} (h : MsB s) {v : Bool} : MsB (s.u_iff2 v) := ⟨⟨h.r.af, h.r.bc, h.r.de, h.r.hl, h.r.af2, h.r.bc2, h.r.de2, h.r.hl2, h.r.ix, h.r.iy, h.r.sp, h.r.pc, h.r.wz, h.r.i, h.r.r, h.r.mode⟩, h.plane, h.x, h.y, h.z, h.p, h.q, h.spot⟩
def Ms.u_halted (s : Ms) (v : Bool) : Ms := { s with r := { s.r with halted := v } }
theorem MsB.u_halted {s : Ms} (h : MsB s) {v : Bool} : MsB (s.u_halted v) := ⟨⟨h.r.af, h.r.bc, h.r.de, h.r.hl, h.r.af2, h.r.bc2, h.r.de2, h.r.hl2, h.r.ix, h.r.iy, h.r.sp, h.r.pc, h.r.wz, h.r.i, h.r.r, h.r.mode⟩, h.plane, h.x, h.y, h.z, h.p, h.q, h.spot⟩
def Ms.u_late (s : Ms) (v : Bool) : Ms := { s with r := { s.r with late := v } }
theorem mu_late (s : Ms) (v : Bool) (A : Option Addr) (n cap : Nat) : (mC s A n cap).setIfInBounds 18 (.bool v) = mC (s.u_late v) A n cap := rfl
theorem MsB.u_late {s : Ms} (h : MsB s) {v : Bool} : MsB (s.u_late v) := ⟨⟨h.r.af, h.r.bc, h.r.de, h.r.hl, h.r.af2, h.r.bc2, h.r.de2, h.r.hl2, h.r.ix, h.r.iy, h.r.sp, h.r.pc, h.r.wz, h.r.i, h.r.r, h.r.mode⟩, h.plane, h.x, h.y, h.z, h.p, h.q, h.spot⟩
def Ms.u_mode (s : Ms) (v : Int) : Ms := { s with r := { s.r with mode := v } }
theorem mu_mode (s : Ms) (v : Int) (A : Option Addr) (n cap : Nat) : (mC s A n cap).setIfInBounds 19 (.int .i64 v) = mC (s.u_mode v) A n cap := rfl
theorem MsB.u_mode {s : Ms} (h : MsB s) {v : Int} (hv : -9223372036854775808 ≤ v ∧ v ≤ 9223372036854775807) : MsB (s.u_mode v) := ⟨⟨h.r.af, h.r.bc, h.r.de, h.r.hl, h.r.af2, h.r.bc2, h.r.de2, h.r.hl2, h.r.ix, h.r.iy, h.r.sp, h.r.pc, h.r.wz, h.r.i, h.r.r, hv⟩, h.plane, h.x, h.y, h.z, h.p, h.q, h.spot⟩
def Ms.u_rg (s : Ms) (g : Rg) : Ms := { s with r := g }
theorem MsB.u_rg {s : Ms} (h : MsB s) {g : Rg} (hg : RgB g) : MsB (s.u_rg g) := ⟨hg, h.plane, h.x, h.y, h.z, h.p, h.q, h.spot⟩
def Ms.u_plane (s : Ms) (v : Int) : Ms := { s with plane := v }
theorem mu_plane (s : Ms) (v : Int) (A : Option Addr) (n cap : Nat) : (mC s A n cap).setIfInBounds 21 (.int .i64 v) = mC (s.u_plane v) A n cap := rfl
theorem MsB.u_plane {s : Ms} (h : MsB s) {v : Int} (hv : v = 0 ∨ v = 3 ∨ v = 4) : MsB (s.u_plane v) := ⟨h.r, hv, h.x, h.y, h.z, h.p, h.q, h.spot⟩
def Ms.u_x (s : Ms) (v : Int) : Ms := { s with x := v }
theorem MsB.u_x {s : Ms} (h : MsB s) {v : Int} (hv : 0 ≤ v ∧ v ≤ 3) : MsB (s.u_x v) := ⟨h.r, h.plane, hv, h.y, h.z, h.p, h.q, h.spot⟩
def Ms.u_y (s : Ms) (v : Int) : Ms := { s with y := v }
theorem MsB.u_y {s : Ms} (h : MsB s) {v : Int} (hv : 0 ≤ v ∧ v ≤ 7) : MsB (s.u_y v) := ⟨h.r, h.plane, h.x, hv, h.z, h.p, h.q, h.spot⟩
def Ms.u_z (s : Ms) (v : Int) : Ms := { s with z := v }
theorem MsB.u_z {s : Ms} (h : MsB s) {v : Int} (hv : 0 ≤ v ∧ v ≤ 7) : MsB (s.u_z v) := ⟨h.r, h.plane, h.x, h.y, hv, h.p, h.q, h.spot⟩
def Ms.u_p (s : Ms) (v : Int) : Ms := { s with p := v }
theorem MsB.u_p {s : Ms} (h : MsB s) {v : Int} (hv : 0 ≤ v ∧ v ≤ 3) : MsB (s.u_p v) := ⟨h.r, h.plane, h.x, h.y, h.z, hv, h.q, h.spot⟩
def Ms.u_q (s : Ms) (v : Int) : Ms := { s with q := v }
theorem MsB.u_q {s : Ms} (h : MsB s) {v : Int} (hv : 0 ≤ v ∧ v ≤ 1) : MsB (s.u_q v) := ⟨h.r, h.plane, h.x, h.y, h.z, h.p, hv, h.spot⟩
def Ms.u_spot (s : Ms) (v : Int) : Ms := { s with spot := v }
theorem mu_spot (s : Ms) (v : Int) (A : Option Addr) (n cap : Nat) : (mC s A n cap).setIfInBounds 27 (.int .u16 v) = mC (s.u_spot v) A n cap := rfl
theorem MsB.u_spot {s : Ms} (h : MsB s) {v : Int} (hv : Wd16 v) : MsB (s.u_spot v) := ⟨h.r, h.plane, h.x, h.y, h.z, h.p, h.q, hv⟩
def Ms.u_near (s : Ms) (v : Bool) : Ms := { s with near := v }
theorem MsB.u_near {s : Ms} (h : MsB s) {v : Bool} : MsB (s.u_near v) := ⟨h.r, h.plane, h.x, h.y, h.z, h.p, h.q, h.spot⟩
theorem fR3 (b : Nat) (w : World) : (Instr.fieldAt 24 (.pointer (some ⟨b, 0, none⟩)) 3).run Tryz.prog w = .ok (.pointer (some ⟨b, 3, none⟩)) w := by simp [go_sem]
theorem fR12 (b : Nat) (w : World) : (Instr.fieldAt 24 (.pointer (some ⟨b, 0, none⟩)) 12).run Tryz.prog w = .ok (.pointer (some ⟨b, 12, none⟩)) w := by simp [go_sem]
theorem fR17 (b : Nat) (w : World) : (Instr.fieldAt 24 (.pointer (some ⟨b, 0, none⟩)) 17).run Tryz.prog w = .ok (.pointer (some ⟨b, 17, none⟩)) w := by simp [go_sem]
theorem fR18 (b : Nat) (w : World) : (Instr.fieldAt 24 (.pointer (some ⟨b, 0, none⟩)) 18).run Tryz.prog w = .ok (.pointer (some ⟨b, 18, none⟩)) w := by simp [go_sem]
theorem fR19 (b : Nat) (w : World) : (Instr.fieldAt 24 (.pointer (some ⟨b, 0, none⟩)) 19).run Tryz.prog w = .ok (.pointer (some ⟨b, 19, none⟩)) w := by simp [go_sem]
theorem fM0 (b : Nat) (w : World) : (Instr.fieldAt 118 (.pointer (some ⟨b, 0, none⟩)) 0).run Tryz.prog w = .ok (.pointer (some ⟨b, 0, none⟩)) w := by simp [go_sem]
theorem fM1 (b : Nat) (w : World) : (Instr.fieldAt 118 (.pointer (some ⟨b, 0, none⟩)) 1).run Tryz.prog w = .ok (.pointer (some ⟨b, 20, none⟩)) w := by simp [go_sem]
theorem fM2 (b : Nat) (w : World) : (Instr.fieldAt 118 (.pointer (some ⟨b, 0, none⟩)) 2).run Tryz.prog w = .ok (.pointer (some ⟨b, 21, none⟩)) w := by simp [go_sem]
theorem fM3 (b : Nat) (w : World) : (Instr.fieldAt 118 (.pointer (some ⟨b, 0, none⟩)) 3).run Tryz.prog w = .ok (.pointer (some ⟨b, 22, none⟩)) w := by simp [go_sem]
theorem fM4 (b : Nat) (w : World) : (Instr.fieldAt 118 (.pointer (some ⟨b, 0, none⟩)) 4).run Tryz.prog w = .ok (.pointer (some ⟨b, 23, none⟩)) w := by simp [go_sem]
theorem fM5 (b : Nat) (w : World) : (Instr.fieldAt 118 (.pointer (some ⟨b, 0, none⟩)) 5).run Tryz.prog w = .ok (.pointer (some ⟨b, 24, none⟩)) w := by simp [go_sem]
theorem fM7 (b : Nat) (w : World) : (Instr.fieldAt 118 (.pointer (some ⟨b, 0, none⟩)) 7).run Tryz.prog w = .ok (.pointer (some ⟨b, 26, none⟩)) w := by simp [go_sem]
theorem fM8 (b : Nat) (w : World) : (Instr.fieldAt 118 (.pointer (some ⟨b, 0, none⟩)) 8).run Tryz.prog w = .ok (.pointer (some ⟨b, 27, none⟩)) w := by simp [go_sem]
end Go.Proofs.YtkenebbjodcbcaaGreatDoor
