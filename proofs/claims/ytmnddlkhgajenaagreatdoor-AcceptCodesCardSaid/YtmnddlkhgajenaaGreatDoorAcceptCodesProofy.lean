/- The law's walk and what it wants (several texts in one). -/
import Derived.Lib.LaidTab
import Derived.FnData
import Derived.Below
import Derived.Deep.RegionHeld3
import Derived.Deep.DeepCutAuto
import Derived.Test.YtmnddlkhgajenaaGreatDoorAcG1
import Derived.Test.YtmnddlkhgajenaaGreatDoorAcG2
import Derived.Test.YtmnddlkhgajenaaGreatDoorAcG3
import Derived.Test.YtmnddlkhgajenaaGreatDoorAcG7
import Derived.Test.YtmnddlkhgajenaaGreatDoorAcG9
import Derived.Test.YtmnddlkhgajenaaGreatDoorAcG19
namespace Go.Proofs.YtmnddlkhgajenaaGreatDoor
open Go.RowKit
set_option linter.unusedVariables false
set_option linter.unusedSimpArgs false
set_option maxRecDepth 20000
set_option maxHeartbeats 20000000
structure Rd (w : World) (B A C S : Nat) (ad : Option Addr) (cap : Nat) (xs : List Int) (k : Nat) : Prop where
  hA : Boxed w A 3 (.int .i64 ((min k xs.length : Nat) : Int))
  hC : Boxed w C 25 (.slice ad xs.length cap)
  hS : Boxed w S 4 (.bool (decide (xs.length < k)))
  bytes : BytesIn w B ad xs
  bA : B ≤ A
  bC : B ≤ C
  bS : B ≤ S
  nAC : A ≠ C
  nAS : A ≠ S
  nCS : C ≠ S
theorem Rd.keep {w w' : World} {B A C S : Nat} {ad : Option Addr} {cap : Nat} {xs : List Int} {k : Nat} (h : Rd w B A C S ad cap xs k) (e : ∀ b, b < B ∨ b = A ∨ b = C ∨ b = S → w'.heap[b]? = w.heap[b]?) : Rd w' B A C S ad cap xs k :=
  { h with hA := (e A (by omega)).trans h.hA, hC := (e C (by omega)).trans h.hC, hS := (e S (by omega)).trans h.hS, bytes := h.bytes.keep fun b hb => e b (by omega) }
theorem Rd.alloc {w : World} {B A C S : Nat} {ad : Option Addr} {cap : Nat} {xs : List Int} {k : Nat} (h : Rd w B A C S ad cap xs k) (o : Obj) : Rd (w.alloc o) B A C S ad cap xs k :=
  h.keep fun b hb => Below.heap_alloc w o b (by
    have h1 := h.hA.lt; have h2 := h.hC.lt; have h3 := h.hS.lt; have := h.bA
    rcases hb with e | e | e | e <;> omega)
theorem Rd.far {w : World} {B A C S : Nat} {ad : Option Addr} {cap : Nat} {xs : List Int} {k : Nat} (h : Rd w B A C S ad cap xs k) {p : Addr} (hp : B ≤ p.block ∧ p.block ≠ A ∧ p.block ≠ C ∧ p.block ≠ S) (u : Value) : Rd (w.setCell p u) B A C S ad cap xs k :=
  h.keep fun b hb => Below.heap_setCell w p u b (by omega)
theorem Rd.below {w w' : World} {B A C S : Nat} {ad : Option Addr} {cap : Nat} {xs : List Int} {k : Nat} (h : Rd w B A C S ad cap xs k) (e : Below w.heap.size w w') : Rd w' B A C S ad cap xs k :=
  h.keep fun b hb => e.block b (by
    have h1 := h.hA.lt; have h2 := h.hC.lt; have h3 := h.hS.lt; have := h.bA
    rcases hb with e | e | e | e <;> omega)
def After (w w' : World) (B A C S : Nat) (ad : Option Addr) (cap : Nat) (xs : List Int) (k : Nat) : Prop := Rd w' B A C S ad cap xs k ∧ Besides A S w w'
def rdsOf (A S : Nat) (w : World) : Nat :=
  (match w.cell? ⟨A, 0, none⟩ with | some (.int _ n) => n.toNat | _ => 0) + (match w.cell? ⟨S, 0, none⟩ with | some (.bool true) => 1 | _ => 0)
theorem Rd.reads {w : World} {B A C S : Nat} {ad : Option Addr} {cap : Nat} {xs : List Int} {k : Nat} (h : Rd w B A C S ad cap xs k) (hk : k ≤ xs.length + 1) : rdsOf A S w = k := by
  unfold rdsOf
  rw [h.hA.cell, h.hS.cell]
  rcases Nat.lt_or_ge xs.length k with e | e
  · rw [decide_eq_true e]
    simp
    omega
  · rw [decide_eq_false (by omega)]
    simp
    omega
abbrev zeroC : Array Value := #[.int .i64 0, .int .u8 0, .int .u8 0, .int .u16 0, .int .i64 0, .int .i64 0]
structure Fr (w : World) (B A C S : Nat) (ad : Option Addr) (cap : Nat) (xs : List Int) (k : Nat) (W : World) : Prop where
  rd : Rd W B A C S ad cap xs k
  row : Row W w.heap.size 35 zeroC
  bes : Besides A S w W
  lt : A < w.heap.size ∧ C < w.heap.size ∧ S < w.heap.size
theorem Fr.set {w W : World} {B A C S : Nat} {ad : Option Addr} {cap : Nat} {xs : List Int} {k : Nat} (h : Fr w B A C S ad cap xs k W) (i : Nat) (u : Value) : Fr w B A C S ad cap xs k (W.setCell ⟨w.heap.size + 1, i, none⟩ u) :=
  { h with
    rd := h.rd.far (p := ⟨w.heap.size + 1, i, none⟩) (by have := h.lt; have := h.rd.bA; show B ≤ w.heap.size + 1 ∧ w.heap.size + 1 ≠ A ∧ w.heap.size + 1 ≠ C ∧ w.heap.size + 1 ≠ S; omega) u
    row := h.row.far (p := ⟨w.heap.size + 1, i, none⟩) (by show w.heap.size ≠ w.heap.size + 1; omega) u
    bes := h.bes.setCell (p := ⟨w.heap.size + 1, i, none⟩) (.inr (.inr (by show w.heap.size ≤ w.heap.size + 1; omega))) u }
theorem Fr.below {w W W' : World} {B A C S : Nat} {ad : Option Addr} {cap : Nat} {xs : List Int} {k : Nat} (h : Fr w B A C S ad cap xs k W) (hb : Below W.heap.size W W') : Fr w B A C S ad cap xs k W' :=
  { h with rd := h.rd.below hb, row := h.row.below hb h.row.lt, bes := h.bes.trans (.of_below hb) }
theorem Fr.after {w W W' : World} {B A C S : Nat} {ad : Option Addr} {cap : Nat} {xs : List Int} {k k' : Nat} (h : Fr w B A C S ad cap xs k W) (a : After W W' B A C S ad cap xs k') : Fr w B A C S ad cap xs k' W' :=
  { h with rd := a.1, row := h.row.besides a.2 (by have := h.lt; omega) (by have := h.lt; omega), bes := h.bes.trans a.2 }
theorem Fr.own {w W W' : World} {B A C S : Nat} {ad : Option Addr} {cap : Nat} {xs : List Int} {k k' : Nat} {cs : Array Value} (h : Fr w B A C S ad cap xs k W) (a : After W W' B A C S ad cap xs k') (r : Row W (w.heap.size + 1) 35 cs) : Row W' (w.heap.size + 1) 35 cs :=
  r.besides a.2 (by have := h.lt; omega) (by have := h.lt; omega)
def bareM (p c : Int) : Bool := if p = 0 ∨ p = 3 ∨ p = 4 then !(c == 203) && (!(c == 237) && (!(c == 221) && !(c == 253))) else decide (0 ≤ p) && decide (p ≤ 6)
theorem bare_any (p c d i le sk : Int) (w : World) :
    Calls Tryz.prog 15 #[opV p c d i le sk] w fun e w' => e = .returned (.bool (bareM p c)) ∧ Below w.heap.size w w' := by
  by_cases h : p = 0 ∨ p = 3 ∨ p = 4
  · have e : bareM p c = (!(c == 203) && (!(c == 237) && (!(c == 221) && !(c == 253)))) := by unfold bareM; rw [if_pos h]
    rw [e]
    rcases h with rfl | rfl | rfl
    all_goals
      cases q1 : (c == 203) <;> cases q2 : (c == 237) <;> cases q3 : (c == 221) <;> cases q4 : (c == 253)
      all_goals
        have r1 : (c != 203) = !(c == 203) := rfl
        have r2 : (c != 237) = !(c == 237) := rfl
        have r3 : (c != 221) = !(c == 221) := rfl
        have r4 : (c != 253) = !(c == 253) := rfl
        rw [q1] at r1
        rw [q2] at r2
        rw [q3] at r3
        rw [q4] at r4
        simp only [Bool.not_true, Bool.not_false] at r1 r2 r3 r4
        go_enter Tryz.func15, Tryz.ntmps15
        go_wp2
        go_ret
        exact ⟨rfl, (by repeat (first | exact Below.refl _ _ | assumption | refine bstep ?_ (by assumption) | refine Below.drew ?_ | refine Below.alloc ?_ (by first | (simp; done) | (simp; omega) | omega) _ | refine Below.setCell ?_ (by first | (simp; done) | (simp; omega) | omega) _))⟩
  · have e : bareM p c = (decide (0 ≤ p) && decide (p ≤ 6)) := by unfold bareM; rw [if_neg h]
    rw [e]
    have q1 : (p == 0) = false := by simp; omega
    have q2 : (p == 3) = false := by simp; omega
    have q3 : (p == 4) = false := by simp; omega
    clear h
    rcases Int.lt_or_le p 0 with h1 | h1
    · have e1 : decide (0 ≤ p) = false := by simp; omega
      rw [e1, Bool.false_and]
      go_enter Tryz.func15, Tryz.ntmps15
      go_wp2
      go_ret
      exact ⟨rfl, (by repeat (first | exact Below.refl _ _ | assumption | refine bstep ?_ (by assumption) | refine Below.drew ?_ | refine Below.alloc ?_ (by first | (simp; done) | (simp; omega) | omega) _ | refine Below.setCell ?_ (by first | (simp; done) | (simp; omega) | omega) _))⟩
    · rcases Int.lt_or_le 6 p with h2 | h2
      · have e1 : decide (0 ≤ p) = true := by simp; omega
        have e2 : decide (p ≤ 6) = false := by simp; omega
        rw [e1, e2]
        go_enter Tryz.func15, Tryz.ntmps15
        go_wp2
        go_ret
        exact ⟨rfl, (by repeat (first | exact Below.refl _ _ | assumption | refine bstep ?_ (by assumption) | refine Below.drew ?_ | refine Below.alloc ?_ (by first | (simp; done) | (simp; omega) | omega) _ | refine Below.setCell ?_ (by first | (simp; done) | (simp; omega) | omega) _))⟩
      · have e1 : decide (0 ≤ p) = true := by simp; omega
        have e2 : decide (p ≤ 6) = true := by simp; omega
        rw [e1, e2]
        go_enter Tryz.func15, Tryz.ntmps15
        go_wp2
        go_ret
        exact ⟨rfl, (by repeat (first | exact Below.refl _ _ | assumption | refine bstep ?_ (by assumption) | refine Below.drew ?_ | refine Below.alloc ?_ (by first | (simp; done) | (simp; omega) | omega) _ | refine Below.setCell ?_ (by first | (simp; done) | (simp; omega) | omega) _))⟩
def u8Vs (l : List Int) : List Value := l.map (Value.int .u8)
def Tab8 (w : World) (name : String) (l : List Int) : Prop := w.var? Tryz.prog name = some (u8Vs l).toArray
theorem tab8_below {w w' : World} {name : String} {l : List Int} (h : Tab8 w name l) (k : Below w.heap.size w w') : Tab8 w' name l := by
  unfold Tab8 World.var? at h ⊢
  obtain ⟨g, hg, h⟩ := Option.bind_eq_some_iff.1 h
  rw [hg, Option.bind_some]
  have hlt : g < w.heap.size := by
    rcases Nat.lt_or_ge g w.heap.size with e | e
    · exact e
    · rw [Array.getElem?_eq_none e] at h; cases h
  rw [k.block g hlt]
  exact h
theorem Tab8.at_ {w : World} {name : String} {l : List Int} {g : Nat} (h : Tab8 w name l) (hg : Tryz.prog.globalNamed name = some g) (i : Nat) (hi : i < l.length) : w.cell? ⟨g, i, none⟩ = some (.int .u8 (l.getD i 0)) := by
  rw [World.var?_cell hg h i]
  simp [u8Vs, hi]
structure TimesTabs (w : World) : Prop where
  rows : Tab8 w "charabanc/times.rows" rowsT
  rowOf : Tab8 w "charabanc/times.rowOf" rowOfT
  single : Tab8 w "charabanc/times.single" singleT
  special : Tab8 w "charabanc/times.special" specialT
theorem TimesTabs.below {w w' : World} (h : TimesTabs w) (k : Below w.heap.size w w') : TimesTabs w' :=
  ⟨tab8_below h.rows k, tab8_below h.rowOf k, tab8_below h.single k, tab8_below h.special k⟩
theorem unheld_fin : ∀ c : Fin 256, 4 ≤ unheldM (c.val : Int) ∧ unheldM (c.val : Int) ≤ 19 := by decide +kernel
theorem unheld_all (c : Int) (hc : B8 c) : 4 ≤ unheldM c ∧ unheldM c ≤ 19 := byte_all (P := fun c => 4 ≤ unheldM c ∧ unheldM c ≤ 19) unheld_fin c hc.1 hc.2
theorem fields3 (c : Int) (hc : B8 c) : (0 ≤ fx c ∧ fx c ≤ 3) ∧ (0 ≤ fy c ∧ fy c ≤ 7) ∧ (0 ≤ fz c ∧ fz c ≤ 7) := ⟨fx_b c hc, fy_b c hc, fz_b c hc⟩
theorem added_fin : ∀ c : Fin 256, 0 ≤ addedM (c.val : Int) ∧ addedM (c.val : Int) ≤ 7 := by decide +kernel
theorem added_all (c : Int) (hc : B8 c) : 0 ≤ addedM c ∧ addedM c ≤ 7 := byte_all (P := fun c => 0 ≤ addedM c ∧ addedM c ≤ 7) added_fin c hc.1 hc.2
theorem keep6r {w w' : World} {B : Nat} {v0 v1 v2 v3 v4 v5 : Value} (k : Below w.heap.size w w')
    (h : w.cell? ⟨B, 0, none⟩ = some v0 ∧ w.cell? ⟨B, 1, none⟩ = some v1 ∧ w.cell? ⟨B, 2, none⟩ = some v2 ∧ w.cell? ⟨B, 3, none⟩ = some v3 ∧ w.cell? ⟨B, 4, none⟩ = some v4 ∧ w.cell? ⟨B, 5, none⟩ = some v5) :
    w'.cell? ⟨B, 0, none⟩ = some v0 ∧ w'.cell? ⟨B, 1, none⟩ = some v1 ∧ w'.cell? ⟨B, 2, none⟩ = some v2 ∧ w'.cell? ⟨B, 3, none⟩ = some v3 ∧ w'.cell? ⟨B, 4, none⟩ = some v4 ∧ w'.cell? ⟨B, 5, none⟩ = some v5 :=
  ⟨cell_kept h.1 k, cell_kept h.2.1 k, cell_kept h.2.2.1 k, cell_kept h.2.2.2.1 k, cell_kept h.2.2.2.2.1 k, cell_kept h.2.2.2.2.2 k⟩
theorem row6c {w : World} {g : Nat} {t : TypeId} {v0 v1 v2 v3 v4 v5 : Value} (h : Row w g t #[v0, v1, v2, v3, v4, v5]) :
    w.cell? ⟨g, 0, none⟩ = some v0 ∧ w.cell? ⟨g, 1, none⟩ = some v1 ∧ w.cell? ⟨g, 2, none⟩ = some v2 ∧ w.cell? ⟨g, 3, none⟩ = some v3 ∧ w.cell? ⟨g, 4, none⟩ = some v4 ∧ w.cell? ⟨g, 5, none⟩ = some v5 :=
  ⟨h.cell 0, h.cell 1, h.cell 2, h.cell 3, h.cell 4, h.cell 5⟩
theorem of_eq (p c s : Int) (t : Bool) (hp : ¬ (p < 0 ∨ 6 < p)) : ofM p c s t = wrap64 (wrap64 (4 * s) + netM p c t) := by
  unfold ofM
  rw [if_neg hp]
  unfold wrap64
  omega
def rowR (k : Int) : List Int := ((rowsT.drop (rowOfT.getD k.toNat 0 * 16).toNat).take 16)
def r10V (k : Int) : Value := .agg ((rowR k).map (Value.int .i64)).toArray
theorem arr16_info : (Tryz.prog.info? 59).map (·.size) = some 16 := by kernel_rfl
theorem row10_0 : r10V 0 = .agg #[.int .i64 4, .int .i64 10, .int .i64 7, .int .i64 6, .int .i64 4, .int .i64 4, .int .i64 7, .int .i64 4, .int .i64 4, .int .i64 11, .int .i64 7, .int .i64 6, .int .i64 4, .int .i64 4, .int .i64 7, .int .i64 4] := by
  unfold r10V
  rw [show rowR 0 = [4, 10, 7, 6, 4, 4, 7, 4, 4, 11, 7, 6, 4, 4, 7, 4] by decide +kernel]
  rfl
theorem rrow_0 (w : World) :
    Calls Tryz.prog 32 #[.int .i64 0] w fun e w' => e = .returned (r10V 0) ∧ Below w.heap.size w w' := by
  rw [row10_0]
  go_enter Tryz.func32, Tryz.ntmps32
  go_upto_region 3 with (first
    | (refine wpList_build rfl _ _ rfl #[.int .i64 4, .int .i64 4, .int .i64 4, .int .i64 4, .int .i64 4, .int .i64 4, .int .i64 7, .int .i64 4, .int .i64 4, .int .i64 4, .int .i64 4, .int .i64 4, .int .i64 4, .int .i64 4, .int .i64 7, .int .i64 4] (by kernel_rfl) ?_)
    | (refine wpList_store_top rfl _ _ _ rfl _ _ _ _ _ rfl rfl (by simp) (Eq.refl 16) arr16_info (by decide) ?_))
  go_wp2_with (first
    | (refine wpList_build rfl _ _ rfl #[.int .i64 4, .int .i64 10, .int .i64 7, .int .i64 6, .int .i64 4, .int .i64 4, .int .i64 7, .int .i64 4, .int .i64 4, .int .i64 11, .int .i64 7, .int .i64 6, .int .i64 4, .int .i64 4, .int .i64 7, .int .i64 4] (by kernel_rfl) ?_)
    | (refine wpList_load_top rfl 59 _ rfl _ _ _ _ rfl (by simp) _ Tryz.underlying59 rfl arr16_info ?_)
    | (refine wpList_store_next rfl _ _ _ rfl _ _ _ _ _ _ rfl rfl rfl (Eq.refl 16) arr16_info (by decide) ?_)
    | (refine wpList_store_top rfl _ _ _ rfl _ _ _ _ _ rfl rfl (by simp) (Eq.refl 16) arr16_info (by decide) ?_))
  refine bodyPost_ret (results_row rfl rfl ((Row.new w _ _).alloc _) _ Tryz.underlying59 rfl arr16_info) rfl ?_
  exact ⟨rfl, (by repeat (first | exact Below.refl _ _ | assumption | refine bstep ?_ (by assumption) | refine Below.drew ?_ | refine Below.alloc ?_ (by first | (simp; done) | (simp; omega) | omega) _ | refine Below.setCell ?_ (by first | (simp; done) | (simp; omega) | omega) _))⟩
theorem row10_1 : r10V 1 = .agg #[.int .i64 8, .int .i64 10, .int .i64 7, .int .i64 6, .int .i64 4, .int .i64 4, .int .i64 7, .int .i64 4, .int .i64 12, .int .i64 11, .int .i64 7, .int .i64 6, .int .i64 4, .int .i64 4, .int .i64 7, .int .i64 4] := by
  unfold r10V
  rw [show rowR 1 = [8, 10, 7, 6, 4, 4, 7, 4, 12, 11, 7, 6, 4, 4, 7, 4] by decide +kernel]
  rfl
theorem rrow_1 (w : World) :
    Calls Tryz.prog 32 #[.int .i64 1] w fun e w' => e = .returned (r10V 1) ∧ Below w.heap.size w w' := by
  rw [row10_1]
  go_enter Tryz.func32, Tryz.ntmps32
  go_upto_region 3 with (first
    | (refine wpList_build rfl _ _ rfl #[.int .i64 4, .int .i64 4, .int .i64 4, .int .i64 4, .int .i64 4, .int .i64 4, .int .i64 7, .int .i64 4, .int .i64 4, .int .i64 4, .int .i64 4, .int .i64 4, .int .i64 4, .int .i64 4, .int .i64 7, .int .i64 4] (by kernel_rfl) ?_)
    | (refine wpList_store_top rfl _ _ _ rfl _ _ _ _ _ rfl rfl (by simp) (Eq.refl 16) arr16_info (by decide) ?_))
  go_wp2_with (first
    | (refine wpList_build rfl _ _ rfl #[.int .i64 8, .int .i64 10, .int .i64 7, .int .i64 6, .int .i64 4, .int .i64 4, .int .i64 7, .int .i64 4, .int .i64 12, .int .i64 11, .int .i64 7, .int .i64 6, .int .i64 4, .int .i64 4, .int .i64 7, .int .i64 4] (by kernel_rfl) ?_)
    | (refine wpList_load_top rfl 59 _ rfl _ _ _ _ rfl (by simp) _ Tryz.underlying59 rfl arr16_info ?_)
    | (refine wpList_store_next rfl _ _ _ rfl _ _ _ _ _ _ rfl rfl rfl (Eq.refl 16) arr16_info (by decide) ?_)
    | (refine wpList_store_top rfl _ _ _ rfl _ _ _ _ _ rfl rfl (by simp) (Eq.refl 16) arr16_info (by decide) ?_))
  refine bodyPost_ret (results_row rfl rfl ((Row.new w _ _).alloc _) _ Tryz.underlying59 rfl arr16_info) rfl ?_
  exact ⟨rfl, (by repeat (first | exact Below.refl _ _ | assumption | refine bstep ?_ (by assumption) | refine Below.drew ?_ | refine Below.alloc ?_ (by first | (simp; done) | (simp; omega) | omega) _ | refine Below.setCell ?_ (by first | (simp; done) | (simp; omega) | omega) _))⟩
theorem row10_2 : r10V 2 = .agg #[.int .i64 7, .int .i64 10, .int .i64 16, .int .i64 6, .int .i64 4, .int .i64 4, .int .i64 7, .int .i64 4, .int .i64 7, .int .i64 11, .int .i64 16, .int .i64 6, .int .i64 4, .int .i64 4, .int .i64 7, .int .i64 4] := by
  unfold r10V
  rw [show rowR 2 = [7, 10, 16, 6, 4, 4, 7, 4, 7, 11, 16, 6, 4, 4, 7, 4] by decide +kernel]
  rfl
theorem rrow_2 (w : World) :
    Calls Tryz.prog 32 #[.int .i64 2] w fun e w' => e = .returned (r10V 2) ∧ Below w.heap.size w w' := by
  rw [row10_2]
  go_enter Tryz.func32, Tryz.ntmps32
  go_upto_region 3 with (first
    | (refine wpList_build rfl _ _ rfl #[.int .i64 4, .int .i64 4, .int .i64 4, .int .i64 4, .int .i64 4, .int .i64 4, .int .i64 7, .int .i64 4, .int .i64 4, .int .i64 4, .int .i64 4, .int .i64 4, .int .i64 4, .int .i64 4, .int .i64 7, .int .i64 4] (by kernel_rfl) ?_)
    | (refine wpList_store_top rfl _ _ _ rfl _ _ _ _ _ rfl rfl (by simp) (Eq.refl 16) arr16_info (by decide) ?_))
  go_wp2_with (first
    | (refine wpList_build rfl _ _ rfl #[.int .i64 7, .int .i64 10, .int .i64 16, .int .i64 6, .int .i64 4, .int .i64 4, .int .i64 7, .int .i64 4, .int .i64 7, .int .i64 11, .int .i64 16, .int .i64 6, .int .i64 4, .int .i64 4, .int .i64 7, .int .i64 4] (by kernel_rfl) ?_)
    | (refine wpList_load_top rfl 59 _ rfl _ _ _ _ rfl (by simp) _ Tryz.underlying59 rfl arr16_info ?_)
    | (refine wpList_store_next rfl _ _ _ rfl _ _ _ _ _ _ rfl rfl rfl (Eq.refl 16) arr16_info (by decide) ?_)
    | (refine wpList_store_top rfl _ _ _ rfl _ _ _ _ _ rfl rfl (by simp) (Eq.refl 16) arr16_info (by decide) ?_))
  refine bodyPost_ret (results_row rfl rfl ((Row.new w _ _).alloc _) _ Tryz.underlying59 rfl arr16_info) rfl ?_
  exact ⟨rfl, (by repeat (first | exact Below.refl _ _ | assumption | refine bstep ?_ (by assumption) | refine Below.drew ?_ | refine Below.alloc ?_ (by first | (simp; done) | (simp; omega) | omega) _ | refine Below.setCell ?_ (by first | (simp; done) | (simp; omega) | omega) _))⟩
theorem row10_3 : r10V 3 = .agg #[.int .i64 7, .int .i64 10, .int .i64 13, .int .i64 6, .int .i64 11, .int .i64 11, .int .i64 10, .int .i64 4, .int .i64 7, .int .i64 11, .int .i64 13, .int .i64 6, .int .i64 4, .int .i64 4, .int .i64 7, .int .i64 4] := by
  unfold r10V
  rw [show rowR 3 = [7, 10, 13, 6, 11, 11, 10, 4, 7, 11, 13, 6, 4, 4, 7, 4] by decide +kernel]
  rfl
theorem rrow_3 (w : World) :
    Calls Tryz.prog 32 #[.int .i64 3] w fun e w' => e = .returned (r10V 3) ∧ Below w.heap.size w w' := by
  rw [row10_3]
  go_enter Tryz.func32, Tryz.ntmps32
  go_upto_region 3 with (first
    | (refine wpList_build rfl _ _ rfl #[.int .i64 4, .int .i64 4, .int .i64 4, .int .i64 4, .int .i64 4, .int .i64 4, .int .i64 7, .int .i64 4, .int .i64 4, .int .i64 4, .int .i64 4, .int .i64 4, .int .i64 4, .int .i64 4, .int .i64 7, .int .i64 4] (by kernel_rfl) ?_)
    | (refine wpList_store_top rfl _ _ _ rfl _ _ _ _ _ rfl rfl (by simp) (Eq.refl 16) arr16_info (by decide) ?_))
  go_wp2_with (first
    | (refine wpList_build rfl _ _ rfl #[.int .i64 7, .int .i64 10, .int .i64 13, .int .i64 6, .int .i64 11, .int .i64 11, .int .i64 10, .int .i64 4, .int .i64 7, .int .i64 11, .int .i64 13, .int .i64 6, .int .i64 4, .int .i64 4, .int .i64 7, .int .i64 4] (by kernel_rfl) ?_)
    | (refine wpList_load_top rfl 59 _ rfl _ _ _ _ rfl (by simp) _ Tryz.underlying59 rfl arr16_info ?_)
    | (refine wpList_store_next rfl _ _ _ rfl _ _ _ _ _ _ rfl rfl rfl (Eq.refl 16) arr16_info (by decide) ?_)
    | (refine wpList_store_top rfl _ _ _ rfl _ _ _ _ _ rfl rfl (by simp) (Eq.refl 16) arr16_info (by decide) ?_))
  refine bodyPost_ret (results_row rfl rfl ((Row.new w _ _).alloc _) _ Tryz.underlying59 rfl arr16_info) rfl ?_
  exact ⟨rfl, (by repeat (first | exact Below.refl _ _ | assumption | refine bstep ?_ (by assumption) | refine Below.drew ?_ | refine Below.alloc ?_ (by first | (simp; done) | (simp; omega) | omega) _ | refine Below.setCell ?_ (by first | (simp; done) | (simp; omega) | omega) _))⟩
theorem row10_4 : r10V 4 = .agg #[.int .i64 4, .int .i64 4, .int .i64 4, .int .i64 4, .int .i64 4, .int .i64 4, .int .i64 7, .int .i64 4, .int .i64 4, .int .i64 4, .int .i64 4, .int .i64 4, .int .i64 4, .int .i64 4, .int .i64 7, .int .i64 4] := by
  unfold r10V
  rw [show rowR 4 = [4, 4, 4, 4, 4, 4, 7, 4, 4, 4, 4, 4, 4, 4, 7, 4] by decide +kernel]
  rfl
theorem rrow_4 (w : World) :
    Calls Tryz.prog 32 #[.int .i64 4] w fun e w' => e = .returned (r10V 4) ∧ Below w.heap.size w w' := by
  rw [row10_4]
  go_enter Tryz.func32, Tryz.ntmps32
  go_upto_region 3 with (first
    | (refine wpList_build rfl _ _ rfl #[.int .i64 4, .int .i64 4, .int .i64 4, .int .i64 4, .int .i64 4, .int .i64 4, .int .i64 7, .int .i64 4, .int .i64 4, .int .i64 4, .int .i64 4, .int .i64 4, .int .i64 4, .int .i64 4, .int .i64 7, .int .i64 4] (by kernel_rfl) ?_)
    | (refine wpList_store_top rfl _ _ _ rfl _ _ _ _ _ rfl rfl (by simp) (Eq.refl 16) arr16_info (by decide) ?_))
  go_wp2_with (first
    | (refine wpList_load_top rfl 59 _ rfl _ _ _ _ rfl (by simp) _ Tryz.underlying59 rfl arr16_info ?_)
    | (refine wpList_store_next rfl _ _ _ rfl _ _ _ _ _ _ rfl rfl rfl (Eq.refl 16) arr16_info (by decide) ?_)
    | (refine wpList_store_top rfl _ _ _ rfl _ _ _ _ _ rfl rfl (by simp) (Eq.refl 16) arr16_info (by decide) ?_))
  refine bodyPost_ret (results_row rfl rfl ((Row.new w _ _).alloc _) _ Tryz.underlying59 rfl arr16_info) rfl ?_
  exact ⟨rfl, (by repeat (first | exact Below.refl _ _ | assumption | refine bstep ?_ (by assumption) | refine Below.drew ?_ | refine Below.alloc ?_ (by first | (simp; done) | (simp; omega) | omega) _ | refine Below.setCell ?_ (by first | (simp; done) | (simp; omega) | omega) _))⟩
theorem row10_5 : r10V 5 = .agg #[.int .i64 4, .int .i64 4, .int .i64 4, .int .i64 4, .int .i64 4, .int .i64 4, .int .i64 7, .int .i64 4, .int .i64 4, .int .i64 4, .int .i64 4, .int .i64 4, .int .i64 4, .int .i64 4, .int .i64 7, .int .i64 4] := by
  unfold r10V
  rw [show rowR 5 = [4, 4, 4, 4, 4, 4, 7, 4, 4, 4, 4, 4, 4, 4, 7, 4] by decide +kernel]
  rfl
theorem rrow_5 (w : World) :
    Calls Tryz.prog 32 #[.int .i64 5] w fun e w' => e = .returned (r10V 5) ∧ Below w.heap.size w w' := by
  rw [row10_5]
  go_enter Tryz.func32, Tryz.ntmps32
  go_upto_region 3 with (first
    | (refine wpList_build rfl _ _ rfl #[.int .i64 4, .int .i64 4, .int .i64 4, .int .i64 4, .int .i64 4, .int .i64 4, .int .i64 7, .int .i64 4, .int .i64 4, .int .i64 4, .int .i64 4, .int .i64 4, .int .i64 4, .int .i64 4, .int .i64 7, .int .i64 4] (by kernel_rfl) ?_)
    | (refine wpList_store_top rfl _ _ _ rfl _ _ _ _ _ rfl rfl (by simp) (Eq.refl 16) arr16_info (by decide) ?_))
  go_wp2_with (first
    | (refine wpList_load_top rfl 59 _ rfl _ _ _ _ rfl (by simp) _ Tryz.underlying59 rfl arr16_info ?_)
    | (refine wpList_store_next rfl _ _ _ rfl _ _ _ _ _ _ rfl rfl rfl (Eq.refl 16) arr16_info (by decide) ?_)
    | (refine wpList_store_top rfl _ _ _ rfl _ _ _ _ _ rfl rfl (by simp) (Eq.refl 16) arr16_info (by decide) ?_))
  refine bodyPost_ret (results_row rfl rfl ((Row.new w _ _).alloc _) _ Tryz.underlying59 rfl arr16_info) rfl ?_
  exact ⟨rfl, (by repeat (first | exact Below.refl _ _ | assumption | refine bstep ?_ (by assumption) | refine Below.drew ?_ | refine Below.alloc ?_ (by first | (simp; done) | (simp; omega) | omega) _ | refine Below.setCell ?_ (by first | (simp; done) | (simp; omega) | omega) _))⟩
theorem row10_6 : r10V 6 = .agg #[.int .i64 4, .int .i64 4, .int .i64 4, .int .i64 4, .int .i64 4, .int .i64 4, .int .i64 7, .int .i64 4, .int .i64 4, .int .i64 4, .int .i64 4, .int .i64 4, .int .i64 4, .int .i64 4, .int .i64 7, .int .i64 4] := by
  unfold r10V
  rw [show rowR 6 = [4, 4, 4, 4, 4, 4, 7, 4, 4, 4, 4, 4, 4, 4, 7, 4] by decide +kernel]
  rfl
theorem rrow_6 (w : World) :
    Calls Tryz.prog 32 #[.int .i64 6] w fun e w' => e = .returned (r10V 6) ∧ Below w.heap.size w w' := by
  rw [row10_6]
  go_enter Tryz.func32, Tryz.ntmps32
  go_upto_region 3 with (first
    | (refine wpList_build rfl _ _ rfl #[.int .i64 4, .int .i64 4, .int .i64 4, .int .i64 4, .int .i64 4, .int .i64 4, .int .i64 7, .int .i64 4, .int .i64 4, .int .i64 4, .int .i64 4, .int .i64 4, .int .i64 4, .int .i64 4, .int .i64 7, .int .i64 4] (by kernel_rfl) ?_)
    | (refine wpList_store_top rfl _ _ _ rfl _ _ _ _ _ rfl rfl (by simp) (Eq.refl 16) arr16_info (by decide) ?_))
  go_wp2_with (first
    | (refine wpList_load_top rfl 59 _ rfl _ _ _ _ rfl (by simp) _ Tryz.underlying59 rfl arr16_info ?_)
    | (refine wpList_store_next rfl _ _ _ rfl _ _ _ _ _ _ rfl rfl rfl (Eq.refl 16) arr16_info (by decide) ?_)
    | (refine wpList_store_top rfl _ _ _ rfl _ _ _ _ _ rfl rfl (by simp) (Eq.refl 16) arr16_info (by decide) ?_))
  refine bodyPost_ret (results_row rfl rfl ((Row.new w _ _).alloc _) _ Tryz.underlying59 rfl arr16_info) rfl ?_
  exact ⟨rfl, (by repeat (first | exact Below.refl _ _ | assumption | refine bstep ?_ (by assumption) | refine Below.drew ?_ | refine Below.alloc ?_ (by first | (simp; done) | (simp; omega) | omega) _ | refine Below.setCell ?_ (by first | (simp; done) | (simp; omega) | omega) _))⟩
theorem row10_7 : r10V 7 = .agg #[.int .i64 7, .int .i64 7, .int .i64 7, .int .i64 7, .int .i64 7, .int .i64 7, .int .i64 4, .int .i64 7, .int .i64 4, .int .i64 4, .int .i64 4, .int .i64 4, .int .i64 4, .int .i64 4, .int .i64 7, .int .i64 4] := by
  unfold r10V
  rw [show rowR 7 = [7, 7, 7, 7, 7, 7, 4, 7, 4, 4, 4, 4, 4, 4, 7, 4] by decide +kernel]
  rfl
theorem rrow_7 (w : World) :
    Calls Tryz.prog 32 #[.int .i64 7] w fun e w' => e = .returned (r10V 7) ∧ Below w.heap.size w w' := by
  rw [row10_7]
  go_enter Tryz.func32, Tryz.ntmps32
  go_upto_region 3 with (first
    | (refine wpList_build rfl _ _ rfl #[.int .i64 4, .int .i64 4, .int .i64 4, .int .i64 4, .int .i64 4, .int .i64 4, .int .i64 7, .int .i64 4, .int .i64 4, .int .i64 4, .int .i64 4, .int .i64 4, .int .i64 4, .int .i64 4, .int .i64 7, .int .i64 4] (by kernel_rfl) ?_)
    | (refine wpList_store_top rfl _ _ _ rfl _ _ _ _ _ rfl rfl (by simp) (Eq.refl 16) arr16_info (by decide) ?_))
  go_wp2_with (first
    | (refine wpList_build rfl _ _ rfl #[.int .i64 7, .int .i64 7, .int .i64 7, .int .i64 7, .int .i64 7, .int .i64 7, .int .i64 4, .int .i64 7, .int .i64 4, .int .i64 4, .int .i64 4, .int .i64 4, .int .i64 4, .int .i64 4, .int .i64 7, .int .i64 4] (by kernel_rfl) ?_)
    | (refine wpList_load_top rfl 59 _ rfl _ _ _ _ rfl (by simp) _ Tryz.underlying59 rfl arr16_info ?_)
    | (refine wpList_store_next rfl _ _ _ rfl _ _ _ _ _ _ rfl rfl rfl (Eq.refl 16) arr16_info (by decide) ?_)
    | (refine wpList_store_top rfl _ _ _ rfl _ _ _ _ _ rfl rfl (by simp) (Eq.refl 16) arr16_info (by decide) ?_))
  refine bodyPost_ret (results_row rfl rfl ((Row.new w _ _).alloc _) _ Tryz.underlying59 rfl arr16_info) rfl ?_
  exact ⟨rfl, (by repeat (first | exact Below.refl _ _ | assumption | refine bstep ?_ (by assumption) | refine Below.drew ?_ | refine Below.alloc ?_ (by first | (simp; done) | (simp; omega) | omega) _ | refine Below.setCell ?_ (by first | (simp; done) | (simp; omega) | omega) _))⟩
theorem row10_8 : r10V 8 = .agg #[.int .i64 4, .int .i64 4, .int .i64 4, .int .i64 4, .int .i64 4, .int .i64 4, .int .i64 7, .int .i64 4, .int .i64 4, .int .i64 4, .int .i64 4, .int .i64 4, .int .i64 4, .int .i64 4, .int .i64 7, .int .i64 4] := by
  unfold r10V
  rw [show rowR 8 = [4, 4, 4, 4, 4, 4, 7, 4, 4, 4, 4, 4, 4, 4, 7, 4] by decide +kernel]
  rfl
theorem rrow_8 (w : World) :
    Calls Tryz.prog 32 #[.int .i64 8] w fun e w' => e = .returned (r10V 8) ∧ Below w.heap.size w w' := by
  rw [row10_8]
  go_enter Tryz.func32, Tryz.ntmps32
  go_upto_region 3 with (first
    | (refine wpList_build rfl _ _ rfl #[.int .i64 4, .int .i64 4, .int .i64 4, .int .i64 4, .int .i64 4, .int .i64 4, .int .i64 7, .int .i64 4, .int .i64 4, .int .i64 4, .int .i64 4, .int .i64 4, .int .i64 4, .int .i64 4, .int .i64 7, .int .i64 4] (by kernel_rfl) ?_)
    | (refine wpList_store_top rfl _ _ _ rfl _ _ _ _ _ rfl rfl (by simp) (Eq.refl 16) arr16_info (by decide) ?_))
  go_wp2_with (first
    | (refine wpList_load_top rfl 59 _ rfl _ _ _ _ rfl (by simp) _ Tryz.underlying59 rfl arr16_info ?_)
    | (refine wpList_store_next rfl _ _ _ rfl _ _ _ _ _ _ rfl rfl rfl (Eq.refl 16) arr16_info (by decide) ?_)
    | (refine wpList_store_top rfl _ _ _ rfl _ _ _ _ _ rfl rfl (by simp) (Eq.refl 16) arr16_info (by decide) ?_))
  refine bodyPost_ret (results_row rfl rfl ((Row.new w _ _).alloc _) _ Tryz.underlying59 rfl arr16_info) rfl ?_
  exact ⟨rfl, (by repeat (first | exact Below.refl _ _ | assumption | refine bstep ?_ (by assumption) | refine Below.drew ?_ | refine Below.alloc ?_ (by first | (simp; done) | (simp; omega) | omega) _ | refine Below.setCell ?_ (by first | (simp; done) | (simp; omega) | omega) _))⟩
theorem row10_9 : r10V 9 = .agg #[.int .i64 4, .int .i64 4, .int .i64 4, .int .i64 4, .int .i64 4, .int .i64 4, .int .i64 7, .int .i64 4, .int .i64 4, .int .i64 4, .int .i64 4, .int .i64 4, .int .i64 4, .int .i64 4, .int .i64 7, .int .i64 4] := by
  unfold r10V
  rw [show rowR 9 = [4, 4, 4, 4, 4, 4, 7, 4, 4, 4, 4, 4, 4, 4, 7, 4] by decide +kernel]
  rfl
theorem rrow_9 (w : World) :
    Calls Tryz.prog 32 #[.int .i64 9] w fun e w' => e = .returned (r10V 9) ∧ Below w.heap.size w w' := by
  rw [row10_9]
  go_enter Tryz.func32, Tryz.ntmps32
  go_upto_region 3 with (first
    | (refine wpList_build rfl _ _ rfl #[.int .i64 4, .int .i64 4, .int .i64 4, .int .i64 4, .int .i64 4, .int .i64 4, .int .i64 7, .int .i64 4, .int .i64 4, .int .i64 4, .int .i64 4, .int .i64 4, .int .i64 4, .int .i64 4, .int .i64 7, .int .i64 4] (by kernel_rfl) ?_)
    | (refine wpList_store_top rfl _ _ _ rfl _ _ _ _ _ rfl rfl (by simp) (Eq.refl 16) arr16_info (by decide) ?_))
  go_wp2_with (first
    | (refine wpList_load_top rfl 59 _ rfl _ _ _ _ rfl (by simp) _ Tryz.underlying59 rfl arr16_info ?_)
    | (refine wpList_store_next rfl _ _ _ rfl _ _ _ _ _ _ rfl rfl rfl (Eq.refl 16) arr16_info (by decide) ?_)
    | (refine wpList_store_top rfl _ _ _ rfl _ _ _ _ _ rfl rfl (by simp) (Eq.refl 16) arr16_info (by decide) ?_))
  refine bodyPost_ret (results_row rfl rfl ((Row.new w _ _).alloc _) _ Tryz.underlying59 rfl arr16_info) rfl ?_
  exact ⟨rfl, (by repeat (first | exact Below.refl _ _ | assumption | refine bstep ?_ (by assumption) | refine Below.drew ?_ | refine Below.alloc ?_ (by first | (simp; done) | (simp; omega) | omega) _ | refine Below.setCell ?_ (by first | (simp; done) | (simp; omega) | omega) _))⟩
theorem row10_10 : r10V 10 = .agg #[.int .i64 4, .int .i64 4, .int .i64 4, .int .i64 4, .int .i64 4, .int .i64 4, .int .i64 7, .int .i64 4, .int .i64 4, .int .i64 4, .int .i64 4, .int .i64 4, .int .i64 4, .int .i64 4, .int .i64 7, .int .i64 4] := by
  unfold r10V
  rw [show rowR 10 = [4, 4, 4, 4, 4, 4, 7, 4, 4, 4, 4, 4, 4, 4, 7, 4] by decide +kernel]
  rfl
theorem rrow_10 (w : World) :
    Calls Tryz.prog 32 #[.int .i64 10] w fun e w' => e = .returned (r10V 10) ∧ Below w.heap.size w w' := by
  rw [row10_10]
  go_enter Tryz.func32, Tryz.ntmps32
  go_upto_region 3 with (first
    | (refine wpList_build rfl _ _ rfl #[.int .i64 4, .int .i64 4, .int .i64 4, .int .i64 4, .int .i64 4, .int .i64 4, .int .i64 7, .int .i64 4, .int .i64 4, .int .i64 4, .int .i64 4, .int .i64 4, .int .i64 4, .int .i64 4, .int .i64 7, .int .i64 4] (by kernel_rfl) ?_)
    | (refine wpList_store_top rfl _ _ _ rfl _ _ _ _ _ rfl rfl (by simp) (Eq.refl 16) arr16_info (by decide) ?_))
  go_wp2_with (first
    | (refine wpList_load_top rfl 59 _ rfl _ _ _ _ rfl (by simp) _ Tryz.underlying59 rfl arr16_info ?_)
    | (refine wpList_store_next rfl _ _ _ rfl _ _ _ _ _ _ rfl rfl rfl (Eq.refl 16) arr16_info (by decide) ?_)
    | (refine wpList_store_top rfl _ _ _ rfl _ _ _ _ _ rfl rfl (by simp) (Eq.refl 16) arr16_info (by decide) ?_))
  refine bodyPost_ret (results_row rfl rfl ((Row.new w _ _).alloc _) _ Tryz.underlying59 rfl arr16_info) rfl ?_
  exact ⟨rfl, (by repeat (first | exact Below.refl _ _ | assumption | refine bstep ?_ (by assumption) | refine Below.drew ?_ | refine Below.alloc ?_ (by first | (simp; done) | (simp; omega) | omega) _ | refine Below.setCell ?_ (by first | (simp; done) | (simp; omega) | omega) _))⟩
theorem row10_11 : r10V 11 = .agg #[.int .i64 4, .int .i64 4, .int .i64 4, .int .i64 4, .int .i64 4, .int .i64 4, .int .i64 7, .int .i64 4, .int .i64 4, .int .i64 4, .int .i64 4, .int .i64 4, .int .i64 4, .int .i64 4, .int .i64 7, .int .i64 4] := by
  unfold r10V
  rw [show rowR 11 = [4, 4, 4, 4, 4, 4, 7, 4, 4, 4, 4, 4, 4, 4, 7, 4] by decide +kernel]
  rfl
theorem rrow_11 (w : World) :
    Calls Tryz.prog 32 #[.int .i64 11] w fun e w' => e = .returned (r10V 11) ∧ Below w.heap.size w w' := by
  rw [row10_11]
  go_enter Tryz.func32, Tryz.ntmps32
  go_upto_region 3 with (first
    | (refine wpList_build rfl _ _ rfl #[.int .i64 4, .int .i64 4, .int .i64 4, .int .i64 4, .int .i64 4, .int .i64 4, .int .i64 7, .int .i64 4, .int .i64 4, .int .i64 4, .int .i64 4, .int .i64 4, .int .i64 4, .int .i64 4, .int .i64 7, .int .i64 4] (by kernel_rfl) ?_)
    | (refine wpList_store_top rfl _ _ _ rfl _ _ _ _ _ rfl rfl (by simp) (Eq.refl 16) arr16_info (by decide) ?_))
  go_wp2_with (first
    | (refine wpList_load_top rfl 59 _ rfl _ _ _ _ rfl (by simp) _ Tryz.underlying59 rfl arr16_info ?_)
    | (refine wpList_store_next rfl _ _ _ rfl _ _ _ _ _ _ rfl rfl rfl (Eq.refl 16) arr16_info (by decide) ?_)
    | (refine wpList_store_top rfl _ _ _ rfl _ _ _ _ _ rfl rfl (by simp) (Eq.refl 16) arr16_info (by decide) ?_))
  refine bodyPost_ret (results_row rfl rfl ((Row.new w _ _).alloc _) _ Tryz.underlying59 rfl arr16_info) rfl ?_
  exact ⟨rfl, (by repeat (first | exact Below.refl _ _ | assumption | refine bstep ?_ (by assumption) | refine Below.drew ?_ | refine Below.alloc ?_ (by first | (simp; done) | (simp; omega) | omega) _ | refine Below.setCell ?_ (by first | (simp; done) | (simp; omega) | omega) _))⟩
theorem row10_12 : r10V 12 = .agg #[.int .i64 5, .int .i64 10, .int .i64 10, .int .i64 10, .int .i64 10, .int .i64 11, .int .i64 7, .int .i64 11, .int .i64 5, .int .i64 10, .int .i64 10, .int .i64 4, .int .i64 10, .int .i64 17, .int .i64 7, .int .i64 11] := by
  unfold r10V
  rw [show rowR 12 = [5, 10, 10, 10, 10, 11, 7, 11, 5, 10, 10, 4, 10, 17, 7, 11] by decide +kernel]
  rfl
theorem rrow_12 (w : World) :
    Calls Tryz.prog 32 #[.int .i64 12] w fun e w' => e = .returned (r10V 12) ∧ Below w.heap.size w w' := by
  rw [row10_12]
  go_enter Tryz.func32, Tryz.ntmps32
  go_upto_region 3 with (first
    | (refine wpList_build rfl _ _ rfl #[.int .i64 4, .int .i64 4, .int .i64 4, .int .i64 4, .int .i64 4, .int .i64 4, .int .i64 7, .int .i64 4, .int .i64 4, .int .i64 4, .int .i64 4, .int .i64 4, .int .i64 4, .int .i64 4, .int .i64 7, .int .i64 4] (by kernel_rfl) ?_)
    | (refine wpList_store_top rfl _ _ _ rfl _ _ _ _ _ rfl rfl (by simp) (Eq.refl 16) arr16_info (by decide) ?_))
  go_wp2_with (first
    | (refine wpList_build rfl _ _ rfl #[.int .i64 5, .int .i64 10, .int .i64 10, .int .i64 10, .int .i64 10, .int .i64 11, .int .i64 7, .int .i64 11, .int .i64 5, .int .i64 10, .int .i64 10, .int .i64 4, .int .i64 10, .int .i64 17, .int .i64 7, .int .i64 11] (by kernel_rfl) ?_)
    | (refine wpList_load_top rfl 59 _ rfl _ _ _ _ rfl (by simp) _ Tryz.underlying59 rfl arr16_info ?_)
    | (refine wpList_store_next rfl _ _ _ rfl _ _ _ _ _ _ rfl rfl rfl (Eq.refl 16) arr16_info (by decide) ?_)
    | (refine wpList_store_top rfl _ _ _ rfl _ _ _ _ _ rfl rfl (by simp) (Eq.refl 16) arr16_info (by decide) ?_))
  refine bodyPost_ret (results_row rfl rfl ((Row.new w _ _).alloc _) _ Tryz.underlying59 rfl arr16_info) rfl ?_
  exact ⟨rfl, (by repeat (first | exact Below.refl _ _ | assumption | refine bstep ?_ (by assumption) | refine Below.drew ?_ | refine Below.alloc ?_ (by first | (simp; done) | (simp; omega) | omega) _ | refine Below.setCell ?_ (by first | (simp; done) | (simp; omega) | omega) _))⟩
theorem row10_13 : r10V 13 = .agg #[.int .i64 5, .int .i64 10, .int .i64 10, .int .i64 11, .int .i64 10, .int .i64 11, .int .i64 7, .int .i64 11, .int .i64 5, .int .i64 4, .int .i64 10, .int .i64 11, .int .i64 10, .int .i64 4, .int .i64 7, .int .i64 11] := by
  unfold r10V
  rw [show rowR 13 = [5, 10, 10, 11, 10, 11, 7, 11, 5, 4, 10, 11, 10, 4, 7, 11] by decide +kernel]
  rfl
theorem rrow_13 (w : World) :
    Calls Tryz.prog 32 #[.int .i64 13] w fun e w' => e = .returned (r10V 13) ∧ Below w.heap.size w w' := by
  rw [row10_13]
  go_enter Tryz.func32, Tryz.ntmps32
  go_upto_region 3 with (first
    | (refine wpList_build rfl _ _ rfl #[.int .i64 4, .int .i64 4, .int .i64 4, .int .i64 4, .int .i64 4, .int .i64 4, .int .i64 7, .int .i64 4, .int .i64 4, .int .i64 4, .int .i64 4, .int .i64 4, .int .i64 4, .int .i64 4, .int .i64 7, .int .i64 4] (by kernel_rfl) ?_)
    | (refine wpList_store_top rfl _ _ _ rfl _ _ _ _ _ rfl rfl (by simp) (Eq.refl 16) arr16_info (by decide) ?_))
  go_wp2_with (first
    | (refine wpList_build rfl _ _ rfl #[.int .i64 5, .int .i64 10, .int .i64 10, .int .i64 11, .int .i64 10, .int .i64 11, .int .i64 7, .int .i64 11, .int .i64 5, .int .i64 4, .int .i64 10, .int .i64 11, .int .i64 10, .int .i64 4, .int .i64 7, .int .i64 11] (by kernel_rfl) ?_)
    | (refine wpList_load_top rfl 59 _ rfl _ _ _ _ rfl (by simp) _ Tryz.underlying59 rfl arr16_info ?_)
    | (refine wpList_store_next rfl _ _ _ rfl _ _ _ _ _ _ rfl rfl rfl (Eq.refl 16) arr16_info (by decide) ?_)
    | (refine wpList_store_top rfl _ _ _ rfl _ _ _ _ _ rfl rfl (by simp) (Eq.refl 16) arr16_info (by decide) ?_))
  refine bodyPost_ret (results_row rfl rfl ((Row.new w _ _).alloc _) _ Tryz.underlying59 rfl arr16_info) rfl ?_
  exact ⟨rfl, (by repeat (first | exact Below.refl _ _ | assumption | refine bstep ?_ (by assumption) | refine Below.drew ?_ | refine Below.alloc ?_ (by first | (simp; done) | (simp; omega) | omega) _ | refine Below.setCell ?_ (by first | (simp; done) | (simp; omega) | omega) _))⟩
theorem row10_14 : r10V 14 = .agg #[.int .i64 5, .int .i64 10, .int .i64 10, .int .i64 19, .int .i64 10, .int .i64 11, .int .i64 7, .int .i64 11, .int .i64 5, .int .i64 4, .int .i64 10, .int .i64 4, .int .i64 10, .int .i64 4, .int .i64 7, .int .i64 11] := by
  unfold r10V
  rw [show rowR 14 = [5, 10, 10, 19, 10, 11, 7, 11, 5, 4, 10, 4, 10, 4, 7, 11] by decide +kernel]
  rfl
theorem rrow_14 (w : World) :
    Calls Tryz.prog 32 #[.int .i64 14] w fun e w' => e = .returned (r10V 14) ∧ Below w.heap.size w w' := by
  rw [row10_14]
  go_enter Tryz.func32, Tryz.ntmps32
  go_upto_region 3 with (first
    | (refine wpList_build rfl _ _ rfl #[.int .i64 4, .int .i64 4, .int .i64 4, .int .i64 4, .int .i64 4, .int .i64 4, .int .i64 7, .int .i64 4, .int .i64 4, .int .i64 4, .int .i64 4, .int .i64 4, .int .i64 4, .int .i64 4, .int .i64 7, .int .i64 4] (by kernel_rfl) ?_)
    | (refine wpList_store_top rfl _ _ _ rfl _ _ _ _ _ rfl rfl (by simp) (Eq.refl 16) arr16_info (by decide) ?_))
  go_wp2_with (first
    | (refine wpList_build rfl _ _ rfl #[.int .i64 5, .int .i64 10, .int .i64 10, .int .i64 19, .int .i64 10, .int .i64 11, .int .i64 7, .int .i64 11, .int .i64 5, .int .i64 4, .int .i64 10, .int .i64 4, .int .i64 10, .int .i64 4, .int .i64 7, .int .i64 11] (by kernel_rfl) ?_)
    | (refine wpList_load_top rfl 59 _ rfl _ _ _ _ rfl (by simp) _ Tryz.underlying59 rfl arr16_info ?_)
    | (refine wpList_store_next rfl _ _ _ rfl _ _ _ _ _ _ rfl rfl rfl (Eq.refl 16) arr16_info (by decide) ?_)
    | (refine wpList_store_top rfl _ _ _ rfl _ _ _ _ _ rfl rfl (by simp) (Eq.refl 16) arr16_info (by decide) ?_))
  refine bodyPost_ret (results_row rfl rfl ((Row.new w _ _).alloc _) _ Tryz.underlying59 rfl arr16_info) rfl ?_
  exact ⟨rfl, (by repeat (first | exact Below.refl _ _ | assumption | refine bstep ?_ (by assumption) | refine Below.drew ?_ | refine Below.alloc ?_ (by first | (simp; done) | (simp; omega) | omega) _ | refine Below.setCell ?_ (by first | (simp; done) | (simp; omega) | omega) _))⟩
theorem row10_15 : r10V 15 = .agg #[.int .i64 5, .int .i64 10, .int .i64 10, .int .i64 4, .int .i64 10, .int .i64 11, .int .i64 7, .int .i64 11, .int .i64 5, .int .i64 6, .int .i64 10, .int .i64 4, .int .i64 10, .int .i64 4, .int .i64 7, .int .i64 11] := by
  unfold r10V
  rw [show rowR 15 = [5, 10, 10, 4, 10, 11, 7, 11, 5, 6, 10, 4, 10, 4, 7, 11] by decide +kernel]
  rfl
theorem rrow_15 (w : World) :
    Calls Tryz.prog 32 #[.int .i64 15] w fun e w' => e = .returned (r10V 15) ∧ Below w.heap.size w w' := by
  rw [row10_15]
  go_enter Tryz.func32, Tryz.ntmps32
  go_upto_region 3 with (first
    | (refine wpList_build rfl _ _ rfl #[.int .i64 4, .int .i64 4, .int .i64 4, .int .i64 4, .int .i64 4, .int .i64 4, .int .i64 7, .int .i64 4, .int .i64 4, .int .i64 4, .int .i64 4, .int .i64 4, .int .i64 4, .int .i64 4, .int .i64 7, .int .i64 4] (by kernel_rfl) ?_)
    | (refine wpList_store_top rfl _ _ _ rfl _ _ _ _ _ rfl rfl (by simp) (Eq.refl 16) arr16_info (by decide) ?_))
  go_wp2_with (first
    | (refine wpList_build rfl _ _ rfl #[.int .i64 5, .int .i64 10, .int .i64 10, .int .i64 4, .int .i64 10, .int .i64 11, .int .i64 7, .int .i64 11, .int .i64 5, .int .i64 6, .int .i64 10, .int .i64 4, .int .i64 10, .int .i64 4, .int .i64 7, .int .i64 11] (by kernel_rfl) ?_)
    | (refine wpList_load_top rfl 59 _ rfl _ _ _ _ rfl (by simp) _ Tryz.underlying59 rfl arr16_info ?_)
    | (refine wpList_store_next rfl _ _ _ rfl _ _ _ _ _ _ rfl rfl rfl (Eq.refl 16) arr16_info (by decide) ?_)
    | (refine wpList_store_top rfl _ _ _ rfl _ _ _ _ _ rfl rfl (by simp) (Eq.refl 16) arr16_info (by decide) ?_))
  refine bodyPost_ret (results_row rfl rfl ((Row.new w _ _).alloc _) _ Tryz.underlying59 rfl arr16_info) rfl ?_
  exact ⟨rfl, (by repeat (first | exact Below.refl _ _ | assumption | refine bstep ?_ (by assumption) | refine Below.drew ?_ | refine Below.alloc ?_ (by first | (simp; done) | (simp; omega) | omega) _ | refine Below.setCell ?_ (by first | (simp; done) | (simp; omega) | omega) _))⟩
theorem rrow_any (k : Int) (hk : 0 ≤ k ∧ k ≤ 15) (w : World) :
    Calls Tryz.prog 32 #[.int .i64 k] w fun e w' => e = .returned (r10V k) ∧ Below w.heap.size w w' := by
  obtain rfl | rfl | rfl | rfl | rfl | rfl | rfl | rfl | rfl | rfl | rfl | rfl | rfl | rfl | rfl | rfl : k = 0 ∨ k = 1 ∨ k = 2 ∨ k = 3 ∨ k = 4 ∨ k = 5 ∨ k = 6 ∨ k = 7 ∨ k = 8 ∨ k = 9 ∨ k = 10 ∨ k = 11 ∨ k = 12 ∨ k = 13 ∨ k = 14 ∨ k = 15 := by omega
  · exact rrow_0 w
  · exact rrow_1 w
  · exact rrow_2 w
  · exact rrow_3 w
  · exact rrow_4 w
  · exact rrow_5 w
  · exact rrow_6 w
  · exact rrow_7 w
  · exact rrow_8 w
  · exact rrow_9 w
  · exact rrow_10 w
  · exact rrow_11 w
  · exact rrow_12 w
  · exact rrow_13 w
  · exact rrow_14 w
  · exact rrow_15 w
theorem row10_fin : ∀ c : Fin 256, (rowR ((c.val : Int) / 16))[((c.val : Int) % 16).toNat]? = some (unheldM (c.val : Int)) := by decide +kernel
theorem ix10 (c : Int) (hc : B8 c) (w : World) : (Instr.index 59 (r10V (c / 16)) (.int .i64 (c % 16))).run Tryz.prog w = .ok (.int .i64 (unheldM c)) w := by
  have h := byte_all (P := fun c => (rowR (c / 16))[(c % 16).toNat]? = some (unheldM c)) row10_fin c hc.1 hc.2
  unfold r10V
  refine run_index_arr Tryz.underlying59 (by kernel_rfl) (by kernel_rfl) ⟨by omega, by omega⟩ ?_
  simp only [List.getElem?_toArray, List.getElem?_map]
  rw [h]
  rfl
theorem more_fin : ∀ c : Fin 256, addedM (c.val : Int) = if (c.val : Int) = 16 ∨ (c.val : Int) = 32 ∨ (c.val : Int) = 40 ∨ (c.val : Int) = 48 ∨ (c.val : Int) = 56 then 5 else if fx (c.val : Int) = 3 ∧ fz (c.val : Int) = 0 then 6 else if fx (c.val : Int) = 3 ∧ fz (c.val : Int) = 4 then 7 else 0 := by decide +kernel
theorem more_all (c : Int) (hc : B8 c) : addedM c = if c = 16 ∨ c = 32 ∨ c = 40 ∨ c = 48 ∨ c = 56 then 5 else if fx c = 3 ∧ fz c = 0 then 6 else if fx c = 3 ∧ fz c = 4 then 7 else 0 :=
  byte_all (P := fun c => addedM c = if c = 16 ∨ c = 32 ∨ c = 40 ∨ c = 48 ∨ c = 56 then 5 else if fx c = 3 ∧ fz c = 0 then 6 else if fx c = 3 ∧ fz c = 4 then 7 else 0) more_fin c hc.1 hc.2
theorem rmore_any (c : Int) (hc : B8 c) (w : World) :
    Calls Tryz.prog 33 #[.int .u8 c] w fun e w' => e = .returned (.int .i64 (addedM c)) ∧ w = w' := by
  have hf := Lib.hid (rfields_any c hc)
  have hd := Lib.hid (more_all c hc)
  unfold five at hf
  generalize addedM c = A at *
  generalize fx c = x at *
  generalize fy c = y at *
  generalize fz c = z at *
  generalize fp c = p at *
  generalize fq c = q at *
  by_cases h5 : c = 16 ∨ c = 32 ∨ c = 40 ∨ c = 48 ∨ c = 56
  · have e : A = 5 := by rw [hd.out, if_pos h5]
    clear hd
    subst e
    obtain rfl | rfl | rfl | rfl | rfl := h5
    all_goals
      go_enter Tryz.func33, Tryz.ntmps33
      go_wp2_with (go_at_call 31; refine (hf.out _).mono ?_; rintro e w' ⟨rfl, rfl⟩)
      go_ret
      exact ⟨rfl, rfl⟩
  · have e1 : (c == 16) = false := by simp; omega
    have e2 : (c == 32) = false := by simp; omega
    have e3 : (c == 40) = false := by simp; omega
    have e4 : (c == 48) = false := by simp; omega
    have e5 : (c == 56) = false := by simp; omega
    have hd2 := Lib.hid (hd.out.trans (if_neg h5))
    clear hd h5
    by_cases x3 : x = 3
    · subst x3
      by_cases z0 : z = 0
      · subst z0
        have e : A = 6 := by rw [hd2.out]; simp
        clear hd2
        subst e
        go_enter Tryz.func33, Tryz.ntmps33
        go_wp2_with (go_at_call 31; refine (hf.out _).mono ?_; rintro e w' ⟨rfl, rfl⟩)
        go_ret
        exact ⟨rfl, rfl⟩
      · have z0' : (z == 0) = false := by simpa using z0
        by_cases z4 : z = 4
        · subst z4
          have e : A = 7 := by rw [hd2.out]; simp
          clear hd2
          subst e
          go_enter Tryz.func33, Tryz.ntmps33
          go_wp2_with (go_at_call 31; refine (hf.out _).mono ?_; rintro e w' ⟨rfl, rfl⟩)
          go_ret
          exact ⟨rfl, rfl⟩
        · have z4' : (z == 4) = false := by simpa using z4
          have e : A = 0 := by rw [hd2.out]; simp [z0, z4]
          clear hd2
          subst e
          go_enter Tryz.func33, Tryz.ntmps33
          go_wp2_with (go_at_call 31; refine (hf.out _).mono ?_; rintro e w' ⟨rfl, rfl⟩)
          go_ret
          exact ⟨rfl, rfl⟩
    · have x3' : (x == 3) = false := by simpa using x3
      have e : A = 0 := by rw [hd2.out]; simp [x3]
      clear hd2
      subst e
      go_enter Tryz.func33, Tryz.ntmps33
      go_wp2_with (go_at_call 31; refine (hf.out _).mono ?_; rintro e w' ⟨rfl, rfl⟩)
      go_ret
      exact ⟨rfl, rfl⟩
def extR (x y z : Int) (t : Bool) : Int := if x = 1 then (if z < 7 then singleT.getD z.toNat 0 else specialT.getD y.toNat 0) else if x = 2 ∧ z < 4 ∧ 4 ≤ y then (if t && decide (6 ≤ y) then 21 else 16) else 8
theorem tred_any (x y z : Int) (t : Bool) (hx : 0 ≤ x ∧ x ≤ 3) (hy : 0 ≤ y ∧ y ≤ 7) (hz : 0 ≤ z ∧ z ≤ 7) (w : World) :
    Calls Tryz.prog 35 #[.int .i64 x, .int .i64 y, .int .i64 z, .bool t] w fun e w' => e = .returned (.int .i64 (extR x y z t)) ∧ Below w.heap.size w w' := by
  by_cases x1 : x = 1
  · subst x1
    obtain rfl | rfl | rfl | rfl | rfl | rfl | rfl | rfl : z = 0 ∨ z = 1 ∨ z = 2 ∨ z = 3 ∨ z = 4 ∨ z = 5 ∨ z = 6 ∨ z = 7 := by omega
    case inr.inr.inr.inr.inr.inr.inr =>
      obtain rfl | rfl | rfl | rfl | rfl | rfl | rfl | rfl : y = 0 ∨ y = 1 ∨ y = 2 ∨ y = 3 ∨ y = 4 ∨ y = 5 ∨ y = 6 ∨ y = 7 := by omega
      all_goals
        go_enter Tryz.func35, Tryz.ntmps35
        go_wp2
        go_ret
        exact ⟨rfl, (by repeat (first | exact Below.refl _ _ | assumption | refine bstep ?_ (by assumption) | refine Below.drew ?_ | refine Below.alloc ?_ (by first | (simp; done) | (simp; omega) | omega) _ | refine Below.setCell ?_ (by first | (simp; done) | (simp; omega) | omega) _))⟩
    all_goals
      go_enter Tryz.func35, Tryz.ntmps35
      go_wp2
      go_ret
      exact ⟨rfl, (by repeat (first | exact Below.refl _ _ | assumption | refine bstep ?_ (by assumption) | refine Below.drew ?_ | refine Below.alloc ?_ (by first | (simp; done) | (simp; omega) | omega) _ | refine Below.setCell ?_ (by first | (simp; done) | (simp; omega) | omega) _))⟩
  · have x1' : (x != 1) = true := by simpa using x1
    by_cases x2 : x = 2
    · subst x2
      by_cases z4 : z < 4
      · by_cases y4 : 4 ≤ y
        · have e : extR 2 y z t = (if t && decide (6 ≤ y) then 21 else 16) := by unfold extR; simp [z4, y4]
          rw [e]
          have y3 : decide (3 < y) = true := by simp; omega
          by_cases y6 : 6 ≤ y
          · have y5 : decide (5 < y) = true := by simp; omega
            rw [decide_eq_true y6]
            clear e y6
            cases t
            · simp only [Bool.false_and, Bool.false_eq_true, if_false]
              go_enter Tryz.func35, Tryz.ntmps35
              go_wp2
              go_ret
              exact ⟨rfl, (by repeat (first | exact Below.refl _ _ | assumption | refine bstep ?_ (by assumption) | refine Below.drew ?_ | refine Below.alloc ?_ (by first | (simp; done) | (simp; omega) | omega) _ | refine Below.setCell ?_ (by first | (simp; done) | (simp; omega) | omega) _))⟩
            · simp only [Bool.true_and, if_true]
              go_enter Tryz.func35, Tryz.ntmps35
              go_wp2
              go_ret
              exact ⟨rfl, (by repeat (first | exact Below.refl _ _ | assumption | refine bstep ?_ (by assumption) | refine Below.drew ?_ | refine Below.alloc ?_ (by first | (simp; done) | (simp; omega) | omega) _ | refine Below.setCell ?_ (by first | (simp; done) | (simp; omega) | omega) _))⟩
          · have y5 : decide (5 < y) = false := by simp; omega
            rw [decide_eq_false y6]
            clear e y6
            simp only [Bool.and_false, Bool.false_eq_true, if_false]
            go_enter Tryz.func35, Tryz.ntmps35
            go_wp2
            go_ret
            exact ⟨rfl, (by repeat (first | exact Below.refl _ _ | assumption | refine bstep ?_ (by assumption) | refine Below.drew ?_ | refine Below.alloc ?_ (by first | (simp; done) | (simp; omega) | omega) _ | refine Below.setCell ?_ (by first | (simp; done) | (simp; omega) | omega) _))⟩
        · have e : extR 2 y z t = 8 := by unfold extR; simp [z4, y4]
          rw [e]
          clear e
          go_enter Tryz.func35, Tryz.ntmps35
          go_wp2
          go_ret
          exact ⟨rfl, (by repeat (first | exact Below.refl _ _ | assumption | refine bstep ?_ (by assumption) | refine Below.drew ?_ | refine Below.alloc ?_ (by first | (simp; done) | (simp; omega) | omega) _ | refine Below.setCell ?_ (by first | (simp; done) | (simp; omega) | omega) _))⟩
      · have e : extR 2 y z t = 8 := by unfold extR; simp [z4]
        rw [e]
        clear e
        go_enter Tryz.func35, Tryz.ntmps35
        go_wp2
        go_ret
        exact ⟨rfl, (by repeat (first | exact Below.refl _ _ | assumption | refine bstep ?_ (by assumption) | refine Below.drew ?_ | refine Below.alloc ?_ (by first | (simp; done) | (simp; omega) | omega) _ | refine Below.setCell ?_ (by first | (simp; done) | (simp; omega) | omega) _))⟩
    · have x2' : (x == 2) = false := by simpa using x2
      have e : extR x y z t = 8 := by unfold extR; simp [x1, x2]
      rw [e]
      clear e
      go_enter Tryz.func35, Tryz.ntmps35
      go_wp2
      go_ret
      exact ⟨rfl, (by repeat (first | exact Below.refl _ _ | assumption | refine bstep ?_ (by assumption) | refine Below.drew ?_ | refine Below.alloc ?_ (by first | (simp; done) | (simp; omega) | omega) _ | refine Below.setCell ?_ (by first | (simp; done) | (simp; omega) | omega) _))⟩
theorem near54 (p c : Int) (hc : B8 c) (hp : p = 3 ∨ p = 4) : reachM p c = (if nearM p c then 8 else 0) - (if c = 54 then 3 else 0) := by
  unfold reachM
  by_cases h : c = 54
  · subst h
    rcases hp with rfl | rfl <;> rfl
  · rw [if_neg h, if_neg h]
    omega
theorem of_eqR (p c s : Int) (t : Bool) (hp : ¬ (p < 0 ∨ 6 < p)) : ofM p c s t = wrap64 (netM p c t + wrap64 (4 * s)) := by
  rw [of_eq p c s t hp]
  unfold wrap64
  omega
theorem rTimesOf_any (p c d m le s : Int) (t : Bool) (hc : B8 c) (w : World) :
    Calls Tryz.prog 16 #[opV p c d m le s, .bool t] w fun e w' => e = .returned (.int .i64 (ofM p c s t)) ∧ Below w.heap.size w w' := by
  have bx := fields3 c hc
  have b1 := unheld_all c hc
  have b2 := added_all c hc
  have hc0 := hc.1
  have hc1 := hc.2
  have hk : 0 ≤ c / 16 ∧ c / 16 ≤ 15 := by omega
  have kf := Lib.hid (rfields_any c hc)
  have wc : IntKind.i64.wrap c = c := by rw [IntKind.wrap_i64]; omega
  have q1 : IntKind.i64.wrap ((IntKind.i64.wrap c).tdiv 16) = c / 16 := by rw [wc, Int.tdiv_eq_ediv_of_nonneg hc0, IntKind.wrap_i64]; omega
  have q2' : (IntKind.i64.wrap c).tmod 16 = c % 16 := by rw [wc, Int.tmod_eq_emod_of_nonneg hc0]
  have kr := Lib.hid (fun W => show Calls Tryz.prog 32 #[.int .i64 (IntKind.i64.wrap ((IntKind.i64.wrap c).tdiv 16))] W fun e w' => e = .returned (r10V (c / 16)) ∧ Below W.heap.size W w' by rw [q1]; exact rrow_any (c / 16) hk W)
  have kx := fun W => show (Instr.index 59 (r10V (c / 16)) (.int .i64 ((IntKind.i64.wrap c).tmod 16))).run Tryz.prog W = .ok (.int .i64 (unheldM c)) W by rw [q2']; exact ix10 c hc W
  clear q1 q2' wc
  have km := Lib.hid (rmore_any c hc)
  have kn := Lib.hid (drnear_any p c hc)
  have ke := Lib.hid (tred_any (fx c) (fy c) (fz c) t bx.1 bx.2.1 bx.2.2)
  have hq := Lib.hid (show ¬ (p < 0 ∨ 6 < p) → ofM p c s t = wrap64 (netM p c t + wrap64 (4 * s)) from of_eqR p c s t)
  have hn := Lib.hid (show netM p c t = if p = 0 then plainM c t else if p = 3 ∨ p = 4 then 4 + plainM c t + reachM p c else if p = 1 then bitsCM c else if p = 5 ∨ p = 6 then bitsNM c else if p = 2 then extR (fx c) (fy c) (fz c) t else 0 from rfl)
  have hr := Lib.hid (near54 p c hc)
  have hu := Lib.hid (show plainM c t = if t then unheldM c + addedM c else unheldM c from rfl)
  have hbc := Lib.hid (show bitsCM c = if fz c = 6 then (if fx c = 1 then 12 else 15) else 8 from rfl)
  have hbn := Lib.hid (show bitsNM c = if fx c = 1 then 20 else 23 from rfl)
  have hno := Lib.hid (of_no p c s t)
  have HB1 := Lib.hid ((Below.refl w.heap.size w).alloc (Nat.le_refl _) (.cells #[.int .i64 p, .int .u8 c, .int .u8 d, .int .u16 m, .int .i64 le, .int .i64 s] 35))
  have hs := row6c (Row.new w 35 #[.int .i64 p, .int .u8 c, .int .u8 d, .int .u16 m, .int .i64 le, .int .i64 s])
  have hsz := (Row.new w 35 #[.int .i64 p, .int .u8 c, .int .u8 d, .int .u16 m, .int .i64 le, .int .i64 s]).lt
  obtain ⟨bx, bY, bz⟩ := bx
  unfold five at kf
  generalize ofM p c s t = R at *
  generalize netM p c t = n at *
  generalize plainM c t = u1 at *
  generalize reachM p c = u2 at *
  generalize bitsCM c = u3 at *
  generalize bitsNM c = u4 at *
  generalize addedM c = ad at *
  generalize unheldM c = un at *
  generalize nearM p c = nr at *
  generalize fx c = x at *
  generalize fy c = y at *
  generalize fz c = z at *
  generalize r10V (c / 16) = rv at *
  go_enter Tryz.func16, Tryz.ntmps16
  go_upto_region 2 with (first
    | (go_at_call 31; refine (kf.out _).mono ?_; rintro e w' ⟨rfl, rfl⟩))
  generalize w.alloc (.cells #[.int .i64 p, .int .u8 c, .int .u8 d, .int .u16 m, .int .i64 le, .int .i64 s] 35) = W0 at *
  go_region_held3 (fun w' => w'.cell? ⟨w.heap.size, 0, none⟩ = some (.int .i64 p) ∧ w'.cell? ⟨w.heap.size, 1, none⟩ = some (.int .u8 c) ∧ w'.cell? ⟨w.heap.size, 2, none⟩ = some (.int .u8 d) ∧ w'.cell? ⟨w.heap.size, 3, none⟩ = some (.int .u16 m) ∧ w'.cell? ⟨w.heap.size, 4, none⟩ = some (.int .i64 le) ∧ w'.cell? ⟨w.heap.size, 5, none⟩ = some (.int .i64 s))
    (first | with_reducible assumption | exact hs | with_reducible exact keep6r hb (by with_reducible assumption))
    (first
    | (go_at_call 32; refine (kr.out _).mono ?_; rintro e w4 ⟨rfl, hb⟩; have HB4 := Lib.hid (HB1.out.trans ((Below.drew (Below.refl _ W0)).trans hb |>.mono HB1.out.size))))
  clear hs hb
  rename_i hH
  obtain ⟨l0, l1, l2, l3, l4, l5⟩ := hH
  have hu2 := Lib.hid (show u1 = un + (if t then ad else 0) by rw [hu.out]; cases t <;> simp)
  clear hu
  by_cases hp : p < 0 ∨ 6 < p
  · have e := hno.out hp
    obtain ⟨n0, n1, n2, n3, n4, n5, n6⟩ := plane_no p hp
    subst e
    clear hno hq hn hp hr hu2 hbc hbn
    cases t
    all_goals
      go_wp2_with (first
        | (go_at_call 33; refine (km.out _).mono ?_; rintro e w' ⟨rfl, rfl⟩))
      go_ret
      exact ⟨rfl, HB4.out⟩
  have e0 := Lib.hid (hq.out hp)
  clear hno hq
  obtain rfl | rfl | rfl | rfl | rfl | rfl | rfl : p = 0 ∨ p = 1 ∨ p = 2 ∨ p = 3 ∨ p = 4 ∨ p = 5 ∨ p = 6 := by omega
  · obtain rfl : n = u1 := by simpa using hn.out
    clear hn hp hr hbc hbn
    cases t
    all_goals
      go_wp2_with (first
        | (go_at_call 33; refine (km.out _).mono ?_; rintro e w' ⟨rfl, rfl⟩))
      have hu3 := hu2.out
      simp only [if_true, if_false, Bool.false_eq_true] at hu3
      go_ret
      refine ⟨ret_int ?_, HB4.out⟩
      rw [e0.out]
      congr 1
      omega
  · obtain rfl : n = u3 := by simpa using hn.out
    clear hn hp hr hu2 hbn
    by_cases z6 : z = 6 <;> by_cases x1 : x = 1
    all_goals
      (try subst z6)
      (try subst x1)
      (try have z6' : (z == 6) = false := by simpa using z6)
      (try have x1' : (x == 1) = false := by simpa using x1)
      cases t
      all_goals
        go_wp2_with (first
          | (go_at_call 33; refine (km.out _).mono ?_; rintro e w' ⟨rfl, rfl⟩))
        have e3 := hbc.out
        simp only [*, if_true, if_false] at e3
        go_ret
        refine ⟨ret_int ?_, HB4.out⟩
        rw [e0.out]
        congr 1
        omega
  · obtain rfl : n = extR x y z t := by simpa using hn.out
    clear hn hp hr hu2 hbn hbc
    generalize extR x y z t = n at *
    cases t
    all_goals
      go_wp2_with (first
        | (go_at_call 33; refine (km.out _).mono ?_; rintro e w' ⟨rfl, rfl⟩)
        | (go_at_call 35; refine (ke.out _).mono ?_; rintro e w5 ⟨rfl, hb⟩; have HB5 := Lib.hid (HB4.out.trans (hb.mono HB4.out.size)); have l5b := cell_kept l5 hb))
      go_ret
      refine ⟨ret_int ?_, HB5.out⟩
      rw [e0.out]
  · obtain rfl : n = 4 + u1 + u2 := by simpa using hn.out
    have hr2 := Lib.hid (hr.out (by omega))
    clear hn hp hbn hbc hr
    by_cases c54 : c = 54
    · rw [if_pos c54] at hr2
      subst c54
      cases nr <;> cases t
      all_goals
        go_wp2_with (first
          | (go_at_call 33; refine (km.out _).mono ?_; rintro e w' ⟨rfl, rfl⟩)
          | (go_at_call 34; refine (kn.out _).mono ?_; rintro e w' ⟨rfl, rfl⟩))
        have hr3 := hr2.out
        have hu3 := hu2.out
        simp only [if_true, if_false, Bool.false_eq_true] at hr3 hu3
        go_ret
        refine ⟨ret_int ?_, HB4.out⟩
        rw [e0.out]
        congr 1
        omega
    · rw [if_neg c54] at hr2
      have c54' : (c == 54) = false := by simpa using c54
      cases nr <;> cases t
      all_goals
        go_wp2_with (first
          | (go_at_call 33; refine (km.out _).mono ?_; rintro e w' ⟨rfl, rfl⟩)
          | (go_at_call 34; refine (kn.out _).mono ?_; rintro e w' ⟨rfl, rfl⟩))
        have hr3 := hr2.out
        have hu3 := hu2.out
        simp only [if_true, if_false, Bool.false_eq_true] at hr3 hu3
        go_ret
        refine ⟨ret_int ?_, HB4.out⟩
        rw [e0.out]
        congr 1
        omega
  · obtain rfl : n = 4 + u1 + u2 := by simpa using hn.out
    have hr2 := Lib.hid (hr.out (by omega))
    clear hn hp hbn hbc hr
    by_cases c54 : c = 54
    · rw [if_pos c54] at hr2
      subst c54
      cases nr <;> cases t
      all_goals
        go_wp2_with (first
          | (go_at_call 33; refine (km.out _).mono ?_; rintro e w' ⟨rfl, rfl⟩)
          | (go_at_call 34; refine (kn.out _).mono ?_; rintro e w' ⟨rfl, rfl⟩))
        have hr3 := hr2.out
        have hu3 := hu2.out
        simp only [if_true, if_false, Bool.false_eq_true] at hr3 hu3
        go_ret
        refine ⟨ret_int ?_, HB4.out⟩
        rw [e0.out]
        congr 1
        omega
    · rw [if_neg c54] at hr2
      have c54' : (c == 54) = false := by simpa using c54
      cases nr <;> cases t
      all_goals
        go_wp2_with (first
          | (go_at_call 33; refine (km.out _).mono ?_; rintro e w' ⟨rfl, rfl⟩)
          | (go_at_call 34; refine (kn.out _).mono ?_; rintro e w' ⟨rfl, rfl⟩))
        have hr3 := hr2.out
        have hu3 := hu2.out
        simp only [if_true, if_false, Bool.false_eq_true] at hr3 hu3
        go_ret
        refine ⟨ret_int ?_, HB4.out⟩
        rw [e0.out]
        congr 1
        omega
  · obtain rfl : n = u4 := by simpa using hn.out
    clear hn hp hr hu2 hbc
    by_cases x1 : x = 1
    all_goals
      (try subst x1)
      (try have x1' : (x == 1) = false := by simpa using x1)
      cases t
      all_goals
        go_wp2_with (first
          | (go_at_call 33; refine (km.out _).mono ?_; rintro e w' ⟨rfl, rfl⟩))
        have e3 := hbn.out
        simp only [*, if_true, if_false] at e3
        go_ret
        refine ⟨ret_int ?_, HB4.out⟩
        rw [e0.out]
        congr 1
        omega
  · obtain rfl : n = u4 := by simpa using hn.out
    clear hn hp hr hu2 hbc
    by_cases x1 : x = 1
    all_goals
      (try subst x1)
      (try have x1' : (x == 1) = false := by simpa using x1)
      cases t
      all_goals
        go_wp2_with (first
          | (go_at_call 33; refine (km.out _).mono ?_; rintro e w' ⟨rfl, rfl⟩))
        have e3 := hbn.out
        simp only [*, if_true, if_false] at e3
        go_ret
        refine ⟨ret_int ?_, HB4.out⟩
        rw [e0.out]
        congr 1
        omega
theorem bare_prefix (c : Int) : bareM 0 c = !(prefixed c) := by
  unfold bareM prefixed
  rw [if_pos (.inl rfl)]
  cases (c == 203) <;> cases (c == 221) <;> cases (c == 237) <;> cases (c == 253) <;> rfl
def codesG (g : Rg) : Rg := { g with mode := 0, halted := false }
def backG (g : Rg) : Rg := { g with iff1 := false, iff2 := false, pc := (g.pc - 1) % 65536 }
theorem codes_run (g : Rg) (c : Int) (ys : List Int) : nextOf (backG (codesG g)) (c :: ys) = afterOf { begG (codesG g) false false with pc := ((g.pc - 1) % 65536 + 1) % 65536 } c ys := by kernel_rfl
theorem codes_next (g : Rg) (hp : 0 ≤ g.pc ∧ g.pc ≤ 65535) (c : Int) (ys : List Int) : nextOf (backG (codesG g)) (c :: ys) = afterOf (begG (codesG g) false false) c ys := by
  rw [codes_run, show ((g.pc - 1) % 65536 + 1) % 65536 = g.pc by omega]
  rfl
theorem RgB.back {g : Rg} (h : RgB g) : RgB (backG g) := ⟨h.af, h.bc, h.de, h.hl, h.af2, h.bc2, h.de2, h.hl2, h.ix, h.iy, h.sp, by show Wd16 ((g.pc - 1) % 65536); exact ⟨by omega, by omega⟩, h.wz, h.i, h.r, h.mode⟩
theorem ac_eq16 (x : Int) (w : World) : (binOp .eql 22 (.int .u16 x) (.int .u16 x)).run Tryz.prog w = .ok (.bool true) w := by simp [go_sem]
theorem ac_neI (x y : Int) (w : World) : (binOp .neq 3 (.int .i64 x) (.int .i64 y)).run Tryz.prog w = .ok (.bool (x != y)) w := by simp [go_sem, bne]
structure CodS where
  got : List Int
  v : Value
  y : Nat → Value
def codB (h : Nat) (code : Int) (A : Option Addr) (n cap : Nat) (x : CodS) : List Value := [x.y 0, .int .u8 code, .slice A n cap, .pointer (some ⟨h, 0, none⟩), x.y 4, x.y 5, x.y 6, x.y 7, x.v, x.y 9, x.y 10, x.y 11, x.y 12, x.y 13, x.y 14, x.y 15, x.y 16, x.y 17, x.y 18, x.y 19, x.y 20, x.y 21, x.y 22, x.y 23, x.y 24, x.y 25, x.y 26, x.y 27, x.y 28, x.y 29, x.y 30, x.y 31, x.y 32, x.y 33, x.y 34, x.y 35, x.y 36, x.y 37, x.y 38, x.y 39, x.y 40, x.y 41, x.y 42, x.y 43, x.y 44, x.y 45, x.y 46, x.y 47, x.y 48, x.y 49, x.y 50, x.y 51, x.y 52, x.y 53, x.y 54, x.y 55, x.y 56, x.y 57, x.y 58, x.y 59, x.y 60, x.y 61, x.y 62, x.y 63, x.y 64, x.y 65, x.y 66, x.y 67, x.y 68, x.y 69, x.y 70, x.y 71, x.y 72, x.y 73, x.y 74, x.y 75, x.y 76, x.y 77, x.y 78, x.y 79, x.y 80, x.y 81, x.y 82, x.y 83, x.y 84, x.y 85, x.y 86, x.y 87, x.y 88, x.y 89, x.y 90, x.y 91, x.y 92, x.y 93, x.y 94, x.y 95, x.y 96, x.y 97, x.y 98, x.y 99, x.y 100, x.y 101, x.y 102, x.y 103, x.y 104, x.y 105, x.y 106, x.y 107, x.y 108, x.y 109, x.y 110, x.y 111, x.y 112, x.y 113, x.y 114, x.y 115, x.y 116, x.y 117, x.y 118, x.y 119, x.y 120, x.y 121, x.y 122, x.y 123, x.y 124, x.y 125, x.y 126]
def codI (code : Int) (xs : List Int) (w6 : World) (x : CodS) (W : World) : Prop := Below w6.heap.size w6 W ∧ W.ownsRow w6.heap.size 5 1 x.v x.got.length (bvs x.got) ∧ (∃ m, x.got = code :: (xs ++ List.replicate m 3)) ∧ x.got.length ≤ 21
theorem acceptCodes_walk (g : Rg) (code : Int) (A : Option Addr) (cap : Nat) (xs : List Int) (hv0 : 0 ≤ code) (hv1 : code ≤ 255) (hg : RgB g) (w : World) (hc : xs.length ≤ cap) (hm : cap ≤ maxLen) (h8 : Bytes8 xs) (hin : BytesIn w w.heap.size A xs) (hn : A = none → cap = 0) (hM : Masks w) (hD : Digits w) (hC : Courses w) (hO : Modes w) :
    Calls Tryz.prog 5 #[regsV g, .int .u8 code, .slice A xs.length cap] w fun e w' => e = .returned (.bool true) ∧ Below w.heap.size w w' := by
  have ht : Tabs w w.heap.size := (NextTabs.mk hM hC hD hO).tabs
  have hv : B8 code := ⟨hv0, hv1⟩
  obtain ⟨G, hG⟩ : ∃ G : Rg, G = codesG g := ⟨_, rfl⟩
  have hGb : RgB G := by subst hG; exact ⟨hg.af, hg.bc, hg.de, hg.hl, hg.af2, hg.bc2, hg.de2, hg.hl2, hg.ix, hg.iy, hg.sp, hg.pc, hg.wz, hg.i, hg.r, by show _ ≤ (0 : Int) ∧ (0 : Int) ≤ _; omega⟩
  have hGm : G.mode = 0 := by rw [hG]; rfl
  have hGp : G.pc = g.pc := by rw [hG]; rfl
  go_enter Tryz.func5, Tryz.ntmps5
  refine coStart <| qQ [] (Many.begin w) fun w1 k1 => coR <| qC (awake13_any w1 (ht.below k1.touch.below)) k1 fun w2 k2 => qE [] k2 fun w3 k3 => coS <| qQ [] k3 fun w4 k4 => coF <| coSkip <| eoT <| coS <| qQ [] k4 fun w5 k5 => coI (decide ((xs.length : Int) > 20)) (fun _ => qQ [] k5 fun w k => coRet <| eoTr <| eoIr (.bool true) ⟨rfl, k.touch.below⟩) fun hle => coSkip <| eoT <| qQ [0] k5 fun w5 k5 => qQ [0] k5 fun w5 k5 => qQ [] k5 fun w6 k6 => coR <| qR 3 [] k6 fun w7 k7 => ?_
  have hle : xs.length ≤ 20 := by have : ¬ ((xs.length : Int) > 20) := by simpa using hle
                                  omega
  have r7 : Row w7 w.heap.size 24 (regsC G) := by rw [hG]; exact k7.row 0 (regsC { g with mode := 0, halted := false }).toList (by kernel_rfl)
  have hB7 := k7.touch.below
  refine qA (.tmp 29) (.tmp 31) w7 w7.heap.size w7.heap.size (.slice none 0 0) 0 [] (some ⟨w6.heap.size, 0, none⟩) 1 [code] (Below.refl ..) (Nat.le_refl _) (Nat.le_refl _) (World.ownsRow_nil ..) (k7.byte (t := 5) 1 (by kernel_rfl)) (fun e => by cases e) (by simp) fun v8 w8 own8 hB8 hs8 => qE [] (Many.begin w8) fun w9 k9 => coR <| qR 2 [] k9 fun wa ka => ?_
  have hin7 : BytesIn w7 w7.heap.size A xs := (hin.below hB7).more hB7.size
  have ht7 := ht.below hB7
  have hBa := bOn hB8 ka
  have owna := own_below own8 ka.touch.below
  rw [List.nil_append] at owna
  refine qA (.tmp 33) (.tmp 34) w7 w7.heap.size w7.heap.size v8 (0 + [code].length) [code] A cap xs hBa (Nat.le_refl _) hBa.size owna (hin7.below hBa) hn (by simp; omega) fun vb wb ownb hBb hsb => qE [] (Many.begin wb) fun wc kc => coS <| coB <| coLoop (codB w.heap.size code A xs.length cap) (codI code xs w7) (fun x => 21 - x.got.length) (fun y => ⟨code :: xs, vb, y⟩) ⟨bOn hBb kc, ?_, ⟨0, by simp⟩, by show (code :: xs).length ≤ 21; simp; omega⟩ ?_
  · have := own_below ownb kc.touch.below
    show wc.ownsRow _ _ _ vb (code :: xs).length (bvs (code :: xs))
    rwa [show 0 + [code].length + xs.length = (code :: xs).length by simp; omega, List.singleton_append] at this
  clear kc ownb hBb hsb owna hBa ka k9 own8 hB8 hs8 k7 k6 k5 k4 k3 k2 k1
  rintro ⟨got, v, y⟩ W ⟨hB, own, ⟨m, hgot⟩, h21⟩
  have hB : Below w7.heap.size w7 W := hB
  have own : W.ownsRow w7.heap.size 5 1 v got.length (bvs got) := own
  have h21 : got.length ≤ 21 := h21
  have hgt : got = code :: (xs ++ List.replicate m 3) := hgot
  clear hgot
  obtain ⟨Av, cv, rfl, hcv, hby, hnn⟩ := own_slice own
  refine coS <| qQ [] (Many.begin W) fun wa ka => coI (decide ((got.length : Int) < 20)) (fun hlt => coSkip <| eoT <| coB <| coZ <| qR 2 [] ka fun wb kb => ?_) fun hge => coX <| eoTx <| eoTx <| eoBx <| eoT ?_
  · have hlt : got.length < 20 := by have : (got.length : Int) < 20 := by simpa using hlt
                                     omega
    refine qA (.tmp 39) (.tmp 40) w7 w7.heap.size wb.heap.size (.slice Av got.length cv) got.length got (some ⟨wa.heap.size, 0, none⟩) 1 [3] (bOn hB kb) (Nat.le_refl _) (bOn hB kb).size (own_below own kb.touch.below) (kb.byte (t := 5) 0 (by kernel_rfl)) (fun e => by cases e) (by show got.length + 1 ≤ _; omega) fun v' w' own' hB' hs' => qF [] (Many.begin w') fun w'' k'' => eoB <| eoRound (fun y => ⟨got ++ [3], v', y⟩) ⟨bOn hB' k'', ?_, ⟨m + 1, by show got ++ [3] = _; rw [hgt, List.cons_append, List.append_assoc, List.replicate_succ']⟩, by show (got ++ [3]).length ≤ 21; simp; omega⟩ (by show 21 - (got ++ [3]).length < 21 - got.length; simp; omega)
    show w''.ownsRow _ _ _ v' (got ++ [3]).length _
    rw [List.length_append]
    exact own_below own' k''.touch.below
  · obtain ⟨ys, hys⟩ : ∃ ys, ys = xs ++ List.replicate m 3 := ⟨_, rfl⟩
    have hgc : got = code :: ys := by rw [hgt, hys]
    have y8 : Bytes8 ys := by rw [hys]; exact fun x hx => (List.mem_append.1 hx).elim (h8 x) fun h => by rw [(List.mem_replicate.1 h).2]; exact ⟨by decide, by decide⟩
    have g8 : Bytes8 got := by rw [hgc]; exact fun x hx => by
                                 rcases List.mem_cons.1 hx with rfl | h
                                 · exact hv
                                 · exact y8 x h
    have hBa := bOn hB ka
    have fin : ∀ wz, Below w7.heap.size w7 wz → Below w.heap.size w wz := fun wz h => hB7.trans (h.mono hB7.size)
    have rR : ∀ wz, Below w7.heap.size w7 wz → Row wz w.heap.size 24 (regsC G) := fun wz h => r7.below h r7.lt
    have cP : ∀ wz, Below w7.heap.size w7 wz → wz.cell? ⟨w.heap.size, 11, none⟩ = some (.int .u16 G.pc) := fun wz h => (rR wz h).cell 11
    have cS : ∀ wz, Below w7.heap.size w7 wz → wz.cell? ⟨w.heap.size, 10, none⟩ = some (.int .u16 G.sp) := fun wz h => (rR wz h).cell 10
    have hba : BytesIn wa wa.heap.size Av got := (hby.below ka.touch.below).more ka.touch.size
    clear rR cP cS hby own hgt hB ka
    have rR : ∀ wz, Below wa.heap.size wa wz → Row wz w.heap.size 24 (regsC G) := fun wz h => r7.below (hBa.trans (h.mono hBa.size)) r7.lt
    have cP : ∀ wz, Below wa.heap.size wa wz → wz.cell? ⟨w.heap.size, 11, none⟩ = some (.int .u16 G.pc) := fun wz h => (rR wz h).cell 11
    have cS : ∀ wz, Below wa.heap.size wa wz → wz.cell? ⟨w.heap.size, 10, none⟩ = some (.int .u16 G.sp) := fun wz h => (rR wz h).cell 10
    have fin : ∀ wz, Below wa.heap.size wa wz → Below w.heap.size w wz := fun wz h => fin wz (hBa.trans (h.mono hBa.size))
    have hta := ht7.below hBa
    clear hBa
    have hBa : Below wa.heap.size wa wa := Below.refl ..
    obtain ⟨n, hnE⟩ : ∃ n, n = accTakes G 2 got := ⟨_, rfl⟩
    have KS : ∀ W, Below wa.heap.size wa W → Calls Tryz.prog 13 #[regsV G, .int .i64 2, .slice Av got.length cv] W fun e w' => e = .returned (.int .i64 n) ∧ Below W.heap.size W w' := fun W hW => by
      rw [hnE]; exact astates_any G hGb 2 Av cv got hcv g8 (by omega) W ((hba.below hW).more hW.size) (hta.below hW)
    obtain ⟨X, hX⟩ : ∃ X, X = accOf G 2 got := ⟨_, rfl⟩
    have KN : ∀ W, Below wa.heap.size wa W → Calls Tryz.prog 9 #[regsV G, .int .i64 2, .slice Av got.length cv] W fun e w' => e = .returned X.v ∧ Below W.heap.size W w' := fun W hW => by
      rw [hX]; exact accept_any G hGb 2 Av cv got hcv g8 (by omega) W ((hba.below hW).more hW.size) (hta.below hW)
    refine qQ [0] (Many.begin wa) fun wb kb => coR <| wM (xLoad (ldR (rR _ (bOn hBa kb)).range)) <| qR 1 [] kb fun wc kc => qC (KS wc (bOn hBa kc)) kc fun wd kd => qE [] kd fun we ke => coS <| coR <| qR 1 [0] ke fun wf kf => qC (bare_any 0 code 0 0 0 0 wf) kf fun wg kg => qE [] kg fun wh kh => ?_
    cases hp : prefixed code with
    | true =>
      have hbr : bareM 0 code = false := by rw [bare_prefix, hp]; rfl
      obtain rfl : n = 6 := by rw [hnE, hgc]; exact acc_prefix hGm hp ys
      have hXe : X = endT (begG G false false) := by rw [hX, hgc, irq_zero hGm, if_pos hp]
      rw [hXe] at KN
      refine coI (!(bareM 0 code)) (fun _ => ?_) (fun h => by rw [hbr] at h; cases h)
      refine coR <| wM (xLoad (ldR (rR _ (bOn hBa kh)).range)) <| qR 1 [] kh fun wi ki => qC (KN wi (bOn hBa ki)) ki fun wj kj => qE [1, 2] kj fun wk kk => coR <| qR 9 [2] kk fun wl kl => wM (xLoad (ldA (cP _ (bOn hBa kl)))) <| kBj 67 (.int .u16 G.pc) (.int .u16 G.pc) (.bool true) (eg16 _ _ _ _ _) (ac_eq16 _) <| qR 5 [2] kl fun wm km => wM (xLoad (ldA (cS _ (bOn hBa km)))) <| kBj 74 (.int .u16 G.sp) (.int .u16 G.sp) (.bool true) (eg16 _ _ _ _ _) (ac_eq16 _) <| qE [2, 2] km fun wn kn => coRet <| eoTr <| eoIr (.bool true) ⟨rfl, fin _ (bOn hBa kn)⟩
    | false =>
      have hbr : bareM 0 code = true := by rw [bare_prefix, hp]; rfl
      obtain ⟨t, htE⟩ := acc_zero hGm hv hp y8
      rw [← hgc, ← hnE] at htE
      have o1 : ∀ t, ofM 0 code 0 t = netM 0 code t := fun t => by rw [of_small 0 code 0 t ⟨by omega, by omega⟩ ⟨by omega, by omega⟩ hv]; omega
      have nb := fun t => net_le 0 code t hv
      have KF := rTimesOf_any 0 code 0 0 0 0 false hv
      have KT := rTimesOf_any 0 code 0 0 0 0 true hv
      rw [o1] at KF KT
      obtain ⟨nf, hnf⟩ : ∃ a, a = netM 0 code false := ⟨_, rfl⟩
      obtain ⟨nt, hnt⟩ : ∃ a, a = netM 0 code true := ⟨_, rfl⟩
      rw [← hnf] at KF
      rw [← hnt] at KT
      have bf := nb false
      have bt := nb true
      rw [← hnf] at bf
      rw [← hnt] at bt
      have KZ : ∀ W, Below wa.heap.size wa W → Calls Tryz.prog 17 #[regsV (backG G), .slice Av got.length cv] W fun e w' => e = .returned X.v ∧ Below W.heap.size W w' := fun W hW => by
        have := ac_rnext (backG G) hGb.back Av cv got hcv g8 (by omega) W ((hba.below hW).more hW.size)
        have e : X = ofX (nextOf (backG G) got) := by
          rw [hX, hgc, irq_zero hGm, if_neg (by rw [hp]; simp), hG, codes_next g hg.pc]
        rw [e]
        exact this
      refine coI (!(bareM 0 code)) (fun h => by rw [hbr] at h; cases h) (fun _ => ?_)
      refine coSkip <| eoT <| coS <| coR <| qR 2 [0] kh fun wi ki => qC (KF wi) ki fun wj kj => kBj 89 (.int .i64 nf) (.int .i64 2) (.int .i64 (nf + 2)) (egI _ _ _ _ _) (bAddI' _ _ (by omega) (by omega)) <| kBj 90 (.int .i64 n) (.int .i64 (nf + 2)) (.bool (n != nf + 2)) (egI _ _ _ _ _) (ac_neI _ _) <| ?_
      by_cases hq : n = nf + 2
      · refine tell 90 (show (n != nf + 2) = false by simp [hq]) <| qE [] kj fun wk kk => coF <| coSkip <| eoT <| coR <| wM (xLoad (ldR (rR _ (bOn hBa kk)).range)) <| qE [1] kk fun xa qa => qQ [1] qa fun xb qb => qQ [1] qb fun xc qc => coR <| qR 1 [] qc fun xd qd => wM (xLoad (ldA (cP _ (bOn hBa qd)))) <| qE [1] qd fun xe qe => coR <| wM (xLoad (ldR (rR _ (bOn hBa qe)).range)) <| qR 1 [] qe fun xf qf => qC (KN xf (bOn hBa qf)) qf fun xg qg => qE [2, 3] qg fun xh qh => coR <| qR 2 [1] qh fun xi qi => qC (KZ xi (bOn hBa qi)) qi fun xj qj => qE [4, 5] qj fun xk qk => coR <| qR 2 [] qk fun xl ql => kBj 121 (.bool X.b) (.bool X.b) (.bool true) (ac_egB _ _ _ _ _) (ac_eqB _) <| qR 3 [3, 5] ql fun xm qm => kBj 125 (regsV X.g) (regsV X.g) (.bool true) (regs_guard _ _ _ _ _) (regs_eql _) <| qE [] qm fun xn qn => coRet <| eoIr (.bool true) ⟨rfl, fin _ (bOn hBa qn)⟩
      · have hnt2 : n = nt + 2 := by
          cases t with
          | false => exact absurd (htE.trans (by rw [hnf])) hq
          | true => rw [htE, hnt]
        refine tell 90 (show (n != nf + 2) = true by simp [hq]) <| qR 3 [0] kj fun wk kk => qC (KT wk) kk fun wk kk => kBj 95 (.int .i64 nt) (.int .i64 2) (.int .i64 (nt + 2)) (egI _ _ _ _ _) (bAddI' _ _ (by omega) (by omega)) <| kBj 96 (.int .i64 n) (.int .i64 (nt + 2)) (.bool false) (egI _ _ _ _ _) (fun w => by rw [hnt2]; exact ac_ne _ w) <| qE [] kk fun wk kk => coF <| coSkip <| eoT <| coR <| wM (xLoad (ldR (rR _ (bOn hBa kk)).range)) <| qE [1] kk fun xa qa => qQ [1] qa fun xb qb => qQ [1] qb fun xc qc => coR <| qR 1 [] qc fun xd qd => wM (xLoad (ldA (cP _ (bOn hBa qd)))) <| qE [1] qd fun xe qe => coR <| wM (xLoad (ldR (rR _ (bOn hBa qe)).range)) <| qR 1 [] qe fun xf qf => qC (KN xf (bOn hBa qf)) qf fun xg qg => qE [2, 3] qg fun xh qh => coR <| qR 2 [1] qh fun xi qi => qC (KZ xi (bOn hBa qi)) qi fun xj qj => qE [4, 5] qj fun xk qk => coR <| qR 2 [] qk fun xl ql => kBj 121 (.bool X.b) (.bool X.b) (.bool true) (ac_egB _ _ _ _ _) (ac_eqB _) <| qR 3 [3, 5] ql fun xm qm => kBj 125 (regsV X.g) (regsV X.g) (.bool true) (regs_guard _ _ _ _ _) (regs_eql _) <| qE [] qm fun xn qn => coRet <| eoIr (.bool true) ⟨rfl, fin _ (bOn hBa qn)⟩
end Go.Proofs.YtmnddlkhgajenaaGreatDoor
