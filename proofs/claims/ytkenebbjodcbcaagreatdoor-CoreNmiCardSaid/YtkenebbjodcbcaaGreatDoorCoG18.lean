/- Contracts and facts that the claim's proof wants (several texts in one). -/
import Derived.Deep.MidRow
import Derived.Test.YtkenebbjodcbcaaGreatDoorCoG1
import Derived.Test.YtkenebbjodcbcaaGreatDoorCoG2
import Derived.Test.YtkenebbjodcbcaaGreatDoorCoG3
import Derived.Test.YtkenebbjodcbcaaGreatDoorCoG4
import Derived.Test.YtkenebbjodcbcaaGreatDoorCoG5
import Derived.Test.YtkenebbjodcbcaaGreatDoorCoG7
import Derived.Test.YtkenebbjodcbcaaGreatDoorCoG8
import Derived.Test.YtkenebbjodcbcaaGreatDoorCoG9
import Derived.Test.YtkenebbjodcbcaaGreatDoorCoG10
import Derived.Test.YtkenebbjodcbcaaGreatDoorCoG13
import Derived.Test.YtkenebbjodcbcaaGreatDoorCoG15
import Derived.Test.YtkenebbjodcbcaaGreatDoorCoG16
import Derived.Test.YtkenebbjodcbcaaGreatDoorCoG17
namespace Go.Proofs.YtkenebbjodcbcaaGreatDoor
open Go.RowKit
set_option linter.unusedVariables false
set_option linter.unusedSimpArgs false
set_option maxRecDepth 20000
set_option maxHeartbeats 20000000
@[reducible] def wC (s : Ws) (A : Option Addr) (n cap : Nat) (z : Zs) : Array Value := #[.int .u16 s.r.af, .int .u16 s.r.bc, .int .u16 s.r.de, .int .u16 s.r.hl, .int .u16 s.r.af2, .int .u16 s.r.bc2, .int .u16 s.r.de2, .int .u16 s.r.hl2, .int .u16 s.r.ix, .int .u16 s.r.iy, .int .u16 s.r.sp, .int .u16 s.r.pc, .int .u16 s.r.wz, .int .u8 s.r.i, .int .u8 s.r.r, .bool s.r.iff1, .bool s.r.iff2, .bool s.r.halted, .bool s.r.late, .int .i64 s.r.mode, .slice A n cap, .int .i64 (z.pos : Int), .bool z.lacks, .int .i64 z.asked.kind, .int .u16 z.asked.addr, .int .u8 z.asked.data, .int .i64 z.asked.t, .int .i64 s.plane, .int .u8 s.code, .int .u16 s.m, .bool s.known]
structure AtW (w : World) (p B : Nat) (s : Ws) (xs : List Int) (z : Zs) : Prop where
  row : ∃ A cap, xs.length ≤ cap ∧ Row w p 112 (wC s A xs.length cap z) ∧ BytesIn w B A xs
  low : B ≤ p
  bytes : Bytes8 xs
  ms : WsB s
  pos : z.pos ≤ xs.length
  big : xs.length ≤ 1000000000000000
theorem AtW.lt {w : World} {p B : Nat} {s : Ws} {xs : List Int} {z : Zs} (h : AtW w p B s xs z) : p < w.heap.size := by
  obtain ⟨A, cap, hc, hr, hb⟩ := h.row
  exact hr.lt
theorem AtW.below {w w' : World} {p B : Nat} {s : Ws} {xs : List Int} {z : Zs} (h : AtW w p B s xs z) (k : Below w.heap.size w w') : AtW w' p B s xs z := by
  have hp := h.lt
  obtain ⟨⟨A, cap, hc, hr, hb⟩, hl, h8, hm, ht, hg⟩ := h
  exact ⟨⟨A, cap, hc, hr.below k hp, hb.keep fun b hlt => k.block b (by omega)⟩, hl, h8, hm, ht, hg⟩
theorem AtW.drew {w : World} {p B : Nat} {s : Ws} {xs : List Int} {z : Zs} (h : AtW w p B s xs z) : AtW w.drew p B s xs z := by
  obtain ⟨⟨A, cap, hc, hr, hb⟩, hl, h8, hm, ht, hg⟩ := h
  exact ⟨⟨A, cap, hc, hr, hb⟩, hl, h8, hm, ht, hg⟩
theorem AtW.cell {w : World} {p B : Nat} {s : Ws} {xs : List Int} {z : Zs} (h : AtW w p B s xs z) (i : Nat) (V : Value) (hV : ∀ A n cap, (wC s A n cap z)[i]? = some V) : w.cell? ⟨p, i, none⟩ = some V := by
  obtain ⟨A, cap, hc, hr, hb⟩ := h.row
  rw [hr.cell i]
  exact hV ..
theorem AtW.frozen {w : World} {p B : Nat} {s : Ws} {xs : List Int} {z : Zs} (h : AtW w p B s xs z) (i : Nat) : w.frozen? ⟨p, i, none⟩ = false := by
  obtain ⟨A, cap, hc, hr, hb⟩ := h.row
  exact hr.frozen i
theorem AtW.regs {w : World} {p B : Nat} {s : Ws} {xs : List Int} {z : Zs} (h : AtW w p B s xs z) : w.rangeAt p 0 (regsC s.r).toList := by
  obtain ⟨A, cap, hc, hr, hb⟩ := h.row
  intro j v hv
  rw [Nat.zero_add, hr.cell j]
  have hj : j < 20 := (List.getElem?_eq_some_iff.1 hv).1
  revert hv
  match j, hj with
  | 0, _ => exact id
  | 1, _ => exact id
  | 2, _ => exact id
  | 3, _ => exact id
  | 4, _ => exact id
  | 5, _ => exact id
  | 6, _ => exact id
  | 7, _ => exact id
  | 8, _ => exact id
  | 9, _ => exact id
  | 10, _ => exact id
  | 11, _ => exact id
  | 12, _ => exact id
  | 13, _ => exact id
  | 14, _ => exact id
  | 15, _ => exact id
  | 16, _ => exact id
  | 17, _ => exact id
  | 18, _ => exact id
  | 19, _ => exact id
  | n + 20, h => omega
theorem AtW.set {w : World} {p B : Nat} {s : Ws} {xs : List Int} {z : Zs} (h : AtW w p B s xs z) (i : Nat) (v : Value) (s' : Ws) (hs : ∀ A n cap, (wC s A n cap z).setIfInBounds i v = wC s' A n cap z) (hb : WsB s') : AtW (w.setCell ⟨p, i, none⟩ v) p B s' xs z := by
  have hp := h.lt
  obtain ⟨⟨A, cap, hc, hr, hby⟩, hl, h8, hm, ht, hg⟩ := h
  have k : ∀ b, b < B → (w.setCell ⟨p, i, none⟩ v).heap[b]? = w.heap[b]? := fun b hlt => Below.heap_setCell w _ v b (by show b ≠ p; omega)
  refine ⟨⟨A, cap, hc, ?_, hby.keep k⟩, hl, h8, hb, ht, hg⟩
  have := hr.set i v
  rwa [hs] at this
structure NowW (w0 : World) (p B : Nat) (s : Ws) (xs : List Int) (z : Zs) (w : World) : Prop where
  at_ : AtW w p B s xs z
  bes : Besides p p w0 w
theorem NowW.begin {w : World} {p B : Nat} {s : Ws} {xs : List Int} {z : Zs} (h : AtW w p B s xs z) : NowW w p B s xs z w := ⟨h, .refl ..⟩
theorem NowW.below {w0 w w' : World} {p B : Nat} {s : Ws} {xs : List Int} {z : Zs} (h : NowW w0 p B s xs z w) (k : Below w.heap.size w w') : NowW w0 p B s xs z w' := ⟨h.at_.below k, h.bes.trans (.of_below k)⟩
theorem NowW.drew {w0 w : World} {p B : Nat} {s : Ws} {xs : List Int} {z : Zs} (h : NowW w0 p B s xs z w) : NowW w0 p B s xs z w.drew := ⟨h.at_.drew, h.bes.drew⟩
theorem NowW.set {w0 w : World} {p B : Nat} {s : Ws} {xs : List Int} {z : Zs} (h : NowW w0 p B s xs z w) (i : Nat) (v : Value) (s' : Ws) (hs : ∀ A n cap, (wC s A n cap z).setIfInBounds i v = wC s' A n cap z) (hb : WsB s') : NowW w0 p B s' xs z (w.setCell ⟨p, i, none⟩ v) :=
  ⟨h.at_.set i v s' hs hb, h.bes.setCell (.inl rfl) v⟩
theorem NowW.after {w0 w w' : World} {p B : Nat} {s s' : Ws} {xs xs' : List Int} {z z' : Zs} (h : NowW w0 p B s xs z w) (k : NowW w p B s' xs' z' w') : NowW w0 p B s' xs' z' w' := ⟨k.at_, h.bes.trans k.bes⟩
def OutX (w0 : World) (p B : Nat) (k : IntKind) (xs : List Int) (X : (Int × Ws) × Zs) : Ending → World → Prop := fun e w' => e = .returned (.int k X.1.1) ∧ kB k X.1.1 ∧ NowW w0 p B X.1.2 xs X.2 w'
def OutY (w0 : World) (p B : Nat) (xs : List Int) (X : Ws × Zs) : Ending → World → Prop := fun e w' => e = .returned (.tuple #[]) ∧ NowW w0 p B X.1 xs X.2 w'
theorem OutX.ok {w0 w : World} {p B : Nat} {k : IntKind} {xs : List Int} {X : (Int × Ws) × Zs} {v : Int} {s : Ws} {z : Zs} (h : X = ((v, s), z)) (hk : kB k v) (hn : NowW w0 p B s xs z w) : OutX w0 p B k xs X (.returned (.int k v)) w := by
  subst h
  exact ⟨rfl, hk, hn⟩
theorem OutY.ok {w0 w : World} {p B : Nat} {xs : List Int} {X : Ws × Zs} {s : Ws} {z : Zs} (h : X = (s, z)) (hn : NowW w0 p B s xs z w) : OutY w0 p B xs X (.returned (.tuple #[])) w := by
  subst h
  exact ⟨rfl, hn⟩
section
variable {α β : Type}
theorem zif_neg {c : Prop} [Decidable c] {t e : Tr α} {xs : List Int} {z : Zs} (hc : ¬ c) : (if c then t else e).runZ xs z = e.runZ xs z := by rw [if_neg hc]
end
def Ws.u_af (s : Ws) (v : Int) : Ws := { s with r := { s.r with af := v } }
theorem WsB.u_af {s : Ws} (h : WsB s) {v : Int} (hv : Wd16 v) : WsB (s.u_af v) := ⟨⟨hv, h.r.bc, h.r.de, h.r.hl, h.r.af2, h.r.bc2, h.r.de2, h.r.hl2, h.r.ix, h.r.iy, h.r.sp, h.r.pc, h.r.wz, h.r.i, h.r.r, h.r.mode⟩, h.code, h.m⟩
def Ws.u_bc (s : Ws) (v : Int) : Ws := { s with r := { s.r with bc := v } }
theorem WsB.u_bc {s : Ws} (h : WsB s) {v : Int} (hv : Wd16 v) : WsB (s.u_bc v) := ⟨⟨h.r.af, hv, h.r.de, h.r.hl, h.r.af2, h.r.bc2, h.r.de2, h.r.hl2, h.r.ix, h.r.iy, h.r.sp, h.r.pc, h.r.wz, h.r.i, h.r.r, h.r.mode⟩, h.code, h.m⟩
def Ws.u_de (s : Ws) (v : Int) : Ws := { s with r := { s.r with de := v } }
theorem WsB.u_de {s : Ws} (h : WsB s) {v : Int} (hv : Wd16 v) : WsB (s.u_de v) := ⟨⟨h.r.af, h.r.bc, hv, h.r.hl, h.r.af2, h.r.bc2, h.r.de2, h.r.hl2, h.r.ix, h.r.iy, h.r.sp, h.r.pc, h.r.wz, h.r.i, h.r.r, h.r.mode⟩, h.code, h.m⟩
def Ws.u_hl (s : Ws) (v : Int) : Ws := { s with r := { s.r with hl := v } }
theorem WsB.u_hl {s : Ws} (h : WsB s) {v : Int} (hv : Wd16 v) : WsB (s.u_hl v) := ⟨⟨h.r.af, h.r.bc, h.r.de, hv, h.r.af2, h.r.bc2, h.r.de2, h.r.hl2, h.r.ix, h.r.iy, h.r.sp, h.r.pc, h.r.wz, h.r.i, h.r.r, h.r.mode⟩, h.code, h.m⟩
def Ws.u_sp (s : Ws) (v : Int) : Ws := { s with r := { s.r with sp := v } }
theorem WsB.u_sp {s : Ws} (h : WsB s) {v : Int} (hv : Wd16 v) : WsB (s.u_sp v) := ⟨⟨h.r.af, h.r.bc, h.r.de, h.r.hl, h.r.af2, h.r.bc2, h.r.de2, h.r.hl2, h.r.ix, h.r.iy, hv, h.r.pc, h.r.wz, h.r.i, h.r.r, h.r.mode⟩, h.code, h.m⟩
def Ws.u_pc (s : Ws) (v : Int) : Ws := { s with r := { s.r with pc := v } }
theorem WsB.u_pc {s : Ws} (h : WsB s) {v : Int} (hv : Wd16 v) : WsB (s.u_pc v) := ⟨⟨h.r.af, h.r.bc, h.r.de, h.r.hl, h.r.af2, h.r.bc2, h.r.de2, h.r.hl2, h.r.ix, h.r.iy, h.r.sp, hv, h.r.wz, h.r.i, h.r.r, h.r.mode⟩, h.code, h.m⟩
def Ws.u_wz (s : Ws) (v : Int) : Ws := { s with r := { s.r with wz := v } }
theorem WsB.u_wz {s : Ws} (h : WsB s) {v : Int} (hv : Wd16 v) : WsB (s.u_wz v) := ⟨⟨h.r.af, h.r.bc, h.r.de, h.r.hl, h.r.af2, h.r.bc2, h.r.de2, h.r.hl2, h.r.ix, h.r.iy, h.r.sp, h.r.pc, hv, h.r.i, h.r.r, h.r.mode⟩, h.code, h.m⟩
def Ws.u_i (s : Ws) (v : Int) : Ws := { s with r := { s.r with i := v } }
theorem WsB.u_i {s : Ws} (h : WsB s) {v : Int} (hv : B8 v) : WsB (s.u_i v) := ⟨⟨h.r.af, h.r.bc, h.r.de, h.r.hl, h.r.af2, h.r.bc2, h.r.de2, h.r.hl2, h.r.ix, h.r.iy, h.r.sp, h.r.pc, h.r.wz, hv, h.r.r, h.r.mode⟩, h.code, h.m⟩
def Ws.u_r (s : Ws) (v : Int) : Ws := { s with r := { s.r with r := v } }
theorem WsB.u_r {s : Ws} (h : WsB s) {v : Int} (hv : B8 v) : WsB (s.u_r v) := ⟨⟨h.r.af, h.r.bc, h.r.de, h.r.hl, h.r.af2, h.r.bc2, h.r.de2, h.r.hl2, h.r.ix, h.r.iy, h.r.sp, h.r.pc, h.r.wz, h.r.i, hv, h.r.mode⟩, h.code, h.m⟩
def Ws.u_iff1 (s : Ws) (v : Bool) : Ws := { s with r := { s.r with iff1 := v } }
theorem WsB.u_iff1 {s : Ws} (h : WsB s) {v : Bool} : WsB (s.u_iff1 v) := ⟨⟨h.r.af, h.r.bc, h.r.de, h.r.hl, h.r.af2, h.r.bc2, h.r.de2, h.r.hl2, h.r.ix, h.r.iy, h.r.sp, h.r.pc, h.r.wz, h.r.i, h.r.r, h.r.mode⟩, h.code, h.m⟩
def Ws.u_iff2 (s : Ws) (v : Bool) : Ws := { s with r := { s.r with iff2 := v } }
theorem WsB.u_iff2 {s : Ws} (h : WsB s) {v : Bool} : WsB (s.u_iff2 v) := ⟨⟨h.r.af, h.r.bc, h.r.de, h.r.hl, h.r.af2, h.r.bc2, h.r.de2, h.r.hl2, h.r.ix, h.r.iy, h.r.sp, h.r.pc, h.r.wz, h.r.i, h.r.r, h.r.mode⟩, h.code, h.m⟩
def Ws.u_halted (s : Ws) (v : Bool) : Ws := { s with r := { s.r with halted := v } }
theorem WsB.u_halted {s : Ws} (h : WsB s) {v : Bool} : WsB (s.u_halted v) := ⟨⟨h.r.af, h.r.bc, h.r.de, h.r.hl, h.r.af2, h.r.bc2, h.r.de2, h.r.hl2, h.r.ix, h.r.iy, h.r.sp, h.r.pc, h.r.wz, h.r.i, h.r.r, h.r.mode⟩, h.code, h.m⟩
def Ws.u_late (s : Ws) (v : Bool) : Ws := { s with r := { s.r with late := v } }
theorem WsB.u_late {s : Ws} (h : WsB s) {v : Bool} : WsB (s.u_late v) := ⟨⟨h.r.af, h.r.bc, h.r.de, h.r.hl, h.r.af2, h.r.bc2, h.r.de2, h.r.hl2, h.r.ix, h.r.iy, h.r.sp, h.r.pc, h.r.wz, h.r.i, h.r.r, h.r.mode⟩, h.code, h.m⟩
def Ws.u_mode (s : Ws) (v : Int) : Ws := { s with r := { s.r with mode := v } }
theorem WsB.u_mode {s : Ws} (h : WsB s) {v : Int} (hv : -9223372036854775808 ≤ v ∧ v ≤ 9223372036854775807) : WsB (s.u_mode v) := ⟨⟨h.r.af, h.r.bc, h.r.de, h.r.hl, h.r.af2, h.r.bc2, h.r.de2, h.r.hl2, h.r.ix, h.r.iy, h.r.sp, h.r.pc, h.r.wz, h.r.i, h.r.r, hv⟩, h.code, h.m⟩
theorem WsB.u_rg {s : Ws} (h : WsB s) {g : Rg} (hg : RgB g) : WsB { s with r := g } := ⟨hg, h.code, h.m⟩
def Ws.u_plane (s : Ws) (v : Int) : Ws := { s with plane := v }
theorem WsB.u_plane {s : Ws} (h : WsB s) {v : Int} : WsB (s.u_plane v) := ⟨h.r, h.code, h.m⟩
section
attribute [local go_sem ↓] ix8_0 ix8_1 ix8_2 ix8_3 ix8_4 ix8_5 ix8_6 ix8_7
theorem ArrIs.there {w : World} {A n : Nat} {v : Nat → Value} (h : ArrIs w A n v) : w.there A 0 n := fun j hj => by
  rw [Nat.zero_add]; exact ⟨by rw [(h j hj).1]; rfl, (h j hj).2⟩
theorem Below.setCells {n : Nat} {w w' : World} (h : Below n w w') {b : Nat} (hb : n ≤ b) : ∀ (vs : List Value) (o : Nat), Below n w (w'.setCells b o vs) := by
  intro vs
  induction vs generalizing w' with
  | nil => intro o; exact h
  | cons v r ih => intro o; exact ih (h.setCell hb _) (o + 1)
end
section
variable {ops : Array Oper} {Q : Exit → Act → World → Prop} {w w0 : World} {o : Oper} {rest : List Oper} {base : List Value} {l : Slots} {p B : Nat} {s : Ws} {xs : List Int} {z : Zs}
theorem NowW.put {w' : World} {A : Option Addr} {cap : Nat} {s' : Ws} (hn : NowW w0 p B s xs z w) (hc : xs.length ≤ cap) (hby : BytesIn w B A xs) (hm : WsB s') (hr : Row w' p 112 (wC s' A xs.length cap z)) (hb : Besides p p w w') : NowW w0 p B s' xs z w' := by
  have k : ∀ b, b < B → w'.heap[b]? = w.heap[b]? := fun b hlt => hb.block b (by have := hn.at_.lt; have := hn.at_.low; omega) (by have := hn.at_.low; omega) (by have := hn.at_.low; omega)
  exact ⟨⟨⟨A, cap, hc, hr, hby.keep k⟩, hn.at_.low, hn.at_.bytes, hm, hn.at_.pos, hn.at_.big⟩, hn.bes.trans hb⟩
end
section
variable {α β : Type} {xs : List Int} {z : Zs} {G : β × Zs} {c : Prop} [Decidable c]
theorem qZ {t e : Tr β} (h : G = (if c then t else e).runZ xs z) (hc : ¬ c := by first | assumption | omega) : G = e.runZ xs z := h.trans (zif_neg hc)
variable {P : Program} {Q : Exit → Act → World → Prop} {base : List Value} {l : Slots} {w : World}
end
def Ws.hlBy (s : Ws) (d : Int) : Ws := { s with r := { s.r with hl := moveM s.r.hl d } }
def Ws.deBy (s : Ws) (d : Int) : Ws := { s with r := { s.r with de := moveM s.r.de d } }
def Ws.bcDown (s : Ws) : Ws := { s with r := { s.r with bc := (s.r.bc - 1) % 65536 } }
def tailW (y z f : Int) (s : Ws) : Tr Ws :=
  if 5 < y ∧ againM z f = true then (statesW 5 (s.af s.a f)).bind fun s => if z < 2 then .done ((s.pc ((s.r.pc - 2) % 65536)).wz (((s.r.pc - 2) % 65536 + 1) % 65536)) else .done (s.pc ((s.r.pc - 2) % 65536)) else .done (s.af s.a f)
def blockRunW (d y z : Int) (s : Ws) : Tr Ws :=
  if z = 0 then (readW s.r.hl s).bind fun b => (writeW b.2.r.de b.1 b.2).bind fun s => (statesW 2 s).bind fun s =>
    tailW y z (moveF (s.deBy d).bcDown.a b.1 (s.deBy d).bcDown.r.bc (s.deBy d).bcDown.f) ((s.deBy d).bcDown.hlBy d) else
  if z = 1 then (readW s.r.hl s).bind fun b => (statesW 5 b.2).bind fun s =>
    tailW y z (findF (s.wz (moveM s.r.wz d)).bcDown.a b.1 (s.wz (moveM s.r.wz d)).bcDown.r.bc (s.wz (moveM s.r.wz d)).bcDown.f) ((s.wz (moveM s.r.wz d)).bcDown.hlBy d) else
  if z = 2 then (statesW 1 s).bind fun s => (cycW ⟨4, s.r.bc, 0, 4⟩ s).bind fun b => (writeW (b.2.wz (moveM b.2.r.bc d)).less.r.hl b.1 (b.2.wz (moveM b.2.r.bc d)).less).bind fun s =>
    tailW y z (passF b.1 (b.1 + byC ((s.hlBy d).r.bc % 256) d) (b.2.wz (moveM b.2.r.bc d)).left) (s.hlBy d) else
  (statesW 1 s).bind fun s => (readW s.r.hl s).bind fun b => (cycW ⟨5, b.2.less.r.bc, b.1, 4⟩ (b.2.less.wz (moveM b.2.less.r.bc d))).bind fun c =>
    tailW y z (passF b.1 (b.1 + (c.2.hlBy d).r.hl % 256) b.2.left) (c.2.hlBy d)
def blockW (y z : Int) (s : Ws) : Tr Ws := if y % 2 = 1 then blockRunW (-1) y z s else blockRunW 1 y z s
def Ws.modeTo (s : Ws) (m : Int) : Ws := { s with r := { s.r with mode := m } }
def edW (c : Int) (s : Ws) : Tr Ws :=
  if fx c = 2 ∧ fz c < 4 ∧ 3 < fy c then blockW (fy c) (fz c) s else if fx c ≠ 1 then .done s else
  if fz c = 0 then (cycW ⟨4, s.r.bc, 0, 4⟩ s).bind fun b =>
    if fy c = 6 then .done ((b.2.wz ((b.2.r.bc + 1) % 65536)).af (b.2.wz ((b.2.r.bc + 1) % 65536)).a (withM (evenFM b.1) 0 (isM (b.2.wz ((b.2.r.bc + 1) % 65536)).f 0)))
    else setW (fy c) b.1 ((b.2.wz ((b.2.r.bc + 1) % 65536)).af (b.2.wz ((b.2.r.bc + 1) % 65536)).a (withM (evenFM b.1) 0 (isM (b.2.wz ((b.2.r.bc + 1) % 65536)).f 0))) else
  if fz c = 1 then (if fy c = 6 then (cycW ⟨5, s.r.bc, 0, 4⟩ s).bind fun r => .done (r.2.wz ((r.2.r.bc + 1) % 65536)) else (getW (fy c) s).bind fun b => (cycW ⟨5, b.2.r.bc, b.1, 4⟩ b.2).bind fun r => .done (r.2.wz ((r.2.r.bc + 1) % 65536))) else
  if fz c = 2 then (statesW 7 s).bind fun s =>
    if fq c = 1 then .done (((s.wz ((s.r.hl + 1) % 65536)).hlTo (adcW (s.wz ((s.r.hl + 1) % 65536)).r.hl (pairG (s.wz ((s.r.hl + 1) % 65536)).r 0 (fp c)) (isM (s.wz ((s.r.hl + 1) % 65536)).f 0))).af
        ((s.wz ((s.r.hl + 1) % 65536)).hlTo (adcW (s.wz ((s.r.hl + 1) % 65536)).r.hl (pairG (s.wz ((s.r.hl + 1) % 65536)).r 0 (fp c)) (isM (s.wz ((s.r.hl + 1) % 65536)).f 0))).a (adcF (s.wz ((s.r.hl + 1) % 65536)).r.hl (pairG (s.wz ((s.r.hl + 1) % 65536)).r 0 (fp c)) (isM (s.wz ((s.r.hl + 1) % 65536)).f 0)))
    else .done (((s.wz ((s.r.hl + 1) % 65536)).hlTo (sbcW (s.wz ((s.r.hl + 1) % 65536)).r.hl (pairG (s.wz ((s.r.hl + 1) % 65536)).r 0 (fp c)) (isM (s.wz ((s.r.hl + 1) % 65536)).f 0))).af
        ((s.wz ((s.r.hl + 1) % 65536)).hlTo (sbcW (s.wz ((s.r.hl + 1) % 65536)).r.hl (pairG (s.wz ((s.r.hl + 1) % 65536)).r 0 (fp c)) (isM (s.wz ((s.r.hl + 1) % 65536)).f 0))).a (sbcF (s.wz ((s.r.hl + 1) % 65536)).r.hl (pairG (s.wz ((s.r.hl + 1) % 65536)).r 0 (fp c)) (isM (s.wz ((s.r.hl + 1) % 65536)).f 0))) else
  if fz c = 3 then wordsW (fp c) (fq c) s else
  if fz c = 4 then .done (s.af (subR 0 s.a false) (subF 0 s.a false)) else
  if fz c = 5 then (backW s).bind fun s => .done { s with r := { s.r with iff1 := s.r.iff2 } } else
  if fz c = 6 then (if fy c % 4 = 2 then .done (s.modeTo 1) else if fy c % 4 = 3 then .done (s.modeTo 2) else .done (s.modeTo 0)) else oddW (fy c) s
def distW (plane : Int) (s : Ws) : Tr Ws := (numberW (s.at_ plane s.code)).bind fun e => (numberW ((e.2.know (moveM e.2.hl (signedM e.1))).wz (moveM e.2.hl (signedM e.1)))).bind fun c => (statesW 2 c.2).bind fun s => bitW true c.1 s
def restW (plane b : Int) (s : Ws) : Tr Ws :=
  if b = 237 then (fetchW s).bind fun c => edW c.1 (c.2.at_ 0 0) else
  if b = 203 ∧ plane = 0 then (fetchW s).bind fun c => bitW false c.1 c.2 else
  if b = 203 then distW plane s else plainW plane b s
section
variable {ops : Array Oper} {Q : Exit → Act → World → Prop} {a : Act} {w w0 : World} {o : Oper} {rest : List Oper} {p B : Nat} {s : Ws} {xs : List Int} {z : Zs} {x y : Operand}
theorem AtW.far {L : Nat} (h : AtW w p B s xs z) (hp : L ≠ p) (hB : B ≤ L) (vs : List Value) (o : Nat) : AtW (w.setCells L o vs) p B s xs z := by
  obtain ⟨⟨A, cap, hc, hr, hby⟩, hl, h8, hm, ht, hg⟩ := h
  have k : ∀ b, b < B → (w.setCells L o vs).heap[b]? = w.heap[b]? := fun b hlt => heap_setCells L b (by omega) _ _ _
  exact ⟨⟨A, cap, hc, hr.setFar (Ne.symm hp) vs o, hby.keep k⟩, hl, h8, hm, ht, hg⟩
theorem NowW.far {L : Nat} (h : NowW w0 p B s xs z w) (hp : L ≠ p) (hB : B ≤ L) (h0 : w0.heap.size ≤ L) (vs : List Value) (o : Nat) : NowW w0 p B s xs z (w.setCells L o vs) :=
  ⟨h.at_.far hp hB vs o, h.bes.setCells (.inr (.inr h0)) _ _⟩
end
def firstE : List Int → Int → Int → Ws → Except Cy (Ws × List Int)
  | [], n, b, s => if b = 221 ∨ b = 253 then .error ⟨1, s.r.pc, 0, 4⟩ else (restW n b s).run []
  | x :: ys, n, b, s => if b = 221 ∨ b = 253 then firstE ys (if b = 253 then 4 else 3) x s.pcUp.tick else (restW n b s).run (x :: ys)
def Inv (R0 : Except Cy (Ws × List Int)) (xs : List Int) (n b : Int) (s : Ws) (z : Zs) : Prop :=
  (z.lacks = false ∧ R0 = firstE (xs.drop z.pos) n b s) ∨ (z.lacks = true ∧ R0 = .error z.asked)
def OutE (w0 : World) (p B : Nat) (xs : List Int) (R : Except Cy (Ws × List Int)) : Ending → World → Prop := fun e w' =>
  e = .returned (.tuple #[]) ∧ ∃ s z, NowW w0 p B s xs z w' ∧ ((z.lacks = false ∧ ∃ ys, R = .ok (s, ys)) ∨ (z.lacks = true ∧ R = .error z.asked))
theorem OutE.rest {w0 w : World} {p B : Nat} {xs : List Int} {R : Except Cy (Ws × List Int)} {t : Tr Ws} {z z' : Zs} {s' : Ws} (hR : R = t.run (xs.drop z.pos)) (hl : z.lacks = false) (hp : z.pos ≤ xs.length) (hr : t.runZ xs z = (s', z')) (hn : NowW w0 p B s' xs z' w) : OutE w0 p B xs R (.returned (.tuple #[])) w := by
  have k := Tr.runZ_run xs t z hl hp
  rw [hr] at k
  refine ⟨rfl, s', z', hn, ?_⟩
  subst hR
  cases e : t.run (xs.drop z.pos) with
  | error c =>
    rw [e] at k
    exact .inr ⟨k.1, by rw [k.2]⟩
  | ok r =>
    obtain ⟨a, ys⟩ := r
    rw [e] at k
    have k1 : s' = a := k.1
    exact .inl ⟨k.2.1, ys, by rw [k1]⟩
theorem OutE.lacks {w0 w : World} {p B : Nat} {xs : List Int} {R : Except Cy (Ws × List Int)} {n b : Int} {s : Ws} {z : Zs} (hI : Inv R xs n b s z) (hl : z.lacks = true) (hn : NowW w0 p B s xs z w) : OutE w0 p B xs R (.returned (.tuple #[])) w :=
  ⟨rfl, s, z, hn, .inr ⟨hl, (hI.resolve_left (by rw [hl]; simp)).2⟩⟩
theorem AtW.asked {w : World} {p B : Nat} {s : Ws} {xs : List Int} {z : Zs} (h : AtW w p B s xs z) : w.rangeAt p 23 (cyC z.asked).toList := by
  obtain ⟨A, cap, hc, hr, hb⟩ := h.row
  intro j v hv
  rw [hr.cell]
  have hj : j < 4 := (List.getElem?_eq_some_iff.1 hv).1
  revert hv
  match j, hj with
  | 0, _ => exact id
  | 1, _ => exact id
  | 2, _ => exact id
  | 3, _ => exact id
  | n + 4, h => omega
def tellW : Except Cy (Ws × List Int) → Value
  | .ok (s, _) => .tuple #[cyV zeroCy, regsV s.r, .bool true]
  | .error c => .tuple #[cyV c, regsV zeroRg, .bool false]
def cyW : Except Cy (Ws × List Int) → Cy | .ok _ => zeroCy | .error c => c
def rgW : Except Cy (Ws × List Int) → Rg | .ok (s, _) => s.r | .error _ => zeroRg
def doneW : Except Cy (Ws × List Int) → Bool | .ok _ => true | .error _ => false
theorem tellW_eq (X : Except Cy (Ws × List Int)) : tellW X = .tuple #[cyV (cyW X), regsV (rgW X), .bool (doneW X)] := by
  rcases X with c | ⟨s, ys⟩ <;> rfl
def Tr.Rel {α β : Type} (R : α → β → Prop) : Tr α → Tr β → Prop
  | .done a, .done b => R a b
  | .ask c k, .ask d l => c = d ∧ ∀ b, B8 b → (k b).Rel R (l b)
  | _, _ => False
theorem Tr.Rel.mono {α β : Type} {R S : α → β → Prop} {t : Tr α} : ∀ {u : Tr β}, t.Rel R u → (∀ a b, R a b → S a b) → t.Rel S u := by
  induction t with
  | done a => intro u h hRS; cases u with
    | done b => exact hRS _ _ h
    | ask d l => exact h.elim
  | ask c k ih => intro u h hRS; cases u with
    | done b => exact h.elim
    | ask d l => exact ⟨h.1, fun b hb => ih b (h.2 b hb) hRS⟩
theorem Tr.Rel.bind {α β γ δ : Type} {R : α → β → Prop} {S : γ → δ → Prop} {t : Tr α} {f : α → Tr γ} {g : β → Tr δ} : ∀ {u : Tr β}, t.Rel R u → (∀ a b, R a b → (f a).Rel S (g b)) → (t.bind f).Rel S (u.bind g) := by
  induction t with
  | done a => intro u h hf; cases u with
    | done b => exact hf _ _ h
    | ask d l => exact h.elim
  | ask c k ih => intro u h hf; cases u with
    | done b => exact h.elim
    | ask d l => exact ⟨h.1, fun b hb => ih b (h.2 b hb) hf⟩
def Told : Except Cy (Ms × List Int) → Except Cy (Ws × List Int) → Prop
  | .ok (s, _), .ok (t, _) => s.r = t.r
  | .error c, .error d => c = d
  | _, _ => False
theorem Told.tell {X : Except Cy (Ms × List Int)} {Y : Except Cy (Ws × List Int)} (h : Told X Y) : tellV X = tellW Y := by
  rcases X with c | ⟨s, ys⟩ <;> rcases Y with d | ⟨t, zs⟩
  · have e : c = d := h
    subst e; rfl
  · exact h.elim
  · exact h.elim
  · have e : s.r = t.r := h
    rw [tellV_eq, tellW_eq]
    simp only [cyOf, rgOf, doneOf, cyW, rgW, doneW, e]
def T3.v (T : T3) : Value := .tuple #[cyV T.c, regsV T.g, .bool T.b]
def cyvs : List Cy → List Value
  | [] => []
  | c :: r => .int .i64 c.kind :: .int .u16 c.addr :: .int .u8 c.data :: .int .i64 c.t :: cyvs r
theorem cyvs_length : ∀ l : List Cy, (cyvs l).length = l.length * 4
  | [] => rfl
  | c :: r => by simp only [cyvs, List.length_cons, cyvs_length r]; omega
theorem cyvs_append : ∀ l m : List Cy, cyvs l ++ cyvs m = cyvs (l ++ m)
  | [], _ => rfl
  | c :: r, m => by simp only [cyvs, List.cons_append, cyvs_append r m]
theorem cyvs_one : ∀ l : List Cy, ∀ u ∈ cyvs l, u.oneCell' = true
  | [], _, h => by cases h
  | c :: r, u, h => by
    simp only [cyvs, List.mem_cons] at h
    rcases h with rfl | rfl | rfl | rfl | h
    · rfl
    · rfl
    · rfl
    · rfl
    · exact cyvs_one r u h
theorem cyvs_at : ∀ (l : List Cy) (k : Nat) (hk : k < l.length), (cyvs l)[k * 4]? = some (.int .i64 l[k].kind) ∧ (cyvs l)[k * 4 + 1]? = some (.int .u16 l[k].addr) ∧ (cyvs l)[k * 4 + 2]? = some (.int .u8 l[k].data) ∧ (cyvs l)[k * 4 + 3]? = some (.int .i64 l[k].t)
  | [], k, h => by simp at h
  | c :: r, 0, _ => ⟨rfl, rfl, rfl, rfl⟩
  | c :: r, k + 1, h => by
    have := cyvs_at r k (by simpa using h)
    rw [show (k + 1) * 4 = k * 4 + 1 + 1 + 1 + 1 by omega, show k * 4 + 1 + 1 + 1 + 1 + 1 = k * 4 + 1 + 1 + 1 + 1 + 1 from rfl, show k * 4 + 1 + 1 + 1 + 1 + 2 = k * 4 + 2 + 1 + 1 + 1 + 1 by omega, show k * 4 + 1 + 1 + 1 + 1 + 3 = k * 4 + 3 + 1 + 1 + 1 + 1 by omega]
    simp only [cyvs, List.getElem?_cons_succ, List.getElem_cons_succ]
    exact this
def CysIn (w : World) (B : Nat) (A : Option Addr) (l : List Cy) : Prop := ∀ (j : Nat) (u : Value), (cyvs l)[j]? = some u → ∃ p, A = some p ∧ p.block < B ∧ w.cell? (p.add j) = some u
theorem CysIn.keep {w w' : World} {B : Nat} {A : Option Addr} {l : List Cy} (h : CysIn w B A l) (k : ∀ b, b < B → w'.heap[b]? = w.heap[b]?) : CysIn w' B A l := fun j c hc => by
  obtain ⟨p, e, hb, h1⟩ := h j c hc
  exact ⟨p, e, hb, (World.cell?_of_block (by rw [add_block]; exact k _ hb)).trans h1⟩
theorem CysIn.more {w : World} {B B' : Nat} {A : Option Addr} {l : List Cy} (h : CysIn w B A l) (k : B ≤ B') : CysIn w B' A l := fun j c hc => by
  obtain ⟨p, e, hb, h1⟩ := h j c hc
  exact ⟨p, e, Nat.lt_of_lt_of_le hb k, h1⟩
theorem CysIn.below {w w' : World} {B : Nat} {A : Option Addr} {l : List Cy} (h : CysIn w B A l) (k : Below B w w') : CysIn w' B A l := h.keep fun b hb => k.block b hb
theorem CysIn.addr {w : World} {B : Nat} {A : Option Addr} {l : List Cy} (h : CysIn w B A l) {k : Nat} (hk : k < l.length) : ∃ p, A = some p := by
  obtain ⟨p, e, -⟩ := h _ _ (cyvs_at l k hk).1
  exact ⟨p, e⟩
theorem CysIn.values {w : World} {B : Nat} {p : Addr} {l : List Cy} (h : CysIn w B (some p) l) : ∀ j u, (cyvs l)[j]? = some u → w.cell? (p.add j) = some u := fun j u hu => by
  obtain ⟨q, e, -, h1⟩ := h j u hu
  cases e
  exact h1
theorem CysIn.of_values {w : World} {B : Nat} {p : Addr} {l : List Cy} (hb : p.block < B) (h : ∀ j u, (cyvs l)[j]? = some u → w.cell? (p.add j) = some u) : CysIn w B (some p) l := fun j c hc => ⟨p, rfl, hb, h j c hc⟩
theorem ldCyA {w : World} {p : Addr} {a b c d : Int} (h0 : w.cell? p = some (.int .i64 a)) (h1 : w.cell? (p.add 1) = some (.int .u16 b)) (h2 : w.cell? (p.add 2) = some (.int .u8 c)) (h3 : w.cell? (p.add 3) = some (.int .i64 d)) : (Instr.loadAt 29 (.pointer (some p))).run Tryz.prog w = .ok (cyV ⟨a, b, c, d⟩) w := by
  have e1 : w.cell? { block := p.block, off := p.off + 1 } = some (.int .u16 b) := by simpa [Addr.add] using h1
  have e2 : w.cell? { block := p.block, off := p.off + 2 } = some (.int .u8 c) := by simpa [Addr.add] using h2
  have e3 : w.cell? { block := p.block, off := p.off + 3 } = some (.int .i64 d) := by simpa [Addr.add] using h3
  simp [go_sem, h0, e1, e2, e3]
theorem add_more (p : Addr) (a b : Nat) (hb : b ≠ 0) : (p.add a).add b = p.add (a + b) := by
  cases p
  unfold Addr.add
  split <;> split <;> simp_all <;> omega
theorem CysIn.ld {w : World} {B : Nat} {p : Addr} {l : List Cy} (h : CysIn w B (some p) l) {k : Nat} (hk : k < l.length) : (Instr.loadAt 29 (.pointer (some (p.add (k * 4))))).run Tryz.prog w = .ok (cyV l[k]) w := by
  obtain ⟨h0, h1, h2, h3⟩ := cyvs_at l k hk
  exact ldCyA (h.values _ _ h0) (by rw [add_more _ _ _ (by omega)]; exact h.values _ _ h1) (by rw [add_more _ _ _ (by omega)]; exact h.values _ _ h2) (by rw [add_more _ _ _ (by omega)]; exact h.values _ _ h3)
theorem cixY (p : Addr) (n c k : Nat) (h : k < n) (w : World) : (Instr.indexAt 99 (.slice (some p) n c) (.int .i64 (k : Int))).run Tryz.prog w = .ok (.pointer (some (p.add (k * 4)))) w := by
  have h1 : (k : Int) < n := by omega
  simp [go_sem, h]
theorem cyc_info : (Tryz.prog.info? 29).map (fun i => (i.zero, i.size, i.bytes)) = some (some (cyV zeroCy), 4, 24) := by kernel_rfl
section
variable {ops : Array Oper} {Q : Exit → Act → World → Prop} {base : List Value} {rest : List Oper} {l : Slots} {w : World} {o : Oper}
theorem qAy (s x : Operand) (bs B : Nat) (v : Value) (n : Nat) (got : List Cy) (p : Addr) (c m : Nat) (ys : List Cy) (hbs : bs ≤ w.heap.size)
    (hown : w.ownsRow bs 29 4 v n (cyvs got)) (hy : CysIn w B (some p) ys) (hm : m = ys.length) (hmax : n + m ≤ 1000000)
    (h : ∀ v' w', w'.ownsRow bs 29 4 v' (n + m) (cyvs (got ++ ys)) → w.grownBy w' v.ownBlock → WO Tryz.prog ops Q base rest (putO o.dst v' l) w')
    (ho : o.op = .call { callee := .builtin .append, args := #[s, x], argTypes := #[99, 99] } := by exact rfl) (hg : o.guard = none := by exact rfl) (hs : evO base l s = v := by kernel_rfl) (hx : evO base l x = .slice (some p) m c := by kernel_rfl) (hd : dstO o.dst base.length = true := by kernel_rfl) : WO Tryz.prog ops Q base (o :: rest) l w :=
  ⟨fun hi => ⟨by
    obtain ⟨i0, hi0, hz0, hz1, hz2⟩ := info_parts cyc_info
    subst hm
    refine wpList_append_own_at _ hg s x _ ho bs 29 i0 _ 4 24 Tryz.underlying99 hi0 hz0 hz1 hz2 rfl (by omega) v n (cyvs got) (by rw [evO_eq hi]; exact hs) hown p ys.length c (cyvs ys) (by rw [evO_eq hi]; exact hx) (cyvs_length ys) hy.values (cyvs_one ys) (by simp only [maxLen]; omega) (by omega) hbs ?_
    intro v' w' own' hgr _ _
    rw [cyvs_append] at own'
    rw [put_actO]
    exact ((h v' w' own' hgr).h (inO_put hd hi)).h⟩⟩
end
theorem cys_new (w : World) (l : List Cy) (t : TypeId) : CysIn (w.alloc (.cells (cyvs l).toArray t)) (w.heap.size + 1) (some ⟨w.heap.size, 0, none⟩) l := CysIn.of_values (by simp) (cells_list_new' w (cyvs l) t)
theorem cys_row {w : World} {b : Nat} {t : TypeId} {l : List Cy} (h : Row w b t (cyvs l).toArray) : CysIn w w.heap.size (some ⟨b, 0, none⟩) l := CysIn.of_values h.lt fun j u hu => by
  rw [show (⟨b, 0, none⟩ : Addr).add j = ⟨b, j, none⟩ by simp [Addr.add]; omega, h.cell j]
  simpa using hu
theorem cys_cur {w : World} {b : Nat} {t : TypeId} {cur : List Value} {l : List Cy} (n : Nat) (h : Row w b t cur.toArray) (e : cur.take n = cyvs l) : CysIn w w.heap.size (some ⟨b, 0, none⟩) l := CysIn.of_values h.lt fun j u hu => by
  rw [show (⟨b, 0, none⟩ : Addr).add j = ⟨b, j, none⟩ by simp [Addr.add]; omega, h.cell j]
  rw [← e, List.getElem?_take] at hu
  split at hu
  · simpa using hu
  · cases hu
theorem own_crow {w : World} {b base : Nat} {l : List Cy} (n : Nat) (h : Row w b 29 (cyvs l).toArray) (hb : base ≤ b) (hn : n = l.length) (hm : n ≤ 1000) : w.ownsRow base 29 4 (.slice (some ⟨b, 0, none⟩) n n) n (cyvs l) :=
  ⟨by rw [cyvs_length, hn], .inr ⟨b, n, _, rfl, hb, h, Nat.le_refl _, by simp only [maxLen]; omega, by simp [cyvs_length, hn], by simp only []; exact List.take_of_length_le (by rw [cyvs_length, hn]; exact Nat.le_refl _)⟩⟩
section
variable {ops : Array Oper} {Q : Exit → Act → World → Prop} {base : List Value} {l : Slots} {w w0 : World} {L : List Nat} {rs : List RowK}
theorem soZ {n f i : Nat} {listed : Array Bool} {x y : Operand} (j b : Nat) (hm : Many w0 L rs w) (h : ∀ w', Many w0 L rs w' → PO Tryz.prog ops Q (Many w0 L rs) n base f (listed.setIfInBounds i true) l w')
    (hj : rs[j]? = some ⟨b, 29, (cyC zeroCy).toList.map some⟩ := by kernel_rfl) (ho : (opNo ops i).op = .store 29 x y := by exact rfl) (hx : evO base l x = pT b 0 := by kernel_rfl) (hy : evO base l y = cyV zeroCy := by kernel_rfl)
    (hd : ((opNo ops i).dst.isNone, decide (i < n), wantO ops base.length base l (opNo ops i), (ops[i]?).isSome) = (true, true, some true, true) := by kernel_rfl) : SO Tryz.prog ops Q (Many w0 L rs) n base f listed i l w := by
  simp only [Prod.mk.injEq] at hd
  obtain ⟨d1, d2, d3, d4⟩ := hd
  have ho' := opNo_eq d4
  have hdn : (opNo ops i).dst = none := Option.isNone_iff_eq_none.1 d1
  have r := hm.row j (cyC zeroCy).toList hj
  have hs := stCy (c := zeroCy) r
  have he : ∀ l', (execOp (evO base l) (opNo ops i)).run Tryz.prog w = .ok .skip l' ↔ l' = w.setCells b 0 (cyC zeroCy).toList := fun l' => by
    rw [xStore hs ho hx hy]
    constructor
    · intro e; injection e with _ e; exact e.symm
    · rintro rfl; rfl
  have e1 := (he _).2 rfl
  have hm' : Many w0 L rs (w.setCells b 0 (cyC zeroCy).toList) := by
    have k := hm.turn (cs := (cyC zeroCy).toList.map some) hj (r.setAll rfl) ⟨by simp, fun k v e => by rw [List.getElem?_map] at e; obtain ⟨u, h1, h2⟩ := Option.map_eq_some_iff.1 e; injection h2 with h2; rw [← h2, ← Array.getElem?_toList]; exact h1⟩ (setsB b _ 0 (Besides.refl ..))
    have : rs.set j ⟨b, 29, (cyC zeroCy).toList.map some⟩ = rs := by
      apply List.ext_getElem?
      intro q
      rw [List.getElem?_set]
      split
      · rename_i e; subst e; split
        · exact hj.symm
        · rename_i e; rw [List.getElem?_eq_none (by omega)]
      · rfl
    rwa [this] at k
  refine ⟨fun hi hr inv => ⟨of_decide_eq_true d2, ?_⟩⟩
  unfold wpOp
  simp only [ho', wantO_sound d3 hi, if_true]
  refine .inl ?_
  unfold Oper.wp
  rw [evO_eq hi, e1, Oper.upon_skip, hdn]
  exact ⟨hm', (h _ hm').h hi (inv.set hr (of_decide_eq_true d2))⟩
end
section
variable {base : List Value} {l : Slots} {w w0 : World} {L : List Nat} {rs : List RowK}
theorem Many.rowK (h : Many w0 L rs w) (i : Nat) (vs : List Value) {b : Nat} (e : (rs[i]?).map (fun r => (pT r.b 0, r.cs)) = some (pT b 0, vs.map some)) : ∃ t, Row w b t vs.toArray := by
  cases hr : rs[i]? with
  | none => rw [hr] at e; cases e
  | some r =>
    obtain ⟨rb, rt, rc⟩ := r
    rw [hr] at e
    injection e with e; injection e with e1 e2
    injection e1 with e1; injection e1 with e1; injection e1 with e1
    dsimp only at e1 e2
    subst e1 e2
    exact ⟨rt, h.row i vs hr⟩
theorem eoT3 {fn : Func} {R : Ending → World → Prop} {s1 s2 s3 : Tmp} (i j : Nat) (c : Cy) (g : Rg) (b : Bool) (b1 b2 : Nat) (hm : Many w0 L rs w) (hR : R (.returned (.tuple #[cyV c, regsV g, .bool b])) w)
    (hres : fn.results = #[.cell s1 29, .cell s2 24, .tmp s3] := by exact rfl)
    (h1 : (rs[i]?).map (fun r => (pT r.b 0, r.cs)) = some (pT b1 0, (cyC c).toList.map some) := by kernel_rfl) (h2 : (rs[j]?).map (fun r => (pT r.b 0, r.cs)) = some (pT b2 0, (regsC g).toList.map some) := by kernel_rfl)
    (k1 : lkO base s1 l = pT b1 0 := by kernel_rfl) (k2 : lkO base s2 l = pT b2 0 := by kernel_rfl) (k3 : lkO base s3 l = .bool b := by kernel_rfl) : EO (bodyPost Tryz.prog fn R) .ret base l w := by
  obtain ⟨t1, r1⟩ := hm.rowK i _ h1
  obtain ⟨t2, r2⟩ := hm.rowK j _ h2
  exact ⟨fun hin => bodyPost_ret (results_told hres ((congrFun (evO_eq hin) (.tmp s1)).trans k1) ((congrFun (evO_eq hin) (.tmp s2)).trans k2) ((congrFun (evO_eq hin) (.tmp s3)).trans k3) r1 r2) rfl hR⟩
theorem results_two {fn : Func} {t1 t3 : Tmp} {u : TypeId} (h : fn.results = #[.cell t1 29, .tmp t3]) {tmps : Array Value} {w : World} {L : Nat} {c : Cy} {b : Bool}
    (h1 : tmps.getD t1 undef = pT L 0) (h3 : tmps.getD t3 undef = .bool b) (hL : Row w L u (cyC c)) : (results fn tmps).run Tryz.prog w = .ok (.tuple #[cyV c, .bool b]) w := by
  have h1' : tmps[t1]?.getD undef = pT L 0 := by simpa using h1
  have h3' : tmps[t3]?.getD undef = .bool b := by simpa using h3
  have e1 := loadVar_row (P := Tryz.prog) hL Tryz.underlying29 rfl infoCy
  simp [results, h, h1', h3', asAddr, e1]
theorem eoT2 {fn : Func} {R : Ending → World → Prop} {s1 s3 : Tmp} (i : Nat) (c : Cy) (b : Bool) (b1 : Nat) (hm : Many w0 L rs w) (hR : R (.returned (.tuple #[cyV c, .bool b])) w)
    (hres : fn.results = #[.cell s1 29, .tmp s3] := by exact rfl)
    (h1 : (rs[i]?).map (fun r => (pT r.b 0, r.cs)) = some (pT b1 0, (cyC c).toList.map some) := by kernel_rfl)
    (k1 : lkO base s1 l = pT b1 0 := by kernel_rfl) (k3 : lkO base s3 l = .bool b := by kernel_rfl) : EO (bodyPost Tryz.prog fn R) .ret base l w := by
  obtain ⟨t1, r1⟩ := hm.rowK i _ h1
  exact ⟨fun hin => bodyPost_ret (results_two hres ((congrFun (evO_eq hin) (.tmp s1)).trans k1) ((congrFun (evO_eq hin) (.tmp s3)).trans k3) r1) rfl hR⟩
end
@[reducible] def coC (c : CoT) (v : Value) : Array Value := #[.int .u16 c.r.af, .int .u16 c.r.bc, .int .u16 c.r.de, .int .u16 c.r.hl, .int .u16 c.r.af2, .int .u16 c.r.bc2, .int .u16 c.r.de2, .int .u16 c.r.hl2, .int .u16 c.r.ix, .int .u16 c.r.iy, .int .u16 c.r.sp, .int .u16 c.r.pc, .int .u16 c.r.wz,
  .int .u8 c.r.i, .int .u8 c.r.r, .bool c.r.iff1, .bool c.r.iff2, .bool c.r.halted, .bool c.r.late, .int .i64 c.r.mode, .int .i64 c.wh, v, .int .i64 c.a.c.kind, .int .u16 c.a.c.addr, .int .u8 c.a.c.data, .int .i64 c.a.c.t, .int .i64 c.a.k, .int .i64 c.a.w, .int .u8 c.b, .bool c.nmi, .bool c.was, .bool c.off]
@[reducible] def coV (c : CoT) (v : Value) : Value := .agg (coC c v)
@[reducible] def lnC (l : LnT) : Array Value := #[.bool l.wait, .bool l.bus, .bool l.irq, .bool l.nmi, .bool l.reset]
@[reducible] def lnV (l : LnT) : Value := .agg (lnC l)
def GotIn (w : World) (B : Nat) (v : Value) (xs : List Int) : Prop := ∃ A cap, v = .slice A xs.length cap ∧ xs.length ≤ cap ∧ BytesIn w B A xs ∧ (A = none → cap = 0)
theorem GotIn.below {w w' : World} {B : Nat} {v : Value} {xs : List Int} (h : GotIn w B v xs) (k : Below B w w') : GotIn w' B v xs := by
  obtain ⟨A, cap, e, h1, h2, h3⟩ := h
  exact ⟨A, cap, e, h1, h2.below k, h3⟩
theorem GotIn.more {w : World} {B B' : Nat} {v : Value} {xs : List Int} (h : GotIn w B v xs) (k : B ≤ B') : GotIn w B' v xs := by
  obtain ⟨A, cap, e, h1, h2, h3⟩ := h
  exact ⟨A, cap, e, h1, h2.more k, h3⟩
theorem GotIn.on {w w' : World} {v : Value} {xs : List Int} (h : GotIn w w.heap.size v xs) (k : Below w.heap.size w w') : GotIn w' w'.heap.size v xs := (h.below k).more k.size
theorem got_nil (w : World) (B : Nat) : GotIn w B (.slice none 0 0) [] := ⟨none, 0, rfl, Nat.le_refl _, BytesIn.nil _ _ _, fun _ => rfl⟩
theorem GotIn.stay {w w' : World} {S : Nat → Prop} {v : Value} {xs : List Int} (h : GotIn w w.heap.size v xs) (k : Kept S w w') (n : xs ≠ [] → ∀ x, v.ownBlock = some x → ¬ S x) : GotIn w' w'.heap.size v xs := by
  obtain ⟨A, cap, rfl, h1, h2, h3⟩ := h
  refine ⟨A, cap, rfl, h1, fun j x hx => ?_, h3⟩
  obtain ⟨ad, rfl, hb, hc⟩ := h2 j x hx
  exact ⟨ad, rfl, Nat.lt_of_lt_of_le hb k.size, (World.cell?_of_block (by rw [add_block]; exact k.block _ hb (n (fun e => by rw [e] at hx; cases hx) ad.block rfl))).trans hc⟩
def LnsIn (w : World) (B : Nat) (A : Option Addr) (l : List LnT) : Prop := ∀ (k : Nat) (hk : k < l.length), ∃ p, A = some p ∧ p.block < B ∧ w.cell? (p.add (k * 5)) = some (.bool l[k].wait) ∧ w.cell? (p.add (k * 5 + 1)) = some (.bool l[k].bus) ∧ w.cell? (p.add (k * 5 + 2)) = some (.bool l[k].irq) ∧ w.cell? (p.add (k * 5 + 3)) = some (.bool l[k].nmi) ∧ w.cell? (p.add (k * 5 + 4)) = some (.bool l[k].reset)
theorem LnsIn.keep {w w' : World} {B : Nat} {A : Option Addr} {l : List LnT} (h : LnsIn w B A l) (k : ∀ b, b < B → w'.heap[b]? = w.heap[b]?) : LnsIn w' B A l := fun j hj => by
  obtain ⟨p, e, hb, h0, h1, h2, h3, h4⟩ := h j hj
  have f : ∀ i, w'.cell? (p.add i) = w.cell? (p.add i) := fun i => World.cell?_of_block (by rw [add_block]; exact k _ hb)
  exact ⟨p, e, hb, (f _).trans h0, (f _).trans h1, (f _).trans h2, (f _).trans h3, (f _).trans h4⟩
theorem LnsIn.more {w : World} {B B' : Nat} {A : Option Addr} {l : List LnT} (h : LnsIn w B A l) (k : B ≤ B') : LnsIn w B' A l := fun j hj => by
  obtain ⟨p, e, hb, h1⟩ := h j hj
  exact ⟨p, e, Nat.lt_of_lt_of_le hb k, h1⟩
theorem LnsIn.below {w w' : World} {B : Nat} {A : Option Addr} {l : List LnT} (h : LnsIn w B A l) (k : Below B w w') : LnsIn w' B A l := h.keep fun b hb => k.block b hb
theorem LnsIn.on {w w' : World} {A : Option Addr} {l : List LnT} (h : LnsIn w w.heap.size A l) (k : Below w.heap.size w w') : LnsIn w' w'.heap.size A l := (h.below k).more k.size
theorem ldLnA {w : World} {p : Addr} {a b c d e : Bool} (h0 : w.cell? p = some (.bool a)) (h1 : w.cell? (p.add 1) = some (.bool b)) (h2 : w.cell? (p.add 2) = some (.bool c)) (h3 : w.cell? (p.add 3) = some (.bool d)) (h4 : w.cell? (p.add 4) = some (.bool e)) : (Instr.loadAt 40 (.pointer (some p))).run Tryz.prog w = .ok (lnV ⟨a, b, c, d, e⟩) w := by
  have e1 : w.cell? { block := p.block, off := p.off + 1 } = some (.bool b) := by simpa [Addr.add] using h1
  have e2 : w.cell? { block := p.block, off := p.off + 2 } = some (.bool c) := by simpa [Addr.add] using h2
  have e3 : w.cell? { block := p.block, off := p.off + 3 } = some (.bool d) := by simpa [Addr.add] using h3
  have e4 : w.cell? { block := p.block, off := p.off + 4 } = some (.bool e) := by simpa [Addr.add] using h4
  simp [go_sem, h0, e1, e2, e3, e4]
theorem LnsIn.ld {w : World} {B : Nat} {p : Addr} {l : List LnT} (h : LnsIn w B (some p) l) {k : Nat} (hk : k < l.length) : (Instr.loadAt 40 (.pointer (some (p.add (k * 5))))).run Tryz.prog w = .ok (lnV l[k]) w := by
  obtain ⟨q, e, hb, h0, h1, h2, h3, h4⟩ := h k hk
  cases e
  exact ldLnA h0 (by rw [add_more _ _ _ (by omega)]; exact h1) (by rw [add_more _ _ _ (by omega)]; exact h2) (by rw [add_more _ _ _ (by omega)]; exact h3) (by rw [add_more _ _ _ (by omega)]; exact h4)
theorem LnsIn.addr {w : World} {B : Nat} {A : Option Addr} {l : List LnT} (h : LnsIn w B A l) {k : Nat} (hk : k < l.length) : ∃ p, A = some p := by
  obtain ⟨p, e, -⟩ := h k hk
  exact ⟨p, e⟩
theorem ixLn (p : Addr) (n c k : Nat) (h : k < n) (w : World) : (Instr.indexAt 25 (.slice (some p) n c) (.int .i64 (k : Int))).run Tryz.prog w = .ok (.pointer (some (p.add (k * 5)))) w := by
  have h1 : (k : Int) < n := by omega
  simp [go_sem, h]
theorem reset18_any (g : Rg) (w : World) : Calls Tryz.prog 32 #[regsV g] w fun e w' => e = .returned (regsV (resetG g)) ∧ Below w.heap.size w w' := by
  go_enter Tryz.func32, Tryz.ntmps32
  exact coStart <| qQ [] (Many.begin w) fun w1 k1 => qQ [0, 0, 0, 0] k1 fun w2 k2 => qQ [0, 0] k2 fun w3 k3 => qQ [0, 0] k3 fun w4 k4 => qQ [0, 1] k4 fun w5 k5 => coRet <| eoK1 (k5.row 1 (b := w.heap.size + 1) (t := 24) (regsC (resetG g)).toList (by kernel_rfl)) ⟨rfl, k5.touch.below⟩
theorem at18_any (c : Cy) (w : World) : Calls Tryz.prog 30 #[cyV c] w fun e w' => e = .returned (atV (at0 c)) ∧ Below w.heap.size w w' := by
  go_enter Tryz.func30, Tryz.ntmps30
  exact coStart <| qQ [] (Many.begin w) fun w1 k1 => qQ [0, 1] k1 fun w2 k2 => coRet <| eoK1 (k2.row 1 (b := w.heap.size + 1) (t := 31) (atC (at0 c)).toList (by kernel_rfl)) ⟨rfl, k2.touch.below⟩
theorem mayLeave_any (c : CoT) (A : Option Addr) (n cap : Nat) (w : World) : Calls Tryz.prog 29 #[coV c (.slice A n cap)] w fun e w' => e = .returned (.bool c.leaves) ∧ Below w.heap.size w w' := by
  go_enter Tryz.func29, Tryz.ntmps29
  exact coStart <| qQ [] (Many.begin w) fun w1 k1 => qQ [0] k1 fun w2 k2 => coRet <| eoIr (.bool c.leaves) ⟨rfl, k2.touch.below⟩
theorem answer18_any (k b : Int) (w : World) : Calls Tryz.prog 45 #[.int .i64 k, .int .u8 b] w fun e w' => e = .returned (.int .u8 (if putK k = true then 0 else b)) ∧ Below w.heap.size w w' := by
  go_enter Tryz.func45, Tryz.ntmps45
  refine coStart <| qQ [] (Many.begin w) fun w1 k1 => coS <| coR <| qR 2 [] k1 fun w2 k2 => ?_
  cases h1 : (k == 3) with
  | true => exact tell 6 h1 <| qE [] k2 fun w3 k3 => coT <| qQ [] k3 fun w4 k4 => coRet <| eoTr <| eoIr (.int .u8 0) ⟨by unfold putK; rw [h1]; rfl, k4.touch.below⟩
  | false =>
    refine tell 6 h1 <| qR 3 [] k2 fun w3 k3 => ?_
    cases h2 : (k == 5) with
    | true => exact tell 9 h2 <| qE [] k3 fun w3 k3 => coT <| qQ [] k3 fun w4 k4 => coRet <| eoTr <| eoIr (.int .u8 0) ⟨by unfold putK; rw [h1, h2]; rfl, k4.touch.below⟩
    | false => exact tell 9 h2 <| qE [] k3 fun w3 k3 => coF <| coSkip <| eoT <| qQ [] k3 fun w4 k4 => coRet <| eoIr (.int .u8 b) ⟨by unfold putK; rw [h1, h2]; rfl, k4.touch.below⟩
theorem cnote_any (c : CoT) (A : Option Addr) (n cap : Nat) (v : Bool) (w : World) : Calls Tryz.prog 33 #[coV c (.slice A n cap), .bool v] w fun e w' => e = .returned (coV (c.note v) (.slice A n cap)) ∧ Below w.heap.size w w' := by
  obtain ⟨r, wh, got, a, b, nmi, was, off⟩ := c
  go_enter Tryz.func33, Tryz.ntmps33
  cases nmi <;> cases v <;> exact coStart <| qQ [] (Many.begin w) fun w1 k1 => qQ [0, 0, 0] k1 fun w2 k2 => qQ [0] k2 fun w3 k3 => qQ [0, 1] k3 fun w4 k4 => coRet <| eoK1 (k4.row 1 (b := w.heap.size + 1) (t := 33) (coC (CoT.note ⟨r, wh, got, a, b, _, was, off⟩ _) (.slice A n cap)).toList (by kernel_rfl)) ⟨rfl, k4.touch.below⟩
@[reducible] def stC (a : AtT) (m : Bool) : Array Value := #[.int .i64 a.c.kind, .int .u16 a.c.addr, .int .u8 a.c.data, .int .i64 a.c.t, .int .i64 a.k, .int .i64 a.w, .bool m]
theorem cpass_any (c : CoT) (A : Option Addr) (n cap : Nat) (a : AtT) (m : Bool) (b : Int) (w : World) : Calls Tryz.prog 34 #[coV c (.slice A n cap), .agg (stC a m), .int .u8 b] w fun e w' => e = .returned (coV (c.pass a m b) (.slice A n cap)) ∧ Below w.heap.size w w' := by
  go_enter Tryz.func34, Tryz.ntmps34
  refine coStart <| qQ [] (Many.begin w) fun w1 k1 => qQ [1, 0] k1 fun w2 k2 => ?_
  cases m with
  | false => exact coS <| qQ [1] k2 fun w3 k3 => coF <| coSkip <| eoT <| qQ [0, 2] k3 fun w4 k4 => coRet <| eoK1 (k4.row 2 (b := w.heap.size + 2) (t := 33) (coC (c.pass a false b) (.slice A n cap)).toList (by kernel_rfl)) ⟨rfl, k4.touch.below⟩
  | true =>
    have KA := fun W => answer18_any a.c.kind b W
    obtain ⟨y, hy⟩ : ∃ y, y = (if putK a.c.kind = true then 0 else b) := ⟨_, rfl⟩
    have e : c.pass a true b = { c with a := a, b := y } := by unfold CoT.pass; rw [hy]; rfl
    rw [← hy] at KA
    rw [e]
    exact coS <| qQ [1] k2 fun w3 k3 => coT <| coZ <| qR 5 [0] k3 fun w4 k4 => qC (KA w4) k4 fun w5 k5 => qF [0] k5 fun w6 k6 => eoT <| qQ [0, 2] k6 fun w7 k7 => coRet <| eoK1 (k7.row 2 (b := w.heap.size + 2) (t := 33) (coC { c with a := a, b := y } (.slice A n cap)).toList (by kernel_rfl)) ⟨rfl, k7.touch.below⟩
def heedM (c : CoT) (l : LnT) : LnT := if l.reset = true then { zeroLn with reset := true } else if c.off = true then { zeroLn with bus := l.bus } else l
theorem heeded_any (c : CoT) (A : Option Addr) (n cap : Nat) (l : LnT) (w : World) : Calls Tryz.prog 41 #[coV c (.slice A n cap), lnV l] w fun e w' => e = .returned (lnV (heedM c l)) ∧ Below w.heap.size w w' := by
  obtain ⟨r, wh, got, a, b, nmi, was, off⟩ := c
  obtain ⟨wait, bus, irq, ln, reset⟩ := l
  go_enter Tryz.func41, Tryz.ntmps41
  cases reset with
  | true => exact coStart <| qQ [] (Many.begin w) fun w1 k1 => coS <| qQ [1] k1 fun w2 k2 => coT <| qQ [2] k2 fun w3 k3 => coRet <| eoTr <| eoK1 (k3.row 2 (b := w.heap.size + 2) (t := 40) (lnC { zeroLn with reset := true }).toList (by kernel_rfl)) ⟨rfl, k3.touch.below⟩
  | false =>
    cases off with
    | true => exact coStart <| qQ [] (Many.begin w) fun w1 k1 => coS <| qQ [1] k1 fun w2 k2 => coF <| coSkip <| eoT <| coS <| qQ [0] k2 fun w2 k2 => coT <| qQ [1, 2] k2 fun w3 k3 => coRet <| eoTr <| eoK1 (k3.row 2 (b := w.heap.size + 2) (t := 40) (lnC { zeroLn with bus := bus }).toList (by kernel_rfl)) ⟨rfl, k3.touch.below⟩
    | false => exact coStart <| qQ [] (Many.begin w) fun w1 k1 => coS <| qQ [1] k1 fun w2 k2 => coF <| coSkip <| eoT <| coS <| qQ [0] k2 fun w2 k2 => coF <| coSkip <| eoT <| qQ [1, 2] k2 fun w3 k3 => coRet <| eoK1 (k3.row 2 (b := w.heap.size + 2) (t := 40) (lnC ⟨wait, bus, irq, ln, false⟩).toList (by kernel_rfl)) ⟨rfl, k3.touch.below⟩
theorem mvs_any (a : AtT) (m : Bool) (w : World) : Calls Tryz.prog 366 #[.agg (stC a m)] w fun e w' => e = .returned (.bool m) ∧ Below w.heap.size w w' := by
  go_enter Tryz.func366, Tryz.ntmps366
  exact coStart <| qQ [] (Many.begin w) fun w1 k1 => qQ [0] k1 fun w2 k2 => coRet <| eoIr (.bool m) ⟨rfl, k2.touch.below⟩
theorem mvr_any (w : World) : Calls Tryz.prog 367 #[.agg #[]] w fun e w' => e = .returned (.bool false) ∧ Below w.heap.size w w' := by
  go_enter Tryz.func367, Tryz.ntmps367
  exact coStart <| qQ [] (Many.begin w) fun w1 k1 => qQ [] k1 fun w2 k2 => coRet <| eoIr (.bool false) ⟨rfl, k2.touch.below⟩
theorem mva_any (b : Bool) (w : World) : Calls Tryz.prog 368 #[.agg #[.bool b]] w fun e w' => e = .returned (.bool false) ∧ Below w.heap.size w w' := by
  go_enter Tryz.func368, Tryz.ntmps368
  exact coStart <| qQ [] (Many.begin w) fun w1 k1 => qQ [] k1 fun w2 k2 => coRet <| eoIr (.bool false) ⟨rfl, k2.touch.below⟩
@[reducible] def svC (g : Rg) (v : Int) (A : Option Addr) (n cap : Nat) : Array Value := #[.int .u16 g.af, .int .u16 g.bc, .int .u16 g.de, .int .u16 g.hl, .int .u16 g.af2, .int .u16 g.bc2, .int .u16 g.de2, .int .u16 g.hl2, .int .u16 g.ix, .int .u16 g.iy, .int .u16 g.sp, .int .u16 g.pc, .int .u16 g.wz, .int .u8 g.i, .int .u8 g.r, .bool g.iff1, .bool g.iff2, .bool g.halted, .bool g.late, .int .i64 g.mode, .int .u8 v, .slice A n cap]
@[reducible] def svV (g : Rg) (v : Int) (A : Option Addr) (n cap : Nat) : Value := .agg (svC g v A n cap)
def openC (pc which : Int) : Cy := if which = 1 then ⟨1, pc, 0, 4⟩ else if which = 2 then ⟨6, pc, 0, 6⟩ else zeroCy
theorem opening_any (pc which : Int) (w : World) :
    Calls Tryz.prog 54 #[.int .u16 pc, .int .i64 which] w fun e w' => e = .returned (.tuple #[cyV (openC pc which), .bool (which == 1 || which == 2)]) ∧ Below w.heap.size w w' := by
  go_enter Tryz.func54, Tryz.ntmps54
  refine coStart <| qQ [] (Many.begin w) fun w1 k1 => coS <| qQ [] k1 fun w2 k2 => coB <| qQ [] k2 fun w3 k3 => coI (which == 1) (fun h => ?_) fun h => qQ [] k3 fun w4 k4 => coI (which == 2) (fun h2 => ?_) fun h2 => coSkip <| eoB <| eoT <| qQ [0] k4 fun w5 k5 => coRet <| ?_
  · refine qQ [0] k3 fun w4 k4 => coRet <| eoBr <| eoTr <| eoT2 0 ⟨1, pc, 0, 4⟩ true w.heap.size k4 ⟨?_, k4.touch.below⟩
    have h' : which = 1 := by simpa using h
    unfold openC
    rw [if_pos h', h]; rfl
  · refine qQ [0] k4 fun w5 k5 => coRet <| eoBr <| eoTr <| eoT2 0 ⟨6, pc, 0, 6⟩ true w.heap.size k5 ⟨?_, k5.touch.below⟩
    have h' : which ≠ 1 := by simpa using h
    have h2' : which = 2 := by simpa using h2
    unfold openC
    rw [if_neg h', if_pos h2', h, h2]; rfl
  · refine eoT2 0 zeroCy false w.heap.size k5 ⟨?_, k5.touch.below⟩
    have h' : which ≠ 1 := by simpa using h
    have h2' : which ≠ 2 := by simpa using h2
    unfold openC
    rw [if_neg h', if_neg h2', h, h2]; rfl
theorem asked_any (c : Cy) (w : World) : Calls Tryz.prog 56 #[cyV c] w fun e w' => e = .returned (askT c).v ∧ Below w.heap.size w w' := by
  go_enter Tryz.func56, Tryz.ntmps56
  refine coStart <| qQ [] (Many.begin w) fun w1 k1 => qQ [0, 1, 2] k1 fun w2 k2 => coRet <| eoT3 1 2 c zeroRg false (w.heap.size + 1) (w.heap.size + 2) k2 ⟨rfl, k2.touch.below⟩
theorem aread_any (at_ : Int) (w : World) : Calls Tryz.prog 98 #[.int .u16 at_] w fun e w' => e = .returned (cyV ⟨2, at_, 0, 3⟩) ∧ Below w.heap.size w w' := by
  go_enter Tryz.func98, Tryz.ntmps98
  refine coStart <| qQ [] (Many.begin w) fun w1 k1 => qQ [0] k1 fun w2 k2 => coRet <| eoC 0 (cyC ⟨2, at_, 0, 3⟩).toList k2 ⟨rfl, k2.touch.below⟩
theorem awrite_any (at_ b : Int) (w : World) : Calls Tryz.prog 140 #[.int .u16 at_, .int .u8 b] w fun e w' => e = .returned (cyV ⟨3, at_, b, 3⟩) ∧ Below w.heap.size w w' := by
  go_enter Tryz.func140, Tryz.ntmps140
  refine coStart <| qQ [] (Many.begin w) fun w1 k1 => qQ [0] k1 fun w2 k2 => coRet <| eoC 0 (cyC ⟨3, at_, b, 3⟩).toList k2 ⟨rfl, k2.touch.below⟩
theorem enter_any (g : Rg) (v : Int) (A : Option Addr) (n cap : Nat) (aim : Int) (w : World) : Calls Tryz.prog 95 #[svV g v A n cap, .int .u16 aim] w fun e w' => e = .returned (endT (jumpG g aim)).v ∧ Below w.heap.size w w' := by
  go_enter Tryz.func95, Tryz.ntmps95
  refine coStart <| qQ [] (Many.begin w) fun w1 k1 => qQ [0, 0] k1 fun w2 k2 => qQ [0, 0] k2 fun w3 k3 => qP 4 k3 fun w4 k4 => qD 0 [0, 1, 2] k4 <| poOne 3 <| soZ 1 (w.heap.size + 1) k4 fun w4 k4 => poE <| qE [2] k4 fun w5 k5 => coRet <| eoT3 1 2 zeroCy (jumpG g aim) true (w.heap.size + 1) (w.heap.size + 2) k5 ⟨rfl, k5.touch.below⟩
def LeftAt (w : World) (l : List Cy) (e : Ending) (w' : World) : Prop := ∃ b, e = .returned (.slice (some ⟨b, 0, none⟩) 3 3) ∧ w.heap.size ≤ b ∧ Row w' b 29 (cyvs l).toArray ∧ Below w.heap.size w w'
theorem bs3Y (c d e : Cy) (w : World) : (Instr.buildSlice 99 3 #[(0, cyV c), (1, cyV d), (2, cyV e)]).run Tryz.prog w = .ok (.slice (some ⟨w.heap.size, 0, none⟩) 3 3) (w.alloc (.cells (cyvs [c, d, e]).toArray 29)) := by simp [go_sem, cyvs]
theorem bs2Y (c d : Cy) (w : World) : (Instr.buildSlice 99 2 #[(0, cyV c), (1, cyV d)]).run Tryz.prog w = .ok (.slice (some ⟨w.heap.size, 0, none⟩) 2 2) (w.alloc (.cells (cyvs [c, d]).toArray 29)) := by simp [go_sem, cyvs]
theorem leave_any (g : Rg) (hp : 0 ≤ g.pc ∧ g.pc ≤ 65535) (v : Int) (A : Option Addr) (n cap : Nat) (w : World) : Calls Tryz.prog 94 #[svV g v A n cap] w (LeftAt w (pushL g.sp g.pc)) := by
  go_enter Tryz.func94, Tryz.ntmps94
  refine coStart <| qQ [] (Many.begin w) fun w1 k1 => ?_
  refine qP 19 k1 fun w2 k2 => ?_
  refine qD 0 [0, 1, 2, 3, 4, 5, 6, 7, 10, 11, 12, 13, 14, 15, 16] k2 ?_
  refine qDe 8 (hi_any g.pc hp.1 hp.2 w2) k2 fun w3 k3 => qDc 9 (awrite_any ((g.sp - 1) % 65536) (g.pc / 256) w3) k3 fun w4 k4 => qDe 17 (lo_any g.pc hp.1 hp.2 w4) k4 fun w5 k5 => qDc 18 (awrite_any ((g.sp - 2) % 65536) (g.pc % 256) w5) k5 fun w6 k6 => poE ?_
  refine wM (xBuildS (bs3Y ⟨7, 0, 0, 1⟩ ⟨3, (g.sp - 1) % 65536, g.pc / 256, 3⟩ ⟨3, (g.sp - 2) % 65536, g.pc % 256, 3⟩ w6)) ?_
  refine qE [] (Many.begin _) fun w7 k7 => coRet <| eoIr (.slice (some ⟨w6.heap.size, 0, none⟩) 3 3) ⟨w6.heap.size, rfl, k6.touch.size, (Row.new w6 29 (cyvs (pushL g.sp g.pc)).toArray).below k7.touch.below (Row.new w6 _ _).lt, bOn (bAlloc k6.touch.below _) k7⟩
theorem restart_any (g : Rg) (hp : 0 ≤ g.pc ∧ g.pc ≤ 65535) (v : Int) (A : Option Addr) (n cap : Nat) (hn : n ≤ 1000000000) (aim : Int) (w : World) : Calls Tryz.prog 77 #[svV g v A n cap, .int .u16 aim] w fun e w' => e = .returned (toldT (pushL g.sp g.pc) (jumpG g aim) n).v ∧ Below w.heap.size w w' := by
  go_enter Tryz.func77, Tryz.ntmps77
  refine coStart <| qQ [] (Many.begin w) fun w1 k1 => coR <| qR 1 [0] k1 fun w2 k2 => kX (leave_any g hp v A n cap w2) ?_
  rintro e w3 ⟨b, rfl, hb, hrow, hB⟩
  have k3 := (k2.below hB).add hrow (Nat.le_trans k2.touch.size hb) fun i r hi => Nat.ne_of_lt (Nat.lt_of_lt_of_le (k2.lt i r hi) hb)
  refine ⟨_, rfl, qE [] k3 fun w4 k4 => coS <| qQ [0] k4 fun w5 k5 => coI (decide ((n : Int) < 3)) (fun h => ?_) fun h => coSkip <| eoT <| coR <| qR 2 [0] k5 fun w6 k6 => qC (enter_any g v A n cap aim w6) k6 fun w7 k7 => qE [1, 2] k7 fun w8 k8 => coRet <| eoT3 1 2 zeroCy (jumpG g aim) true (w.heap.size + 1) (w.heap.size + 2) k8 ⟨?_, k8.touch.below⟩⟩
  · have h3 : n < 3 := by have : (n : Int) < 3 := by simpa using h
                          omega
    have h3' : n < (pushL g.sp g.pc).length := h3
    refine coR <| qR 4 [0] k5 fun w6 k6 => wM (xIndex (cixY ⟨b, 0, none⟩ 3 3 n h3 w6)) <| wM (xLoad (CysIn.ld (cys_row (b := b) (t := 29) (k6.row 3 (cyvs (pushL g.sp g.pc)) (by kernel_rfl))) h3')) <| qC (asked_any (pushL g.sp g.pc)[n] _) k6 fun w7 k7 => qE [1, 2] k7 fun w8 k8 => coRet <| eoTr <| eoT3 1 2 (pushL g.sp g.pc)[n] zeroRg false (w.heap.size + 1) (w.heap.size + 2) k8 ⟨?_, k8.touch.below⟩
    unfold toldT
    rw [if_pos h3', List.getD_eq_getElem?_getD, List.getElem?_eq_getElem h3']
    rfl
  · have h3 : ¬ n < 3 := by have : ¬ (n : Int) < 3 := by simpa using h
                            omega
    unfold toldT
    rw [if_neg (show ¬ n < (pushL g.sp g.pc).length from h3)]
    rfl
theorem nmi_any (g : Rg) (hp : 0 ≤ g.pc ∧ g.pc ≤ 65535) (v : Int) (A : Option Addr) (n cap : Nat) (hn : n ≤ 1000000000) (w : World) : Calls Tryz.prog 58 #[svV g v A n cap] w fun e w' => e = .returned (toldT (pushL g.sp g.pc) (jumpG { g with iff1 := false } 102) n).v ∧ Below w.heap.size w w' := by
  go_enter Tryz.func58, Tryz.ntmps58
  obtain ⟨T, hT⟩ : ∃ T, T = toldT (pushL g.sp g.pc) (jumpG { g with iff1 := false } 102) n := ⟨_, rfl⟩
  have K := fun w => restart_any { g with iff1 := false } hp v A n cap hn 102 w
  dsimp only at K
  rw [← hT] at K ⊢
  refine coStart <| qQ [] (Many.begin w) fun w1 k1 => qQ [0] k1 fun w2 k2 => coR <| qR 1 [0] k2 fun w3 k3 => qC (K w3) k3 fun w4 k4 => qE [1, 2] k4 fun w5 k5 => coRet <| eoT3 1 2 T.c T.g T.b (w.heap.size + 1) (w.heap.size + 2) k5 ⟨rfl, k5.touch.below⟩
theorem fixed_any (g : Rg) (hp : 0 ≤ g.pc ∧ g.pc ≤ 65535) (v : Int) (A : Option Addr) (n cap : Nat) (hn : n ≤ 1000000000) (w : World) : Calls Tryz.prog 79 #[svV g v A n cap] w fun e w' => e = .returned (toldT (pushL g.sp g.pc) (jumpG g 56) n).v ∧ Below w.heap.size w w' := by
  go_enter Tryz.func79, Tryz.ntmps79
  obtain ⟨T, hT⟩ : ∃ T, T = toldT (pushL g.sp g.pc) (jumpG g 56) n := ⟨_, rfl⟩
  have K := fun w => restart_any g hp v A n cap hn 56 w
  rw [← hT] at K ⊢
  refine coStart <| qQ [] (Many.begin w) fun w1 k1 => coR <| qR 1 [0] k1 fun w3 k3 => qC (K w3) k3 fun w4 k4 => qE [1, 2] k4 fun w5 k5 => coRet <| eoT3 1 2 T.c T.g T.b (w.heap.size + 1) (w.heap.size + 2) k5 ⟨rfl, k5.touch.below⟩
theorem begin_any (g : Rg) (hg : RgB g) (v : Int) (ys : List Int) (A : Option Addr) (cap : Nat) (hc : ys.length + 1 ≤ cap) (w : World) (hin : BytesIn w w.heap.size A (v :: ys)) : Calls Tryz.prog 57 #[regsV g, .slice A (v :: ys).length cap] w fun e w' => e = .returned (svV (tickG { g with halted := false, late := false } 1) v (if cap = 1 then A else A.map (·.add 1)) ys.length (cap - 1)) ∧ Below w.heap.size w w' := by
  go_enter Tryz.func57, Tryz.ntmps57
  obtain ⟨p, rfl⟩ := hin.addr (k := 0) (by simp)
  refine coStart <| qQ [] (Many.begin w) fun w1 k1 => qQ [0, 0] k1 fun w2 k2 => qP 8 k2 fun w3 k3 => qD 0 [0, 2, 5] k3 <| qT 3 k3 (fun w' _ => xIndex (ixB p (v :: ys).length cap 0 (by simp) _)) <| qT 4 k3 (fun w' hS => xLoad (BytesIn.ld (hin.below hS.touch.below) (k := 0) (by simp))) <| qT 6 k3 (fun w' hS => xSlice (slFrom1 (some p) (v :: ys).length cap (by simp) hc _)) <| qDc 1 (tick_any { g with halted := false, late := false } 1 hg.r w3) k3 fun w4 k4 => qM [7] k4 <| poE <| qE [1] k4 fun w5 k5 => coRet <| eoC 1 (svC (tickG { g with halted := false, late := false } 1) v (if cap = 1 then some p else (some p).map (·.add 1)) ys.length (cap - 1)).toList k5 ⟨rfl, k5.touch.below⟩
end Go.Proofs.YtkenebbjodcbcaaGreatDoor
