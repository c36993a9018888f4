/- Layer 8 (decode): the iterator over the instructions of bytes: contracts. -/
import Derived.RangeFuncNested
import Derived.RangeFuncBound
import Derived.RangeFuncCalls
import Derived.RangeFuncLeaves
import Derived.Shelf.Abstract
import Derived.Shelf.RegionOpen
import Derived.OwnWalkIn
import Derived.TacticsInMore
import Derived.LoopNIn
import Derived.LoopIn
import Derived.Maps.OwnIn
import Derived.Test.YtlmeekaemhghgaaDoorDecodeNext
import Derived.Test.YtlmeekaemhghgaaDoorDecodeRows
import Derived.Test.YtlmeekaemhghgaaDoorKeepsRest
namespace Go.Proofs.YtlmeekaemhghgaaDoor
open Go.RowKit Go.Shelf
set_option linter.unusedVariables false
set_option linter.unusedSimpArgs false
attribute [local go_sem] Oper.semAt_some

abbrev opVM (o : OpM) : Value := opV o.plane o.code o.disp o.imm o.len o.skip
/-- how many bytes a slice has -/
def lenV : Value → Nat
  | .slice _ n _ => n
  | _ => 0
set_option maxRecDepth 100000 in
set_option maxHeartbeats 4000000 in
theorem eachd_in (n : Nat) (hn : 1 ≤ n) (l Bs L F B : Nat) (ad : Option Addr) (cap : Nat) (xs : List Int) (hl : xs.length ≤ 140737488355328) (hc : xs.length ≤ cap) (hx : Bytes8 xs) (J Jx : List OpM → World → Prop)
    (W : World) (hJ : AbidesFrom W.heap.size J)
    (hY : ∀ pre x W1, J pre W1 → pre.length < xs.length + 1 → YieldAt Fence.wide (n - 1) Tryd.prog l #[opVM x] W1 fun e W' =>
      (e = .returned (.bool true) ∧ J (pre ++ [x]) W' ∧ KeepsRest L F W1 W') ∨ (e = .returned (.bool false) ∧ Jx (pre ++ [x]) W'))
    (hBs : Boxed W Bs 29 (.slice ad xs.length cap)) (hb : BytesIn W B ad xs) (hBL : B ≤ L) (hBF : B ≤ F) (hL : L < W.heap.size) (hF : F < W.heap.size) (hB : B ≤ W.heap.size) (hnil : ∀ b, ¬ RowOf W L b) (hJ0 : J [] W) :
    CallsIn Fence.wide n Tryd.prog 41 #[.func (.yield l) #[] #[], .pointer (some ⟨Bs, 0, none⟩)] W fun e W' => (∃ v, e = .returned v) ∧
      ((∃ ys, (∃ k, Stops xs k ∧ ys = opsL xs k) ∧ J ys W') ∨ (∃ pre, True ∧ Jx pre W')) := by
  have hcell := hBs.cell
  refine callsIn_of_wp Tryd.func41 rfl trivial ?_ rfl
  simp only [Tryd.ntmps41, List.size_toArray, List.length_cons, List.length_nil, Nat.reduceAdd, Nat.reduceSub, Array.replicate_succ, Array.replicate_zero, List.push_toArray, List.append_toArray, List.nil_append, List.cons_append]
  gi_wp2
  clear hcell
  gi_loopw [3] (fun t wr => ∃ (k : Nat) (A : Option Addr) (m : Nat), Runs xs k ∧ t = .slice A (xs.drop (posM xs k)).length m ∧ (xs.drop (posM xs k)).length ≤ m ∧ BytesIn wr B A (xs.drop (posM xs k)) ∧ J (opsL xs k) wr ∧ KeepsRest L F W wr)
    (fun t _ => lenV t)
  case atStart => exact ⟨0, ad, cap, Runs.zero xs, rfl, hc, hb, hJ0, KeepsRest.refl _ _ _⟩
  case round =>
    obtain ⟨k, A, m, hr, rfl, hm, hbk, hJk, hK⟩ := hrel
    have hp := hr.pos
    have hin := hK.inside (fun b hb => absurd hb (hnil b))
    have hsz := hK.size
    have hyl : (xs.drop (posM xs k)).length ≤ 140737488355328 := by rw [List.length_drop]; omega
    have hst := Lib.hid (show okM (xs.drop (posM xs k)) = false → Stops xs k from fun ho => ⟨hr, ho⟩)
    have hsu := Lib.hid (show okM (xs.drop (posM xs k)) = true → Runs xs (k + 1) from fun ho => hr.succ ho)
    have hdr := Lib.hid (drop_posM xs k)
    have hop := Lib.hid (show opsL xs (k + 1) = opsL xs k ++ [opOf (xs.drop (posM xs k))] from opsL_succ xs k)
    have hxy := hx.drop (posM xs k)
    have hol := Lib.hid (opsL_length xs k)
    generalize xs.drop (posM xs k) = ys at *
    have hnx := Lib.hid (next_any A m ys hyl hxy wr (hbk.more (by omega)))
    clear hr
    cases ho : okM ys with
    | false =>
      rw [ho] at hnx
      have hst' := hst.out ho
      have hno := (okM_no ho).2
      rw [hno] at hnx
      clear ho hno
      gi_wp2_with fail
      refine ⟨trivial, ?_⟩
      refine (callsIn_wide.2 hnx.out).mono ?_
      rintro e w' ⟨rfl, hbw⟩
      have hJ' := hJ _ _ (w'.alloc (.cells zeroC 24)) none hJk ⟨hbw.os, hbw.tape, hbw.output, Nat.le_trans hbw.size (by simp), fun b hb _ => (hbw.alloc hbw.size _).block b hb⟩ (fun r e => by cases e)
      gi_wp2
      refine ⟨fun _ h => (by cases h), ?_⟩
      gi_wp2
      refine bodyPost_ret (results_none rfl _ _ _) rfl ?_
      exact ⟨⟨_, rfl⟩, .inl ⟨_, ⟨k, hst', rfl⟩, hJ'⟩⟩
    | true =>
      rw [ho] at hnx
      have hrun := hsu.out ho
      have hle := ok_len ho
      have hpos := lead_lt_len ys
      have hlen := lenOf_eq ys
      rw [(okM_yes ho).2] at hnx
      have hopg := Lib.hid (fun W1 hj => hY (opsL xs k) (opOf ys) W1 hj (by rw [hol.out]; omega))
      generalize opOf ys = o at *
      generalize lenOf ys = L0 at *
      obtain ⟨pl, co, di, im, le, sk⟩ := o
      obtain rfl : le = (L0 : Int) := hlen
      clear ho
      gi_wp2_with fail
      refine ⟨trivial, ?_⟩
      refine (callsIn_wide.2 hnx.out).mono ?_
      rintro e w' ⟨rfl, hbw⟩
      have hbo := hbw.alloc hbw.size (.cells #[.int .i64 pl, .int .u8 co, .int .u8 di, .int .u16 im, .int .i64 (L0 : Int), .int .i64 sk] 24)
      have hJ' := hJ _ _ (w'.alloc (.cells #[.int .i64 pl, .int .u8 co, .int .u8 di, .int .u16 im, .int .i64 (L0 : Int), .int .i64 sk] 24)) none hJk ⟨hbo.os, hbo.tape, hbo.output, hbo.size, fun b hb _ => hbo.block b hb⟩ (fun r e => by cases e)
      have hrow := Row.new w' 24 #[.int .i64 pl, .int .u8 co, .int .u8 di, .int .u16 im, .int .i64 (L0 : Int), .int .i64 sk]
      have hKo := Lib.hid (KeepsRest.of_below (L := L) (F := F) hbo (by omega))
      have hrow := Lib.hid hrow
      have hws := hbw.size
      have hno : ¬ RowOf (w'.alloc (.cells #[.int .i64 pl, .int .u8 co, .int .u8 di, .int .u16 im, .int .i64 (L0 : Int), .int .i64 sk] 24)) L w'.heap.size := fun h => by
        have := hin _ ((RowOf.congr (World.cell?_of_block (a := ⟨L, 0, none⟩) (hbo.block L (by omega)))).1 h)
        omega
      have hno := Lib.hid hno
      obtain ⟨p, rfl, hpB, -⟩ := hbk.at_ (k := 0) (by omega)
      obtain ⟨fn, tmps, assign, body, hy, hR⟩ := hopg.out _ hJ'
      have hR := Lib.hid hR
      gi_wp2
      refine hR.out.mono ?_
      rintro e W3 (⟨rfl, hJ3, hk3⟩ | ⟨rfl, hJx3⟩)
      · have hrow3 := hrow.out.rest hk3 (by omega) (by omega) hno.out
        obtain ⟨⟨c0, c1, c2, c3, c4, c5⟩, f⟩ := row6 hrow3
        have hKn := Lib.hid ((hK.trans hKo.out).trans hk3)
        have hbW := Lib.hid (hbk.rest (hKo.out.trans hk3) hBL hBF (fun b hb hr => by
          rcases hK.row b hr with e | e
          · exact hnil b e
          · omega))
        by_cases hmL : m = L0
        · subst hmL
          have hlL : ys.length = m := by omega
          gi_wp2
          go_roundw
          case rel =>
            have hd0 : xs.drop (posM xs (k + 1)) = [] := by rw [hdr.out]; exact List.drop_eq_nil_of_le (by omega)
            exact ⟨k + 1, some p, 0, hrun, by rw [hd0]; rfl, by rw [hd0]; exact Nat.le_refl _, by rw [hd0]; exact BytesIn.nil _ _ _, by rw [hop.out]; exact hJ3, hKn.out⟩
          case measure =>
            show 0 < ys.length
            omega
        · have hb3 := Lib.hid (hbW.out.drop (k := L0) (cap := m) hle (by omega))
          rw [if_neg hmL] at hb3
          gi_wp2
          go_roundw
          case rel => exact ⟨k + 1, some (p.add L0), m - L0, hrun, by rw [hdr.out, List.length_drop], by rw [hdr.out, List.length_drop]; omega, by rw [hdr.out]; exact hb3.out, by rw [hop.out]; exact hJ3, hKn.out⟩
          case measure =>
            show ys.length - L0 < ys.length
            omega
      · gi_wp2
        refine bodyPost_ret (results_none rfl _ _ _) rfl ?_
        exact ⟨⟨_, rfl⟩, .inr ⟨_, trivial, hJx3⟩⟩
set_option maxHeartbeats 1000000 in
theorem eachd_make (n : Nat) (A : Option Addr) (m c : Nat) (w : World) :
    CallsIn Fence.wide n Tryd.prog 35 #[.slice A m c] w fun e w' => e = .returned (.func (.func 41) #[] #[.pointer (some ⟨w.heap.size, 0, none⟩)]) ∧ w' = w.alloc (.cells #[.slice A m c] 29) := by
  refine callsIn_of_wp Tryd.func35 rfl trivial ?_ rfl
  simp only [Tryd.ntmps35, List.size_toArray, List.length_cons, List.length_nil, Nat.reduceAdd, Nat.reduceSub, Array.replicate_succ, Array.replicate_zero, List.push_toArray, List.append_toArray, List.nil_append, List.cons_append]
  gi_wp2
  go_ret
  exact ⟨rfl, rfl⟩
theorem eachd_stops (n : Nat) (hn : 1 ≤ n) (Bs L F B : Nat) (ad : Option Addr) (cap : Nat) (xs : List Int) (hl : xs.length ≤ 140737488355328) (hc : xs.length ≤ cap) (hx : Bytes8 xs) (w : World)
    (hBs : Boxed w Bs 29 (.slice ad xs.length cap)) (hb : BytesIn w B ad xs) (hBL : B ≤ L) (hBF : B ≤ F) (hL : L < w.heap.size) (hF : F < w.heap.size) (hB : B ≤ w.heap.size) (hnil : ∀ b, ¬ RowOf w L b) :
    SeqStopsK Fence.wide n Tryd.prog 41 #[.pointer (some ⟨Bs, 0, none⟩)] (fun x : OpM => #[opVM x]) (KeepsRest L F) (fun ys => ∃ k, Stops xs k ∧ ys = opsL xs k) (fun _ => True) (xs.length + 1) w := fun l J Jx W hW hJ _ hY hJ0 =>
  eachd_in n hn l Bs L F B ad cap xs hl hc hx J Jx W hJ hY ((hW.block Bs hBs.lt).trans hBs) (hb.keep fun b hb2 => hW.block b (by omega)) hBL hBF (Nat.lt_of_lt_of_le hL hW.size) (Nat.lt_of_lt_of_le hF hW.size) (Nat.le_trans hB hW.size)
    (fun b hr => hnil b ((RowOf.congr (World.cell?_of_block (a := ⟨L, 0, none⟩) (hW.block L hL))).1 hr)) hJ0
end Go.Proofs.YtlmeekaemhghgaaDoor
