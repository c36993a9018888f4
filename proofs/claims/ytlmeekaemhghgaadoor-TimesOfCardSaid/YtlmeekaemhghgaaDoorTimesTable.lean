/- Layer 10 (times): Table and the document's own: contracts; two equal arrays compared. -/
import Derived.Test.YtlmeekaemhghgaaDoorTimesRef
import Derived.Test.YtlmeekaemhghgaaDoorArr
import Derived.ChangeKeysEq
namespace Go.Proofs.YtlmeekaemhghgaaDoor
open Go.RowKit
set_option linter.unusedVariables false
set_option linter.unusedSimpArgs false

/-- the table's cells -/
def tabCs : List Value := (List.range 256).map fun (i : Nat) => Value.int .i64 (unheldM (i : Int))
theorem tabCs_len : tabCs.length = 256 := by simp [tabCs]
theorem tabCs_at (j : Nat) (hj : j < 256) : tabCs[j]? = some (.int .i64 (unheldM (j : Int))) := by simp [tabCs, hj]
def tabV : Value := .agg tabCs.toArray
theorem arr256_info : (Tryd.prog.info? 31).map (·.size) = some 256 := by kernel_rfl
theorem tab_info : (Tryd.prog.info? 31).map (·.size) = some tabCs.length := by rw [tabCs_len]; exact arr256_info
theorem tab_one : tabCs.toArray.toList.all (·.oneCell') = true := by
  rw [List.all_eq_true]
  intro v hv
  simp only [tabCs, List.mem_map] at hv
  obtain ⟨i, _, rfl⟩ := hv
  rfl
def zero256 : Array Value := Array.replicate 256 (.int .i64 0)
theorem zero256_info : (Tryd.prog.info? 31).bind (·.zero) = some (.agg zero256) := by kernel_rfl
theorem zero256_at (j : Nat) (hj : j < 256) : zero256[j]? = some (.int .i64 0) := by simp [zero256, Array.getElem?_replicate, hj]
/-- an array in memory, whole -/
theorem ArrIs.range {w : World} {A n : Nat} {v : Nat → Value} (h : ArrIs w A n v) (cs : List Value) (hn : cs.length = n) (hv : ∀ j, j < n → cs[j]? = some (v j)) : w.rangeAt A 0 cs := fun j u hu => by
  have hj : j < n := by
    have := (List.getElem?_eq_some_iff.1 hu).1
    omega
  rw [Nat.zero_add, (h j hj).1, ← hv j hj]
  exact hu
theorem ArrIs.thereAll {w : World} {A n : Nat} {v : Nat → Value} (h : ArrIs w A n v) : w.there A 0 n := fun j hj => by
  rw [Nat.zero_add]; exact ⟨by rw [(h j hj).1]; rfl, (h j hj).2⟩
set_option maxHeartbeats 4000000 in
theorem table_any (w : World) (ht : TimesTabs w) :
    Calls Tryd.prog 15 #[] w fun e w' => e = .returned tabV ∧ Below w.heap.size w w' := by
  have k1 := Lib.hid (fun c (hc : B8 c) W (hW : Below w.heap.size w W) => unheld_any c hc W (ht.below hW))
  clear ht
  have hz := fun W => run_zero (P := Tryd.prog) zero256_info W
  go_enter Tryd.func15, Tryd.ntmps15
  go_upto_region 2 with (fail)
  clear hz
  have hA := (ArrIs.new w zero256 31 0 0 (fun _ => .int .i64 0) 256 (.inr rfl) (fun j hj => zero256_at j hj)).alloc (.cells zero256 31)
  have hL := ArrIs.new (w.alloc (.cells zero256 31)) zero256 31 0 0 (fun _ => .int .i64 0) 256 (.inr rfl) (fun j hj => zero256_at j hj)
  simp only [World.size_alloc] at hL
  have hB : Below w.heap.size w ((w.alloc (.cells zero256 31)).alloc (.cells zero256 31)) := (by repeat (first | exact Below.refl _ _ | assumption | refine bstep ?_ (by assumption) | refine Below.drew ?_ | refine Below.alloc ?_ (by first | (simp; done) | (simp; omega) | omega) _ | refine Below.setCell ?_ (by first | (simp; done) | (simp; omega) | omega) _))
  generalize (w.alloc (.cells zero256 31)).alloc (.cells zero256 31) = W0 at *
  have HA := Lib.hid hA
  have HL := Lib.hid hL
  have HB := Lib.hid hB
  clear hA hL hB
  go_wp2_with fail
  go_loopw [3] (fun ti wr => ∃ k : Nat, k ≤ 256 ∧ ti = .int .i64 (k : Int) ∧ ArrIs wr w.heap.size 256 (fun _ => .int .i64 0) ∧ ArrIs wr (w.heap.size + 1) 256 (fun j => if j < k then .int .i64 (unheldM (j : Int)) else .int .i64 0) ∧ Below w.heap.size w wr) (fun ti _ => 256 - (intOf ti).toNat)
  case atStart => exact ⟨0, Nat.zero_le _, rfl, HA.out, HL.out.congr (fun j hj => by simp), HB.out⟩
  case round =>
    obtain ⟨k, hk, rfl, rA, rL, rB⟩ := hrel
    clear HA HL HB
    have RA := Lib.hid rA
    have RL := Lib.hid rL
    have RB := Lib.hid rB
    clear rA rL rB
    by_cases hlt : k < 256
    · have hk0 : (0 : Int) ≤ (k : Int) := by omega
      have hk1 : (k : Int) < 256 := by omega
      have ku := Lib.hid (k1.out (k : Int) ⟨by omega, by omega⟩ wr RB.out)
      have n2 : IntKind.u8.wrap (k : Int) = (k : Int) := by rw [IntKind.wrap_u8]; omega
      have cL := (RL.out k hlt).1
      have zL := (RL.out k hlt).2
      have hU := Lib.hid (show ∀ j, (if j = k then Value.int .i64 (unheldM (k : Int)) else if j < k then .int .i64 (unheldM (j : Int)) else .int .i64 0) = if j < k + 1 then .int .i64 (unheldM (j : Int)) else .int .i64 0 from fun j => by
        by_cases e : j = k
        · subst e; rw [if_pos rfl, if_pos (by omega)]
        · by_cases l : j < k
          · rw [if_neg e, if_pos l, if_pos (by omega)]
          · rw [if_neg e, if_neg l, if_neg (by omega)])
      go_wp2_with (go_at_call 29; refine (ku.out).mono ?_; rintro e w' ⟨rfl, rfl⟩)
      go_roundw
      case rel => exact ⟨k + 1, by omega, by go_num, RA.out.setOther _ (by omega), (RL.out.set _ hlt).congr (fun j hj => hU.out j), RB.out.setCell (by simp) _⟩
      case measure => simp [intOf]; omega
    · obtain rfl : k = 256 := by omega
      go_upto_region 7 with (fail)
      have hR := (RL.out.congr (u := fun j => .int .i64 (unheldM (j : Int))) (fun j hj => by simp [hj])).range tabCs tabCs_len tabCs_at
      have hT := RA.out.thereAll
      have hS : wr.there w.heap.size 0 tabCs.toArray.size := by rw [show tabCs.toArray.size = 256 from tabCs_len]; exact hT
      have hF := Lib.hid (World.rangeAt_setCells_same wr w.heap.size 0 tabCs (by rw [tabCs_len]; exact hT))
      have hI : (Tryd.prog.info? 31).map (·.size) = some tabCs.toArray.size := tab_info
      apply wp_region_lit
      refine wpList_load_mid rfl 31 _ rfl (w.heap.size + 1) 0 rfl tabCs _ hR Tryd.underlying31 rfl tab_info ?_
      refine wpList_store_mid rfl _ _ _ rfl w.heap.size 0 tabCs.toArray rfl rfl hS hI (by rw [← Array.all_toList]; exact tab_one) ?_
      have hB9 := Lib.hid (Below.setCellsAll RB.out (Nat.le_refl w.heap.size) tabCs 0)
      show wpList _ _ _ _ _ (wr.setCells w.heap.size 0 tabCs)
      generalize wr.setCells w.heap.size 0 tabCs = W9 at *
      clear hR hT hS hI
      apply wpList_nil
      rename_i hret
      refine hret _ _ (wp_ret ?_)
      refine bodyPost_ret (results_range rfl rfl hF.out _ Tryd.underlying31 rfl tab_info) rfl ?_
      exact ⟨rfl, hB9.out⟩
set_option maxHeartbeats 4000000 in
theorem rtable_any (w : World) :
    Calls Tryd.prog 16 #[] w fun e w' => e = .returned tabV ∧ Below w.heap.size w w' := by
  have hz := fun W => run_zero (P := Tryd.prog) zero256_info W
  go_enter Tryd.func16, Tryd.ntmps16
  go_upto_region 2 with (fail)
  clear hz
  have hA := (ArrIs.new w zero256 31 0 0 (fun _ => .int .i64 0) 256 (.inr rfl) (fun j hj => zero256_at j hj)).alloc (.cells zero256 31)
  have hL := ArrIs.new (w.alloc (.cells zero256 31)) zero256 31 0 0 (fun _ => .int .i64 0) 256 (.inr rfl) (fun j hj => zero256_at j hj)
  simp only [World.size_alloc] at hL
  have hB : Below w.heap.size w ((w.alloc (.cells zero256 31)).alloc (.cells zero256 31)) := (by repeat (first | exact Below.refl _ _ | assumption | refine bstep ?_ (by assumption) | refine Below.drew ?_ | refine Below.alloc ?_ (by first | (simp; done) | (simp; omega) | omega) _ | refine Below.setCell ?_ (by first | (simp; done) | (simp; omega) | omega) _))
  generalize (w.alloc (.cells zero256 31)).alloc (.cells zero256 31) = W0 at *
  have HA := Lib.hid hA
  have HL := Lib.hid hL
  have HB := Lib.hid hB
  clear hA hL hB
  go_wp2_with fail
  go_loopw [2] (fun ti wr => ∃ k : Nat, k ≤ 256 ∧ ti = .int .i64 (k : Int) ∧ ArrIs wr w.heap.size 256 (fun _ => .int .i64 0) ∧ ArrIs wr (w.heap.size + 1) 256 (fun j => if j < k then .int .i64 (unheldM (j : Int)) else .int .i64 0) ∧ Below w.heap.size w wr) (fun ti _ => 256 - (intOf ti).toNat)
  case atStart => exact ⟨0, Nat.zero_le _, rfl, HA.out, HL.out.congr (fun j hj => by simp), HB.out⟩
  case round =>
    obtain ⟨k, hk, rfl, rA, rL, rB⟩ := hrel
    clear HA HL HB
    have RA := Lib.hid rA
    have RL := Lib.hid rL
    have RB := Lib.hid rB
    clear rA rL rB
    by_cases hlt : k < 256
    · have hk0 : (0 : Int) ≤ (k : Int) := by omega
      have hk1 : (k : Int) < 256 := by omega
      have kr := Lib.hid (fun W => rrow_any ((k : Int) / 16) ⟨by omega, by omega⟩ W)
      have kx := ix10 (k : Int) ⟨by omega, by omega⟩
      have hU := Lib.hid (show ∀ j, (if j = k then Value.int .i64 (unheldM (k : Int)) else if j < k then .int .i64 (unheldM (j : Int)) else .int .i64 0) = if j < k + 1 then .int .i64 (unheldM (j : Int)) else .int .i64 0 from fun j => by
        by_cases e : j = k
        · subst e; rw [if_pos rfl, if_pos (by omega)]
        · by_cases l : j < k
          · rw [if_neg e, if_pos l, if_pos (by omega)]
          · rw [if_neg e, if_neg l, if_neg (by omega)])
      have hd : (k : Int).tdiv 16 = (k : Int) / 16 := Int.tdiv_eq_ediv_of_nonneg hk0
      have hm : (k : Int).tmod 16 = (k : Int) % 16 := Int.tmod_eq_emod_of_nonneg hk0
      generalize hu : unheldM (k : Int) = un at *
      generalize r10V ((k : Int) / 16) = rv at *
      go_wp2_with fail
      refine (kr.out _).mono ?_
      rintro e w2 ⟨rfl, hb⟩
      have RA2 := Lib.hid (RA.out.kept hb)
      have RL2 := Lib.hid (RL.out.kept hb)
      have RB2 := Lib.hid (RB.out.trans (hb.mono RB.out.size))
      have cL := (RL2.out k hlt).1
      have zL := (RL2.out k hlt).2
      go_wp2
      go_roundw
      case rel => exact ⟨k + 1, by omega, by go_num, RA2.out.setOther _ (by omega), (RL2.out.set _ hlt).congr (fun j hj => hU.out j), RB2.out.setCell (by simp) _⟩
      case measure => simp [intOf]; omega
    · obtain rfl : k = 256 := by omega
      go_upto_region 6 with (fail)
      have hR := (RL.out.congr (u := fun j => .int .i64 (unheldM (j : Int))) (fun j hj => by simp [hj])).range tabCs tabCs_len tabCs_at
      have hT := RA.out.thereAll
      have hS : wr.there w.heap.size 0 tabCs.toArray.size := by rw [show tabCs.toArray.size = 256 from tabCs_len]; exact hT
      have hF := Lib.hid (World.rangeAt_setCells_same wr w.heap.size 0 tabCs (by rw [tabCs_len]; exact hT))
      have hI : (Tryd.prog.info? 31).map (·.size) = some tabCs.toArray.size := tab_info
      apply wp_region_lit
      refine wpList_load_mid rfl 31 _ rfl (w.heap.size + 1) 0 rfl tabCs _ hR Tryd.underlying31 rfl tab_info ?_
      refine wpList_store_mid rfl _ _ _ rfl w.heap.size 0 tabCs.toArray rfl rfl hS hI (by rw [← Array.all_toList]; exact tab_one) ?_
      have hB9 := Lib.hid (Below.setCellsAll RB.out (Nat.le_refl w.heap.size) tabCs 0)
      show wpList _ _ _ _ _ (wr.setCells w.heap.size 0 tabCs)
      generalize wr.setCells w.heap.size 0 tabCs = W9 at *
      clear hR hT hS hI
      apply wpList_nil
      rename_i hret
      refine hret _ _ (wp_ret ?_)
      refine bodyPost_ret (results_range rfl rfl hF.out _ Tryd.underlying31 rfl tab_info) rfl ?_
      exact ⟨rfl, hB9.out⟩
theorem eqItems_all {P : Program} {e : TypeId} (he : P.plainKey e = true) {xs : Array Value} {w : World} {d : Nat} : ∀ is : List Nat, (∀ i ∈ is, ∃ v, xs[i]? = some v ∧ (Op.equalIn d e v v).run P w = .ok true w) → (Op.eqItems d e 1 xs xs is).run P w = .ok true w
  | [], _ => by simp [Op.eqItems]
  | i :: is, h => by
    obtain ⟨v, hv, hq⟩ := h i (by simp)
    have hp := run_part_plain w he hv
    simp only [Op.eqItems, Sem.run_bind, Nat.mul_one, hp, hq, Result.andThen_ok]
    simpa using eqItems_all he is (fun j hj => h j (by simp [hj]))
/-- the table compared with itself -/
theorem tab_same (w : World) : (Op.equalIn 10000 31 tabV tabV).run Tryd.prog w = .ok true w := by
  obtain ⟨i, hi⟩ : ∃ i, Tryd.prog.info? 3 = some i := Option.isSome_iff_exists.1 (by kernel_rfl)
  unfold tabV
  rw [run_equalIn_array (w := w) 9999 _ _ Tryd.underlying31 hi, show Tryd.prog.cellsOf 3 = 1 by kernel_rfl]
  refine eqItems_all (by kernel_rfl) _ (fun j hj => ?_)
  refine ⟨.int .i64 (unheldM (j : Int)), ?_, ?_⟩
  · rw [List.getElem?_toArray]
    exact tabCs_at j (by simpa using hj)
  · rw [run_equalIn_int w 9998 3 .i64 .i64 _ _ Tryd.underlying3]
    simp
theorem tab_binOp (w : World) : (binOp .eql 31 tabV tabV).run Tryd.prog w = .ok (.bool true) w := by
  have h := tab_same w
  unfold tabV at *
  rw [run_eql_struct, h]
  rfl
theorem tab_guard (x y : Operand) (w : World) : (eqGuard .eql 31 x y tabV tabV).run Tryd.prog w = .ok () w := by
  unfold tabV
  exact run_eqGuard_agg (P := Tryd.prog) w .eql _ x y _ _ (by kernel_rfl)
/-- a number of the table, by its place -/
theorem tab_at (k : Nat) (hk : k < 256) (w : World) : (Instr.index 31 tabV (.int .i64 (k : Int))).run Tryd.prog w = .ok (.int .i64 (unheldM (k : Int))) w := by
  unfold tabV
  refine run_index_arr Tryd.underlying31 (by kernel_rfl) (by kernel_rfl) ⟨by omega, by omega⟩ ?_
  rw [List.getElem?_toArray, Int.toNat_natCast]
  exact tabCs_at k hk
end Go.Proofs.YtlmeekaemhghgaaDoor
