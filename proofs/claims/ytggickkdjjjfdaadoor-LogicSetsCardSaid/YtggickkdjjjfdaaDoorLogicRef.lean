/- Layer 5 (logic): contracts of the document's own answers. -/
import Derived.Test.YtggickkdjjjfdaaDoorLogicMath
import Derived.Test.YtggickkdjjjfdaaDoorSumRef
import Derived.Deep.MidRow
namespace Go.Proofs.YtggickkdjjjfdaaDoor
open Go.RowKit
theorem arr_v8 (w' w : World) (b0 b1 b2 b3 b4 b5 b6 b7 : Bool) (t : TypeId) (hb : Below (w.alloc (.cells #[.bool b0, .bool b1, .bool b2, .bool b3, .bool b4, .bool b5, .bool b6, .bool b7] t)).heap.size (w.alloc (.cells #[.bool b0, .bool b1, .bool b2, .bool b3, .bool b4, .bool b5, .bool b6, .bool b7] t)) w') :
    ArrIs w' w.heap.size 8 (fun j => .bool ([b0, b1, b2, b3, b4, b5, b6, b7].getD j false)) :=
  (ArrIs.new w _ t 0 0 _ 8 (.inr rfl) (fun j hj => nat8 (fun j => (#[Value.bool b0, .bool b1, .bool b2, .bool b3, .bool b4, .bool b5, .bool b6, .bool b7] : Array Value)[j]? = some (.bool ([b0, b1, b2, b3, b4, b5, b6, b7].getD j false))) ⟨rfl, rfl, rfl, rfl, rfl, rfl, rfl, rfl⟩ j hj)).kept hb
set_option linter.unusedVariables false
set_option linter.unusedSimpArgs false
attribute [local go_sem ↓] ix8_0 ix8_1 ix8_2 ix8_3 ix8_4 ix8_5 ix8_6 ix8_7

def mergeUpto (op : Bool → Bool → Bool) (a b : Int) : Nat → Int
  | 0 => 0
  | k + 1 => withM (mergeUpto op a b k) k (op (isM a k) (isM b k))
theorem mergeUpto_byte (op : Bool → Bool → Bool) (a b : Int) : ∀ k, B8 (mergeUpto op a b k)
  | 0 => B8.zero
  | k + 1 => (mergeUpto_byte op a b k).with _ _
theorem mergeUpto_all (op : Bool → Bool → Bool) (a b : Int) : mergeUpto op a b 8 = mergeM op a b := up_mk _ _ _ _ _ _ _ _
set_option maxHeartbeats 4000000 in
theorem againstAnd_any (a b : Int) (ha : B8 a) (hB : B8 b) (w : World) :
    Calls Tryd.prog 27 #[.int .i64 0, .int .u8 a, .int .u8 b] w fun e w' => e = .returned (.int .u8 (andR a b)) ∧ w = w' := by
  go_enter Tryd.func27, Tryd.ntmps27
  go_wp2
  go_loop [7, 8] (fun r i => ∃ k : Nat, k ≤ 8 ∧ i = .int .i64 k ∧ r = .int .u8 (mergeUpto andB a b k)) (fun _ i => 8 - (intOf i).toNat)
  case atStart => exact ⟨0, by omega, rfl, rfl⟩
  case round =>
    obtain ⟨k, hk, rfl, rfl⟩ := hrel
    have hm := mergeUpto_byte andB a b k
    by_cases hlt : k < 8
    · have HS := Lib.hid (show mergeUpto andB a b (k + 1) = withM (mergeUpto andB a b k) k (andB (isM a k) (isM b k)) from rfl)
      cases c : isM a k <;> cases d : isM b k
      all_goals
        rw [c, d] at HS
        go_wp2_with (first
          | (go_at_call 37; refine (ris_any _ _ (B8.lo (by assumption)) (B8.hi (by assumption)) _).mono ?_; rintro e w' ⟨rfl, rfl⟩)
          | (go_at_call 28; refine (rwith_any _ _ _ (B8.lo (by assumption)) (B8.hi (by assumption)) _).mono ?_; rintro e w' ⟨rfl, rfl⟩))
        go_round
        case rel => exact ⟨k + 1, by omega, by go_num, by rw [HS.out]; rfl⟩
        case measure => simp [intOf]; omega
    · obtain rfl : k = 8 := by omega
      go_wp2
      go_ret
      exact ⟨ret_int (mergeUpto_all _ _ _), rfl⟩
set_option maxHeartbeats 4000000 in
theorem againstOr_any (a b : Int) (ha : B8 a) (hB : B8 b) (w : World) :
    Calls Tryd.prog 27 #[.int .i64 1, .int .u8 a, .int .u8 b] w fun e w' => e = .returned (.int .u8 (orR a b)) ∧ w = w' := by
  go_enter Tryd.func27, Tryd.ntmps27
  go_wp2
  go_loop [7, 8] (fun r i => ∃ k : Nat, k ≤ 8 ∧ i = .int .i64 k ∧ r = .int .u8 (mergeUpto orB a b k)) (fun _ i => 8 - (intOf i).toNat)
  case atStart => exact ⟨0, by omega, rfl, rfl⟩
  case round =>
    obtain ⟨k, hk, rfl, rfl⟩ := hrel
    have hm := mergeUpto_byte orB a b k
    by_cases hlt : k < 8
    · have HS := Lib.hid (show mergeUpto orB a b (k + 1) = withM (mergeUpto orB a b k) k (orB (isM a k) (isM b k)) from rfl)
      cases c : isM a k <;> cases d : isM b k
      all_goals
        rw [c, d] at HS
        go_wp2_with (first
          | (go_at_call 37; refine (ris_any _ _ (B8.lo (by assumption)) (B8.hi (by assumption)) _).mono ?_; rintro e w' ⟨rfl, rfl⟩)
          | (go_at_call 28; refine (rwith_any _ _ _ (B8.lo (by assumption)) (B8.hi (by assumption)) _).mono ?_; rintro e w' ⟨rfl, rfl⟩))
        go_round
        case rel => exact ⟨k + 1, by omega, by go_num, by rw [HS.out]; rfl⟩
        case measure => simp [intOf]; omega
    · obtain rfl : k = 8 := by omega
      go_wp2
      go_ret
      exact ⟨ret_int (mergeUpto_all _ _ _), rfl⟩
set_option maxHeartbeats 4000000 in
theorem againstXor_any (a b : Int) (ha : B8 a) (hB : B8 b) (w : World) :
    Calls Tryd.prog 27 #[.int .i64 2, .int .u8 a, .int .u8 b] w fun e w' => e = .returned (.int .u8 (xorR a b)) ∧ w = w' := by
  go_enter Tryd.func27, Tryd.ntmps27
  go_wp2
  go_loop [7, 8] (fun r i => ∃ k : Nat, k ≤ 8 ∧ i = .int .i64 k ∧ r = .int .u8 (mergeUpto xorB a b k)) (fun _ i => 8 - (intOf i).toNat)
  case atStart => exact ⟨0, by omega, rfl, rfl⟩
  case round =>
    obtain ⟨k, hk, rfl, rfl⟩ := hrel
    have hm := mergeUpto_byte xorB a b k
    by_cases hlt : k < 8
    · have HS := Lib.hid (show mergeUpto xorB a b (k + 1) = withM (mergeUpto xorB a b k) k (xorB (isM a k) (isM b k)) from rfl)
      cases c : isM a k <;> cases d : isM b k
      all_goals
        rw [c, d] at HS
        go_wp2_with (first
          | (go_at_call 37; refine (ris_any _ _ (B8.lo (by assumption)) (B8.hi (by assumption)) _).mono ?_; rintro e w' ⟨rfl, rfl⟩)
          | (go_at_call 28; refine (rwith_any _ _ _ (B8.lo (by assumption)) (B8.hi (by assumption)) _).mono ?_; rintro e w' ⟨rfl, rfl⟩))
        go_round
        case rel => exact ⟨k + 1, by omega, by go_num, by rw [HS.out]; rfl⟩
        case measure => simp [intOf]; omega
    · obtain rfl : k = 8 := by omega
      go_wp2
      go_ret
      exact ⟨ret_int (mergeUpto_all _ _ _), rfl⟩
set_option maxHeartbeats 4000000 in
theorem rand_any (a b : Int) (ha : B8 a) (hB : B8 b) (w : World) :
    Calls Tryd.prog 9 #[.int .u8 a, .int .u8 b] w fun e w' => e = .returned (two (andR a b) (andFl (andR a b))) ∧ Below w.heap.size w w' := by
  have hr : B8 (andR a b) := mergeM_byte ..
  have he := evenFM_byte (andR a b)
  have hm := Lib.hid (andFl_with _ hr)
  go_enter Tryd.func9, Tryd.ntmps9
  go_wp2_with (first
    | (go_at_call 27; refine (againstAnd_any _ _ (by assumption) (by assumption) _).mono ?_; rintro e w' ⟨rfl, rfl⟩)
    | (go_at_call 28; refine (rwith_any _ _ _ (B8.lo (by assumption)) (B8.hi (by assumption)) _).mono ?_; rintro e w' ⟨rfl, rfl⟩)
    | (go_at_call 29; refine (revenF_any _ (B8.lo (by assumption)) (B8.hi (by assumption)) _).mono ?_; rintro e w' ⟨rfl, hb⟩; have hsz := hb.size))
  go_ret2
  exact ⟨by rw [← hm.out]; rfl, (by repeat (first | exact Below.refl _ _ | assumption | refine bstep ?_ (by assumption) | refine Below.drew ?_ | refine Below.alloc ?_ (by first | (simp; done) | (simp; omega) | omega) _ | refine Below.setCell ?_ (by first | (simp; done) | (simp; omega) | omega) _))⟩
set_option maxHeartbeats 4000000 in
theorem ror_any (a b : Int) (ha : B8 a) (hB : B8 b) (w : World) :
    Calls Tryd.prog 11 #[.int .u8 a, .int .u8 b] w fun e w' => e = .returned (two (orR a b) (evenFM (orR a b))) ∧ Below w.heap.size w w' := by
  have hr : B8 (orR a b) := mergeM_byte ..
  have he := evenFM_byte (orR a b)
  go_enter Tryd.func11, Tryd.ntmps11
  go_wp2_with (first
    | (go_at_call 27; refine (againstOr_any _ _ (by assumption) (by assumption) _).mono ?_; rintro e w' ⟨rfl, rfl⟩)
    | (go_at_call 28; refine (rwith_any _ _ _ (B8.lo (by assumption)) (B8.hi (by assumption)) _).mono ?_; rintro e w' ⟨rfl, rfl⟩)
    | (go_at_call 29; refine (revenF_any _ (B8.lo (by assumption)) (B8.hi (by assumption)) _).mono ?_; rintro e w' ⟨rfl, hb⟩; have hsz := hb.size))
  go_ret2
  exact ⟨rfl, (by repeat (first | exact Below.refl _ _ | assumption | refine bstep ?_ (by assumption) | refine Below.drew ?_ | refine Below.alloc ?_ (by first | (simp; done) | (simp; omega) | omega) _ | refine Below.setCell ?_ (by first | (simp; done) | (simp; omega) | omega) _))⟩
set_option maxHeartbeats 4000000 in
theorem rxor_any (a b : Int) (ha : B8 a) (hB : B8 b) (w : World) :
    Calls Tryd.prog 13 #[.int .u8 a, .int .u8 b] w fun e w' => e = .returned (two (xorR a b) (evenFM (xorR a b))) ∧ Below w.heap.size w w' := by
  have hr : B8 (xorR a b) := mergeM_byte ..
  have he := evenFM_byte (xorR a b)
  go_enter Tryd.func13, Tryd.ntmps13
  go_wp2_with (first
    | (go_at_call 27; refine (againstXor_any _ _ (by assumption) (by assumption) _).mono ?_; rintro e w' ⟨rfl, rfl⟩)
    | (go_at_call 28; refine (rwith_any _ _ _ (B8.lo (by assumption)) (B8.hi (by assumption)) _).mono ?_; rintro e w' ⟨rfl, rfl⟩)
    | (go_at_call 29; refine (revenF_any _ (B8.lo (by assumption)) (B8.hi (by assumption)) _).mono ?_; rintro e w' ⟨rfl, hb⟩; have hsz := hb.size))
  go_ret2
  exact ⟨rfl, (by repeat (first | exact Below.refl _ _ | assumption | refine bstep ?_ (by assumption) | refine Below.drew ?_ | refine Below.alloc ?_ (by first | (simp; done) | (simp; omega) | omega) _ | refine Below.setCell ?_ (by first | (simp; done) | (simp; omega) | omega) _))⟩
theorem ArrIs.there {w : World} {A n : Nat} {v : Nat → Value} (h : ArrIs w A n v) : w.there A 0 n := fun j hj => by
  rw [Nat.zero_add]; exact ⟨by rw [(h j hj).1]; rfl, (h j hj).2⟩
theorem range8 (w : World) (b : Nat) (x0 x1 x2 x3 x4 x5 x6 x7 : Value) (h : w.there b 0 8) : ∀ w2, w.setCells b 0 [x0, x1, x2, x3, x4, x5, x6, x7] = w2 →
    w2.cell? ⟨b, 0, none⟩ = some x0 ∧ w2.cell? ⟨b, 1, none⟩ = some x1 ∧ w2.cell? ⟨b, 2, none⟩ = some x2 ∧ w2.cell? ⟨b, 3, none⟩ = some x3 ∧ w2.cell? ⟨b, 4, none⟩ = some x4 ∧ w2.cell? ⟨b, 5, none⟩ = some x5 ∧ w2.cell? ⟨b, 6, none⟩ = some x6 ∧ w2.cell? ⟨b, 7, none⟩ = some x7 := by
  rintro w2 rfl
  have hc := World.rangeAt_setCells_same w b 0 [x0, x1, x2, x3, x4, x5, x6, x7] h
  exact ⟨hc 0 _ rfl, hc 1 _ rfl, hc 2 _ rfl, hc 3 _ rfl, hc 4 _ rfl, hc 5 _ rfl, hc 6 _ rfl, hc 7 _ rfl⟩
theorem Below.setCells {n : Nat} {w w' : World} (h : Below n w w') {b : Nat} (hb : n ≤ b) : ∀ (vs : List Value) (o : Nat), Below n w (w'.setCells b o vs) := by
  intro vs
  induction vs generalizing w' with
  | nil => intro o; exact h
  | cons v r ih => intro o; exact ih (h.setCell hb _) (o + 1)
set_option maxHeartbeats 4000000 in
theorem lines_any (f a : Int) (hf : B8 f) (ha : B8 a) (w : World) :
    Calls Tryd.prog 33 #[.int .u8 f, .int .u8 a] w fun e w' => e = .returned (v8 (isM f 7) (isM f 6) (isM a 5) (isM f 4) (isM a 3) (isM f 2) (isM f 1) (isM f 0)) ∧ Below w.heap.size w w' := by
  have hf0 := hf.1
  have hf1 := hf.2
  go_enter Tryd.func33, Tryd.ntmps33
  go_wp2_with fail
  refine (rof_any _ hf0 hf1 _).mono ?_
  rintro e w' ⟨rfl, hb⟩
  have hsz := hb.size
  have hlt : w.heap.size < w'.heap.size := by simp only [World.size_alloc] at hsz; omega
  have R := ((arr_v8 w' w false false false false false false false false _ hb).alloc (.cells #[.bool (isM f 7), .bool (isM f 6), .bool (isM a 5), .bool (isM f 4), .bool (isM a 3), .bool (isM f 2), .bool (isM f 1), .bool (isM f 0)] 34)).there
  have hb := Lib.hid hb
  clear hsz
  go_wp2_with (first
    | (go_at_call 37; refine (ris_any _ _ ha.1 ha.2 _).mono ?_; rintro e w' ⟨rfl, rfl⟩)
    | (refine wpList_store_mid rfl _ _ _ rfl _ _ _ rfl rfl R (by kernel_rfl) (by simp [Value.oneCell']) ?_; rw [show (#[Value.bool (isM f 7), .bool (isM f 6), .bool (isM a 5), .bool (isM f 4), .bool (isM a 3), .bool (isM f 2), .bool (isM f 1), .bool (isM f 0)] : Array Value).toList = [Value.bool (isM f 7), .bool (isM f 6), .bool (isM a 5), .bool (isM f 4), .bool (isM a 3), .bool (isM f 2), .bool (isM f 1), .bool (isM f 0)] from rfl]; have hl := range8 _ _ (.bool (isM f 7)) (.bool (isM f 6)) (.bool (isM a 5)) (.bool (isM f 4)) (.bool (isM a 3)) (.bool (isM f 2)) (.bool (isM f 1)) (.bool (isM f 0)) R _ rfl; have hq := Lib.hid (Below.setCells (b := w.heap.size) (show Below w.heap.size w (w'.alloc (.cells #[.bool (isM f 7), .bool (isM f 6), .bool (isM a 5), .bool (isM f 4), .bool (isM a 3), .bool (isM f 2), .bool (isM f 1), .bool (isM f 0)] 34)) from Below.alloc (Below.trans ((Below.refl _ w).alloc (Nat.le_refl _) _) (hb.out.mono (by simp))) (by omega) _) (Nat.le_refl _) [.bool (isM f 7), .bool (isM f 6), .bool (isM a 5), .bool (isM f 4), .bool (isM a 3), .bool (isM f 2), .bool (isM f 1), .bool (isM f 0)] 0); clear R; generalize (w'.alloc _).setCells w.heap.size 0 _ = w2 at hl hq ⊢))
  refine bodyPost_ret (v := v8 (isM f 7) (isM f 6) (isM a 5) (isM f 4) (isM a 3) (isM f 2) (isM f 1) (isM f 0)) (by simp [results, Tryd.f33, go_sem, hl.1, hl.2.1, hl.2.2.1, hl.2.2.2.1, hl.2.2.2.2.1, hl.2.2.2.2.2.1, hl.2.2.2.2.2.2.1, hl.2.2.2.2.2.2.2]) rfl ?_
  exact ⟨rfl, hq.out⟩
set_option maxHeartbeats 4000000 in
theorem rcpl_any (a f : Int) (ha : B8 a) (hf : B8 f) (w : World) :
    Calls Tryd.prog 15 #[.int .u8 a, .int .u8 f] w fun e w' => e = .returned (two (255 - a) (cplF a f)) ∧ Below w.heap.size w w' := by
  have hr : B8 (255 - a) := ⟨by have := ha.2; omega, by have := ha.1; omega⟩
  have a0 := ha.1
  have a1 := ha.2
  go_enter Tryd.func15, Tryd.ntmps15
  go_wp2_with (first
    | (go_at_call 33; refine (lines_any _ _ (by assumption) (by assumption) _).mono ?_; rintro e w' ⟨rfl, hb⟩; have hsz := hb.size)
    | (go_at_call 34; refine (rmake_any _ _ _ _ _ _ _ _ _).mono ?_; rintro e w' ⟨rfl, hb⟩; have hsz := hb.size))
  go_ret2
  exact ⟨rfl, (by repeat (first | exact Below.refl _ _ | assumption | refine bstep ?_ (by assumption) | refine Below.drew ?_ | refine Below.alloc ?_ (by first | (simp; done) | (simp; omega) | omega) _ | refine Below.setCell ?_ (by first | (simp; done) | (simp; omega) | omega) _))⟩
set_option maxHeartbeats 4000000 in
theorem rscf_any (a f : Int) (ha : B8 a) (hf : B8 f) (w : World) :
    Calls Tryd.prog 19 #[.int .u8 a, .int .u8 f] w fun e w' => e = .returned (.int .u8 (scfF a f)) ∧ Below w.heap.size w w' := by
  go_enter Tryd.func19, Tryd.ntmps19
  go_wp2_with (first
    | (go_at_call 33; refine (lines_any _ _ (by assumption) (by assumption) _).mono ?_; rintro e w' ⟨rfl, hb⟩; have hsz := hb.size)
    | (go_at_call 34; refine (rmake_any _ _ _ _ _ _ _ _ _).mono ?_; rintro e w' ⟨rfl, hb⟩; have hsz := hb.size))
  go_ret
  exact ⟨rfl, (by repeat (first | exact Below.refl _ _ | assumption | refine bstep ?_ (by assumption) | refine Below.drew ?_ | refine Below.alloc ?_ (by first | (simp; done) | (simp; omega) | omega) _ | refine Below.setCell ?_ (by first | (simp; done) | (simp; omega) | omega) _))⟩
set_option maxHeartbeats 4000000 in
theorem rccf_any (a f : Int) (ha : B8 a) (hf : B8 f) (w : World) :
    Calls Tryd.prog 21 #[.int .u8 a, .int .u8 f] w fun e w' => e = .returned (.int .u8 (ccfF a f)) ∧ Below w.heap.size w w' := by
  go_enter Tryd.func21, Tryd.ntmps21
  go_wp2_with (first
    | (go_at_call 33; refine (lines_any _ _ (by assumption) (by assumption) _).mono ?_; rintro e w' ⟨rfl, hb⟩; have hsz := hb.size)
    | (go_at_call 34; refine (rmake_any _ _ _ _ _ _ _ _ _).mono ?_; rintro e w' ⟨rfl, hb⟩; have hsz := hb.size))
  go_ret
  exact ⟨rfl, (by repeat (first | exact Below.refl _ _ | assumption | refine bstep ?_ (by assumption) | refine Below.drew ?_ | refine Below.alloc ?_ (by first | (simp; done) | (simp; omega) | omega) _ | refine Below.setCell ?_ (by first | (simp; done) | (simp; omega) | omega) _))⟩
theorem evenFM_bits (r : Int) : isM (evenFM r) 7 = isM r 7 ∧ isM (evenFM r) 6 = (r == 0) ∧ isM (evenFM r) 5 = isM r 5 ∧ isM (evenFM r) 4 = false ∧ isM (evenFM r) 3 = isM r 3 ∧ isM (evenFM r) 2 = evenM r ∧ isM (evenFM r) 1 = false ∧ isM (evenFM r) 0 = false := of_mkM _ _ _ _ _ _ _ _
end Go.Proofs.YtggickkdjjjfdaaDoor
