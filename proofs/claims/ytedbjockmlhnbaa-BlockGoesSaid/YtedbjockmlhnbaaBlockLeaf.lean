/- Layer 7 (block): contracts of when, join, more, trace, Move, Find, pass, Take, Give, Again. -/
import Derived.Test.YtedbjockmlhnbaaBlockMath
import Derived.Test.YtedbjockmlhnbaaSumSub
namespace Go.Proofs.Ytedbjockmlhnbaa
open Go.RowKit
set_option linter.unusedVariables false
set_option linter.unusedSimpArgs false

theorem cells3 (w : World) (t : TypeId) (x0 x1 x2 : Int) (n : Nat × Nat) : ∀ j, j < [x0, x1, x2].length → (w.alloc (.cells #[.int .u8 x0, .int .u8 x1, .int .u8 x2] t n)).cell? ⟨w.heap.size, 0 + j, none⟩ = some (.int .u8 ([x0, x1, x2].getD j 0)) := by
  have e : ∀ o : Obj, (w.alloc o).heap[w.heap.size]? = some o := fun o => by
    show (w.heap.push _)[w.heap.size]? = _
    simp
  intro j hj
  match j, hj with
  | 0, _ => simp only [World.cell?, Nat.zero_add, e]; rfl
  | 1, _ => simp only [World.cell?, Nat.zero_add, e]; rfl
  | 2, _ => simp only [World.cell?, Nat.zero_add, e]; rfl
theorem cells5 (w : World) (t : TypeId) (x0 x1 x2 x3 x4 : Int) (n : Nat × Nat) : ∀ j, j < [x0, x1, x2, x3, x4].length → (w.alloc (.cells #[.int .u8 x0, .int .u8 x1, .int .u8 x2, .int .u8 x3, .int .u8 x4] t n)).cell? ⟨w.heap.size, 0 + j, none⟩ = some (.int .u8 ([x0, x1, x2, x3, x4].getD j 0)) := by
  have e : ∀ o : Obj, (w.alloc o).heap[w.heap.size]? = some o := fun o => by
    show (w.heap.push _)[w.heap.size]? = _
    simp
  intro j hj
  match j, hj with
  | 0, _ => simp only [World.cell?, Nat.zero_add, e]; rfl
  | 1, _ => simp only [World.cell?, Nat.zero_add, e]; rfl
  | 2, _ => simp only [World.cell?, Nat.zero_add, e]; rfl
  | 3, _ => simp only [World.cell?, Nat.zero_add, e]; rfl
  | 4, _ => simp only [World.cell?, Nat.zero_add, e]; rfl

set_option maxHeartbeats 400000 in
theorem bwhen_any (h : Bool) (v : Int) (h0 : 0 ≤ v) (h1 : v ≤ 255) (w : World) :
    Calls Try.prog 28 #[.bool h, .int .u8 v] w fun e w' => e = .returned (.int .u8 (whenM h v)) ∧ w = w' := by
  cases h
  all_goals
    go_enter Try.func28, Try.ntmps28
    go_wp2
    go_ret
    exact ⟨rfl, rfl⟩
set_option maxHeartbeats 4000000 in
theorem bjoin_any (b off len cap : Nat) (zs : List Int) (w : World) (hz : len ≤ zs.length) (hbig : len ≤ 100) (hc : ∀ j, j < zs.length → w.cell? ⟨b, off + j, none⟩ = some (.int .u8 (zs.getD j 0))) :
    Calls Try.prog 18 #[.slice (some ⟨b, off, none⟩) len cap] w fun e w' => e = .returned (.int .u8 (joinUpto zs len)) ∧ w = w' := by
  go_enter Try.func18, Try.ntmps18
  go_wp2
  go_loop [3, 8] (fun t i => ∃ k : Nat, k ≤ len ∧ i = .int .i64 k ∧ t = .int .u8 (joinUpto zs k)) (fun _ i => len - (intOf i).toNat)
  case atStart => exact ⟨0, Nat.zero_le _, rfl, rfl⟩
  case round =>
    obtain ⟨k, hk, rfl, rfl⟩ := hrel
    by_cases hlt : k < len
    · have hk0 : (0 : Int) ≤ (k : Int) := by omega
      have hk1 : (k : Int) < (len : Int) := by omega
      have hcell := hc k (by omega)
      have hc := Lib.hid hc
      go_wp2
      go_round
      case rel => exact ⟨k + 1, by omega, by go_num, rfl⟩
      case measure => simp [intOf]; omega
    · obtain rfl : k = len := by omega
      go_wp2
      go_ret
      exact ⟨rfl, rfl⟩
set_option maxHeartbeats 400000 in
theorem more_any (bc : Int) (h0 : 0 ≤ bc) (h1 : bc ≤ 65535) (w : World) :
    Calls Try.prog 19 #[.int .u16 bc] w fun e w' => e = .returned (.int .u8 (whenM (bc != 0) 4)) ∧ w = w' := by
  go_enter Try.func19, Try.ntmps19
  go_wp2_with (first
    | (go_at_call 28; refine (bwhen_any _ _ (by omega) (by omega) _).mono ?_; rintro e w' ⟨rfl, rfl⟩))
  go_ret
  exact ⟨rfl, rfl⟩
/-- Y and X of a number -/
def traceM (n : Int) : Int := joinUpto [whenM (isM n 1) 32, whenM (isM n 3) 8] 2
set_option maxHeartbeats 4000000 in
theorem trace_any (n : Int) (hn : B8 n) (w : World) :
    Calls Try.prog 20 #[.int .u8 n] w fun e w' => e = .returned (.int .u8 (traceM n)) ∧ Below w.heap.size w w' := by
  go_enter Try.func20, Try.ntmps20
  go_wp2_with (first
    | (go_at_call 29; refine (is_any _ _ (B8.lo (by assumption)) (B8.hi (by assumption)) _).mono ?_; rintro e w' ⟨rfl, rfl⟩)
    | (go_at_call 28; refine (bwhen_any _ _ (by omega) (by omega) _).mono ?_; rintro e w' ⟨rfl, rfl⟩)
    | (go_at_call 18; refine (bjoin_any _ 0 2 2 [whenM (isM n 1) 32, whenM (isM n 3) 8] _ (by simp) (by omega) (cells2 _ _ _ _ _)).mono ?_; rintro e w' ⟨rfl, rfl⟩))
  go_ret
  exact ⟨rfl, (by repeat (first | exact Below.refl _ _ | assumption | refine bstep ?_ (by assumption) | refine Below.drew ?_ | refine Below.alloc ?_ (by first | (simp; done) | (simp; omega) | omega) _ | refine Below.setCell ?_ (by first | (simp; done) | (simp; omega) | omega) _))⟩

theorem mask193 : ∀ x : Fin 256, bits .and .u8 (x.val : Int) 193 = mkM (isM (x.val : Int) 7) (isM (x.val : Int) 6) false false false false false (isM (x.val : Int) 0) := by decide +kernel
theorem mask208 : ∀ x : Fin 256, bits .and .u8 (x.val : Int) 208 = mkM (isM (x.val : Int) 7) (isM (x.val : Int) 6) false (isM (x.val : Int) 4) false false false false := by decide +kernel
theorem mask16 : ∀ x : Fin 256, (bits .and .u8 (x.val : Int) 16 != 0) = isM (x.val : Int) 4 := by decide +kernel
theorem move_fin : ∀ b7 b6 b0 p y x : Bool, joinUpto [mkM b7 b6 false false false false false b0, whenM p 4, joinUpto [whenM y 32, whenM x 8] 2] 3 = mkM b7 b6 y false x p false b0 := by decide +kernel
theorem find_fin : ∀ b7 b6 b4 c p y x : Bool, joinUpto [mkM b7 b6 false b4 false false false false, 2, one c, whenM p 4, joinUpto [whenM y 32, whenM x 8] 2] 5 = mkM b7 b6 y b4 x p true c := by decide +kernel
theorem pass_fin : ∀ b7 z b5 b3 n k p : Bool, joinUpto [mkM b7 z b5 false b3 false false false, whenM n 2, whenM k 17, whenM p 4] 4 = mkM b7 z b5 k b3 p n k := by decide +kernel
theorem move_math (a b bc f : Int) (hf : B8 f) : joinUpto [bits .and .u8 f 193, whenM (bc != 0) 4, traceM (plusM a b)] 3 = moveF a b bc f := by
  rw [byte_all (P := fun x => bits .and .u8 x 193 = mkM (isM x 7) (isM x 6) false false false false false (isM x 0)) mask193 f hf.1 hf.2]
  exact move_fin _ _ _ _ _ _
theorem find_math (a b bc f : Int) (hf : B8 f) : joinUpto [bits .and .u8 (subF a b false) 208, 2, bits .and .u8 f 1, whenM (bc != 0) 4, traceM (lessM a b)] 5 = findF a b bc f := by
  have hg := subF_byte a b false
  rw [low_all f hf, byte_all (P := fun x => bits .and .u8 x 208 = mkM (isM x 7) (isM x 6) false (isM x 4) false false false false) mask208 _ hg.1 hg.2]
  exact find_fin _ _ _ _ _ _ _
theorem pass_math (b k left : Int) : joinUpto [resultM left, whenM (isM b 7) 2, whenM (decide (255 < k)) 17, whenM (evenM (xorR (k % 8) left)) 4] 4 = passF b k left :=
  pass_fin _ _ _ _ _ _ _

set_option maxHeartbeats 4000000 in
theorem move_any (a b bc f : Int) (ha : B8 a) (hb : B8 b) (hf : B8 f) (h0 : 0 ≤ bc) (h1 : bc ≤ 65535) (w : World) :
    Calls Try.prog 8 #[.int .u8 a, .int .u8 b, .int .u16 bc, .int .u8 f] w fun e w' => e = .returned (.int .u8 (moveF a b bc f)) ∧ Below w.heap.size w w' := by
  have hm := Lib.hid (move_math a b bc f hf)
  have hn := Lib.hid (plusM_byte a b)
  have a0 := ha.1; have a1 := ha.2; have b0 := hb.1; have b1 := hb.2
  clear ha hb
  go_enter Try.func8, Try.ntmps8
  go_wp2_with (first
    | (go_at_call 19; refine (more_any _ h0 h1 _).mono ?_; rintro e w' ⟨rfl, rfl⟩)
    | (go_at_call 20; refine (trace_any _ hn.out _).mono ?_; rintro e w' ⟨rfl, hb⟩; have hsz := hb.size)
    | (go_at_call 18; refine (bjoin_any _ 0 3 3 [bits .and .u8 f 193, whenM (bc != 0) 4, traceM (plusM a b)] _ (by simp) (by omega) (cells3 _ _ _ _ _ _)).mono ?_; rintro e w' ⟨rfl, rfl⟩))
  go_ret
  exact ⟨ret_int hm.out, (by repeat (first | exact Below.refl _ _ | assumption | refine bstep ?_ (by assumption) | refine Below.drew ?_ | refine Below.alloc ?_ (by first | (simp; done) | (simp; omega) | omega) _ | refine Below.setCell ?_ (by first | (simp; done) | (simp; omega) | omega) _))⟩
set_option maxHeartbeats 4000000 in
theorem find_any (a b bc f : Int) (ha : B8 a) (hb : B8 b) (hf : B8 f) (h0 : 0 ≤ bc) (h1 : bc ≤ 65535) (w : World) :
    Calls Try.prog 10 #[.int .u8 a, .int .u8 b, .int .u16 bc, .int .u8 f] w fun e w' => e = .returned (.int .u8 (findF a b bc f)) ∧ Below w.heap.size w w' := by
  have hm := Lib.hid (find_math a b bc f hf)
  have hn := Lib.hid (lessM_byte a b)
  have hs := Lib.hid (fun w => sub_any a b false ha hb w)
  have hg := subF_byte a b false
  have k4 := byte_all (P := fun x => (bits .and .u8 x 16 != 0) = isM x 4) mask16 _ hg.1 hg.2
  cases hc : isM (subF a b false) 4
  · have hl := Lib.hid (lessM_no a b hc)
    rw [hc] at k4
    clear hc ha hb hg
    generalize hR : subR a b false = R at *
    generalize hG : subF a b false = G at *
    clear hR hG
    have hl := hl.out
    subst hl
    go_enter Try.func10, Try.ntmps10
    go_wp2_with (first
      | (go_at_call 24; refine (hs.out _).mono ?_; rintro e w' ⟨rfl, hb⟩; have hsz := hb.size)
      | (go_at_call 19; refine (more_any _ h0 h1 _).mono ?_; rintro e w' ⟨rfl, rfl⟩)
      | (go_at_call 20; refine (trace_any _ hn.out _).mono ?_; rintro e w' ⟨rfl, hb⟩; have hsz := hb.size)
      | (go_at_call 18; refine (bjoin_any _ 0 5 5 [bits .and .u8 G 208, 2, bits .and .u8 f 1, whenM (bc != 0) 4, traceM (lessM a b)] _ (by simp) (by omega) (cells5 _ _ _ _ _ _ _ _)).mono ?_; rintro e w' ⟨rfl, rfl⟩))
    go_ret
    exact ⟨ret_int hm.out, (by repeat (first | exact Below.refl _ _ | assumption | refine bstep ?_ (by assumption) | refine Below.drew ?_ | refine Below.alloc ?_ (by first | (simp; done) | (simp; omega) | omega) _ | refine Below.setCell ?_ (by first | (simp; done) | (simp; omega) | omega) _))⟩
  · have hl := lessM_yes' a b hc
    have hr := subR_byte a b false
    have r0 := hr.1
    have r1 := hr.2
    rw [hc] at k4
    clear hc ha hb hg hr
    generalize hR : subR a b false = R at *
    generalize hG : subF a b false = G at *
    clear hR hG
    go_enter Try.func10, Try.ntmps10
    go_wp2_with (first
      | (go_at_call 24; refine (hs.out _).mono ?_; rintro e w' ⟨rfl, hb⟩; have hsz := hb.size)
      | (go_at_call 19; refine (more_any _ h0 h1 _).mono ?_; rintro e w' ⟨rfl, rfl⟩)
      | (go_at_call 20; refine (trace_any _ hn.out _).mono ?_; rintro e w' ⟨rfl, hb⟩; have hsz := hb.size)
      | (go_at_call 18; refine (bjoin_any _ 0 5 5 [bits .and .u8 G 208, 2, bits .and .u8 f 1, whenM (bc != 0) 4, traceM (lessM a b)] _ (by simp) (by omega) (cells5 _ _ _ _ _ _ _ _)).mono ?_; rintro e w' ⟨rfl, rfl⟩))
    go_ret
    exact ⟨ret_int hm.out, (by repeat (first | exact Below.refl _ _ | assumption | refine bstep ?_ (by assumption) | refine Below.drew ?_ | refine Below.alloc ?_ (by first | (simp; done) | (simp; omega) | omega) _ | refine Below.setCell ?_ (by first | (simp; done) | (simp; omega) | omega) _))⟩
set_option maxHeartbeats 4000000 in
theorem pass_any (b l left : Int) (hB : B8 b) (hl : B8 l) (hL : B8 left) (w : World) :
    Calls Try.prog 26 #[.int .u8 b, .int .u8 l, .int .u8 left] w fun e w' => e = .returned (.int .u8 (passF b (b + l) left)) ∧ Below w.heap.size w w' := by
  have hm := Lib.hid (pass_math b (b + l) left)
  have hx := xorR_bits ((b + l) % 8) left ⟨by omega, by omega⟩ hL
  have hr : B8 (xorR ((b + l) % 8) left) := mergeM_byte ..
  have b0 := hB.1; have b1 := hB.2; have l0 := hl.1; have l1 := hl.2
  go_enter Try.func26, Try.ntmps26
  go_wp2_with (first
    | (go_at_call 38; refine (result_any _ (B8.lo (by assumption)) (B8.hi (by assumption)) _).mono ?_; rintro e w' ⟨rfl, rfl⟩)
    | (go_at_call 29; refine (is_any _ _ (B8.lo (by assumption)) (B8.hi (by assumption)) _).mono ?_; rintro e w' ⟨rfl, rfl⟩)
    | (go_at_call 28; refine (bwhen_any _ _ (by omega) (by omega) _).mono ?_; rintro e w' ⟨rfl, rfl⟩)
    | (go_at_call 39; refine (even_any _ (B8.lo (by assumption)) (B8.hi (by assumption)) _).mono ?_; rintro e w' ⟨rfl, hb⟩; have hsz := hb.size)
    | (go_at_call 18; refine (bjoin_any _ 0 4 4 [resultM left, whenM (isM b 7) 2, whenM (decide (255 < b + l)) 17, whenM (evenM (xorR ((b + l) % 8) left)) 4] _ (by simp) (by omega) (cells4 _ _ _ _ _ _ _)).mono ?_; rintro e w' ⟨rfl, rfl⟩))
  go_ret
  exact ⟨ret_int hm.out, (by repeat (first | exact Below.refl _ _ | assumption | refine bstep ?_ (by assumption) | refine Below.drew ?_ | refine Below.alloc ?_ (by first | (simp; done) | (simp; omega) | omega) _ | refine Below.setCell ?_ (by first | (simp; done) | (simp; omega) | omega) _))⟩
set_option maxHeartbeats 4000000 in
theorem take_any (b c left s : Int) (hB : B8 b) (hc : B8 c) (hL : B8 left) (w : World) :
    Calls Try.prog 12 #[.int .u8 b, .int .u8 c, .int .u8 left, .int .i64 s] w fun e w' => e = .returned (.int .u8 (passF b (b + byC c s) left)) ∧ Below w.heap.size w w' := by
  have hw : IntKind.u8.wrap s = s % 256 := IntKind.wrap_u8 s
  have hq : (c + s % 256) % 256 = byC c s := by unfold byC; omega
  have hr := byC_byte c s
  go_enter Try.func12, Try.ntmps12
  go_wp2_with (first
    | (go_at_call 26; refine (pass_any _ _ _ (by assumption) (by assumption) (by assumption) _).mono ?_; rintro e w' ⟨rfl, hb⟩; have hsz := hb.size))
  go_ret
  exact ⟨rfl, (by repeat (first | exact Below.refl _ _ | assumption | refine bstep ?_ (by assumption) | refine Below.drew ?_ | refine Below.alloc ?_ (by first | (simp; done) | (simp; omega) | omega) _ | refine Below.setCell ?_ (by first | (simp; done) | (simp; omega) | omega) _))⟩
set_option maxHeartbeats 4000000 in
theorem give_any (b l left : Int) (hB : B8 b) (hl : B8 l) (hL : B8 left) (w : World) :
    Calls Try.prog 14 #[.int .u8 b, .int .u8 l, .int .u8 left] w fun e w' => e = .returned (.int .u8 (passF b (b + l) left)) ∧ Below w.heap.size w w' := by
  go_enter Try.func14, Try.ntmps14
  go_wp2_with (first
    | (go_at_call 26; refine (pass_any _ _ _ (by assumption) (by assumption) (by assumption) _).mono ?_; rintro e w' ⟨rfl, hb⟩; have hsz := hb.size))
  go_ret
  exact ⟨rfl, (by repeat (first | exact Below.refl _ _ | assumption | refine bstep ?_ (by assumption) | refine Below.drew ?_ | refine Below.alloc ?_ (by first | (simp; done) | (simp; omega) | omega) _ | refine Below.setCell ?_ (by first | (simp; done) | (simp; omega) | omega) _))⟩
set_option maxHeartbeats 4000000 in
theorem again_any (kind f : Int) (hf : B8 f) (w : World) :
    Calls Try.prog 16 #[.int .i64 kind, .int .u8 f] w fun e w' => e = .returned (.bool (againM kind f)) ∧ w = w' := by
  obtain ⟨k6, -, k2, -⟩ := mask_all f hf.1 hf.2
  by_cases hc : kind < 0 ∨ 4 ≤ kind
  · rw [againM_out kind f hc]
    have n0 : (kind == 0) = false := by simp; omega
    have n1 : (kind == 1) = false := by simp; omega
    have n2 : (kind == 2) = false := by simp; omega
    have n3 : (kind == 3) = false := by simp; omega
    clear hc
    cases hz : isM f 6
    all_goals
      rw [hz] at k6
      go_enter Try.func16, Try.ntmps16
      go_wp2
      go_ret
      exact ⟨rfl, rfl⟩
  · obtain rfl | rfl | rfl | rfl : kind = 0 ∨ kind = 1 ∨ kind = 2 ∨ kind = 3 := by omega
    all_goals
      clear hc
      cases hz : isM f 6 <;> cases hp : isM f 2
      all_goals
        rw [hz] at k6
        rw [hp] at k2
        go_enter Try.func16, Try.ntmps16
        go_wp2
        go_ret
        exact ⟨ret_bool (by simp [againM, hz, hp]), rfl⟩
end Go.Proofs.Ytedbjockmlhnbaa
