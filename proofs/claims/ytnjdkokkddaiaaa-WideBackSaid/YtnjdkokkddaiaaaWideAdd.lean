/- Layer 4 (wide): contracts of carry, the closure over the lower bytes' flags, words, Add, Adc, Sbc, Move, Near. -/
import Derived.Test.YtnjdkokkddaiaaaWideMath
import Derived.Test.YtnjdkokkddaiaaaSumSub
import Derived.Deep.RegionHeld3
import Derived.Laws.EntriesVeiled
namespace Go.Proofs.Ytnjdkokkddaiaaa
open Go.RowKit
set_option linter.unusedVariables false
set_option linter.unusedSimpArgs false

/-- a word and a byte as an answer -/
abbrev wtwo (r f : Int) : Value := .tuple #[.int .u16 r, .int .u8 f]
set_option maxHeartbeats 400000 in
theorem wcarry_any (f : Int) (hf : B8 f) (w : World) :
    Calls Try.prog 29 #[.int .u8 f] w fun e w' => e = .returned (.bool (isM f 0)) ∧ w = w' := by
  have k := Lib.hid (mask_all f hf.1 hf.2).2.1
  have f0 := hf.1
  have f1 := hf.2
  go_enter Try.func29, Try.ntmps29
  go_wp2
  go_ret
  exact ⟨ret_bool k.out, rfl⟩
/-- two cells of the caller's -/
theorem keep2 {w w' : World} {A B : Nat} {u v : Value} (k : Below w.heap.size w w') (h : w.cell? ⟨A, 0, none⟩ = some u ∧ w.cell? ⟨B, 0, none⟩ = some v) :
    w'.cell? ⟨A, 0, none⟩ = some u ∧ w'.cell? ⟨B, 0, none⟩ = some v :=
  ⟨(k.cell (World.block_lt_of_cell? _ _ h.1)).trans h.1, (k.cell (World.block_lt_of_cell? _ _ h.2)).trans h.2⟩
theorem cell_new (w : World) (v : Value) (t : TypeId) : (w.alloc (.cells #[v] t)).cell? ⟨w.heap.size, 0, none⟩ = some v := by
  have e : ∀ o : Obj, (w.alloc o).heap[w.heap.size]? = some o := fun o => by
    show (w.heap.push _)[w.heap.size]? = _
    simp
  simp only [World.cell?, e]; rfl
theorem cell_kept {w w' : World} {p : Addr} {v : Value} (h : w.cell? p = some v) (k : Below w.heap.size w w') : w'.cell? p = some v :=
  (k.cell (World.block_lt_of_cell? _ _ h)).trans h
set_option maxHeartbeats 4000000 in
theorem secondAdd_any (a b low : Int) (ha : B8 a) (hb : B8 b) (hl : B8 low) (O L : Nat) (w : World) (hO : w.cell? ⟨O, 0, none⟩ = some (.func (.func 39) #[] #[])) (hL : w.cell? ⟨L, 0, none⟩ = some (.int .u8 low)) :
    Calls Try.prog 52 #[.int .u8 a, .int .u8 b, .pointer (some ⟨O, 0, none⟩), .pointer (some ⟨L, 0, none⟩)] w fun e w' =>
      e = .returned (two (addR a b (isM low 0)) (keepM (addF a b (isM low 0)) (bits .and .u8 (addF a b (isM low 0)) low) 64)) ∧ Below w.heap.size w w' := by
  have hB := hb
  clear hb
  have hf := addF_byte a b (isM low 0)
  have hg : B8 (bits .and .u8 (addF a b (isM low 0)) low) := and_byte _ _ hf.1 hf.2 hl.1 hl.2
  go_enter Try.func52, Try.ntmps52
  go_wp2_with fail
  go_region_held3 (fun w' => w'.cell? ⟨O, 0, none⟩ = some (.func (.func 39) #[] #[]) ∧ w'.cell? ⟨L, 0, none⟩ = some (.int .u8 low)) (first | go_keep | exact keep2 hb (by assumption))
    (first
    | (go_at_call 29; refine (wcarry_any _ (by assumption) _).mono ?_; rintro e w' ⟨rfl, rfl⟩)
    | (go_at_call 39; refine (add_any _ _ _ (by assumption) (by assumption) _).mono ?_; rintro e w' ⟨rfl, hb⟩; have hsz := hb.size))
  rename_i hh
  obtain ⟨h1, h2⟩ := hh
  have f0 := hf.1
  have f1 := hf.2
  have l0 := hl.1
  have l1 := hl.2
  go_wp2_with (first
    | (go_at_call 25; refine (keep_any _ _ _ (B8.lo (by assumption)) (B8.hi (by assumption)) (B8.lo (by assumption)) (B8.hi (by assumption)) (by omega) (by omega) _).mono ?_; rintro e w' ⟨rfl, rfl⟩))
  go_ret2
  exact ⟨rfl, (by repeat (first | exact Below.refl _ _ | assumption | refine bstep ?_ (by assumption) | refine Below.drew ?_ | refine Below.alloc ?_ (by first | (simp; done) | (simp; omega) | omega) _ | refine Below.setCell ?_ (by first | (simp; done) | (simp; omega) | omega) _))⟩
set_option maxHeartbeats 4000000 in
theorem firstAdd_any (a b : Int) (c : Bool) (ha : B8 a) (hb : B8 b) (w : World) :
    Calls Try.prog 40 #[.agg #[.func (.func 39) #[] #[]], .int .u8 a, .int .u8 b, .bool c] w fun e w' => ∃ O L,
      e = .returned (.tuple #[.int .u8 (addR a b c), .func (.func 52) #[] #[.pointer (some ⟨O, 0, none⟩), .pointer (some ⟨L, 0, none⟩)]]) ∧
      (w'.cell? ⟨O, 0, none⟩ = some (.func (.func 39) #[] #[]) ∧ w'.cell? ⟨L, 0, none⟩ = some (.int .u8 (addF a b c))) ∧ Below w.heap.size w w' := by
  have hB := hb
  clear hb
  go_enter Try.func40, Try.ntmps40
  go_wp2_with (first
    | (go_at_call 39; refine (add_any _ _ _ (by assumption) (by assumption) _).mono ?_; rintro e w' ⟨rfl, hb⟩; have hsz := hb.size))
  go_ret2
  refine ⟨w.heap.size, w'.heap.size, rfl, ⟨cell_kept (cell_new w _ _) (Below.trans hb (Below.alloc (Below.refl _ _) hsz _)), cell_new _ _ _⟩, ?_⟩
  (try simp only [World.size_alloc] at hsz)
  exact (by repeat (first | exact Below.refl _ _ | assumption | refine bstep ?_ (by assumption) | refine Below.drew ?_ | refine Below.alloc ?_ (by first | (simp; done) | (simp; omega) | omega) _ | refine Below.setCell ?_ (by first | (simp; done) | (simp; omega) | omega) _))
set_option maxHeartbeats 4000000 in
theorem wordsAdd_any (a b : Int) (c : Bool) (ha : W16 a) (hb : W16 b) (w : World) :
    Calls Try.prog 24 #[.agg #[.func (.func 39) #[] #[]], .int .u16 a, .int .u16 b, .bool c] w fun e w' =>
      e = .returned (wtwo (adcW a b c) (adcF a b c)) ∧ Below w.heap.size w w' := by
  have hB := hb
  clear hb
  have al := ha.low
  have ah := ha.high
  have bl := hB.low
  have bh := hB.high
  have lf := addF_byte (a % 256) (b % 256) c
  have rl := addR_byte (a % 256) (b % 256) c
  have rh := addR_byte (a / 256) (b / 256) (isM (addF (a % 256) (b % 256) c) 0)
  have hw := Lib.hid (adc_word a b c ha hB)
  have hf := Lib.hid (adc_flags a b c ha hB)
  go_enter Try.func24, Try.ntmps24
  go_wp2_with fail
  go_region_held3 (fun w' => w'.cell? ⟨w.heap.size, 0, none⟩ = some (.func (.func 39) #[] #[])) (first | go_keep | exact cell_kept (by assumption) hb)
    (first
    | (go_at_call 41; refine (lo_any _ (W16.lo (by assumption)) (W16.hi (by assumption)) _).mono ?_; rintro e w' ⟨rfl, rfl⟩)
    | (go_at_call 40; refine (firstAdd_any _ _ _ (by assumption) (by assumption) _).mono ?_; rintro e w' ⟨O, L, rfl, hcell, hb⟩; have hsz := hb.size))
  rename_i hh
  clear hh
  obtain ⟨h1, h2⟩ := hcell
  go_wp2_with (first
    | (go_at_call 42; refine (hi_any _ (W16.lo (by assumption)) (W16.hi (by assumption)) _).mono ?_; rintro e w' ⟨rfl, rfl⟩)
    | (go_at_call 43; refine (word_any _ _ (B8.lo (by assumption)) (B8.hi (by assumption)) (B8.lo (by assumption)) (B8.hi (by assumption)) _).mono ?_; rintro e w' ⟨rfl, rfl⟩)
    | (go_at_call 52; refine (secondAdd_any _ _ (addF (a % 256) (b % 256) c) (by assumption) (by assumption) lf _ _ _ h1 h2).mono ?_; rintro e w2 ⟨rfl, hb2⟩; have hsz2 := hb2.size))
  go_ret2
  refine ⟨by rw [← hw.out, ← hf.out]; rfl, ?_⟩
  (try simp only [World.size_alloc] at hsz)
  exact (by repeat (first | exact Below.refl _ _ | assumption | refine bstep ?_ (by assumption) | refine Below.drew ?_ | refine Below.alloc ?_ (by first | (simp; done) | (simp; omega) | omega) _ | refine Below.setCell ?_ (by first | (simp; done) | (simp; omega) | omega) _))
set_option maxHeartbeats 4000000 in
theorem secondSub_any (a b low : Int) (ha : B8 a) (hb : B8 b) (hl : B8 low) (O L : Nat) (w : World) (hO : w.cell? ⟨O, 0, none⟩ = some (.func (.func 46) #[] #[])) (hL : w.cell? ⟨L, 0, none⟩ = some (.int .u8 low)) :
    Calls Try.prog 52 #[.int .u8 a, .int .u8 b, .pointer (some ⟨O, 0, none⟩), .pointer (some ⟨L, 0, none⟩)] w fun e w' =>
      e = .returned (two (subR a b (isM low 0)) (keepM (subF a b (isM low 0)) (bits .and .u8 (subF a b (isM low 0)) low) 64)) ∧ Below w.heap.size w w' := by
  have hB := hb
  clear hb
  have hf := subF_byte a b (isM low 0)
  have hg : B8 (bits .and .u8 (subF a b (isM low 0)) low) := and_byte _ _ hf.1 hf.2 hl.1 hl.2
  go_enter Try.func52, Try.ntmps52
  go_wp2_with fail
  go_region_held3 (fun w' => w'.cell? ⟨O, 0, none⟩ = some (.func (.func 46) #[] #[]) ∧ w'.cell? ⟨L, 0, none⟩ = some (.int .u8 low)) (first | go_keep | exact keep2 hb (by assumption))
    (first
    | (go_at_call 29; refine (wcarry_any _ (by assumption) _).mono ?_; rintro e w' ⟨rfl, rfl⟩)
    | (go_at_call 46; refine (sub_any _ _ _ (by assumption) (by assumption) _).mono ?_; rintro e w' ⟨rfl, hb⟩; have hsz := hb.size))
  rename_i hh
  obtain ⟨h1, h2⟩ := hh
  have f0 := hf.1
  have f1 := hf.2
  have l0 := hl.1
  have l1 := hl.2
  go_wp2_with (first
    | (go_at_call 25; refine (keep_any _ _ _ (B8.lo (by assumption)) (B8.hi (by assumption)) (B8.lo (by assumption)) (B8.hi (by assumption)) (by omega) (by omega) _).mono ?_; rintro e w' ⟨rfl, rfl⟩))
  go_ret2
  exact ⟨rfl, (by repeat (first | exact Below.refl _ _ | assumption | refine bstep ?_ (by assumption) | refine Below.drew ?_ | refine Below.alloc ?_ (by first | (simp; done) | (simp; omega) | omega) _ | refine Below.setCell ?_ (by first | (simp; done) | (simp; omega) | omega) _))⟩
set_option maxHeartbeats 4000000 in
theorem firstSub_any (a b : Int) (c : Bool) (ha : B8 a) (hb : B8 b) (w : World) :
    Calls Try.prog 40 #[.agg #[.func (.func 46) #[] #[]], .int .u8 a, .int .u8 b, .bool c] w fun e w' => ∃ O L,
      e = .returned (.tuple #[.int .u8 (subR a b c), .func (.func 52) #[] #[.pointer (some ⟨O, 0, none⟩), .pointer (some ⟨L, 0, none⟩)]]) ∧
      (w'.cell? ⟨O, 0, none⟩ = some (.func (.func 46) #[] #[]) ∧ w'.cell? ⟨L, 0, none⟩ = some (.int .u8 (subF a b c))) ∧ Below w.heap.size w w' := by
  have hB := hb
  clear hb
  go_enter Try.func40, Try.ntmps40
  go_wp2_with (first
    | (go_at_call 46; refine (sub_any _ _ _ (by assumption) (by assumption) _).mono ?_; rintro e w' ⟨rfl, hb⟩; have hsz := hb.size))
  go_ret2
  refine ⟨w.heap.size, w'.heap.size, rfl, ⟨cell_kept (cell_new w _ _) (Below.trans hb (Below.alloc (Below.refl _ _) hsz _)), cell_new _ _ _⟩, ?_⟩
  (try simp only [World.size_alloc] at hsz)
  exact (by repeat (first | exact Below.refl _ _ | assumption | refine bstep ?_ (by assumption) | refine Below.drew ?_ | refine Below.alloc ?_ (by first | (simp; done) | (simp; omega) | omega) _ | refine Below.setCell ?_ (by first | (simp; done) | (simp; omega) | omega) _))
set_option maxHeartbeats 4000000 in
theorem wordsSub_any (a b : Int) (c : Bool) (ha : W16 a) (hb : W16 b) (w : World) :
    Calls Try.prog 24 #[.agg #[.func (.func 46) #[] #[]], .int .u16 a, .int .u16 b, .bool c] w fun e w' =>
      e = .returned (wtwo (sbcW a b c) (sbcF a b c)) ∧ Below w.heap.size w w' := by
  have hB := hb
  clear hb
  have al := ha.low
  have ah := ha.high
  have bl := hB.low
  have bh := hB.high
  have lf := subF_byte (a % 256) (b % 256) c
  have rl := subR_byte (a % 256) (b % 256) c
  have rh := subR_byte (a / 256) (b / 256) (isM (subF (a % 256) (b % 256) c) 0)
  have hw := Lib.hid (sbc_word a b c ha hB)
  have hf := Lib.hid (sbc_flags a b c ha hB)
  go_enter Try.func24, Try.ntmps24
  go_wp2_with fail
  go_region_held3 (fun w' => w'.cell? ⟨w.heap.size, 0, none⟩ = some (.func (.func 46) #[] #[])) (first | go_keep | exact cell_kept (by assumption) hb)
    (first
    | (go_at_call 41; refine (lo_any _ (W16.lo (by assumption)) (W16.hi (by assumption)) _).mono ?_; rintro e w' ⟨rfl, rfl⟩)
    | (go_at_call 40; refine (firstSub_any _ _ _ (by assumption) (by assumption) _).mono ?_; rintro e w' ⟨O, L, rfl, hcell, hb⟩; have hsz := hb.size))
  rename_i hh
  clear hh
  obtain ⟨h1, h2⟩ := hcell
  go_wp2_with (first
    | (go_at_call 42; refine (hi_any _ (W16.lo (by assumption)) (W16.hi (by assumption)) _).mono ?_; rintro e w' ⟨rfl, rfl⟩)
    | (go_at_call 43; refine (word_any _ _ (B8.lo (by assumption)) (B8.hi (by assumption)) (B8.lo (by assumption)) (B8.hi (by assumption)) _).mono ?_; rintro e w' ⟨rfl, rfl⟩)
    | (go_at_call 52; refine (secondSub_any _ _ (subF (a % 256) (b % 256) c) (by assumption) (by assumption) lf _ _ _ h1 h2).mono ?_; rintro e w2 ⟨rfl, hb2⟩; have hsz2 := hb2.size))
  go_ret2
  refine ⟨by rw [← hw.out, ← hf.out]; rfl, ?_⟩
  (try simp only [World.size_alloc] at hsz)
  exact (by repeat (first | exact Below.refl _ _ | assumption | refine bstep ?_ (by assumption) | refine Below.drew ?_ | refine Below.alloc ?_ (by first | (simp; done) | (simp; omega) | omega) _ | refine Below.setCell ?_ (by first | (simp; done) | (simp; omega) | omega) _))
set_option maxHeartbeats 400000 in
theorem adding_any (w : World) :
    Calls Try.prog 23 #[] w fun e w' => e = .returned (.agg #[.func (.func 39) #[] #[]]) ∧ Below w.heap.size w w' := by
  go_enter Try.func23, Try.ntmps23
  go_wp2
  refine bodyPost_ret (v := .agg #[.func (.func 39) #[] #[]]) (by simp [results, Try.f23, go_sem]) rfl ?_
  exact ⟨rfl, (by repeat (first | exact Below.refl _ _ | assumption | refine bstep ?_ (by assumption) | refine Below.drew ?_ | refine Below.alloc ?_ (by first | (simp; done) | (simp; omega) | omega) _ | refine Below.setCell ?_ (by first | (simp; done) | (simp; omega) | omega) _))⟩
set_option maxHeartbeats 400000 in
theorem subtracting_any (w : World) :
    Calls Try.prog 33 #[] w fun e w' => e = .returned (.agg #[.func (.func 46) #[] #[]]) ∧ Below w.heap.size w w' := by
  go_enter Try.func33, Try.ntmps33
  go_wp2
  refine bodyPost_ret (v := .agg #[.func (.func 46) #[] #[]]) (by simp [results, Try.f33, go_sem]) rfl ?_
  exact ⟨rfl, (by repeat (first | exact Below.refl _ _ | assumption | refine bstep ?_ (by assumption) | refine Below.drew ?_ | refine Below.alloc ?_ (by first | (simp; done) | (simp; omega) | omega) _ | refine Below.setCell ?_ (by first | (simp; done) | (simp; omega) | omega) _))⟩
set_option maxHeartbeats 4000000 in
theorem wadd_any (a b f : Int) (ha : W16 a) (hb : W16 b) (hf : B8 f) (w : World) :
    Calls Try.prog 8 #[.int .u16 a, .int .u16 b, .int .u8 f] w fun e w' => e = .returned (wtwo (adcW a b false) (addWF a b f)) ∧ Below w.heap.size w w' := by
  have hB := hb
  clear hb
  have hm := Lib.hid (add_flags a b f)
  have hg := adcF_byte a b false
  go_enter Try.func8, Try.ntmps8
  go_wp2_with (first
    | (go_at_call 23; refine (adding_any _).mono ?_; rintro e w' ⟨rfl, hb⟩; have hsz := hb.size)
    | (go_at_call 24; refine (wordsAdd_any _ _ _ (by assumption) (by assumption) _).mono ?_; rintro e w' ⟨rfl, hb⟩; have hsz := hb.size)
    | (go_at_call 25; refine (keep_any _ _ _ (B8.lo (by assumption)) (B8.hi (by assumption)) (B8.lo (by assumption)) (B8.hi (by assumption)) (by omega) (by omega) _).mono ?_; rintro e w' ⟨rfl, rfl⟩))
  go_ret2
  exact ⟨by rw [← hm.out]; rfl, (by repeat (first | exact Below.refl _ _ | assumption | refine bstep ?_ (by assumption) | refine Below.drew ?_ | refine Below.alloc ?_ (by first | (simp; done) | (simp; omega) | omega) _ | refine Below.setCell ?_ (by first | (simp; done) | (simp; omega) | omega) _))⟩
set_option maxHeartbeats 4000000 in
theorem wadc_any (a b f : Int) (ha : W16 a) (hb : W16 b) (hf : B8 f) (w : World) :
    Calls Try.prog 10 #[.int .u16 a, .int .u16 b, .int .u8 f] w fun e w' => e = .returned (wtwo (adcW a b (isM f 0)) (adcF a b (isM f 0))) ∧ Below w.heap.size w w' := by
  have hB := hb
  clear hb
  go_enter Try.func10, Try.ntmps10
  go_wp2_with (first
    | (go_at_call 23; refine (adding_any _).mono ?_; rintro e w' ⟨rfl, hb⟩; have hsz := hb.size)
    | (go_at_call 29; refine (wcarry_any _ (by assumption) _).mono ?_; rintro e w' ⟨rfl, rfl⟩)
    | (go_at_call 24; refine (wordsAdd_any _ _ _ (by assumption) (by assumption) _).mono ?_; rintro e w' ⟨rfl, hb⟩; have hsz := hb.size))
  go_ret2
  exact ⟨rfl, (by repeat (first | exact Below.refl _ _ | assumption | refine bstep ?_ (by assumption) | refine Below.drew ?_ | refine Below.alloc ?_ (by first | (simp; done) | (simp; omega) | omega) _ | refine Below.setCell ?_ (by first | (simp; done) | (simp; omega) | omega) _))⟩
set_option maxHeartbeats 4000000 in
theorem wsbc_any (a b f : Int) (ha : W16 a) (hb : W16 b) (hf : B8 f) (w : World) :
    Calls Try.prog 12 #[.int .u16 a, .int .u16 b, .int .u8 f] w fun e w' => e = .returned (wtwo (sbcW a b (isM f 0)) (sbcF a b (isM f 0))) ∧ Below w.heap.size w w' := by
  have hB := hb
  clear hb
  go_enter Try.func12, Try.ntmps12
  go_wp2_with (first
    | (go_at_call 33; refine (subtracting_any _).mono ?_; rintro e w' ⟨rfl, hb⟩; have hsz := hb.size)
    | (go_at_call 29; refine (wcarry_any _ (by assumption) _).mono ?_; rintro e w' ⟨rfl, rfl⟩)
    | (go_at_call 24; refine (wordsSub_any _ _ _ (by assumption) (by assumption) _).mono ?_; rintro e w' ⟨rfl, hb⟩; have hsz := hb.size))
  go_ret2
  exact ⟨rfl, (by repeat (first | exact Below.refl _ _ | assumption | refine bstep ?_ (by assumption) | refine Below.drew ?_ | refine Below.alloc ?_ (by first | (simp; done) | (simp; omega) | omega) _ | refine Below.setCell ?_ (by first | (simp; done) | (simp; omega) | omega) _))⟩
set_option maxHeartbeats 400000 in
theorem move_any (x y : Int) (hx : W16 x) (w : World) :
    Calls Try.prog 14 #[.int .u16 x, .int .i64 y] w fun e w' => e = .returned (.int .u16 (moveM x y)) ∧ w = w' := by
  have x0 := hx.1
  have x1 := hx.2
  go_enter Try.func14, Try.ntmps14
  go_wp2
  go_ret
  exact ⟨ret_int (by simp only [IntKind.wrap_u16]; unfold moveM; omega), rfl⟩
set_option maxHeartbeats 400000 in
theorem near_any (x y : Int) (hx : W16 x) (hy : B8 y) (w : World) :
    Calls Try.prog 16 #[.int .u16 x, .int .u8 y] w fun e w' => e = .returned (.int .u16 (moveM x (signedM y))) ∧ w = w' := by
  go_enter Try.func16, Try.ntmps16
  go_wp2_with (first
    | (go_at_call 34; refine (signed_any _ (B8.lo (by assumption)) (B8.hi (by assumption)) _).mono ?_; rintro e w' ⟨rfl, rfl⟩)
    | (go_at_call 14; refine (move_any _ _ (by assumption) _).mono ?_; rintro e w' ⟨rfl, rfl⟩))
  go_ret
  exact ⟨rfl, rfl⟩
end Go.Proofs.Ytnjdkokkddaiaaa
