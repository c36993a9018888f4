/- Layer 10 (times): contracts of reach, Of and Asks. -/
import Derived.Test.YtlmeekaemhghgaaDoorTimesLeaf
import Derived.Test.YtlmeekaemhghgaaDoorDecodeForm
import Derived.Test.YtlmeekaemhghgaaDoorDecodeRead
import Derived.Test.YtlmeekaemhghgaaDoorRow6
import Derived.Deep.RegionHeld3
import Derived.Deep.DeepCutAuto
namespace Go.Proofs.YtlmeekaemhghgaaDoor
open Go.RowKit
set_option linter.unusedVariables false
set_option linter.unusedSimpArgs false

set_option maxHeartbeats 1000000 in
theorem reach_any (p c d m le sk : Int) (hc : B8 c) (w : World) :
    Calls Tryd.prog 19 #[opV p c d m le sk] w fun e w' => e = .returned (.int .i64 (reachM p c)) ∧ w' = w.alloc (.cells #[.int .i64 p, .int .u8 c, .int .u8 d, .int .u16 m, .int .i64 le, .int .i64 sk] 24) := by
  have hn := Lib.hid (dnear_any p c hc)
  unfold reachM
  generalize nearM p c = q at *
  by_cases c54 : c = 54
  · subst c54
    go_enter Tryd.func19, Tryd.ntmps19
    go_wp2
    go_ret
    exact ⟨rfl, rfl⟩
  · have c54' : (c == 54) = false := by simpa using c54
    rw [if_neg c54]
    cases q
    all_goals
      go_enter Tryd.func19, Tryd.ntmps19
      go_wp2_with (go_at_call 32; refine (hn.out _).mono ?_; rintro e w' ⟨rfl, rfl⟩)
      go_ret
      exact ⟨rfl, rfl⟩
theorem of_eq (p c s : Int) (t : Bool) (hp : ¬ (p < 0 ∨ 6 < p)) : ofM p c s t = wrap64 (wrap64 (4 * s) + netM p c t) := by
  unfold ofM
  rw [if_neg hp]
  unfold wrap64
  omega
theorem wraps3 (s a b : Int) : IntKind.i64.wrap (IntKind.i64.wrap (IntKind.i64.wrap (wrap64 (4 * s) + 4) + a) + b) = wrap64 (wrap64 (4 * s) + (4 + a + b)) := by
  simp only [IntKind.wrap_i64, wrap64]
  omega
set_option maxHeartbeats 4000000 in
theorem timesOf_any (p c d m le s : Int) (t : Bool) (hc : B8 c) (w : World) (ht : TimesTabs w) :
    Calls Tryd.prog 9 #[opV p c d m le s, .bool t] w fun e w' => e = .returned (.int .i64 (ofM p c s t)) ∧ Below w.heap.size w w' := by
  have k1 := Lib.hid (fun W (hW : Below w.heap.size w W) => plain_any c t hc W (ht.below hW))
  have k2 := Lib.hid (fun W => show Calls Tryd.prog 19 #[opV p c d m le s] W fun e w' => e = .returned (.int .i64 (reachM p c)) ∧ Below W.heap.size W w' from Calls.mono (reach_any p c d m le s hc W) (by rintro e w' ⟨rfl, rfl⟩; exact ⟨rfl, (Below.refl _ _).alloc (Nat.le_refl _) _⟩))
  have k3 := Lib.hid (onBits_any c hc)
  have k4 := Lib.hid (onBitsNear_any c hc)
  have k5 := Lib.hid (fun W (hW : Below w.heap.size w W) => extended_any c t hc W (ht.below hW))
  have hq := Lib.hid (show ¬ (p < 0 ∨ 6 < p) → ofM p c s t = wrap64 (wrap64 (4 * s) + netM p c t) from of_eq p c s t)
  have hn := Lib.hid (show netM p c t = if p = 0 then plainM c t else if p = 3 ∨ p = 4 then 4 + plainM c t + reachM p c else if p = 1 then bitsCM c else if p = 5 ∨ p = 6 then bitsNM c else if p = 2 then extM c t else 0 from rfl)
  have hno := Lib.hid (of_no p c s t)
  have HB1 := Lib.hid ((Below.refl w.heap.size w).alloc (Nat.le_refl _) (.cells #[.int .i64 p, .int .u8 c, .int .u8 d, .int .u16 m, .int .i64 le, .int .i64 s] 24))
  have hs := row6c (Row.new w 24 #[.int .i64 p, .int .u8 c, .int .u8 d, .int .u16 m, .int .i64 le, .int .i64 s])
  have hsz := (Row.new w 24 #[.int .i64 p, .int .u8 c, .int .u8 d, .int .u16 m, .int .i64 le, .int .i64 s]).lt
  clear ht
  generalize ofM p c s t = R at *
  generalize netM p c t = n at *
  generalize plainM c t = u1 at *
  generalize reachM p c = u2 at *
  generalize bitsCM c = u3 at *
  generalize bitsNM c = u4 at *
  generalize extM c t = u5 at *
  by_cases hp : p < 0 ∨ 6 < p
  · have e := hno.out hp
    obtain ⟨n0, n1, n2, n3, n4, n5, n6⟩ := plane_no p hp
    subst e
    clear hno hq hn k1 k2 k3 k4 k5 hp
    go_enter Tryd.func9, Tryd.ntmps9
    go_wp2
    go_ret
    exact ⟨rfl, HB1.out⟩
  have e0 := Lib.hid (hq.out hp)
  clear hno hq
  obtain rfl | rfl | rfl | rfl | rfl | rfl | rfl : p = 0 ∨ p = 1 ∨ p = 2 ∨ p = 3 ∨ p = 4 ∨ p = 5 ∨ p = 6 := by omega
  · obtain rfl : n = u1 := by simpa using hn.out
    clear hn hp hs hsz
    go_enter Tryd.func9, Tryd.ntmps9
    go_wp2_with (go_at_call 18; refine (k1.out _ HB1.out).mono ?_; rintro e w' ⟨rfl, rfl⟩)
    go_ret
    exact ⟨ret_int e0.out.symm, HB1.out⟩
  · obtain rfl : n = u3 := by simpa using hn.out
    clear hn hp hs hsz
    go_enter Tryd.func9, Tryd.ntmps9
    go_wp2_with (go_at_call 20; refine (k3.out _).mono ?_; rintro e w' ⟨rfl, rfl⟩)
    go_ret
    exact ⟨ret_int e0.out.symm, HB1.out⟩
  · obtain rfl : n = u5 := by simpa using hn.out
    clear hn hp hs hsz
    go_enter Tryd.func9, Tryd.ntmps9
    go_wp2_with (go_at_call 22; refine (k5.out _ HB1.out).mono ?_; rintro e w' ⟨rfl, rfl⟩)
    go_ret
    exact ⟨ret_int e0.out.symm, HB1.out⟩
  · obtain rfl : n = 4 + u1 + u2 := by simpa using hn.out
    clear hn hp
    go_enter Tryd.func9, Tryd.ntmps9
    go_upto_region 7 with (fail)
    generalize w.alloc (.cells #[.int .i64 3, .int .u8 c, .int .u8 d, .int .u16 m, .int .i64 le, .int .i64 s] 24) = W0 at *
    go_region_held3 (fun w' => w'.cell? ⟨w.heap.size, 0, none⟩ = some (.int .i64 3) ∧ w'.cell? ⟨w.heap.size, 1, none⟩ = some (.int .u8 c) ∧ w'.cell? ⟨w.heap.size, 2, none⟩ = some (.int .u8 d) ∧ w'.cell? ⟨w.heap.size, 3, none⟩ = some (.int .u16 m) ∧ w'.cell? ⟨w.heap.size, 4, none⟩ = some (.int .i64 le) ∧ w'.cell? ⟨w.heap.size, 5, none⟩ = some (.int .i64 s))
      (first | with_reducible assumption | exact hs | with_reducible exact keep6r hb (by with_reducible assumption))
      (first
      | (go_at_call 18; refine (k1.out _ (by first | exact HB1.out.drew | exact HB4.out)).mono ?_; rintro e w3 ⟨rfl, rfl⟩)
      | (go_at_call 19; refine (k2.out _).mono ?_; rintro e w4 ⟨rfl, hb⟩; have HB4 := Lib.hid (HB1.out.trans ((Below.drew (Below.refl _ W0)).trans hb |>.mono HB1.out.size))))
    clear hs
    go_wp2
    go_ret
    exact ⟨ret_int ((wraps3 s u1 u2).trans e0.out.symm), HB4.out⟩
  · obtain rfl : n = 4 + u1 + u2 := by simpa using hn.out
    clear hn hp
    go_enter Tryd.func9, Tryd.ntmps9
    go_upto_region 7 with (fail)
    generalize w.alloc (.cells #[.int .i64 4, .int .u8 c, .int .u8 d, .int .u16 m, .int .i64 le, .int .i64 s] 24) = W0 at *
    go_region_held3 (fun w' => w'.cell? ⟨w.heap.size, 0, none⟩ = some (.int .i64 4) ∧ w'.cell? ⟨w.heap.size, 1, none⟩ = some (.int .u8 c) ∧ w'.cell? ⟨w.heap.size, 2, none⟩ = some (.int .u8 d) ∧ w'.cell? ⟨w.heap.size, 3, none⟩ = some (.int .u16 m) ∧ w'.cell? ⟨w.heap.size, 4, none⟩ = some (.int .i64 le) ∧ w'.cell? ⟨w.heap.size, 5, none⟩ = some (.int .i64 s))
      (first | with_reducible assumption | exact hs | with_reducible exact keep6r hb (by with_reducible assumption))
      (first
      | (go_at_call 18; refine (k1.out _ (by first | exact HB1.out.drew | exact HB4.out)).mono ?_; rintro e w3 ⟨rfl, rfl⟩)
      | (go_at_call 19; refine (k2.out _).mono ?_; rintro e w4 ⟨rfl, hb⟩; have HB4 := Lib.hid (HB1.out.trans ((Below.drew (Below.refl _ W0)).trans hb |>.mono HB1.out.size))))
    clear hs
    go_wp2
    go_ret
    exact ⟨ret_int ((wraps3 s u1 u2).trans e0.out.symm), HB4.out⟩
  · obtain rfl : n = u4 := by simpa using hn.out
    clear hn hp hs hsz
    go_enter Tryd.func9, Tryd.ntmps9
    go_wp2_with (go_at_call 21; refine (k4.out _).mono ?_; rintro e w' ⟨rfl, rfl⟩)
    go_ret
    exact ⟨ret_int e0.out.symm, HB1.out⟩
  · obtain rfl : n = u4 := by simpa using hn.out
    clear hn hp hs hsz
    go_enter Tryd.func9, Tryd.ntmps9
    go_wp2_with (go_at_call 21; refine (k4.out _).mono ?_; rintro e w' ⟨rfl, rfl⟩)
    go_ret
    exact ⟨ret_int e0.out.symm, HB1.out⟩
set_option maxHeartbeats 4000000 in
theorem timesAsks_any (p c d m le s : Int) (hc : B8 c) (w : World) (ht : TimesTabs w) :
    Calls Tryd.prog 11 #[opV p c d m le s] w fun e w' => e = .returned (.bool (asksM p c s)) ∧ Below w.heap.size w w' := by
  have k1 := Lib.hid (fun t W (hW : Below w.heap.size w W) => timesOf_any p c d m le s t hc W (ht.below hW))
  have HB1 := Lib.hid ((Below.refl w.heap.size w).alloc (Nat.le_refl _) (.cells #[.int .i64 p, .int .u8 c, .int .u8 d, .int .u16 m, .int .i64 le, .int .i64 s] 24))
  have hs := row6c (Row.new w 24 #[.int .i64 p, .int .u8 c, .int .u8 d, .int .u16 m, .int .i64 le, .int .i64 s])
  clear ht
  unfold asksM
  generalize ofM p c s = R at *
  go_enter Tryd.func11, Tryd.ntmps11
  go_upto_region 1 with (fail)
  generalize w.alloc (.cells #[.int .i64 p, .int .u8 c, .int .u8 d, .int .u16 m, .int .i64 le, .int .i64 s] 24) = W0 at *
  go_region_held3 (fun w' => w'.cell? ⟨w.heap.size, 0, none⟩ = some (.int .i64 p) ∧ w'.cell? ⟨w.heap.size, 1, none⟩ = some (.int .u8 c) ∧ w'.cell? ⟨w.heap.size, 2, none⟩ = some (.int .u8 d) ∧ w'.cell? ⟨w.heap.size, 3, none⟩ = some (.int .u16 m) ∧ w'.cell? ⟨w.heap.size, 4, none⟩ = some (.int .i64 le) ∧ w'.cell? ⟨w.heap.size, 5, none⟩ = some (.int .i64 s))
    (first | with_reducible assumption | exact hs | with_reducible exact keep6r hb (by with_reducible assumption))
    (first
    | (go_at_call 9; refine (k1.out _ _ (by (first | exact HB3.out | exact HB1.out.drew))).mono ?_; rintro e w3 ⟨rfl, hb⟩; (first | have HB4 := Lib.hid (HB3.out.trans (hb.mono HB3.out.size)) | have HB3 := Lib.hid (HB1.out.trans ((Below.drew (Below.refl _ W0)).trans hb |>.mono HB1.out.size)))))
  clear hs
  go_wp2
  go_ret
  exact ⟨rfl, HB4.out⟩
end Go.Proofs.YtlmeekaemhghgaaDoor
