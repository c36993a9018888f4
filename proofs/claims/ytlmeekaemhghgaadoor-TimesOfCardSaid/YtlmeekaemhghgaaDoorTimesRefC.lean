/- Layer 10 (times): the document's own Of and Asks: contracts. -/
import Derived.Test.YtlmeekaemhghgaaDoorTimesRefB
namespace Go.Proofs.YtlmeekaemhghgaaDoor
open Go.RowKit
set_option linter.unusedVariables false
set_option linter.unusedSimpArgs false

theorem near54 (p c : Int) (hc : B8 c) (hp : p = 3 ∨ p = 4) : reachM p c = (if nearM p c then 8 else 0) - (if c = 54 then 3 else 0) := by
  unfold reachM
  by_cases h : c = 54
  · subst h
    rcases hp with rfl | rfl <;> rfl
  · rw [if_neg h, if_neg h]
    omega
theorem of_eqR (p c s : Int) (t : Bool) (hp : ¬ (p < 0 ∨ 6 < p)) : ofM p c s t = wrap64 (netM p c t + wrap64 (4 * s)) := by
  rw [of_eq p c s t hp]
  unfold wrap64
  omega
set_option maxHeartbeats 4000000 in
theorem rTimesOf_any (p c d m le s : Int) (t : Bool) (hc : B8 c) (w : World) :
    Calls Tryd.prog 10 #[opV p c d m le s, .bool t] w fun e w' => e = .returned (.int .i64 (ofM p c s t)) ∧ Below w.heap.size w w' := by
  have bx := fields3 c hc
  have b1 := unheld_all c hc
  have b2 := added_all c hc
  have hc0 := hc.1
  have hc1 := hc.2
  have hk : 0 ≤ c / 16 ∧ c / 16 ≤ 15 := by omega
  have kf := Lib.hid (rfields_any c hc)
  have wc : IntKind.i64.wrap c = c := by rw [IntKind.wrap_i64]; omega
  have q1 : IntKind.i64.wrap ((IntKind.i64.wrap c).tdiv 16) = c / 16 := by rw [wc, Int.tdiv_eq_ediv_of_nonneg hc0, IntKind.wrap_i64]; omega
  have q2' : (IntKind.i64.wrap c).tmod 16 = c % 16 := by rw [wc, Int.tmod_eq_emod_of_nonneg hc0]
  have kr := Lib.hid (fun W => show Calls Tryd.prog 24 #[.int .i64 (IntKind.i64.wrap ((IntKind.i64.wrap c).tdiv 16))] W fun e w' => e = .returned (r10V (c / 16)) ∧ Below W.heap.size W w' by rw [q1]; exact rrow_any (c / 16) hk W)
  have kx := fun W => show (Instr.index 45 (r10V (c / 16)) (.int .i64 ((IntKind.i64.wrap c).tmod 16))).run Tryd.prog W = .ok (.int .i64 (unheldM c)) W by rw [q2']; exact ix10 c hc W
  clear q1 q2' wc
  have km := Lib.hid (rmore_any c hc)
  have kn := Lib.hid (drnear_any p c hc)
  have ke := Lib.hid (red_any (fx c) (fy c) (fz c) t bx.1 bx.2.1 bx.2.2)
  have hq := Lib.hid (show ¬ (p < 0 ∨ 6 < p) → ofM p c s t = wrap64 (netM p c t + wrap64 (4 * s)) from of_eqR p c s t)
  have hn := Lib.hid (show netM p c t = if p = 0 then plainM c t else if p = 3 ∨ p = 4 then 4 + plainM c t + reachM p c else if p = 1 then bitsCM c else if p = 5 ∨ p = 6 then bitsNM c else if p = 2 then extR (fx c) (fy c) (fz c) t else 0 from rfl)
  have hr := Lib.hid (near54 p c hc)
  have hu := Lib.hid (show plainM c t = if t then unheldM c + addedM c else unheldM c from rfl)
  have hbc := Lib.hid (show bitsCM c = if fz c = 6 then (if fx c = 1 then 12 else 15) else 8 from rfl)
  have hbn := Lib.hid (show bitsNM c = if fx c = 1 then 20 else 23 from rfl)
  have hno := Lib.hid (of_no p c s t)
  have HB1 := Lib.hid ((Below.refl w.heap.size w).alloc (Nat.le_refl _) (.cells #[.int .i64 p, .int .u8 c, .int .u8 d, .int .u16 m, .int .i64 le, .int .i64 s] 24))
  have hs := row6c (Row.new w 24 #[.int .i64 p, .int .u8 c, .int .u8 d, .int .u16 m, .int .i64 le, .int .i64 s])
  have hsz := (Row.new w 24 #[.int .i64 p, .int .u8 c, .int .u8 d, .int .u16 m, .int .i64 le, .int .i64 s]).lt
  obtain ⟨bx, bY, bz⟩ := bx
  unfold five at kf
  generalize ofM p c s t = R at *
  generalize netM p c t = n at *
  generalize plainM c t = u1 at *
  generalize reachM p c = u2 at *
  generalize bitsCM c = u3 at *
  generalize bitsNM c = u4 at *
  generalize addedM c = ad at *
  generalize unheldM c = un at *
  generalize nearM p c = nr at *
  generalize fx c = x at *
  generalize fy c = y at *
  generalize fz c = z at *
  generalize r10V (c / 16) = rv at *
  go_enter Tryd.func10, Tryd.ntmps10
  go_upto_region 2 with (first
    | (go_at_call 23; refine (kf.out _).mono ?_; rintro e w' ⟨rfl, rfl⟩))
  generalize w.alloc (.cells #[.int .i64 p, .int .u8 c, .int .u8 d, .int .u16 m, .int .i64 le, .int .i64 s] 24) = W0 at *
  go_region_held3 (fun w' => w'.cell? ⟨w.heap.size, 0, none⟩ = some (.int .i64 p) ∧ w'.cell? ⟨w.heap.size, 1, none⟩ = some (.int .u8 c) ∧ w'.cell? ⟨w.heap.size, 2, none⟩ = some (.int .u8 d) ∧ w'.cell? ⟨w.heap.size, 3, none⟩ = some (.int .u16 m) ∧ w'.cell? ⟨w.heap.size, 4, none⟩ = some (.int .i64 le) ∧ w'.cell? ⟨w.heap.size, 5, none⟩ = some (.int .i64 s))
    (first | with_reducible assumption | exact hs | with_reducible exact keep6r hb (by with_reducible assumption))
    (first
    | (go_at_call 24; refine (kr.out _).mono ?_; rintro e w4 ⟨rfl, hb⟩; have HB4 := Lib.hid (HB1.out.trans ((Below.drew (Below.refl _ W0)).trans hb |>.mono HB1.out.size))))
  clear hs hb
  rename_i hH
  obtain ⟨l0, l1, l2, l3, l4, l5⟩ := hH
  have hu2 := Lib.hid (show u1 = un + (if t then ad else 0) by rw [hu.out]; cases t <;> simp)
  clear hu
  by_cases hp : p < 0 ∨ 6 < p
  · have e := hno.out hp
    obtain ⟨n0, n1, n2, n3, n4, n5, n6⟩ := plane_no p hp
    subst e
    clear hno hq hn hp hr hu2 hbc hbn
    cases t
    all_goals
      go_wp2_with (first
        | (go_at_call 25; refine (km.out _).mono ?_; rintro e w' ⟨rfl, rfl⟩))
      go_ret
      exact ⟨rfl, HB4.out⟩
  have e0 := Lib.hid (hq.out hp)
  clear hno hq
  obtain rfl | rfl | rfl | rfl | rfl | rfl | rfl : p = 0 ∨ p = 1 ∨ p = 2 ∨ p = 3 ∨ p = 4 ∨ p = 5 ∨ p = 6 := by omega
  · obtain rfl : n = u1 := by simpa using hn.out
    clear hn hp hr hbc hbn
    cases t
    all_goals
      go_wp2_with (first
        | (go_at_call 25; refine (km.out _).mono ?_; rintro e w' ⟨rfl, rfl⟩))
      have hu3 := hu2.out
      simp only [if_true, if_false, Bool.false_eq_true] at hu3
      go_ret
      refine ⟨ret_int ?_, HB4.out⟩
      rw [e0.out]
      congr 1
      omega
  · obtain rfl : n = u3 := by simpa using hn.out
    clear hn hp hr hu2 hbn
    by_cases z6 : z = 6 <;> by_cases x1 : x = 1
    all_goals
      (try subst z6)
      (try subst x1)
      (try have z6' : (z == 6) = false := by simpa using z6)
      (try have x1' : (x == 1) = false := by simpa using x1)
      cases t
      all_goals
        go_wp2_with (first
          | (go_at_call 25; refine (km.out _).mono ?_; rintro e w' ⟨rfl, rfl⟩))
        have e3 := hbc.out
        simp only [*, if_true, if_false] at e3
        go_ret
        refine ⟨ret_int ?_, HB4.out⟩
        rw [e0.out]
        congr 1
        omega
  · obtain rfl : n = extR x y z t := by simpa using hn.out
    clear hn hp hr hu2 hbn hbc
    generalize extR x y z t = n at *
    cases t
    all_goals
      go_wp2_with (first
        | (go_at_call 25; refine (km.out _).mono ?_; rintro e w' ⟨rfl, rfl⟩)
        | (go_at_call 27; refine (ke.out _).mono ?_; rintro e w5 ⟨rfl, hb⟩; have HB5 := Lib.hid (HB4.out.trans (hb.mono HB4.out.size)); have l5b := cell_kept l5 hb))
      go_ret
      refine ⟨ret_int ?_, HB5.out⟩
      rw [e0.out]
  · obtain rfl : n = 4 + u1 + u2 := by simpa using hn.out
    have hr2 := Lib.hid (hr.out (by omega))
    clear hn hp hbn hbc hr
    by_cases c54 : c = 54
    · rw [if_pos c54] at hr2
      subst c54
      cases nr <;> cases t
      all_goals
        go_wp2_with (first
          | (go_at_call 25; refine (km.out _).mono ?_; rintro e w' ⟨rfl, rfl⟩)
          | (go_at_call 26; refine (kn.out _).mono ?_; rintro e w' ⟨rfl, rfl⟩))
        have hr3 := hr2.out
        have hu3 := hu2.out
        simp only [if_true, if_false, Bool.false_eq_true] at hr3 hu3
        go_ret
        refine ⟨ret_int ?_, HB4.out⟩
        rw [e0.out]
        congr 1
        omega
    · rw [if_neg c54] at hr2
      have c54' : (c == 54) = false := by simpa using c54
      cases nr <;> cases t
      all_goals
        go_wp2_with (first
          | (go_at_call 25; refine (km.out _).mono ?_; rintro e w' ⟨rfl, rfl⟩)
          | (go_at_call 26; refine (kn.out _).mono ?_; rintro e w' ⟨rfl, rfl⟩))
        have hr3 := hr2.out
        have hu3 := hu2.out
        simp only [if_true, if_false, Bool.false_eq_true] at hr3 hu3
        go_ret
        refine ⟨ret_int ?_, HB4.out⟩
        rw [e0.out]
        congr 1
        omega
  · obtain rfl : n = 4 + u1 + u2 := by simpa using hn.out
    have hr2 := Lib.hid (hr.out (by omega))
    clear hn hp hbn hbc hr
    by_cases c54 : c = 54
    · rw [if_pos c54] at hr2
      subst c54
      cases nr <;> cases t
      all_goals
        go_wp2_with (first
          | (go_at_call 25; refine (km.out _).mono ?_; rintro e w' ⟨rfl, rfl⟩)
          | (go_at_call 26; refine (kn.out _).mono ?_; rintro e w' ⟨rfl, rfl⟩))
        have hr3 := hr2.out
        have hu3 := hu2.out
        simp only [if_true, if_false, Bool.false_eq_true] at hr3 hu3
        go_ret
        refine ⟨ret_int ?_, HB4.out⟩
        rw [e0.out]
        congr 1
        omega
    · rw [if_neg c54] at hr2
      have c54' : (c == 54) = false := by simpa using c54
      cases nr <;> cases t
      all_goals
        go_wp2_with (first
          | (go_at_call 25; refine (km.out _).mono ?_; rintro e w' ⟨rfl, rfl⟩)
          | (go_at_call 26; refine (kn.out _).mono ?_; rintro e w' ⟨rfl, rfl⟩))
        have hr3 := hr2.out
        have hu3 := hu2.out
        simp only [if_true, if_false, Bool.false_eq_true] at hr3 hu3
        go_ret
        refine ⟨ret_int ?_, HB4.out⟩
        rw [e0.out]
        congr 1
        omega
  · obtain rfl : n = u4 := by simpa using hn.out
    clear hn hp hr hu2 hbc
    by_cases x1 : x = 1
    all_goals
      (try subst x1)
      (try have x1' : (x == 1) = false := by simpa using x1)
      cases t
      all_goals
        go_wp2_with (first
          | (go_at_call 25; refine (km.out _).mono ?_; rintro e w' ⟨rfl, rfl⟩))
        have e3 := hbn.out
        simp only [*, if_true, if_false] at e3
        go_ret
        refine ⟨ret_int ?_, HB4.out⟩
        rw [e0.out]
        congr 1
        omega
  · obtain rfl : n = u4 := by simpa using hn.out
    clear hn hp hr hu2 hbc
    by_cases x1 : x = 1
    all_goals
      (try subst x1)
      (try have x1' : (x == 1) = false := by simpa using x1)
      cases t
      all_goals
        go_wp2_with (first
          | (go_at_call 25; refine (km.out _).mono ?_; rintro e w' ⟨rfl, rfl⟩))
        have e3 := hbn.out
        simp only [*, if_true, if_false] at e3
        go_ret
        refine ⟨ret_int ?_, HB4.out⟩
        rw [e0.out]
        congr 1
        omega
set_option maxHeartbeats 4000000 in
theorem rTimesAsks_any (p c d m le s : Int) (hc : B8 c) (w : World) :
    Calls Tryd.prog 12 #[opV p c d m le s] w fun e w' => e = .returned (.bool (asksM p c s)) ∧ Below w.heap.size w w' := by
  have k1 := Lib.hid (fun t W => rTimesOf_any p c d m le s t hc W)
  have HB1 := Lib.hid ((Below.refl w.heap.size w).alloc (Nat.le_refl _) (.cells #[.int .i64 p, .int .u8 c, .int .u8 d, .int .u16 m, .int .i64 le, .int .i64 s] 24))
  have hs := row6c (Row.new w 24 #[.int .i64 p, .int .u8 c, .int .u8 d, .int .u16 m, .int .i64 le, .int .i64 s])
  unfold asksM
  generalize ofM p c s = R at *
  go_enter Tryd.func12, Tryd.ntmps12
  go_upto_region 1 with (fail)
  generalize w.alloc (.cells #[.int .i64 p, .int .u8 c, .int .u8 d, .int .u16 m, .int .i64 le, .int .i64 s] 24) = W0 at *
  go_region_held3 (fun w' => w'.cell? ⟨w.heap.size, 0, none⟩ = some (.int .i64 p) ∧ w'.cell? ⟨w.heap.size, 1, none⟩ = some (.int .u8 c) ∧ w'.cell? ⟨w.heap.size, 2, none⟩ = some (.int .u8 d) ∧ w'.cell? ⟨w.heap.size, 3, none⟩ = some (.int .u16 m) ∧ w'.cell? ⟨w.heap.size, 4, none⟩ = some (.int .i64 le) ∧ w'.cell? ⟨w.heap.size, 5, none⟩ = some (.int .i64 s))
    (first | with_reducible assumption | exact hs | with_reducible exact keep6r hb (by with_reducible assumption))
    (first
    | (go_at_call 10; refine (k1.out _ _).mono ?_; rintro e w3 ⟨rfl, hb⟩; (first | have HB4 := Lib.hid (HB3.out.trans (hb.mono HB3.out.size)) | have HB3 := Lib.hid (HB1.out.trans ((Below.drew (Below.refl _ W0)).trans hb |>.mono HB1.out.size)))))
  clear hs
  go_wp2
  go_ret
  exact ⟨rfl, HB4.out⟩
end Go.Proofs.YtlmeekaemhghgaaDoor
