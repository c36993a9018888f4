/- Layer 9 (text): the document's own: contracts of n, nn, to, indexed, reg, pair, conds, sums, shifts. -/
import Derived.Test.YtgdpafldhmchpaaDoorTextRefA
namespace Go.Proofs.YtgdpafldhmchpaaDoor
open Go.RowKit
set_option linter.unusedVariables false
set_option linter.unusedSimpArgs false

theorem bcell {W w1 : World} (hb : Below W.heap.size W w1) : (∀ b o, b < W.heap.size → w1.cell? ⟨b, o, none⟩ = W.cell? ⟨b, o, none⟩) ∧ (∀ b o, b < W.heap.size → w1.frozen? ⟨b, o, none⟩ = W.frozen? ⟨b, o, none⟩) :=
  ⟨fun b o h => hb.cell (p := ⟨b, o, none⟩) h, fun b o h => hb.frozen (p := ⟨b, o, none⟩) h⟩
theorem one_sy' (pl d m : Int) (k : Nat) : (⟨(tok pl d m k).toArray⟩ : ByteArray) = sy pl d m [k] := by
  unfold sy
  rw [say_cons, say_nil, List.append_nil]
set_option maxHeartbeats 1000000 in
theorem rn_any (pl c d m le sk : Int) (h0 : 0 ≤ m) (h1 : m ≤ 65535) (w : World) :
    Calls Tryd.prog 46 #[opV pl c d m le sk] w fun e w' => e = .returned (.string (sy pl d m [256])) ∧ Below w.heap.size w w' := by
  have hk := Lib.hid (fun W => rHex2_any (m % 256) (by omega) (by omega) W)
  have HX := Lib.hid (one_sy' pl d m 256)
  have m0 : 0 ≤ m % 256 := by omega
  have m1 : m % 256 ≤ 255 := by omega
  go_enter Tryd.func46, Tryd.ntmps46
  go_wp2_with (first
    | (go_at_call 50; refine (hk.out _).mono ?_; rintro e w' ⟨rfl, hb⟩; have hsz := hb.size))
  go_ret
  exact ⟨ret_bs HX.out, (by repeat (first | exact Below.refl _ _ | assumption | refine bstep ?_ (by assumption) | refine Below.drew ?_ | refine Below.alloc ?_ (by first | (simp; done) | (simp; omega) | omega) _ | refine Below.setCell ?_ (by first | (simp; done) | (simp; omega) | omega) _))⟩
set_option maxHeartbeats 1000000 in
theorem rnn_any (pl c d m le sk : Int) (h0 : 0 ≤ m) (h1 : m ≤ 65535) (w : World) :
    Calls Tryd.prog 43 #[opV pl c d m le sk] w fun e w' => e = .returned (.string (sy pl d m [257])) ∧ Below w.heap.size w w' := by
  have hk := Lib.hid (fun W => rHex4_any m (by omega) (by omega) W)
  have HX := Lib.hid (one_sy' pl d m 257)
  go_enter Tryd.func43, Tryd.ntmps43
  go_wp2_with (first
    | (go_at_call 50; refine (hk.out _).mono ?_; rintro e w' ⟨rfl, hb⟩; have hsz := hb.size))
  go_ret
  exact ⟨ret_bs HX.out, (by repeat (first | exact Below.refl _ _ | assumption | refine bstep ?_ (by assumption) | refine Below.drew ?_ | refine Below.alloc ?_ (by first | (simp; done) | (simp; omega) | omega) _ | refine Below.setCell ?_ (by first | (simp; done) | (simp; omega) | omega) _))⟩
set_option maxHeartbeats 1000000 in
theorem rto_any (pl c d m le sk : Int) (h0 : 0 ≤ m) (h1 : m ≤ 65535) (w : World) :
    Calls Tryd.prog 44 #[opV pl c d m le sk] w fun e w' => e = .returned (.string (sy pl d m [258])) ∧ Below w.heap.size w w' := by
  have hb : B8 (m % 256) := ⟨by omega, by omega⟩
  have hs := signedM_b (m % 256) hb
  have ks := Lib.hid (fun w => rsigned_any (m % 256) hb.1 hb.2 w)
  have kn := Lib.hid (fun W => rsign_any (signedM (m % 256) + 2) (by omega) (by omega) W)
  have HX := Lib.hid (one_sy' pl d m 258)
  have HY := Lib.hid (show tok pl d m 258 = 36 :: signL (signedM (m % 256) + 2) from rfl)
  have gl := signL_length (signedM (m % 256) + 2)
  have gs := la_size (signL (signedM (m % 256) + 2))
  have m0 : 0 ≤ m % 256 := by omega
  have m1 : m % 256 ≤ 255 := by omega
  generalize signL (signedM (m % 256) + 2) = G at *
  generalize signedM (m % 256) = X at *
  clear hb
  go_enter Tryd.func44, Tryd.ntmps44
  go_wp2_with (first
    | (go_at_call 65; refine (ks.out _).mono ?_; rintro e w' ⟨rfl, rfl⟩)
    | (go_at_call 64; refine (kn.out _).mono ?_; rintro e w' ⟨rfl, hb⟩; have hsz := hb.size))
  go_ret
  exact ⟨ret_bs (by rw [← HX.out, HY.out]; exact bs_app [36] G), (by repeat (first | exact Below.refl _ _ | assumption | refine bstep ?_ (by assumption) | refine Below.drew ?_ | refine Below.alloc ?_ (by first | (simp; done) | (simp; omega) | omega) _ | refine Below.setCell ?_ (by first | (simp; done) | (simp; omega) | omega) _))⟩
theorem rindexed_yes (pl c d m le sk : Int) (h : pl = 3 ∨ pl = 4) (w : World) :
    Calls Tryd.prog 47 #[opV pl c d m le sk] w fun e w' => e = .returned (.bool true) ∧ Below w.heap.size w w' := by
  rcases h with rfl | rfl
  all_goals
    go_enter Tryd.func47, Tryd.ntmps47
    go_wp2
    go_ret
    exact ⟨rfl, (by repeat (first | exact Below.refl _ _ | assumption | refine bstep ?_ (by assumption) | refine Below.drew ?_ | refine Below.alloc ?_ (by first | (simp; done) | (simp; omega) | omega) _ | refine Below.setCell ?_ (by first | (simp; done) | (simp; omega) | omega) _))⟩
theorem rindexed_no (pl c d m le sk : Int) (h : ¬ (pl = 3 ∨ pl = 4)) (w : World) :
    Calls Tryd.prog 47 #[opV pl c d m le sk] w fun e w' => e = .returned (.bool false) ∧ Below w.heap.size w w' := by
  simp only [not_or] at h
  have e3 : (pl == 3) = false := by simpa using h.1
  have e4 : (pl == 4) = false := by simpa using h.2
  clear h
  go_enter Tryd.func47, Tryd.ntmps47
  go_wp2
  go_ret
  exact ⟨rfl, (by repeat (first | exact Below.refl _ _ | assumption | refine bstep ?_ (by assumption) | refine Below.drew ?_ | refine Below.alloc ?_ (by first | (simp; done) | (simp; omega) | omega) _ | refine Below.setCell ?_ (by first | (simp; done) | (simp; omega) | omega) _))⟩
theorem eight (y : Int) (hy : 0 ≤ y ∧ y ≤ 7) : y = 0 ∨ y = 1 ∨ y = 2 ∨ y = 3 ∨ y = 4 ∨ y = 5 ∨ y = 6 ∨ y = 7 := by omega
set_option maxHeartbeats 1000000 in
theorem rconds_any (y : Int) (hy : 0 ≤ y ∧ y ≤ 7) (w : World) :
    Calls Tryd.prog 45 #[] w fun e w' => e = .returned (.slice (some ⟨w.heap.size, 0, none⟩) 8 8) ∧ w'.cell? ⟨w.heap.size, y.toNat, none⟩ = some (.string (sb (pick condN y))) ∧ Below w.heap.size w w' := by
  go_enter Tryd.func45, Tryd.ntmps45
  go_wp2
  go_ret
  refine ⟨rfl, ?_, (by repeat (first | exact Below.refl _ _ | assumption | refine bstep ?_ (by assumption) | refine Below.drew ?_ | refine Below.alloc ?_ (by first | (simp; done) | (simp; omega) | omega) _ | refine Below.setCell ?_ (by first | (simp; done) | (simp; omega) | omega) _))⟩
  rcases eight y hy with rfl | rfl | rfl | rfl | rfl | rfl | rfl | rfl <;> exact (Row.new w _ _).cell _
set_option maxHeartbeats 1000000 in
theorem rsums_any (y : Int) (hy : 0 ≤ y ∧ y ≤ 7) (w : World) :
    Calls Tryd.prog 23 #[] w fun e w' => e = .returned (.slice (some ⟨w.heap.size, 0, none⟩) 8 8) ∧ w'.cell? ⟨w.heap.size, y.toNat, none⟩ = some (.string (sb (pick sumN y))) ∧ Below w.heap.size w w' := by
  go_enter Tryd.func23, Tryd.ntmps23
  go_wp2
  go_ret
  refine ⟨rfl, ?_, (by repeat (first | exact Below.refl _ _ | assumption | refine bstep ?_ (by assumption) | refine Below.drew ?_ | refine Below.alloc ?_ (by first | (simp; done) | (simp; omega) | omega) _ | refine Below.setCell ?_ (by first | (simp; done) | (simp; omega) | omega) _))⟩
  rcases eight y hy with rfl | rfl | rfl | rfl | rfl | rfl | rfl | rfl <;> exact (Row.new w _ _).cell _
set_option maxHeartbeats 1000000 in
theorem rshifts_any (y : Int) (hy : 0 ≤ y ∧ y ≤ 7) (w : World) :
    Calls Tryd.prog 40 #[] w fun e w' => e = .returned (.slice (some ⟨w.heap.size, 0, none⟩) 8 8) ∧ w'.cell? ⟨w.heap.size, y.toNat, none⟩ = some (.string (sb (pick shiftN y))) ∧ Below w.heap.size w w' := by
  go_enter Tryd.func40, Tryd.ntmps40
  go_wp2
  go_ret
  refine ⟨rfl, ?_, (by repeat (first | exact Below.refl _ _ | assumption | refine bstep ?_ (by assumption) | refine Below.drew ?_ | refine Below.alloc ?_ (by first | (simp; done) | (simp; omega) | omega) _ | refine Below.setCell ?_ (by first | (simp; done) | (simp; omega) | omega) _))⟩
  rcases eight y hy with rfl | rfl | rfl | rfl | rfl | rfl | rfl | rfl <;> exact (Row.new w _ _).cell _
theorem on_yes {pl : Int} (h : pl = 3 ∨ pl = 4) : on pl = true := by
  rcases h with rfl | rfl <;> rfl
theorem on_no {pl : Int} (h : ¬ (pl = 3 ∨ pl = 4)) : on pl = false := by
  simp only [not_or] at h
  simp [on, h.1, h.2]
theorem sb_sy (pl d m : Int) (l : List Nat) (h : (l.all fun k => decide (k < 256)) = true) : sy pl d m l = sb l := (sy_sb pl d m l fun k hk => by simpa using List.all_eq_true.1 h k hk).symm
set_option maxHeartbeats 4000000 in
theorem rpairSp_any (pl c d m le sk p : Int) (hp : 0 ≤ p ∧ p ≤ 3) (w : World) :
    Calls Tryd.prog 42 #[opV pl c d m le sk, .int .i64 p, .string ⟨#[115, 112]⟩] w fun e w' => e = .returned (.string (sy pl d m (pairT pl p [115, 112]))) ∧ Below w.heap.size w w' := by
  have k1 := Lib.hid (fun w => rname_any pl w)
  have HI := Lib.hid (ix_sy pl d m)
  by_cases h : pl = 3 ∨ pl = 4
  · have k2 := Lib.hid (fun w => rindexed_yes pl c d m le sk h w)
    have HO := Lib.hid (on_yes h)
    clear h
    obtain rfl | rfl | rfl | rfl : p = 0 ∨ p = 1 ∨ p = 2 ∨ p = 3 := by omega
    all_goals
      go_enter Tryd.func42, Tryd.ntmps42
      go_wp2_with (first
        | (go_at_call 47; refine (k2.out _).mono ?_; rintro e w' ⟨rfl, hb⟩; obtain ⟨hce, hfe⟩ := bcell hb; have hsz : w.heap.size < w'.heap.size := by (have hsz' := hb.size; (try simp at hsz'); omega))
        | (go_at_call 49; refine (k1.out _).mono ?_; rintro e w' ⟨rfl, rfl⟩))
      go_ret
      refine ⟨ret_bs ?_, (by repeat (first | exact Below.refl _ _ | assumption | refine bstep ?_ (by assumption) | refine Below.drew ?_ | refine Below.alloc ?_ (by first | (simp; done) | (simp; omega) | omega) _ | refine Below.setCell ?_ (by first | (simp; done) | (simp; omega) | omega) _))⟩
      unfold pairT
      rw [HO.out]
      first | exact HI.out | rfl
  · have k2 := Lib.hid (fun w => rindexed_no pl c d m le sk h w)
    have HO := Lib.hid (on_no h)
    clear h
    obtain rfl | rfl | rfl | rfl : p = 0 ∨ p = 1 ∨ p = 2 ∨ p = 3 := by omega
    all_goals
      go_enter Tryd.func42, Tryd.ntmps42
      go_wp2_with (first
        | (go_at_call 47; refine (k2.out _).mono ?_; rintro e w' ⟨rfl, hb⟩; obtain ⟨hce, hfe⟩ := bcell hb; have hsz : w.heap.size < w'.heap.size := by (have hsz' := hb.size; (try simp at hsz'); omega))
        | (go_at_call 49; refine (k1.out _).mono ?_; rintro e w' ⟨rfl, rfl⟩))
      go_ret
      refine ⟨ret_bs ?_, (by repeat (first | exact Below.refl _ _ | assumption | refine bstep ?_ (by assumption) | refine Below.drew ?_ | refine Below.alloc ?_ (by first | (simp; done) | (simp; omega) | omega) _ | refine Below.setCell ?_ (by first | (simp; done) | (simp; omega) | omega) _))⟩
      unfold pairT
      rw [HO.out]
      rfl
set_option maxHeartbeats 4000000 in
theorem rpairAf_any (pl c d m le sk p : Int) (hp : 0 ≤ p ∧ p ≤ 3) (w : World) :
    Calls Tryd.prog 42 #[opV pl c d m le sk, .int .i64 p, .string ⟨#[97, 102]⟩] w fun e w' => e = .returned (.string (sy pl d m (pairT pl p [97, 102]))) ∧ Below w.heap.size w w' := by
  have k1 := Lib.hid (fun w => rname_any pl w)
  have HI := Lib.hid (ix_sy pl d m)
  by_cases h : pl = 3 ∨ pl = 4
  · have k2 := Lib.hid (fun w => rindexed_yes pl c d m le sk h w)
    have HO := Lib.hid (on_yes h)
    clear h
    obtain rfl | rfl | rfl | rfl : p = 0 ∨ p = 1 ∨ p = 2 ∨ p = 3 := by omega
    all_goals
      go_enter Tryd.func42, Tryd.ntmps42
      go_wp2_with (first
        | (go_at_call 47; refine (k2.out _).mono ?_; rintro e w' ⟨rfl, hb⟩; obtain ⟨hce, hfe⟩ := bcell hb; have hsz : w.heap.size < w'.heap.size := by (have hsz' := hb.size; (try simp at hsz'); omega))
        | (go_at_call 49; refine (k1.out _).mono ?_; rintro e w' ⟨rfl, rfl⟩))
      go_ret
      refine ⟨ret_bs ?_, (by repeat (first | exact Below.refl _ _ | assumption | refine bstep ?_ (by assumption) | refine Below.drew ?_ | refine Below.alloc ?_ (by first | (simp; done) | (simp; omega) | omega) _ | refine Below.setCell ?_ (by first | (simp; done) | (simp; omega) | omega) _))⟩
      unfold pairT
      rw [HO.out]
      first | exact HI.out | rfl
  · have k2 := Lib.hid (fun w => rindexed_no pl c d m le sk h w)
    have HO := Lib.hid (on_no h)
    clear h
    obtain rfl | rfl | rfl | rfl : p = 0 ∨ p = 1 ∨ p = 2 ∨ p = 3 := by omega
    all_goals
      go_enter Tryd.func42, Tryd.ntmps42
      go_wp2_with (first
        | (go_at_call 47; refine (k2.out _).mono ?_; rintro e w' ⟨rfl, hb⟩; obtain ⟨hce, hfe⟩ := bcell hb; have hsz : w.heap.size < w'.heap.size := by (have hsz' := hb.size; (try simp at hsz'); omega))
        | (go_at_call 49; refine (k1.out _).mono ?_; rintro e w' ⟨rfl, rfl⟩))
      go_ret
      refine ⟨ret_bs ?_, (by repeat (first | exact Below.refl _ _ | assumption | refine bstep ?_ (by assumption) | refine Below.drew ?_ | refine Below.alloc ?_ (by first | (simp; done) | (simp; omega) | omega) _ | refine Below.setCell ?_ (by first | (simp; done) | (simp; omega) | omega) _))⟩
      unfold pairT
      rw [HO.out]
      rfl
end Go.Proofs.YtgdpafldhmchpaaDoor
