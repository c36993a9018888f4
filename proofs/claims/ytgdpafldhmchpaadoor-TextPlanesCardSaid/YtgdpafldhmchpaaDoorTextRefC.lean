/- Layer 9 (text): the document's own: contract of reg. -/
import Derived.Test.YtgdpafldhmchpaaDoorTextRefB
import Derived.BigQuiet
import Derived.Deep.QuietTactic
namespace Go.Proofs.YtgdpafldhmchpaaDoor
open Go.RowKit
set_option linter.unusedVariables false
set_option linter.unusedSimpArgs false

theorem cell_of' {w : World} {p : Addr} {a b : Option Value} (h : w.cell? p = a) (e : a = b) : w.cell? p = b := h.trans e
theorem below_dN {K : Nat} {a w : World} (h : Below K a w) (n : Nat) : Below K a (w.drewN n) := ⟨h.os, h.tape, h.output, h.size, h.block⟩
theorem row_2nd (W : World) (o : Obj) (t : TypeId) (cs : Array Value) : Row ((W.alloc o).alloc (.cells cs t)) (W.heap.size + 1) t cs := by
  have := Row.new (W.alloc o) t cs
  rwa [World.size_alloc] at this
theorem ix_app (pl d m : Int) (k : Nat) (hk : k < 256) : (⟨[105, UInt8.ofNat (ixC pl)].toArray⟩ ++ ⟨#[UInt8.ofNat k]⟩ : ByteArray) = sy pl d m (ixT pl ++ [k]) := by
  rw [ix_sy pl d m, ← sy_app]
  congr 1
  exact sy_sb pl d m [k] (by simpa using hk)
set_option maxHeartbeats 8000000 in
theorem rreg_any (pl c d m le sk k : Int) (hc : B8 c) (hd : B8 d) (hk : 0 ≤ k ∧ k ≤ 7) (w : World) :
    Calls Tryd.prog 22 #[opV pl c d m le sk, .int .i64 k] w fun e w' => e = .returned (.string (sy pl d m (regT pl (nearM pl c) k))) ∧ Below w.heap.size w w' := by
  have k1 := Lib.hid (fun w => rname_any pl w)
  have k3 := fun w => drnear_any pl c hc w
  have k6 : ∀ w, Calls Tryd.prog 49 #[.int .i64 pl] w fun e w' => e = .returned (.string ⟨[105, UInt8.ofNat (ixC pl)].toArray⟩) ∧ w' = w := fun w => (rname_any pl w).mono fun _ _ h => ⟨h.1, h.2.symm⟩
  have k6 := Lib.hid k6
  have k4 := Lib.hid (fun w => rIndex_any pl d hd w)
  have HI := Lib.hid (index_sy pl d m)
  have HX4 := Lib.hid (ix_app pl d m 104 (by omega))
  have HX5 := Lib.hid (ix_app pl d m 108 (by omega))
  have he := eight k hk
  clear hk hc hd
  unfold regT
  by_cases h : pl = 3 ∨ pl = 4
  · have k2 := Lib.hid (fun w => rindexed_yes pl c d m le sk h w)
    have HO := on_yes h
    rw [HO]
    clear h HO
    cases hn : nearM pl c
    all_goals
      rw [hn] at k3
      have k5 := Lib.hid k3
      clear hn k3
      rcases he with rfl | rfl | rfl | rfl | rfl | rfl | rfl | rfl
      all_goals
        go_enter Tryd.func22, Tryd.ntmps22
        go_wp2_with fail
        refine (k2.out _).mono ?_
        rintro e w1 ⟨rfl, hb⟩
        have hrO := ((Row.new w 24 #[.int .i64 pl, .int .u8 c, .int .u8 d, .int .u16 m, .int .i64 le, .int .i64 sk]).alloc _).below hb (by simp; omega)
        have hrS := (row_2nd w _ 9 #[.string ⟨#[98]⟩, .string ⟨#[99]⟩, .string ⟨#[100]⟩, .string ⟨#[101]⟩, .string ⟨#[104]⟩, .string ⟨#[108]⟩, .string ⟨#[40, 104, 108, 41]⟩, .string ⟨#[97]⟩]).below hb (by simp)
        have o0 := cell_of' (hrO.cell 0) rfl
        have o1 := cell_of' (hrO.cell 1) rfl
        have o2 := cell_of' (hrO.cell 2) rfl
        have s0 := cell_of' (hrS.cell 0) rfl
        have s1 := cell_of' (hrS.cell 1) rfl
        have s2 := cell_of' (hrS.cell 2) rfl
        have s3 := cell_of' (hrS.cell 3) rfl
        have s4 := cell_of' (hrS.cell 4) rfl
        have s5 := cell_of' (hrS.cell 5) rfl
        have s6 := cell_of' (hrS.cell 6) rfl
        have s7 := cell_of' (hrS.cell 7) rfl
        have hB1 : Below w.heap.size w w1 := (((Below.refl _ w).alloc (Nat.le_refl _) _).alloc (by simp) _).trans (hb.mono (by simp; omega))
        have hsz : w.heap.size < w1.heap.size := hrO.lt
        have HB1 := Lib.hid hB1
        clear hrO hrS hb hB1
        go_wp2_with (first
          | (go_at_call 48; refine (k5.out _).mono ?_; rintro e w' ⟨rfl, rfl⟩)
          | (go_at_call 39; refine (k4.out _).mono ?_; rintro e w' ⟨rfl, hb⟩; have hsz := hb.size)
          | (go_at_call 49; refine (k1.out _).mono ?_; rintro e w' ⟨rfl, rfl⟩))
        first
          | (go_ret
             refine ⟨ret_bs ?_, by first | exact HB1.out | exact HB1.out.trans (hb.mono HB1.out.size)⟩
             first | exact HI.out | rfl)
          | (go_quiet ((go_at_call 49; exact Calls.quiet_of_same (k6.out _)))
             go_wp2
             go_ret
             refine ⟨ret_bs ?_, ?_⟩
             · first | exact HX4.out | exact HX5.out
             · exact below_dN HB1.out _)
  · have k2 := Lib.hid (fun w => rindexed_no pl c d m le sk h w)
    have HO := on_no h
    rw [HO]
    clear h HO
    have k5 := Lib.hid k3
    clear k3
    generalize nearM pl c = nr at *
    rcases he with rfl | rfl | rfl | rfl | rfl | rfl | rfl | rfl
    all_goals
      go_enter Tryd.func22, Tryd.ntmps22
      go_wp2_with (first
        | (go_at_call 47; refine (k2.out _).mono ?_; rintro e w' ⟨rfl, hb⟩; obtain ⟨hce, hfe⟩ := bcell hb; have hsz : w.heap.size < w'.heap.size := by (have hsz' := hb.size; (try simp at hsz'); omega))
        | (go_at_call 48; refine (k5.out _).mono ?_; rintro e w' ⟨rfl, rfl⟩))
      go_ret
      refine ⟨ret_bs ?_, (by repeat (first | exact Below.refl _ _ | assumption | refine bstep ?_ (by assumption) | refine Below.drew ?_ | refine Below.alloc ?_ (by first | (simp; done) | (simp; omega) | omega) _ | refine Below.setCell ?_ (by first | (simp; done) | (simp; omega) | omega) _))⟩
      rfl
end Go.Proofs.YtgdpafldhmchpaaDoor
