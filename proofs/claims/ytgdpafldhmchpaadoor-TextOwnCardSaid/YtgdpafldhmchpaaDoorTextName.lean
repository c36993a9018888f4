/- Layer 9 (text): names of registers, as a plane has them: contracts of plain, moved, choose. -/
import Derived.Test.YtgdpafldhmchpaaDoorTextNum
import Derived.Test.YtgdpafldhmchpaaDoorDecodeSize
import Derived.Laws.EntriesVeiled
namespace Go.Proofs.YtgdpafldhmchpaaDoor
open Go.RowKit
set_option linter.unusedVariables false
set_option linter.unusedSimpArgs false

abbrev nmV (pl c d m le sk : Int) : Value := .agg #[.int .i64 pl, .int .u8 c, .int .u8 d, .int .u16 m, .int .i64 le, .int .i64 sk]
abbrev movedV (pl c d m le sk : Int) : Value := .func (.func 31) #[nmV pl c d m le sk] #[]
abbrev plainV (pl c d m le sk : Int) : Value := .func (.func 32) #[nmV pl c d m le sk] #[]
/-- the names that there are -/
def nameL : List (List Nat) := regN ++ pairN ++ stackN
theorem sayB (pl d m : Int) (l : List Nat) (h : ∀ k ∈ l, k < 256) : say pl d m l = l.map UInt8.ofNat := by
  induction l with
  | nil => rfl
  | cons k l ih =>
    have hk := h k (by simp)
    rw [say_cons, ih (fun x hx => h x (by simp [hx]))]
    unfold tok
    rw [if_neg (by omega), if_neg (by omega), if_neg (by omega), if_neg (by omega)]
    rfl
/-- a row of signs and operands, as a string holds it -/
def sy (pl d m : Int) (l : List Nat) : ByteArray := ⟨(say pl d m l).toArray⟩
theorem sy_app (pl d m : Int) (a b : List Nat) : sy pl d m a ++ sy pl d m b = sy pl d m (a ++ b) := by
  unfold sy
  rw [bs_app, say_app]
theorem sy_sb (pl d m : Int) (l : List Nat) (h : ∀ k ∈ l, k < 256) : sb l = sy pl d m l := by
  unfold sb sy
  rw [sayB pl d m l h]
theorem plain_any (pl c d m le sk : Int) (s : ByteArray) (w : World) :
    Calls Tryd.prog 32 #[nmV pl c d m le sk, .string s] w fun e w' => e = .returned (.string s) ∧ Below w.heap.size w w' := by
  go_enter Tryd.func32, Tryd.ntmps32
  go_wp2
  go_ret
  exact ⟨rfl, (by repeat (first | exact Below.refl _ _ | assumption | refine bstep ?_ (by assumption) | refine Below.drew ?_ | refine Below.alloc ?_ (by first | (simp; done) | (simp; omega) | omega) _ | refine Below.setCell ?_ (by first | (simp; done) | (simp; omega) | omega) _))⟩
theorem ixC_lt (p : Int) : ixC p < 256 := by unfold ixC; split <;> omega
theorem ix_sy (p d m : Int) : (⟨[105, UInt8.ofNat (ixC p)].toArray⟩ : ByteArray) = sy p d m (ixT p) := by
  unfold sy
  rw [sayB p d m (ixT p) (by unfold ixT; have := ixC_lt p; simp; omega)]
  rfl
theorem index_sy (p d m : Int) : (⟨(indexL p d).toArray⟩ : ByteArray) = sy p d m [259] := by
  unfold sy
  rw [say_cons, say_nil, List.append_nil]
  rfl
set_option maxHeartbeats 8000000 in
theorem moved_any (pl c d m le sk : Int) (hp : pl = 3 ∨ pl = 4) (hc : B8 c) (hd : B8 d) (t : List Nat) (ht : t ∈ nameL) (w : World) (h : TextTabs w) :
    Calls Tryd.prog 31 #[nmV pl c d m le sk, .string (sb t)] w fun e w' => e = .returned (.string (sy pl d m (nameT pl (nearM pl c) t))) ∧ Below w.heap.size w w' := by
  have k1 := Lib.hid (fun w => tindex_any pl w)
  have k2 := Lib.hid (fun o => tIndex_any pl d hd (w.alloc o) (h.below ((Below.refl _ w).alloc (Nat.le_refl _) o)))
  have k3 := Lib.hid (fun w => dnear_any pl c hc w)
  have e1 := ix_sy pl d m
  have e2 := index_sy pl d m
  have e3 : ∀ l, nameT pl (nearM pl c) l = if l = [104, 108] then ixT pl else if l = [40, 104, 108, 41] then [259] else if l = [104] ∨ l = [108] then (if nearM pl c then l else ixT pl ++ l) else l := fun l => by unfold nameT; rw [if_pos hp]
  have e4 : (sy pl d m (ixT pl)).size = 2 := by rw [← e1]; rfl
  rw [e3]
  clear e3 hp h
  generalize nearM pl c = N at *
  simp only [nameL, regN, pairN, stackN, List.cons_append, List.nil_append, List.mem_cons, List.not_mem_nil, or_false] at ht
  rcases ht with rfl | rfl | rfl | rfl | rfl | rfl | rfl | rfl | rfl | rfl | rfl | rfl | rfl | rfl | rfl | rfl
  all_goals
    simp only [sb, List.map_cons, List.map_nil]
    cases N
    all_goals
      go_enter Tryd.func31, Tryd.ntmps31
      go_wp2_with (first
        | (go_at_call 28; refine (k1.out _).mono ?_; rintro e w' ⟨rfl, rfl⟩)
        | (go_at_call 13; refine (k2.out _).mono ?_; rintro e w' ⟨rfl, hb⟩; have hsz := hb.size)
        | (go_at_call 58; refine (k3.out _).mono ?_; rintro e w' ⟨rfl, rfl⟩))
  all_goals
    go_ret
    refine ⟨ret_bs ?_, (by repeat (first | exact Below.refl _ _ | assumption | refine bstep ?_ (by assumption) | refine Below.drew ?_ | refine Below.alloc ?_ (by first | (simp; done) | (simp; omega) | omega) _ | refine Below.setCell ?_ (by first | (simp; done) | (simp; omega) | omega) _))⟩
    (first
      | rfl
      | exact e1
      | exact e2
      | (rw [show (⟨#[104]⟩ : ByteArray) = sy pl d m [104] from rfl, ← sy_app]; (try rw [← e1]))
      | (rw [show (⟨#[108]⟩ : ByteArray) = sy pl d m [108] from rfl, ← sy_app]; (try rw [← e1])))
set_option maxHeartbeats 1000000 in
theorem choose_any (pl c d m le sk : Int) (w : World) :
    Calls Tryd.prog 14 #[nmV pl c d m le sk] w fun e w' => e = .returned (if pl = 3 ∨ pl = 4 then movedV pl c d m le sk else plainV pl c d m le sk) ∧ Below w.heap.size w w' := by
  by_cases h3 : pl = 3
  · subst h3
    go_enter Tryd.func14, Tryd.ntmps14
    go_wp2
    go_ret
    exact ⟨rfl, (by repeat (first | exact Below.refl _ _ | assumption | refine bstep ?_ (by assumption) | refine Below.drew ?_ | refine Below.alloc ?_ (by first | (simp; done) | (simp; omega) | omega) _ | refine Below.setCell ?_ (by first | (simp; done) | (simp; omega) | omega) _))⟩
  by_cases h4 : pl = 4
  · subst h4
    go_enter Tryd.func14, Tryd.ntmps14
    go_wp2
    go_ret
    exact ⟨rfl, (by repeat (first | exact Below.refl _ _ | assumption | refine bstep ?_ (by assumption) | refine Below.drew ?_ | refine Below.alloc ?_ (by first | (simp; done) | (simp; omega) | omega) _ | refine Below.setCell ?_ (by first | (simp; done) | (simp; omega) | omega) _))⟩
  rw [if_neg (by omega)]
  have e3 : (pl == 3) = false := by simpa using h3
  have e4 : (pl == 4) = false := by simpa using h4
  go_enter Tryd.func14, Tryd.ntmps14
  go_wp2
  go_ret
  exact ⟨rfl, (by repeat (first | exact Below.refl _ _ | assumption | refine bstep ?_ (by assumption) | refine Below.drew ?_ | refine Below.alloc ?_ (by first | (simp; done) | (simp; omega) | omega) _ | refine Below.setCell ?_ (by first | (simp; done) | (simp; omega) | omega) _))⟩
end Go.Proofs.YtgdpafldhmchpaaDoor
