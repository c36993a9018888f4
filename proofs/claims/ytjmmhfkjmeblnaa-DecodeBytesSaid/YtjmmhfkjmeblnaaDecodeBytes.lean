/- Layer 8 (decode): prefixes and Bytes: contracts. -/
import Derived.Test.YtjmmhfkjmeblnaaDecodeNext
import Derived.Deep.DeepCutAuto
import Derived.Laws.AppendOwn
import Derived.Laws.OwnMore
import Derived.OwnWalk
namespace Go.Proofs.Ytjmmhfkjmeblnaa
open Go.RowKit
set_option linter.unusedVariables false
set_option linter.unusedSimpArgs false

/-- bytes as values -/
def bvs (l : List Int) : List Value := l.map fun x => .int .u8 x
/-- the prefix bytes of a plane -/
def preL (p : Int) : List Int := if p = 1 then [203] else if p = 2 then [237] else if p = 3 then [221] else if p = 4 then [253] else if p = 5 then [221, 203] else if p = 6 then [253, 203] else []
set_option maxHeartbeats 1000000 in
theorem prefixes_any (p : Int) (w : World) :
    Calls Try.prog 33 #[.int .i64 p] w fun e w' => ∃ v, e = .returned v ∧ w'.ownsRow w.heap.size 5 1 v (preL p).length (bvs (preL p)) ∧ Below w.heap.size w w' := by
  by_cases hp : 1 ≤ p ∧ p ≤ 6
  · obtain rfl | rfl | rfl | rfl | rfl | rfl : p = 1 ∨ p = 2 ∨ p = 3 ∨ p = 4 ∨ p = 5 ∨ p = 6 := by omega
    all_goals
      clear hp
      go_enter Try.func33, Try.ntmps33
      go_wp2
      go_ret
      refine ⟨_, rfl, ⟨rfl, .inr ⟨w.heap.size, _, _, rfl, Nat.le_refl _, World.alloc_heap_new w _, by decide, by decide, rfl, rfl⟩⟩, (by repeat (first | exact Below.refl _ _ | assumption | refine bstep ?_ (by assumption) | refine Below.drew ?_ | refine Below.alloc ?_ (by first | (simp; done) | (simp; omega) | omega) _ | refine Below.setCell ?_ (by first | (simp; done) | (simp; omega) | omega) _))⟩
  · have n1 : (p == 1) = false := by simp; omega
    have n2 : (p == 2) = false := by simp; omega
    have n3 : (p == 3) = false := by simp; omega
    have n4 : (p == 4) = false := by simp; omega
    have n5 : (p == 5) = false := by simp; omega
    have n6 : (p == 6) = false := by simp; omega
    have hl : preL p = [] := by unfold preL; rw [if_neg (by omega), if_neg (by omega), if_neg (by omega), if_neg (by omega), if_neg (by omega), if_neg (by omega)]
    have HL := Lib.hid hl
    clear hl hp
    go_enter Try.func33, Try.ntmps33
    go_wp2
    go_ret
    rw [HL.out]
    exact ⟨_, rfl, World.ownsRow_nil _ _ _ _, Below.refl _ _⟩
end Go.Proofs.Ytjmmhfkjmeblnaa
