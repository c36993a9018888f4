/- Layer 9 (text): a sign that is no letter stands for itself: contract of operand. -/
import Derived.Test.YtgdpafldhmchpaaDoorTextOper
namespace Go.Proofs.YtgdpafldhmchpaaDoor
open Go.RowKit
set_option linter.unusedVariables false
set_option linter.unusedSimpArgs false

theorem ne_one (k j : Nat) (hk : k < 256) (hj : j < 256) (h : k ≠ j) : (UInt8.ofNat k == UInt8.ofNat j) = false := by
  rw [beq_eq_false_iff_ne]
  intro c
  have := congrArg UInt8.toNat c
  simp only [UInt8.toNat_ofNat'] at this
  omega
set_option maxRecDepth 20000 in
set_option maxHeartbeats 4000000 in
theorem operZ_any (pl c d m le sk x y z p q : Int) (f : Value) (k : Nat) (hk : k < 256) (hn : k ∉ [82, 83, 80, 81, 72, 73, 67, 74, 65, 75, 77, 89, 86, 78, 87, 84]) (w : World) :
    Calls Tryd.prog 34 #[shV pl c d m le sk x y z p q f, .string ⟨#[UInt8.ofNat k]⟩] w fun e w' => e = .returned (.string ⟨#[UInt8.ofNat k]⟩) ∧ Below w.heap.size w w' := by
  simp only [List.mem_cons, List.not_mem_nil, or_false, not_or] at hn
  obtain ⟨n1, n2, n3, n4, n5, n6, n7, n8, n9, n10, n11, n12, n13, n14, n15, n16⟩ := hn
  have e1 : (UInt8.ofNat k == 82) = false := ne_one k 82 hk (by omega) n1
  have e2 : (UInt8.ofNat k == 83) = false := ne_one k 83 hk (by omega) n2
  have e3 : (UInt8.ofNat k == 80) = false := ne_one k 80 hk (by omega) n3
  have e4 : (UInt8.ofNat k == 81) = false := ne_one k 81 hk (by omega) n4
  have e5 : (UInt8.ofNat k == 72) = false := ne_one k 72 hk (by omega) n5
  have e6 : (UInt8.ofNat k == 73) = false := ne_one k 73 hk (by omega) n6
  have e7 : (UInt8.ofNat k == 67) = false := ne_one k 67 hk (by omega) n7
  have e8 : (UInt8.ofNat k == 74) = false := ne_one k 74 hk (by omega) n8
  have e9 : (UInt8.ofNat k == 65) = false := ne_one k 65 hk (by omega) n9
  have e10 : (UInt8.ofNat k == 75) = false := ne_one k 75 hk (by omega) n10
  have e11 : (UInt8.ofNat k == 77) = false := ne_one k 77 hk (by omega) n11
  have e12 : (UInt8.ofNat k == 89) = false := ne_one k 89 hk (by omega) n12
  have e13 : (UInt8.ofNat k == 86) = false := ne_one k 86 hk (by omega) n13
  have e14 : (UInt8.ofNat k == 78) = false := ne_one k 78 hk (by omega) n14
  have e15 : (UInt8.ofNat k == 87) = false := ne_one k 87 hk (by omega) n15
  have e16 : (UInt8.ofNat k == 84) = false := ne_one k 84 hk (by omega) n16
  clear n1 n2 n3 n4 n5 n6 n7 n8 n9 n10 n11 n12 n13 n14 n15 n16
  generalize UInt8.ofNat k = K at *
  clear hk
  go_enter Tryd.func34, Tryd.ntmps34
  go_wp2
  go_ret
  exact ⟨rfl, (by repeat (first | exact Below.refl _ _ | assumption | refine bstep ?_ (by assumption) | refine Below.drew ?_ | refine Below.alloc ?_ (by first | (simp; done) | (simp; omega) | omega) _ | refine Below.setCell ?_ (by first | (simp; done) | (simp; omega) | omega) _))⟩
end Go.Proofs.YtgdpafldhmchpaaDoor
