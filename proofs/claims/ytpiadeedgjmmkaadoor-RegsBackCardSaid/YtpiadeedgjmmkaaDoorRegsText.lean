/- Layer 11 (regs): texts of words, bytes and numbers, of the program: contracts. -/
import Derived.Test.YtpiadeedgjmmkaaDoorRegsMath
import Derived.Test.YtpiadeedgjmmkaaDoorTextNum
import Derived.Lib.ItoaLen
namespace Go.Proofs.YtpiadeedgjmmkaaDoor
open Go.RowKit
set_option linter.unusedVariables false
set_option linter.unusedSimpArgs false

/-- what the library's numbers in digits read -/
structure NumTabs (w : World) : Prop where
  pow : Lib.TabIs Tryd.prog w "internal/strconv.uint64pow10" .u64 Lib.pow10Tab
  bru : w.cell? ⟨3, 15, none⟩ = some (.int .u8 4)
theorem NumTabs.below {w w' : World} (h : NumTabs w) (k : Below w.heap.size w w') : NumTabs w' :=
  ⟨var_below h.pow k, cell_kept h.bru k⟩
/-- texts -/
def wordB (n : Int) : ByteArray := ⟨(hex4 n).toArray⟩
def byteB (n : Int) : ByteArray := ⟨(hex2 n).toArray⟩
def numB (n : Int) : ByteArray := ⟨(Lib.itoa n).toArray⟩
theorem wordB_size (n : Int) : (wordB n).size = 5 := rfl
theorem byteB_size (n : Int) : (byteB n).size = 3 := rfl
theorem numB_size (n : Int) (h : -9223372036854775808 ≤ n ∧ n ≤ 9223372036854775807) : (numB n).size ≤ 21 := by
  show (Lib.itoa n).toArray.size ≤ 21
  have := Lib.itoa_length_le n h.1 h.2
  simpa using this
theorem thexW_any (n : Int) (h : W16 n) (w : World) (ht : NumTabs w) :
    Calls Tryd.prog 33 #[.int .i64 n, .int .i64 4] w fun e w' => e = .returned (.string (wordB n)) ∧ Below w.heap.size w w' := by
  have k := thexN_any n 4 h.1 h.2 (by omega) (by omega) w ht.bru
  rw [hexH4 n h.1 h.2] at k
  exact k
theorem thexB_any (n : Int) (h : B8 n) (w : World) (ht : NumTabs w) :
    Calls Tryd.prog 33 #[.int .i64 n, .int .i64 2] w fun e w' => e = .returned (.string (byteB n)) ∧ Below w.heap.size w w' := by
  have k := thexN_any n 2 h.1 (by have := h.2; omega) (by omega) (by omega) w ht.bru
  rw [hexH2 n h.1 h.2] at k
  exact k
theorem itoaN_any (n : Int) (h : -9223372036854775808 ≤ n ∧ n ≤ 9223372036854775807) (w : World) (ht : NumTabs w) :
    Calls Tryd.prog 34 #[.int .i64 n] w fun e w' => e = .returned (.string (numB n)) ∧ Below w.heap.size w w' := by
  refine (Sh.strconv_Itoa n h.1 h.2 w ht.pow).mono ?_
  rintro e w' ⟨rfl, k, os, rfl⟩
  exact ⟨rfl, below_itoa w k os⟩
set_option maxHeartbeats 1000000 in
theorem tword_any (n : Int) (h : W16 n) (w : World) (ht : NumTabs w) :
    Calls Tryd.prog 32 #[.int .u16 n] w fun e w' => e = .returned (.string (wordB n)) ∧ Below w.heap.size w w' := by
  have k := Lib.hid (thexW_any n h w ht)
  obtain ⟨h0, h1⟩ := h
  go_enter Tryd.func32, Tryd.ntmps32
  go_wp2_with (first
    | (go_at_call 33; refine (k.out).mono ?_; rintro e w' ⟨rfl, hb⟩; have hsz := hb.size))
  go_ret
  exact ⟨rfl, (by repeat (first | exact Below.refl _ _ | assumption | refine bstep ?_ (by assumption) | refine Below.drew ?_ | refine Below.alloc ?_ (by first | (simp; done) | (simp; omega) | omega) _ | refine Below.setCell ?_ (by first | (simp; done) | (simp; omega) | omega) _))⟩
end Go.Proofs.YtpiadeedgjmmkaaDoor
