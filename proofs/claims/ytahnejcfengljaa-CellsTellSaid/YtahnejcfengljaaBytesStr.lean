/- Bytes as strings. Nothing of the program but the numbers of its types. -/
import Derived.Test.YtahnejcfengljaaManyOwn
import Derived.WalkKit
import Derived.Laws.IdiomStrings
namespace Go.Proofs.Ytahnejcfengljaa
open Go.RowKit
set_option linter.unusedVariables false
set_option linter.unusedSimpArgs false

def strB (l : List Int) : ByteArray := ⟨(l.map (fun x => UInt8.ofNat x.toNat)).toArray⟩
theorem byte_there {x : Int} (h : 0 ≤ x ∧ x ≤ 255) : ((UInt8.ofNat x.toNat).toNat : Int) = x := by
  have h1 := h.1
  have h2 := h.2
  have e : (UInt8.ofNat x.toNat).toNat = x.toNat % 256 := UInt8.toNat_ofNat'
  rw [e]
  omega
/-- a string out of bytes that can be read -/
theorem convB {W : World} {B : Nat} {A : Option Addr} {l : List Int} {c : Nat} (h : BytesIn W B A l) (hl : ∀ x ∈ l, 0 ≤ x ∧ x ≤ 255) : (convert 32 9 (.slice A l.length c)).run Try.prog W = .ok (.string (strB l)) W := by
  cases l with
  | nil =>
    refine (run_convert_bytes_string W 32 9 5 A 0 c Try.underlying32 Try.underlying5 Try.underlying9).trans ?_
    cases A <;> rfl
  | cons x r =>
    obtain ⟨p, rfl, -⟩ := h 0 x rfl
    have hlen : ((x :: r).map (fun x => UInt8.ofNat x.toNat)).length = (x :: r).length := by simp
    have k := run_convert_bytes_back (P := Try.prog) W 32 9 5 p c ((x :: r).map (fun x => UInt8.ofNat x.toNat)) Try.underlying32 Try.underlying5 Try.underlying9 (fun j hj => by
      have hj' : j < (x :: r).length := by simpa using hj
      obtain ⟨ad, e2, -, e3⟩ := h j (x :: r)[j] (List.getElem?_eq_getElem hj')
      cases e2
      rw [e3]
      simp only [List.getElem_map]
      rw [byte_there (hl _ (List.getElem_mem hj'))])
    rw [hlen] at k
    exact k
theorem eqStr (s : ByteArray) (w : World) : (binOp .eql 9 (.string s) (.string s)).run Try.prog w = .ok (.bool true) w := by simp [go_sem]
theorem neStr (s : ByteArray) (w : World) : (binOp .neq 9 (.string s) (.string s)).run Try.prog w = .ok (.bool false) w := by simp [go_sem]
theorem guardStr (op : BinOp) (x y : Operand) (a b : ByteArray) (w : World) : (eqGuard op 9 x y (.string a) (.string b)).run Try.prog w = .ok () w := by simp [go_sem]
end Go.Proofs.Ytahnejcfengljaa
