/- Layer 8 (decode): the walk of the law of an instruction's bytes. -/
import Derived.Test.YtjmmhfkjmeblnaaDecodeBare
import Derived.Test.YtjmmhfkjmeblnaaDecodeRBytes
import Derived.Test.YtjmmhfkjmeblnaaDecodeShort
namespace Go.Proofs.Ytjmmhfkjmeblnaa
open Go.RowKit
set_option linter.unusedVariables false
set_option linter.unusedSimpArgs false

def strOf (l : List Int) : ByteArray := ⟨(l.map (fun x => UInt8.ofNat x.toNat)).toArray⟩
theorem byte_back {x : Int} (h : B8 x) : ((UInt8.ofNat x.toNat).toNat : Int) = x := by
  have h1 := h.1
  have h2 := h.2
  have e : (UInt8.ofNat x.toNat).toNat = x.toNat % 256 := UInt8.toNat_ofNat'
  rw [e]
  omega
/-- a string out of bytes of the call's own -/
theorem conv_own {W : World} {b : Nat} {v : Value} {l : List Int} (h : OwnBytes W b v l) (hl : Bytes8 l) :
    (convert 27 9 v).run Try.prog W = .ok (.string (strOf l)) W := by
  rcases h.2 with ⟨e1, e2⟩ | ⟨g, cap, cur, e1, -, hh, -⟩
  · obtain rfl : l = [] := List.eq_nil_of_length_eq_zero e2
    subst e1
    refine (run_convert_bytes_string W 27 9 5 none 0 0 Try.underlying27 Try.underlying5 Try.underlying9).trans ?_
    rfl
  · subst e1
    have hlen : (l.map (fun x => UInt8.ofNat x.toNat)).length = l.length := by simp
    have k := run_convert_bytes_back (P := Try.prog) W 27 9 5 ⟨g, 0, none⟩ cap (l.map (fun x => UInt8.ofNat x.toNat)) Try.underlying27 Try.underlying5 Try.underlying9 (fun j hj => by
      have hj' : j < l.length := by simpa using hj
      obtain ⟨ad, e2, -, e3⟩ := own_bytes h j l[j] (List.getElem?_eq_getElem hj')
      cases e2
      rw [e3]
      simp only [List.getElem_map]
      rw [byte_back (hl _ (List.getElem_mem hj'))])
    rw [hlen] at k
    exact k
set_option maxHeartbeats 4000000 in
theorem decodeBytes_long (p c d i le sk : Int) (A2 : Option Addr) (cap2 : Nat) (ys : List Int) (hl : 100 < ys.length) (w : World) :
    Calls Try.prog 5 #[opV p c d i le sk, .slice A2 ys.length cap2] w fun e w' => e = .returned (.bool true) ∧ Below w.heap.size w w' := by
  go_enter Try.func5, Try.ntmps5
  go_wp2_with (first
    | (go_at_call 8; refine (dawake_any _).mono ?_; rintro e w' ⟨rfl, hb⟩; have hsz := hb.size))
  go_ret
  exact ⟨rfl, (by repeat (first | exact Below.refl _ _ | assumption | refine bstep ?_ (by assumption) | refine Below.drew ?_ | refine Below.alloc ?_ (by first | (simp; done) | (simp; omega) | omega) _ | refine Below.setCell ?_ (by first | (simp; done) | (simp; omega) | omega) _))⟩
end Go.Proofs.Ytjmmhfkjmeblnaa
