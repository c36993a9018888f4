/- Layer 8 (decode): the walk of the law of an instruction's bytes, whole. -/
import Derived.Test.YtjmmhfkjmeblnaaDecodeMadeNT
import Derived.Test.YtjmmhfkjmeblnaaDecodeMadeNF
import Derived.Test.YtjmmhfkjmeblnaaDecodeMadeST
import Derived.Test.YtjmmhfkjmeblnaaDecodeMadeSF
namespace Go.Proofs.Ytjmmhfkjmeblnaa
open Go.RowKit
set_option linter.unusedVariables false
set_option linter.unusedSimpArgs false

theorem decodeBytes_walk (p c d i le sk : Int) (A2 : Option Addr) (cap2 : Nat) (ys : List Int) (w : World) (ho : B8 c ∧ B8 d ∧ 0 ≤ i ∧ i ≤ 65535)
    (hc2 : ys.length ≤ cap2) (hm2 : cap2 ≤ maxLen) (hx2 : Bytes8 ys) (hb2 : BytesIn w w.heap.size A2 ys) (hn2 : A2 = none → cap2 = 0) :
    Calls Try.prog 5 #[opV p c d i le sk, .slice A2 ys.length cap2] w fun e w' => e = .returned (.bool true) ∧ Below w.heap.size w w' := by
  by_cases h : 100 < ys.length
  · exact decodeBytes_long p c d i le sk A2 cap2 ys h w
  · cases hA : A2.isSome with
    | false =>
      have hA' : A2.isNone = true := by cases A2 <;> simp_all
      cases hq : nearM p c with
      | false => exact decodeBytes_NF p c d i le sk hq ho.1 ho.2.1 ho.2.2.1 ho.2.2.2 A2 hA' cap2 ys (by omega) hx2 w hb2 hn2
      | true => exact decodeBytes_NT p c d i le sk hq ho.1 ho.2.1 ho.2.2.1 ho.2.2.2 A2 hA' cap2 ys (by omega) hx2 w hb2 hn2
    | true =>
      cases hq : nearM p c with
      | false => exact decodeBytes_SF p c d i le sk hq ho.1 ho.2.1 ho.2.2.1 ho.2.2.2 A2 hA cap2 ys (by omega) hx2 w hb2 hn2
      | true => exact decodeBytes_ST p c d i le sk hq ho.1 ho.2.1 ho.2.2.1 ho.2.2.2 A2 hA cap2 ys (by omega) hx2 w hb2 hn2
end Go.Proofs.Ytjmmhfkjmeblnaa
