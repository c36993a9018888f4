/- Layer 10 (times): the walk of the law of two parts. -/
import Derived.Test.YtlmeekaemhghgaaDoorTimesAllWalk
import Derived.Test.YtlmeekaemhghgaaDoorAppendBytes
namespace Go.Proofs.YtlmeekaemhghgaaDoor
open Go.RowKit
set_option linter.unusedVariables false
set_option linter.unusedSimpArgs false

theorem timesParts_long (A A2 : Option Addr) (cap cap2 : Nat) (xs ys : List Int) (hl : 100 < xs.length ∨ 100 < ys.length) (w : World) (ht : TimesTabs w) :
    Calls Tryd.prog 7 #[.slice A xs.length cap, .slice A2 ys.length cap2] w fun e w' => e = .returned (.bool true) ∧ Below w.heap.size w w' := by
  have ka := Lib.hid (xawake_any w ht)
  clear ht
  by_cases h1 : 100 < xs.length
  · clear hl
    go_enter Tryd.func7, Tryd.ntmps7
    go_wp2_with (first
      | (go_at_call 8; refine (ka.out).mono ?_; rintro e w' ⟨rfl, hb⟩; have hsz := hb.size))
    go_ret
    exact ⟨rfl, (by repeat (first | exact Below.refl _ _ | assumption | refine bstep ?_ (by assumption) | refine Below.drew ?_ | refine Below.alloc ?_ (by first | (simp; done) | (simp; omega) | omega) _ | refine Below.setCell ?_ (by first | (simp; done) | (simp; omega) | omega) _))⟩
  · have h2 : 100 < ys.length := by omega
    clear hl
    go_enter Tryd.func7, Tryd.ntmps7
    go_wp2_with (first
      | (go_at_call 8; refine (ka.out).mono ?_; rintro e w' ⟨rfl, hb⟩; have hsz := hb.size))
    go_ret
    exact ⟨rfl, (by repeat (first | exact Below.refl _ _ | assumption | refine bstep ?_ (by assumption) | refine Below.drew ?_ | refine Below.alloc ?_ (by first | (simp; done) | (simp; omega) | omega) _ | refine Below.setCell ?_ (by first | (simp; done) | (simp; omega) | omega) _))⟩
set_option maxHeartbeats 4000000 in
theorem timesParts_walk (A : Option Addr) (cap : Nat) (xs : List Int) (A2 : Option Addr) (cap2 : Nat) (ys : List Int) (w : World) (hc : xs.length ≤ cap) (hm : cap ≤ maxLen) (hx : Bytes8 xs) (hb : BytesIn w w.heap.size A xs) (hn : A = none → cap = 0)
    (hc2 : ys.length ≤ cap2) (hm2 : cap2 ≤ maxLen) (hx2 : Bytes8 ys) (hb2 : BytesIn w w.heap.size A2 ys) (hn2 : A2 = none → cap2 = 0) (ht : TimesTabs w) :
    Calls Tryd.prog 7 #[.slice A xs.length cap, .slice A2 ys.length cap2] w fun e w' => e = .returned (.bool true) ∧ Below w.heap.size w w' := by
  by_cases hl : 100 < xs.length ∨ 100 < ys.length
  · exact timesParts_long A A2 cap cap2 xs ys hl w ht
  have hl1 : xs.length ≤ 100 := by omega
  have hl2 : ys.length ≤ 100 := by omega
  obtain ⟨k, hst⟩ := stops_any xs
  obtain ⟨j, hst2⟩ := stops_any ys
  have ka := Lib.hid (xawake_any w ht)
  have KR := Lib.hid (fun W (hW : Below w.heap.size w W) => rall_any A cap xs (by omega) hc hx W ((hb.below hW).more hW.size))
  have KA := Lib.hid (fun W (hW : Below w.heap.size w W) => timesAll_any A cap xs (by omega) hc hx k hst W ((hb.below hW).more hW.size) (ht.below hW))
  have KB := Lib.hid (fun W (hW : Below w.heap.size w W) => timesAll_any A2 cap2 ys (by omega) hc2 hx2 j hst2 W ((hb2.below hW).more hW.size) (ht.below hW))
  have KC := Lib.hid (fun (he : posM xs k = xs.length) W (hW : Below w.heap.size w W) (Av : Option Addr) (c : Nat) (hcc : (xs ++ ys).length ≤ c) (hbb : BytesIn W W.heap.size Av (xs ++ ys)) =>
    show Calls Tryd.prog 13 #[.slice Av (xs ++ ys).length c] W fun e W' => e = .returned (.int .i64 (wrap64 (sumT (opsL xs k) + sumT (opsL ys j)))) ∧ Below W.heap.size W W' from by
      have h := timesAll_any Av c (xs ++ ys) (by rw [List.length_append]; omega) hcc (hx.append hx2) (k + j) (parts_stops xs ys k j hst.1 he hst2) W hbb (ht.below hW)
      rwa [parts_ops xs ys k hst.1 he j, sumT_app] at h)
  have hp := hst.1.pos
  have HS := Lib.hid hst
  have HX := Lib.hid hb
  have HY := Lib.hid hb2
  clear ht hst hst2 hx hx2 hb hb2 hm hm2 hl
  generalize sumT (opsL xs k) = SA at *
  generalize sumT (opsL ys j) = SB at *
  have d1 : decide (100 < (xs.length : Int)) = false := by simp; omega
  have d2 : decide (100 < (ys.length : Int)) = false := by simp; omega
  go_enter Tryd.func7, Tryd.ntmps7
  go_wp2_with fail
  refine ka.out.mono ?_
  rintro e w1 ⟨rfl, hb1⟩
  have HB1 := Lib.hid hb1
  clear hb1
  go_wp2_with fail
  refine (KR.out _ HB1.out).mono ?_
  rintro e w2 ⟨k2, v, hst3, rfl, hown, hb⟩
  obtain rfl := hst3.same HS.out
  have HB2 := Lib.hid (HB1.out.trans (hb.mono HB1.out.size))
  obtain ⟨Av, cv, rfl⟩ : ∃ Av cv, v = .slice Av k2 cv := by
    rcases hown.2 with ⟨e1, e2⟩ | ⟨g, c, cur, e1, -⟩
    · subst e2
      exact ⟨_, _, e1⟩
    · exact ⟨_, _, e1⟩
  clear hown hb hst3 HS
  by_cases he : posM xs k2 = xs.length
  · have KC := Lib.hid (KC.out he)
    rw [he]
    have hz : ((xs.length : Int) - (xs.length : Int)) = 0 := by omega
    go_wp2_with (first
      | (at_builtin; refine wpList_append_bytes rfl (.tmp 27) (.tmp 28) rfl w w2.heap.size w.heap.size HB2.out HB2.out.size (Nat.le_refl _) (.slice none 0 0) 0 [] rfl (World.ownsRow_nil _ _ _ _) A cap xs rfl (HX.out.below HB2.out) hn (by omega) ?_; intro v3 w3 own3 hb3 hs3; have HB3 := Lib.hid hb3; have OW3 := Lib.hid own3; clear own3 hb3)
      | (at_builtin; refine wpList_append_bytes rfl (.tmp 30) (.tmp 31) rfl w w2.heap.size w.heap.size HB3.out HB2.out.size hs3 v3 (0 + xs.length) ([] ++ xs) rfl OW3.out A2 cap2 ys rfl (HY.out.below HB3.out) hn2 (by omega) ?_; intro v4 w4 own4 hb4 hs4; have HB4 := Lib.hid hb4; have OW4 := Lib.hid own4; clear own4 hb4))
    have own5 : w4.ownsRow w2.heap.size 5 1 v4 (xs ++ ys).length (bvs (xs ++ ys)) := by
      have h := OW4.out
      rw [List.nil_append, Nat.zero_add] at h
      rwa [List.length_append]
    obtain ⟨Ar, cr, rfl, hle, hby, -⟩ := own_slice own5
    have K1 := Lib.hid (KC.out w4 HB4.out Ar cr hle hby)
    clear own5 hby
    refine K1.out.mono ?_
    rintro e w5 ⟨rfl, hb⟩
    have HB5 := Lib.hid (HB4.out.trans (hb.mono HB4.out.size))
    clear hb
    go_wp2_with fail
    refine (KA.out _ HB5.out).mono ?_
    rintro e w6 ⟨rfl, hb⟩
    have HB6 := Lib.hid (HB5.out.trans (hb.mono HB5.out.size))
    clear hb
    go_wp2_with fail
    refine (KB.out _ HB6.out).mono ?_
    rintro e w7 ⟨rfl, hb⟩
    have HB7 := Lib.hid (HB6.out.trans (hb.mono HB6.out.size))
    clear hb
    go_wp2
    go_ret
    exact ⟨rfl, HB7.out⟩
  · clear KC
    have hz : ((0 : Int) < (xs.length : Int) - (posM xs k2 : Int)) := by omega
    go_wp2
    go_ret
    exact ⟨rfl, HB2.out⟩
end Go.Proofs.YtlmeekaemhghgaaDoor
