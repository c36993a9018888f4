/- Layer 8 (decode): the walk of the law of an instruction's bytes, case NT. -/
import Derived.Test.YtjmmhfkjmeblnaaDecodeMadeA
namespace Go.Proofs.Ytjmmhfkjmeblnaa
open Go.RowKit
set_option linter.unusedVariables false
set_option linter.unusedSimpArgs false

set_option maxRecDepth 100000 in
set_option maxHeartbeats 20000000 in
theorem decodeBytes_NT (p c d i le sk : Int) (hq : nearM p c = true) (hc : B8 c) (hd : B8 d) (h0 : 0 ≤ i) (h1 : i ≤ 65535) (A2 : Option Addr) (hA : A2.isNone = true) (cap2 : Nat) (ys : List Int) (hl2 : ys.length ≤ 100) (hy : Bytes8 ys) (w : World) (hb2 : BytesIn w w.heap.size A2 ys) (hn2 : A2 = none → cap2 = 0) :
    Calls Try.prog 5 #[opV p c d i le sk, .slice A2 ys.length cap2] w fun e w' => e = .returned (.bool true) ∧ Below w.heap.size w w' := by
  have M1 := Lib.hid (fun W => bytes_any p c d i le sk hc hd h0 h1 W)
  have M2 := Lib.hid (fun W => rbytes_any p c d i le sk hc hd h0 h1 W)
  have M3 := Lib.hid (fun W => bare_any p c d i le sk W)
  have hLb := made_bytes p c d i hc hd h0 h1
  have hLn := made_le p c d i
  have hNx := Lib.hid (fun hb : bareM p c = true => And.intro (made_ok p c d i ys hb) (read_made p c d i [] hb).2)
  have hnn := Lib.hid (dnear_any p c hc)
  have hss := Lib.hid (size_any p c hc)
  have hDn : nearM p c = true ∧ dispOf p c d = d ∨ nearM p c = false ∧ dispOf p c d = 0 := by
    unfold dispOf
    cases nearM p c
    · right; exact ⟨rfl, rfl⟩
    · left; exact ⟨rfl, rfl⟩
  have hIm : sizeM p c = 0 ∧ immOf p c i = 0 ∨ sizeM p c = 1 ∧ immOf p c i = i % 256 ∨ sizeM p c = 2 ∧ immOf p c i = i := by
    have := sizeM_le p c
    unfold immOf
    have hs : sizeM p c = 0 ∨ sizeM p c = 1 ∨ sizeM p c = 2 := by omega
    rcases hs with h | h | h
    · left; rw [h]; exact ⟨rfl, rfl⟩
    · right; left; rw [h]; exact ⟨rfl, rfl⟩
    · right; right; rw [h]; exact ⟨rfl, rfl⟩
  have HDn := Lib.hid hDn
  have HIm := Lib.hid hIm
  clear hDn hIm
  generalize bytesL p c d i = L at *
  generalize bareM p c = B at *
  generalize nearM p c = nr at *
  generalize sizeM p c = m at *
  generalize dispOf p c d = D at *
  generalize immOf p c i = I at *
  have cvA := Lib.hid (fun (W : World) (b : Nat) (v : Value) (h : OwnBytes W b v L) => conv_own h hLb)
  have hst : ((strOf L).toList == (strOf L).toList) = true := by simp
  have hst2 : ((strOf L).toList != (strOf L).toList) = false := by simp
  generalize strOf L = S at *
  have hall := Lib.hid (hLb.append hy)
  have hbY := Lib.hid hb2
  clear hLb hb2
  obtain ⟨i0, hi0, hz0, hz1, hz2⟩ := info_parts u8_info
  have r0 := Row.new w 30 #[.int .i64 p, .int .u8 c, .int .u8 d, .int .u16 i, .int .i64 le, .int .i64 sk]
  have hB0 : Below w.heap.size w (w.alloc (.cells #[.int .i64 p, .int .u8 c, .int .u8 d, .int .u16 i, .int .i64 le, .int .i64 sk] 30)) := (by repeat (first | exact Below.refl _ _ | assumption | refine bstep ?_ (by assumption) | refine Below.drew ?_ | refine Below.alloc ?_ (by first | (simp; done) | (simp; omega) | omega) _ | refine Below.setCell ?_ (by first | (simp; done) | (simp; omega) | omega) _))
  have r0 := Lib.hid r0
  have hB0 := Lib.hid hB0
  go_enter Try.func5, Try.ntmps5
  go_wp2_with fail
  refine (dawake_any _).mono ?_
  rintro e w1 ⟨rfl, B1⟩
  have hsz0 : w.heap.size < (w.alloc (.cells #[.int .i64 p, .int .u8 c, .int .u8 d, .int .u16 i, .int .i64 le, .int .i64 sk] 30)).heap.size := by simp
  have r1 := Lib.hid (r0.out.below B1 hsz0)
  have b1 := Lib.hid (hB0.out.trans (B1.mono (by omega)))
  obtain ⟨⟨c0, c1, c2, c3, c4, c5⟩, f⟩ := row6 r1.out
  go_wp2_with fail
  clear c0 c1 c2 c3 c4 c5 f
  refine (M1.out _).mono ?_
  rintro e w2 ⟨v, rfl, own2, hb2⟩
  have r2 := Lib.hid (r1.out.below hb2 r1.out.lt)
  have b2 := Lib.hid (b1.out.trans (hb2.mono b1.out.size))
  obtain ⟨⟨c0, c1, c2, c3, c4, c5⟩, f⟩ := row6 r2.out
  go_wp2_with fail
  clear c0 c1 c2 c3 c4 c5 f
  refine (M2.out _).mono ?_
  rintro e w3 ⟨v', rfl, own3', hb3⟩
  have own3 := own_below own2 hb3
  have r3 := Lib.hid (r2.out.below hb3 r2.out.lt)
  have b3 := Lib.hid (b2.out.trans (hb3.mono b2.out.size))
  obtain ⟨⟨c0, c1, c2, c3, c4, c5⟩, f⟩ := row6 r3.out
  have k1 := cvA.out _ _ _ own3
  have k2 := cvA.out _ _ _ own3'
  have own3 := Lib.hid own3
  clear own3' own2
  go_wp2_with fail
  clear c0 c1 c2 c3 c4 c5 f k1 k2
  refine (M3.out _).mono ?_
  rintro e w4 ⟨rfl, hb4⟩
  have own4 := own_below own3.out hb4
  have r4 := Lib.hid (r3.out.below hb4 r3.out.lt)
  have b4 := Lib.hid (b3.out.trans (hb4.mono b3.out.size))
  cases B with
  | false =>
    go_wp2
    go_ret
    exact ⟨rfl, b4.out⟩
  | true =>
    obtain ⟨⟨mo, mn⟩, mne⟩ := hNx.out rfl
    have hL0 : 0 < L.length := List.length_pos_iff.2 (by simpa using mne)
    obtain ⟨Av, cap, rfl⟩ := own_form own4 (by omega)
    obtain ⟨p1, rfl, -, -⟩ := (own_bytes own4).at_ (k := 0) hL0
    have hcells : ∀ j u, (bvs L)[j]? = some u → w4.cell? (p1.add j) = some u := fun j u hj => by
      unfold bvs at hj
      rw [List.getElem?_map] at hj
      obtain ⟨x, hx1, hx2⟩ := Option.map_eq_some_iff.1 hj
      obtain ⟨ad, e1, -, e2⟩ := (own_bytes own4) j x hx1
      cases e1
      rw [e2, ← hx2]
    have N1 := Lib.hid (fun (W : World) (Av : Option Addr) (b cc : Nat) (hv : W.ownsRow b 5 1 (.slice Av (L.length + ys.length) cc) (L.length + ys.length) (bvs (L ++ ys))) => show Calls Try.prog 15 #[.slice Av (L.length + ys.length) cc] W fun e w' => e = .returned (.tuple #[opV p c D I (L.length : Int) 0, .bool true]) ∧ Below W.heap.size W w' from by
      have hlen : (L ++ ys).length = L.length + ys.length := List.length_append
      have h := next_any Av cc (L ++ ys) (by omega) hall.out W (own_bytes (by rw [hlen] at *; exact hv))
      rw [mo, mn, hlen] at h
      exact h)
    have hll : (bvs L).length = L.length * 1 := by rw [bvs_length]; omega
    clear mo mn mne
    have hb4s := b4.out.size
    rcases A2 with _ | p2
    · obtain rfl := hn2 rfl
      have hy0 : ys = [] := by
        cases ys with
        | nil => rfl
        | cons y ys' =>
          obtain ⟨ad, e, -⟩ := hbY.out 0 y rfl
          cases e
      subst hy0
      simp only [List.length_nil, Nat.add_zero, List.append_nil] at N1
      go_wp2_with (first
        | (at_builtin; refine wpList_append_own_at _ rfl (.tmp 33) (.tmp 34) _ rfl w4.heap.size 5 i0 _ 1 1 Try.underlying27 hi0 hz0 hz1 hz2 rfl (by omega) (.slice none 0 0) 0 [] rfl (World.ownsRow_nil _ _ _ _) p1 L.length cap (bvs L) rfl hll hcells (bvs_one L) (by simp only [maxLen]; omega) (by omega) (by omega) ?_; intro v6 w6 own6 hg6 hni6 hat6; have hz6 := hg6.size; have B6 := b4.out.grown hg6 b4.out.size (fun k e => by simp [Value.ownBlock] at e); have r6 := grown_row0 r4.out hg6)
        | (at_builtin; refine wpList_append_own_none rfl (.tmp 36) (.tmp 37) _ rfl w4.heap.size 5 i0 1 Try.underlying27 hi0 v6 (0 + L.length) ([] ++ bvs L) rfl own6 rfl ?_))
      have own7 : w6.ownsRow w4.heap.size 5 1 v6 L.length (bvs L) := by
        have := own6
        simpa using this
      have r7 := Lib.hid r6
      have B7 := Lib.hid B6
      obtain ⟨Av7, c7, rfl⟩ := own_form own7 (by omega)
      have N7 := Lib.hid (N1.out _ _ _ _ own7)
      clear own6 own7 r6 B6 hcells
      refine N7.out.mono ?_
      rintro e w8 ⟨rfl, hb8⟩
      have r8 := r7.out.below hb8 r7.out.lt
      have B8' := Lib.hid (B7.out.trans (hb8.mono B7.out.size))
      have hr8 := Lib.hid r8
      have hOlt := r8.lt
      obtain ⟨⟨c0, c1, c2, c3, c4, c5⟩, f⟩ := row6 r8
      go_wp2_with (first
        | (go_at_call 13; refine (hnn.out _).mono ?_; rintro e w' ⟨rfl, rfl⟩))
      clear c0 c1 c2 c3 c4 c5 f
      refine (hss.out _).mono ?_
      rintro e w9 ⟨rfl, hb9⟩
      have rp := (Row.new w8 30 #[.int .i64 p, .int .u8 c, .int .u8 D, .int .u16 I, .int .i64 (L.length : Int), .int .i64 0])
      have rp9 := rp.below hb9 rp.lt
      have ro := hr8.out.alloc (.cells #[.int .i64 p, .int .u8 c, .int .u8 D, .int .u16 I, .int .i64 (L.length : Int), .int .i64 0] 30)
      have ro9 := ro.below hb9 ro.lt
      have B9 := Lib.hid ((B8'.out.alloc B8'.out.size (.cells #[.int .i64 p, .int .u8 c, .int .u8 D, .int .u16 I, .int .i64 (L.length : Int), .int .i64 0] 30)).trans (hb9.mono (by have := B8'.out.size; simp; omega)))
      obtain ⟨⟨c0, c1, c2, c3, c4, c5⟩, f⟩ := row6 ro9
      obtain ⟨⟨d0, d1, d2, d3, d4, d5⟩, f'⟩ := row6 rp9
      have HR := Lib.hid (And.intro (show i.tmod 256 = i % 256 from Int.tmod_eq_emod_of_nonneg h0) (show IntKind.u16.wrap (i % 256) = i % 256 from by unfold IntKind.wrap; simp [IntKind.signed, IntKind.bits]; omega))
      clear hb9 rp rp9 ro ro9
      have hDn := HDn.out
      have hIm := HIm.out
      clear HDn HIm hNx hni6 hat6 hg6 hb8 hsz0 hb2 hb3 hb4 hy N1
      clear hll hi0 hz0 hz1 hz2 hLn h0 h1
      rcases hDn with ⟨rfl, rfl⟩ | ⟨rfl, rfl⟩ <;> rcases hIm with ⟨rfl, rfl⟩ | ⟨rfl, rfl⟩ | ⟨rfl, rfl⟩
      all_goals first
        | (cases hq; done)
        | (obtain ⟨hrem, hw⟩ := HR.out
           generalize i % 256 = z at *
           clear hq
           go_wp2
           go_ret
           exact ⟨rfl, B9.out⟩)
        | (clear hq HR
           go_wp2
           go_ret
           exact ⟨rfl, B9.out⟩)
    · cases hA
end Go.Proofs.Ytjmmhfkjmeblnaa
