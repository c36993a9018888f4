/- Layer 8 (decode): the walk of the law of bytes that lack. -/
import Derived.Test.YtjmmhfkjmeblnaaDecodeSums
import Derived.Maps.AppendAt
import Derived.Laws.AppendOwnNone
import Derived.Deep.DeepCutAuto
namespace Go.Proofs.Ytjmmhfkjmeblnaa
open Go.RowKit
set_option linter.unusedVariables false
set_option linter.unusedSimpArgs false

theorem own_bytes {w : World} {b n c : Nat} {Av : Option Addr} {l : List Int} (h : w.ownsRow b 5 1 (.slice Av n c) n (bvs l)) : BytesIn w w.heap.size Av l := by
  rcases h.2 with ⟨e1, e2⟩ | ⟨g, cap, cur, e1, -, hh, -⟩
  · have h1 := h.1
    rw [bvs_length, e2] at h1
    obtain rfl : l = [] := List.eq_nil_of_length_eq_zero (by omega)
    exact BytesIn.nil _ _ _
  · injection e1 with e3 e4 e5
    subst e3
    intro j x hx
    refine ⟨_, rfl, (Array.getElem?_eq_some_iff.1 hh).1, h.cells (g := g) rfl j _ ?_⟩
    unfold bvs
    rw [List.getElem?_map, hx]
    rfl
theorem grown_row0 {W w1 : World} {g : Nat} {t : TypeId} {cs : Array Value} (hr : Row W g t cs) (hg : W.grownBy w1 (Value.slice none 0 0).ownBlock) : Row w1 g t cs := (hg.block g hr.lt (fun e => by simp [Value.ownBlock] at e)).trans hr
theorem grown_row1 {wr w7 : World} {g : Nat} {t : TypeId} {cs : Array Value} {o : Obj} (hr : Row wr g t cs) (hg : (wr.alloc o).grownBy w7 (Value.slice (some ⟨wr.heap.size, 0, none⟩) 1 1).ownBlock) : Row w7 g t cs :=
  (hg.block g (by have := hr.lt; simp; omega) (fun e => by simp [Value.ownBlock] at e; have := hr.lt; omega)).trans (hr.alloc o)
theorem grown1_below {w wr w7 : World} {o : Obj} (h : Below w.heap.size w wr) (hg : (wr.alloc o).grownBy w7 (Value.slice (some ⟨wr.heap.size, 0, none⟩) 1 1).ownBlock) : Below w.heap.size w w7 :=
  (h.alloc h.size o).grown hg (by have := h.size; simp; omega) (fun k e => by simp [Value.ownBlock] at e; have := h.size; omega)
theorem own_form {W : World} {b : Nat} {e : TypeId} {s : Nat} {v : Value} {n : Nat} {xs : List Value} (h : W.ownsRow b e s v n xs) (hn : n ≠ 0) : ∃ A c, v = .slice A n c := by
  rcases h.2 with ⟨-, e2⟩ | ⟨g, c, cur, e1, -⟩
  · exact absurd e2 hn
  · exact ⟨_, _, e1⟩
/-- what the law asks of an instruction that is whole -/
theorem short_math (xs ys : List Int) (ho : okM xs = true) :
    (opOf (xs.take (lenOf xs) ++ ys) = opOf xs ∧ okM (xs.take (lenOf xs) ++ ys) = true ∧ nextO (xs.take (lenOf xs) ++ ys) = opOf xs) ∧
    (∀ k, k < lenOf xs → okM (xs.take k) = false ∧ nextO (xs.take k) = zeroOp) ∧ (isPre (gb xs 0) = false → (opOf xs).skip = 0) ∧
    (isPre (gb xs 0) = true → okM (221 :: (xs.take (lenOf xs) ++ ys)) = true ∧ nextO (221 :: (xs.take (lenOf xs) ++ ys)) = { opOf xs with len := (opOf xs).len + 1, skip := (opOf xs).skip + 1 }) := by
  have hle := ok_len ho
  have hps := lead_lt_len xs
  have e := opOf_more xs ys hle
  have el : lenOf (xs.take (lenOf xs) ++ ys) = lenOf xs := by unfold lenOf at e ⊢; rw [e]
  have ek : okM (xs.take (lenOf xs) ++ ys) = true := by
    unfold okM
    rw [el]
    simp
    omega
  refine ⟨⟨e, ek, by rw [(okM_yes ek).2, e]⟩, fun k hk => ?_, opOf_noskip xs, fun hp => ?_⟩
  · have := okM_cut xs k hk (by omega)
    exact ⟨this, (okM_no this).2⟩
  · have hg : gb (xs.take (lenOf xs) ++ ys) 0 = gb xs 0 := by rw [gb_append_left _ _ _ (by rw [List.length_take]; omega), gb_take _ _ _ (by omega)]
    have e2 := opOf_skip 221 (xs.take (lenOf xs) ++ ys) (by rw [hg]; exact hp)
    rw [e] at e2
    have e3 := lenOf_eq (221 :: (xs.take (lenOf xs) ++ ys))
    rw [e2] at e3
    have e4 := lenOf_eq xs
    have e5 : lenOf (221 :: (xs.take (lenOf xs) ++ ys)) = lenOf xs + 1 := by simp only at e3; omega
    have e6 : okM (221 :: (xs.take (lenOf xs) ++ ys)) = true := by
      unfold okM
      rw [e5]
      simp
      omega
    exact ⟨e6, by rw [(okM_yes e6).2, e2]⟩
set_option maxHeartbeats 4000000 in
theorem decodeShort_long1 (A A2 : Option Addr) (cap cap2 : Nat) (xs ys : List Int) (hl : 100 < xs.length) (w : World) :
    Calls Try.prog 6 #[.slice A xs.length cap, .slice A2 ys.length cap2] w fun e w' => e = .returned (.bool true) ∧ Below w.heap.size w w' := by
  go_enter Try.func6, Try.ntmps6
  go_wp2_with (first
    | (go_at_call 8; refine (dawake_any _).mono ?_; rintro e w' ⟨rfl, hb⟩; have hsz := hb.size))
  go_ret
  exact ⟨rfl, (by repeat (first | exact Below.refl _ _ | assumption | refine bstep ?_ (by assumption) | refine Below.drew ?_ | refine Below.alloc ?_ (by first | (simp; done) | (simp; omega) | omega) _ | refine Below.setCell ?_ (by first | (simp; done) | (simp; omega) | omega) _))⟩
set_option maxHeartbeats 4000000 in
theorem decodeShort_long2 (A A2 : Option Addr) (cap cap2 : Nat) (xs ys : List Int) (hl : xs.length ≤ 100) (hl2 : 20 < ys.length) (w : World) :
    Calls Try.prog 6 #[.slice A xs.length cap, .slice A2 ys.length cap2] w fun e w' => e = .returned (.bool true) ∧ Below w.heap.size w w' := by
  go_enter Try.func6, Try.ntmps6
  go_wp2_with (first
    | (go_at_call 8; refine (dawake_any _).mono ?_; rintro e w' ⟨rfl, hb⟩; have hsz := hb.size))
  go_ret
  exact ⟨rfl, (by repeat (first | exact Below.refl _ _ | assumption | refine bstep ?_ (by assumption) | refine Below.drew ?_ | refine Below.alloc ?_ (by first | (simp; done) | (simp; omega) | omega) _ | refine Below.setCell ?_ (by first | (simp; done) | (simp; omega) | omega) _))⟩
set_option maxHeartbeats 4000000 in
theorem decodeShort_no (A A2 : Option Addr) (cap cap2 : Nat) (xs ys : List Int) (hl : xs.length ≤ 100) (hl2 : ys.length ≤ 20) (hx : Bytes8 xs) (ho : okM xs = false) (w : World) (hb : BytesIn w w.heap.size A xs) :
    Calls Try.prog 6 #[.slice A xs.length cap, .slice A2 ys.length cap2] w fun e w' => e = .returned (.bool true) ∧ Below w.heap.size w w' := by
  have N1 := Lib.hid (fun (W : World) (B : Below w.heap.size w W) => next_any A cap xs (by omega) hx W ((hb.below B).more B.size))
  rw [ho, (okM_no ho).2] at N1
  clear ho hb hx
  go_enter Try.func6, Try.ntmps6
  go_wp2_with fail
  refine (dawake_any _).mono ?_
  rintro e w1 ⟨rfl, B1⟩
  go_wp2_with fail
  refine (N1.out _ B1).mono ?_
  rintro e w2 ⟨rfl, hb2⟩
  have B2 := Lib.hid (B1.trans (hb2.mono B1.size))
  go_wp2
  go_ret
  exact ⟨rfl, B2.out.alloc B2.out.size _⟩
set_option maxRecDepth 100000 in
set_option maxHeartbeats 4000000 in
theorem decodeShort_yes (A A2 : Option Addr) (cap cap2 : Nat) (xs ys : List Int) (hl : xs.length ≤ 100) (hl2 : ys.length ≤ 20) (hc : xs.length ≤ cap) (hx : Bytes8 xs) (hy : Bytes8 ys) (ho : okM xs = true) (w : World) (hb : BytesIn w w.heap.size A xs) (hb2 : BytesIn w w.heap.size A2 ys) (hn2 : A2 = none → cap2 = 0) :
    Calls Try.prog 6 #[.slice A xs.length cap, .slice A2 ys.length cap2] w fun e w' => e = .returned (.bool true) ∧ Below w.heap.size w w' := by
  have hle := ok_len ho
  have hps := lead_lt_len xs
  have hlo := lenOf_eq xs
  obtain ⟨⟨m1, m2, m3⟩, mcut, mskip, mdd⟩ := short_math xs ys ho
  have N1 := Lib.hid (fun (W : World) (B : Below w.heap.size w W) => next_any A cap xs (by omega) hx W ((hb.below B).more B.size))
  have Nc := Lib.hid (fun (W : World) (B : Below w.heap.size w W) (k : Nat) (hk : k < lenOf xs) => show Calls Try.prog 15 #[.slice A k cap] W fun e w' => e = .returned (opB zeroOp false) ∧ Below W.heap.size W w' from by
    have h := next_any A cap (xs.take k) (by rw [List.length_take]; omega) (hx.take k) W (((hb.take k).below B).more B.size)
    rw [(mcut k hk).1, (mcut k hk).2, List.length_take, Nat.min_eq_left (by omega)] at h
    exact h)
  have hzb : Bytes8 (xs.take (lenOf xs) ++ ys) := (hx.take _).append hy
  have hzl : (xs.take (lenOf xs) ++ ys).length = lenOf xs + ys.length := by rw [List.length_append, List.length_take]; omega
  have N2 := Lib.hid (fun (W : World) (Av : Option Addr) (b c : Nat) (hv : W.ownsRow b 5 1 (.slice Av (lenOf xs + ys.length) c) (lenOf xs + ys.length) (bvs (xs.take (lenOf xs) ++ ys))) => show Calls Try.prog 15 #[.slice Av (lenOf xs + ys.length) c] W fun e w' => e = .returned (opB (opOf xs) true) ∧ Below W.heap.size W w' from by
    have h := next_any Av c (xs.take (lenOf xs) ++ ys) (by omega) hzb W (own_bytes hv)
    rw [m2, m3, hzl] at h
    exact h)
  have N3 := Lib.hid (fun (hp : isPre (gb xs 0) = true) (W : World) (Av : Option Addr) (b c : Nat) (hv : W.ownsRow b 5 1 (.slice Av (1 + (lenOf xs + ys.length)) c) (1 + (lenOf xs + ys.length)) (bvs (221 :: (xs.take (lenOf xs) ++ ys)))) => show Calls Try.prog 15 #[.slice Av (1 + (lenOf xs + ys.length)) c] W fun e w' => e = .returned (opB { opOf xs with len := (opOf xs).len + 1, skip := (opOf xs).skip + 1 } true) ∧ Below W.heap.size W w' from by
    have h := next_any Av c (221 :: (xs.take (lenOf xs) ++ ys)) (by simp; omega) (fun x hx2 => by
      rcases List.mem_cons.1 hx2 with rfl | e
      · exact ⟨by decide, by decide⟩
      · exact hzb x e) W (own_bytes hv)
    rw [(mdd hp).1, (mdd hp).2, show (221 :: (xs.take (lenOf xs) ++ ys)).length = 1 + (lenOf xs + ys.length) by rw [List.length_cons, hzl]; omega] at h
    exact h)
  have hskip : 0 ≤ (opOf xs).skip ∧ (opOf xs).skip ≤ 200 := by
    have h1 : (opOf xs).skip = hSkip (preP xs (lead xs)) ((lead xs - 1 : Nat) : Int) (gb xs (lead xs)) := rfl
    have h2 := lead_le xs
    rw [h1]
    unfold hSkip
    split <;> omega
  rw [ho, (okM_yes ho).2] at N1
  obtain ⟨p, rfl, hpb, hp0⟩ := hb.at_ (k := 0) (by omega)
  rw [show p.add 0 = p by simp [Addr.add]] at hp0
  have hp0 : w.cell? p = some (.int .u8 (gb xs 0)) := hp0
  have hbT := Lib.hid (hb.take (lenOf xs))
  have hbY := Lib.hid hb2
  have hp0 := Lib.hid hp0
  have mskip := Lib.hid mskip
  have hzl := Lib.hid hzl
  clear m1 m2 m3 mcut mdd hzb hx hy hb hb2 ho
  generalize opOf xs = o at *
  obtain ⟨pl, co, di, im, le, sk⟩ := o
  have hlt : (bvs (xs.take (lenOf xs))).length = lenOf xs * 1 := by rw [bvs_length, List.length_take]; omega
  have hlt := Lib.hid hlt
  generalize xs.take (lenOf xs) = ts at *
  generalize lenOf xs = L0 at *
  obtain rfl : le = (L0 : Int) := hlo
  obtain ⟨i0, hi0, hz0, hz1, hz2⟩ := info_parts u8_info
  have hd1 : decide (100 < (xs.length : Int)) = false := by simp; omega
  have hd2 : decide (20 < (ys.length : Int)) = false := by simp; omega
  have hd3 : decide ((L0 : Int) < 1) = false := by simp; omega
  have hd4 : decide (xs.length < L0) = false := by simp; omega
  go_enter Try.func6, Try.ntmps6
  go_wp2_with fail
  refine (dawake_any _).mono ?_
  rintro e w1 ⟨rfl, B1⟩
  go_wp2_with fail
  refine (N1.out _ B1).mono ?_
  rintro e w2 ⟨rfl, hb2'⟩
  have B2 := B1.trans (hb2'.mono B1.size)
  have B2' := B2.alloc B2.size (.cells #[.int .i64 pl, .int .u8 co, .int .u8 di, .int .u16 im, .int .i64 (L0 : Int), .int .i64 sk] 30)
  have r2 := Row.new w2 30 #[.int .i64 pl, .int .u8 co, .int .u8 di, .int .u16 im, .int .i64 (L0 : Int), .int .i64 sk]
  have hnw : ∀ j u, (bvs ts)[j]? = some u → (w2.alloc (.cells #[.int .i64 pl, .int .u8 co, .int .u8 di, .int .u16 im, .int .i64 (L0 : Int), .int .i64 sk] 30)).cell? (p.add j) = some u := fun j u hj => by
    unfold bvs at hj
    rw [List.getElem?_map] at hj
    obtain ⟨x, hx1, hx2⟩ := Option.map_eq_some_iff.1 hj
    obtain ⟨ad, e1, -, e2⟩ := (hbT.out.below B2') j x hx1
    cases e1
    rw [e2, ← hx2]
  rcases A2 with _ | p2
  · obtain rfl := hn2 rfl
    have hy0 : ys = [] := by
      cases ys with
      | nil => rfl
      | cons y ys' =>
        obtain ⟨ad, e, -⟩ := hbY.out 0 y rfl
        cases e
    subst hy0
    go_wp2_with (first
      | (at_builtin; refine wpList_append_own_at _ rfl (.tmp 37) (.tmp 41) _ rfl (w2.heap.size + 1) 5 i0 _ 1 1 Try.underlying27 hi0 hz0 hz1 hz2 rfl (by omega) (.slice none 0 0) 0 [] rfl (World.ownsRow_nil _ _ _ _) p L0 cap (bvs ts) rfl hlt.out hnw (bvs_one ts) (by simp only [maxLen]; omega) (by omega) (by simp) ?_; intro v3 w3 own3 hg3 hni3 hat3; have hz3 := hg3.size; rw [World.size_alloc] at hz3; have B3 := B2'.grown hg3 (by have := B2.size; simp; omega) (fun k e => by simp [Value.ownBlock] at e); have r3 := grown_row0 r2 hg3; skip)
      | (at_builtin; refine wpList_append_own_none rfl (.tmp 43) (.tmp 44) _ rfl (w2.heap.size + 1) 5 i0 1 Try.underlying27 hi0 v3 (0 + L0) ([] ++ bvs ts) rfl own3 rfl ?_; skip))
    have own4 : w3.ownsRow (w2.heap.size + 1) 5 1 v3 L0 (bvs ts) := by
      have := own3
      simpa using this
    simp only [List.length_nil, Nat.add_zero, List.append_nil] at N2 N3 hzl
    obtain ⟨Av, c4, hv4⟩ : ∃ Av c4, v3 = .slice Av L0 c4 := by
      rcases own4.2 with ⟨-, e2⟩ | ⟨g, c, cur, e1, -⟩
      · omega
      · exact ⟨_, _, e1⟩
    subst hv4
    have hn4 := own_bytes own4
    have N2w := Lib.hid (N2.out w3 Av _ c4 own4)
    have own4 := Lib.hid own4
    have r4 := Lib.hid r3
    have B4 := Lib.hid B3
    refine N2w.out.mono ?_
    rintro e w5 ⟨rfl, hb5⟩
    have B5 := B4.out.trans (hb5.mono B4.out.size)
    have B5' := Lib.hid (B5.alloc B5.size (.cells #[.int .i64 pl, .int .u8 co, .int .u8 di, .int .u16 im, .int .i64 (L0 : Int), .int .i64 sk] 30))
    have own5 := Lib.hid ((own_below own4.out hb5).alloc (.cells #[.int .i64 pl, .int .u8 co, .int .u8 di, .int .u16 im, .int .i64 (L0 : Int), .int .i64 sk] 30))
    have r5 := r4.out.below hb5 r4.out.lt
    have r5' := Lib.hid (r5.alloc (.cells #[.int .i64 pl, .int .u8 co, .int .u8 di, .int .u16 im, .int .i64 (L0 : Int), .int .i64 sk] 30))
    have hOlt := r5.lt
    obtain ⟨⟨c0, c1, c2, c3, c4', c5⟩, f⟩ := row6 r5
    have hL1 : (1 : Int) ≤ (L0 : Int) := by omega
    have hL2 : (L0 : Int) ≤ (xs.length : Int) := by omega
    go_wp2
    clear c0 c1 c2 c3 c4' c5 f hOlt
    go_loopw [11] (fun tk wr => ∃ k : Nat, k ≤ L0 ∧ tk = .int .i64 (k : Int) ∧ Row wr w2.heap.size 30 #[.int .i64 pl, .int .u8 co, .int .u8 di, .int .u16 im, .int .i64 (L0 : Int), .int .i64 sk] ∧ wr.ownsRow (w2.heap.size + 1) 5 1 (.slice Av L0 c4) L0 (bvs ts) ∧ Below w.heap.size w wr) (fun tk _ => L0 - (intOf tk).toNat)
    case atStart => exact ⟨0, Nat.zero_le _, rfl, r5'.out, own5.out, B5'.out⟩
    case round =>
      obtain ⟨k, hk, rfl, rr, ownr, Br⟩ := hrel
      obtain ⟨⟨c0, c1, c2, c3, c4', c5⟩, f⟩ := row6 rr
      have rr := Lib.hid rr
      have ownr := Lib.hid ownr
      by_cases hlt2 : k < L0
      · have Nk := Lib.hid (Nc.out wr Br k hlt2)
        have Brh := Lib.hid Br
        clear Br
        go_wp2_with fail
        refine Nk.out.mono ?_
        rintro e w6 ⟨rfl, hb6⟩
        have B6 := Brh.out.trans (hb6.mono Brh.out.size)
        have fin := Lib.hid (show Row (w6.alloc (.cells zeroC 30)) w2.heap.size 30 #[.int .i64 pl, .int .u8 co, .int .u8 di, .int .u16 im, .int .i64 (L0 : Int), .int .i64 sk] ∧ (w6.alloc (.cells zeroC 30)).ownsRow (w2.heap.size + 1) 5 1 (.slice Av L0 c4) L0 (bvs ts) ∧ Below w.heap.size w (w6.alloc (.cells zeroC 30)) from
          ⟨(rr.out.below hb6 rr.out.lt).alloc _, (own_below ownr.out hb6).alloc _, B6.alloc B6.size _⟩)
        clear c0 c1 c2 c3 c4' c5 f
        go_wp2
        go_roundw
        case rel => exact ⟨k + 1, by omega, by go_num, fin.out.1, fin.out.2.1, fin.out.2.2⟩
        case measure => simp [intOf]; omega
      · obtain rfl : k = L0 := by omega
        have hp := (Br.cell (p := p) hpb).trans hp0.out
        cases hpre : isPre (gb xs 0) with
        | false =>
          have hsk : sk = 0 := mskip.out hpre
          subst hsk
          unfold isPre at hpre
          simp only [Bool.or_eq_false_iff] at hpre
          obtain ⟨q1, q2⟩ := hpre
          have q1' : (gb xs 0 != 221) = true := by simpa using q1
          have q2' : (gb xs 0 != 253) = true := by simpa using q2
          go_wp2
          go_ret
          exact ⟨rfl, Br⟩
        | true =>
          have N3w := Lib.hid (N3.out hpre)
          have q12 : (gb xs 0 != 221) = false ∨ ((gb xs 0 != 221) = true ∧ (gb xs 0 != 253) = false) := by
            unfold isPre at hpre
            simp only [Bool.or_eq_true, beq_iff_eq] at hpre
            rcases hpre with e | e
            · left; rw [e]; rfl
            · right; rw [e]; exact ⟨rfl, rfl⟩
          clear hpre
          have Brh := Lib.hid Br
          have hbs := Br.size
          have lit := Lib.hid (World.ownsRow_lit (base := wr.heap.size) (e := 5) (size := 1) wr #[.int .u8 221] 1 (Nat.le_refl _) (by decide) rfl)
          have hnw3 : ∀ j u, (bvs ts)[j]? = some u → ∃ ad, Av = some ad ∧ (wr.alloc (.cells #[.int .u8 221] 5)).cell? (ad.add j) = some u := fun j u hj => by
            unfold bvs at hj
            rw [List.getElem?_map] at hj
            obtain ⟨x, hx1, hx2⟩ := Option.map_eq_some_iff.1 hj
            obtain ⟨ad, e1, -, e2⟩ := (own_bytes (ownr.out.alloc (.cells #[.int .u8 221] 5))) j x hx1
            exact ⟨ad, e1, by rw [e2, ← hx2]⟩
          obtain ⟨ad, rfl⟩ : ∃ ad, Av = some ad := by
            rcases ownr.out.2 with ⟨-, e2⟩ | ⟨g, c, cur, e1, -⟩
            · omega
            · injection e1 with e3; exact ⟨_, e3⟩
          have hnw4 : ∀ j u, (bvs ts)[j]? = some u → (wr.alloc (.cells #[.int .u8 221] 5)).cell? (ad.add j) = some u := fun j u hj => by
            obtain ⟨ad', e1, e2⟩ := hnw3 j u hj
            cases e1
            exact e2
          have hnw4 := Lib.hid hnw4
          clear hnw3
          have hl5 := Lib.hid (show (bvs ts).length = k * 1 by rw [bvs_length, hzl.out]; omega)
          have hrlt := rr.out.lt
          rcases q12 with q1 | ⟨q1, q2⟩
          all_goals
            go_wp2_with (first
          | (at_builtin; refine wpList_append_own_at _ rfl (.tmp 98) (.tmp 99) _ rfl wr.heap.size 5 i0 _ 1 1 Try.underlying27 hi0 hz0 hz1 hz2 rfl (by omega) (.slice (some ⟨wr.heap.size, 0, none⟩) 1 1) 1 [.int .u8 221] rfl lit.out ad k c4 (bvs ts) rfl hl5.out hnw4.out (bvs_one _) (by simp only [maxLen]; omega) (by omega) (by simp) ?_; intro v7 w7 own7 hg7 hni7 hat7; clear c0 c1 c2 c3 c4' c5 f; have r7 := grown_row1 rr.out hg7; have B7 := Lib.hid (grown1_below Brh.out hg7); obtain ⟨Av7, c7, rfl⟩ := own_form own7 (by omega); have N7 := Lib.hid (N3w.out w7 Av7 _ c7 own7))
          | (go_at_call 15; refine N7.out.mono ?_; rintro e w8 ⟨rfl, hb8⟩; have r8 := r7.below hb8 r7.lt; have hr8lt := r8.lt; obtain ⟨⟨c0, c1, c2, c3, c4', c5⟩, f⟩ := row6 r8))
            go_ret
            exact ⟨rfl, B7.out.trans (hb8.mono B7.out.size) |>.alloc (by have h1 := B7.out.size; have h2 := hb8.size; omega) _⟩
  · have hnw2 : ∀ j u, (bvs ys)[j]? = some u → ∀ W : World, Below w.heap.size w W → W.cell? (p2.add j) = some u := fun j u hj W hW => by
      unfold bvs at hj
      rw [List.getElem?_map] at hj
      obtain ⟨x, hx1, hx2⟩ := Option.map_eq_some_iff.1 hj
      obtain ⟨ad, e1, -, e2⟩ := (hbY.out.below hW) j x hx1
      cases e1
      rw [e2, ← hx2]
    have hnw2 := Lib.hid hnw2
    go_wp2_with (first
      | (at_builtin; refine wpList_append_own_at _ rfl (.tmp 37) (.tmp 41) _ rfl (w2.heap.size + 1) 5 i0 _ 1 1 Try.underlying27 hi0 hz0 hz1 hz2 rfl (by omega) (.slice none 0 0) 0 [] rfl (World.ownsRow_nil _ _ _ _) p L0 cap (bvs ts) rfl hlt.out hnw (bvs_one ts) (by simp only [maxLen]; omega) (by omega) (by simp) ?_; intro v3 w3 own3 hg3 hni3 hat3; have hz3 := hg3.size; rw [World.size_alloc] at hz3; have B3 := B2'.grown hg3 (by have := B2.size; simp; omega) (fun k e => by simp [Value.ownBlock] at e); have r3 := grown_row0 r2 hg3; skip)
      | (at_builtin; refine wpList_append_own_at _ rfl (.tmp 43) (.tmp 44) _ rfl (w2.heap.size + 1) 5 i0 _ 1 1 Try.underlying27 hi0 hz0 hz1 hz2 rfl (by omega) v3 (0 + L0) ([] ++ bvs ts) rfl own3 p2 ys.length cap2 (bvs ys) rfl (by rw [bvs_length]; omega) (fun j u hj => hnw2.out j u hj w3 B3) (bvs_one ys) (by simp only [maxLen]; omega) (by omega) (by omega) ?_; intro v4 w4 own4' hg4 hni4 hat4; have r4 := grown_row r3 hg4 own3 (by omega); have B4 := grown_below B3 hg4 own3 (by have := B2.size; omega)))
    have own4 : w4.ownsRow (w2.heap.size + 1) 5 1 v4 (L0 + ys.length) (bvs (ts ++ ys)) := by
      have := own4'
      rw [List.nil_append, bvs_append] at this
      simpa using this
    obtain ⟨Av, c4, hv4⟩ : ∃ Av c4, v4 = .slice Av (L0 + ys.length) c4 := by
      rcases own4.2 with ⟨-, e2⟩ | ⟨g, c, cur, e1, -⟩
      · omega
      · exact ⟨_, _, e1⟩
    subst hv4
    have hn4 := own_bytes own4
    have N2w := Lib.hid (N2.out w4 Av _ c4 own4)
    have own4 := Lib.hid own4
    have r4 := Lib.hid r4
    have B4 := Lib.hid B4
    refine N2w.out.mono ?_
    rintro e w5 ⟨rfl, hb5⟩
    have B5 := B4.out.trans (hb5.mono B4.out.size)
    have B5' := Lib.hid (B5.alloc B5.size (.cells #[.int .i64 pl, .int .u8 co, .int .u8 di, .int .u16 im, .int .i64 (L0 : Int), .int .i64 sk] 30))
    have own5 := Lib.hid ((own_below own4.out hb5).alloc (.cells #[.int .i64 pl, .int .u8 co, .int .u8 di, .int .u16 im, .int .i64 (L0 : Int), .int .i64 sk] 30))
    have r5 := r4.out.below hb5 r4.out.lt
    have r5' := Lib.hid (r5.alloc (.cells #[.int .i64 pl, .int .u8 co, .int .u8 di, .int .u16 im, .int .i64 (L0 : Int), .int .i64 sk] 30))
    have hOlt := r5.lt
    obtain ⟨⟨c0, c1, c2, c3, c4', c5⟩, f⟩ := row6 r5
    have hL1 : (1 : Int) ≤ (L0 : Int) := by omega
    have hL2 : (L0 : Int) ≤ (xs.length : Int) := by omega
    go_wp2
    clear c0 c1 c2 c3 c4' c5 f hOlt
    go_loopw [11] (fun tk wr => ∃ k : Nat, k ≤ L0 ∧ tk = .int .i64 (k : Int) ∧ Row wr w2.heap.size 30 #[.int .i64 pl, .int .u8 co, .int .u8 di, .int .u16 im, .int .i64 (L0 : Int), .int .i64 sk] ∧ wr.ownsRow (w2.heap.size + 1) 5 1 (.slice Av (L0 + ys.length) c4) (L0 + ys.length) (bvs (ts ++ ys)) ∧ Below w.heap.size w wr) (fun tk _ => L0 - (intOf tk).toNat)
    case atStart => exact ⟨0, Nat.zero_le _, rfl, r5'.out, own5.out, B5'.out⟩
    case round =>
      obtain ⟨k, hk, rfl, rr, ownr, Br⟩ := hrel
      obtain ⟨⟨c0, c1, c2, c3, c4', c5⟩, f⟩ := row6 rr
      have rr := Lib.hid rr
      have ownr := Lib.hid ownr
      by_cases hlt2 : k < L0
      · have Nk := Lib.hid (Nc.out wr Br k hlt2)
        have Brh := Lib.hid Br
        clear Br
        go_wp2_with fail
        refine Nk.out.mono ?_
        rintro e w6 ⟨rfl, hb6⟩
        have B6 := Brh.out.trans (hb6.mono Brh.out.size)
        have fin := Lib.hid (show Row (w6.alloc (.cells zeroC 30)) w2.heap.size 30 #[.int .i64 pl, .int .u8 co, .int .u8 di, .int .u16 im, .int .i64 (L0 : Int), .int .i64 sk] ∧ (w6.alloc (.cells zeroC 30)).ownsRow (w2.heap.size + 1) 5 1 (.slice Av (L0 + ys.length) c4) (L0 + ys.length) (bvs (ts ++ ys)) ∧ Below w.heap.size w (w6.alloc (.cells zeroC 30)) from
          ⟨(rr.out.below hb6 rr.out.lt).alloc _, (own_below ownr.out hb6).alloc _, B6.alloc B6.size _⟩)
        clear c0 c1 c2 c3 c4' c5 f
        go_wp2
        go_roundw
        case rel => exact ⟨k + 1, by omega, by go_num, fin.out.1, fin.out.2.1, fin.out.2.2⟩
        case measure => simp [intOf]; omega
      · obtain rfl : k = L0 := by omega
        have hp := (Br.cell (p := p) hpb).trans hp0.out
        cases hpre : isPre (gb xs 0) with
        | false =>
          have hsk : sk = 0 := mskip.out hpre
          subst hsk
          unfold isPre at hpre
          simp only [Bool.or_eq_false_iff] at hpre
          obtain ⟨q1, q2⟩ := hpre
          have q1' : (gb xs 0 != 221) = true := by simpa using q1
          have q2' : (gb xs 0 != 253) = true := by simpa using q2
          go_wp2
          go_ret
          exact ⟨rfl, Br⟩
        | true =>
          have N3w := Lib.hid (N3.out hpre)
          have q12 : (gb xs 0 != 221) = false ∨ ((gb xs 0 != 221) = true ∧ (gb xs 0 != 253) = false) := by
            unfold isPre at hpre
            simp only [Bool.or_eq_true, beq_iff_eq] at hpre
            rcases hpre with e | e
            · left; rw [e]; rfl
            · right; rw [e]; exact ⟨rfl, rfl⟩
          clear hpre
          have Brh := Lib.hid Br
          have hbs := Br.size
          have lit := Lib.hid (World.ownsRow_lit (base := wr.heap.size) (e := 5) (size := 1) wr #[.int .u8 221] 1 (Nat.le_refl _) (by decide) rfl)
          have hnw3 : ∀ j u, (bvs (ts ++ ys))[j]? = some u → ∃ ad, Av = some ad ∧ (wr.alloc (.cells #[.int .u8 221] 5)).cell? (ad.add j) = some u := fun j u hj => by
            unfold bvs at hj
            rw [List.getElem?_map] at hj
            obtain ⟨x, hx1, hx2⟩ := Option.map_eq_some_iff.1 hj
            obtain ⟨ad, e1, -, e2⟩ := (own_bytes (ownr.out.alloc (.cells #[.int .u8 221] 5))) j x hx1
            exact ⟨ad, e1, by rw [e2, ← hx2]⟩
          obtain ⟨ad, rfl⟩ : ∃ ad, Av = some ad := by
            rcases ownr.out.2 with ⟨-, e2⟩ | ⟨g, c, cur, e1, -⟩
            · omega
            · injection e1 with e3; exact ⟨_, e3⟩
          have hnw4 : ∀ j u, (bvs (ts ++ ys))[j]? = some u → (wr.alloc (.cells #[.int .u8 221] 5)).cell? (ad.add j) = some u := fun j u hj => by
            obtain ⟨ad', e1, e2⟩ := hnw3 j u hj
            cases e1
            exact e2
          have hnw4 := Lib.hid hnw4
          clear hnw3
          have hl5 := Lib.hid (show (bvs (ts ++ ys)).length = (k + ys.length) * 1 by rw [bvs_length, hzl.out]; omega)
          have hrlt := rr.out.lt
          rcases q12 with q1 | ⟨q1, q2⟩
          all_goals
            go_wp2_with (first
          | (at_builtin; refine wpList_append_own_at _ rfl (.tmp 98) (.tmp 99) _ rfl wr.heap.size 5 i0 _ 1 1 Try.underlying27 hi0 hz0 hz1 hz2 rfl (by omega) (.slice (some ⟨wr.heap.size, 0, none⟩) 1 1) 1 [.int .u8 221] rfl lit.out ad (k + ys.length) c4 (bvs (ts ++ ys)) rfl hl5.out hnw4.out (bvs_one _) (by simp only [maxLen]; omega) (by omega) (by simp) ?_; intro v7 w7 own7 hg7 hni7 hat7; clear c0 c1 c2 c3 c4' c5 f; have r7 := grown_row1 rr.out hg7; have B7 := Lib.hid (grown1_below Brh.out hg7); obtain ⟨Av7, c7, rfl⟩ := own_form own7 (by omega); have N7 := Lib.hid (N3w.out w7 Av7 _ c7 own7))
          | (go_at_call 15; refine N7.out.mono ?_; rintro e w8 ⟨rfl, hb8⟩; have r8 := r7.below hb8 r7.lt; have hr8lt := r8.lt; obtain ⟨⟨c0, c1, c2, c3, c4', c5⟩, f⟩ := row6 r8))
            go_ret
            exact ⟨rfl, B7.out.trans (hb8.mono B7.out.size) |>.alloc (by have h1 := B7.out.size; have h2 := hb8.size; omega) _⟩
theorem decodeShort_walk (A : Option Addr) (cap : Nat) (xs : List Int) (A2 : Option Addr) (cap2 : Nat) (ys : List Int) (w : World) (hc : xs.length ≤ cap) (hm : cap ≤ maxLen) (hx : Bytes8 xs) (hb : BytesIn w w.heap.size A xs) (hn : A = none → cap = 0)
    (hc2 : ys.length ≤ cap2) (hm2 : cap2 ≤ maxLen) (hx2 : Bytes8 ys) (hb2 : BytesIn w w.heap.size A2 ys) (hn2 : A2 = none → cap2 = 0) :
    Calls Try.prog 6 #[.slice A xs.length cap, .slice A2 ys.length cap2] w fun e w' => e = .returned (.bool true) ∧ Below w.heap.size w w' := by
  by_cases h1 : 100 < xs.length
  · exact decodeShort_long1 A A2 cap cap2 xs ys h1 w
  by_cases h2 : 20 < ys.length
  · exact decodeShort_long2 A A2 cap cap2 xs ys (by omega) h2 w
  cases ho : okM xs with
  | false => exact decodeShort_no A A2 cap cap2 xs ys (by omega) (by omega) hx ho w hb
  | true => exact decodeShort_yes A A2 cap cap2 xs ys (by omega) (by omega) hc hx hx2 ho w hb hb2 hn2
end Go.Proofs.Ytjmmhfkjmeblnaa
