/- Layer 2 (flags): contracts of Read and the document's own. -/
import Derived.Test.YtdjienbfaebbdaaDoorFlagsShow
import Derived.Deep.RegionHeld3
namespace Go.Proofs.YtdjienbfaebbdaaDoor
open Go.RowKit
set_option linter.unusedVariables false

/-- the byte at a place of a text -/
def sAt (s : ByteArray) (j : Nat) : UInt8 := s.data.getD j 0
/-- is the sign at a place one that is shown there? -/
def okAt (s : ByteArray) (j : Nat) : Bool := sAt s j == lets.getD j 0 || sAt s j == 45
def readIs (s : ByteArray) : Bool := decide (s.size = 8) && (okAt s 0 && okAt s 1 && okAt s 2 && okAt s 3 && okAt s 4 && okAt s 5 && okAt s 6 && okAt s 7)
def isLet (s : ByteArray) (j : Nat) : Bool := sAt s j == lets.getD j 0
def readF (s : ByteArray) : Int := if readIs s then mkM (isLet s 0) (isLet s 1) (isLet s 2) (isLet s 3) (isLet s 4) (isLet s 5) (isLet s 6) (isLet s 7) else 0
theorem readF_byte (s : ByteArray) : B8 (readF s) := by
  unfold readF; split
  · exact mkM_byte ..
  · exact B8.zero
theorem read_show_fin : ∀ x : Fin 256, readIs (showM (x.val : Int)) = true ∧ readF (showM (x.val : Int)) = (x.val : Int) := by decide +kernel
theorem read_show (f : Int) (h0 : 0 ≤ f) (h1 : f ≤ 255) : readIs (showM f) = true ∧ readF (showM f) = f :=
  byte_all (P := fun f => readIs (showM f) = true ∧ readF (showM f) = f) read_show_fin f h0 h1
theorem okAt_ch {s : ByteArray} {j : Nat} (h : okAt s j = true) : sAt s j = ch (isLet s j) (lets.getD j 0) := by
  unfold okAt at h
  unfold isLet ch
  cases e : (sAt s j == lets.getD j 0)
  · simp only [e, Bool.false_or] at h
    simpa using h
  · simpa using e
theorem s_eq8 (s : ByteArray) (h : s.size = 8) : s = ⟨#[sAt s 0, sAt s 1, sAt s 2, sAt s 3, sAt s 4, sAt s 5, sAt s 6, sAt s 7]⟩ := by
  apply ByteArray.ext
  have h8 : s.data.size = 8 := h
  apply Array.ext
  · simpa using h8
  · intro i h1 h2
    have : i < 8 := by omega
    have key : ∀ j, j < 8 → s.data[j]? = (#[sAt s 0, sAt s 1, sAt s 2, sAt s 3, sAt s 4, sAt s 5, sAt s 6, sAt s 7] : Array UInt8)[j]? := by
      refine nat8 _ ?_
      simp [sAt, h8]
    have k := key i this
    rw [Array.getElem?_eq_getElem h1, Array.getElem?_eq_getElem h2] at k
    exact Option.some.inj k
theorem show_read (s : ByteArray) (h : readIs s = true) : showM (readF s) = s := by
  have h' := h
  unfold readIs at h
  simp only [Bool.and_eq_true, decide_eq_true_eq] at h
  obtain ⟨h8, ⟨⟨⟨⟨⟨⟨⟨o0, o1⟩, o2⟩, o3⟩, o4⟩, o5⟩, o6⟩, o7⟩⟩ := h
  obtain ⟨m0, m1, m2, m3, m4, m5, m6, m7⟩ := of_mkM (isLet s 0) (isLet s 1) (isLet s 2) (isLet s 3) (isLet s 4) (isLet s 5) (isLet s 6) (isLet s 7)
  unfold readF
  rw [if_pos h']
  unfold showM
  rw [m0, m1, m2, m3, m4, m5, m6, m7]
  conv => rhs; rw [s_eq8 s h8]
  rw [okAt_ch o0, okAt_ch o1, okAt_ch o2, okAt_ch o3, okAt_ch o4, okAt_ch o5, okAt_ch o6, okAt_ch o7]
  rfl

theorem HNE (k : Int) (s : ByteArray) (h : ¬ showM k = s) : ((showM k).toList == s.toList) = false := by
  rw [beq_eq_false_iff_ne, ByteArray.toList_eq, ByteArray.toList_eq]
  intro c
  exact h (ByteArray.ext (Array.toList_inj.1 c))
/-- none of the first k bytes is shown so -/
def noShow (s : ByteArray) (k : Nat) : Prop := ∀ j : Nat, j < k → showM j ≠ s
theorem noShow.next {s : ByteArray} {k : Nat} (h : noShow s k) (he : ¬ showM (k : Int) = s) : noShow s (k + 1) := by
  intro j hj
  by_cases e : j = k
  · subst e; exact he
  · exact h j (by omega)
set_option maxHeartbeats 4000000 in
set_option maxRecDepth 20000 in
theorem rread_any (s : ByteArray) (w : World) :
    Calls Tryd.prog 9 #[.string s] w fun e w' => e = .returned (.tuple #[.int .u8 (readF s), .bool (readIs s)]) ∧ Below w.heap.size w w' := by
  go_enter Tryd.func9, Tryd.ntmps9
  go_wp2_with fail
  obtain ⟨N, hN0, hN1⟩ : ∃ N : Nat, N ≤ 256 ∧ 256 ≤ N := ⟨256, by omega, by omega⟩
  go_loopw [4] (fun i wr => ∃ k : Nat, k ≤ N ∧ i = .int .i64 k ∧ noShow s k ∧ Below w.heap.size w wr) (fun i _ => N - (intOf i).toNat)
  case atStart => exact ⟨0, by omega, rfl, fun j hj => absurd hj (by omega), Below.refl _ _⟩
  case round =>
    obtain ⟨k, hk, rfl, hno, rb⟩ := hrel
    have HN := Lib.hid hno
    have Rb := Lib.hid rb
    clear hno rb
    by_cases hlt : k < N
    · have hk0 : (0 : Int) ≤ (k : Int) := by omega
      have hk1 : (k : Int) ≤ 255 := by omega
      by_cases he : showM (k : Int) = s
      · subst he
        obtain ⟨e1, e2⟩ := read_show (k : Int) hk0 hk1
        have E1 := Lib.hid e1
        have E2 := Lib.hid e2
        clear e1 e2
        go_wp2_with fail
        refine (rshow_any _ hk0 hk1 _).mono ?_
        rintro e w1 ⟨rfl, hb1⟩
        have hb1 := Lib.hid hb1
        go_wp2
        go_ret2
        exact ⟨by rw [E1.out, E2.out]; rfl, bstep Rb.out hb1.out⟩
      · go_wp2_with fail
        refine (rshow_any _ hk0 hk1 _).mono ?_
        rintro e w1 ⟨rfl, hb1⟩
        have hb1 := Lib.hid hb1
        have hne := HNE (k : Int) s he
        have HE := Lib.hid he
        clear he
        go_wp2
        go_roundw
        case rel => exact ⟨k + 1, by omega, by go_num, HN.out.next HE.out, bstep Rb.out hb1.out⟩
        case measure => simp [intOf]; omega
    · have hk0 : (256 : Int) ≤ (k : Int) := by omega
      have hno : readIs s = false := by
        cases e : readIs s
        · rfl
        · have := show_read s e
          have b := readF_byte s
          exact absurd (by rw [Int.toNat_of_nonneg b.1]; exact this) (HN.out (readF s).toNat (by have := b.2; omega))
      have hf0 : readF s = 0 := by unfold readF; rw [hno]; rfl
      have E1 := Lib.hid hno
      have E2 := Lib.hid hf0
      clear hno hf0
      go_wp2
      go_ret2
      exact ⟨by rw [E1.out, E2.out]; rfl, Rb.out⟩

/-- what Read has laid into its array in k rounds -/
def laidR (s : ByteArray) (k j : Nat) : Bool := if j < k then isLet s j else false
theorem laidR_next (s : ByteArray) (k j : Nat) : (if j = k then Value.bool (isLet s k) else .bool (laidR s k j)) = .bool (laidR s (k + 1) j) := by
  unfold laidR
  by_cases e : j = k
  · subst e; simp
  · by_cases l : j < k
    · rw [if_neg e, if_pos l, if_pos (by omega)]
    · rw [if_neg e, if_neg l, if_neg (by omega)]
def okUpto (s : ByteArray) (k : Nat) : Prop := ∀ j : Nat, j < k → okAt s j = true
theorem okUpto.next {s : ByteArray} {k : Nat} (h : okUpto s k) (he : okAt s k = true) : okUpto s (k + 1) := by
  intro j hj
  by_cases e : j = k
  · subst e; exact he
  · exact h j (by omega)
theorem run_index_sAt (s : ByteArray) (h8 : s.size = 8) (k : Nat) (hk : k < 8) (W : World) : (Instr.index 9 (.string s) (.int .i64 k)).run Tryd.prog W = .ok (.int .u8 ((sAt s k).toNat : Int)) W := by
  rw [run_index_string (h := Tryd.underlying9), dif_pos ⟨by omega, by omega⟩]
  congr 3
  unfold sAt
  have hs : s.data.size = 8 := h8
  simp [hs, hk]
  rfl
theorem run_index_lets (k : Nat) (hk : k < 8) (W : World) : (Instr.index 9 (.string ⟨#[83, 90, 89, 72, 88, 80, 78, 67]⟩) (.int .i64 k)).run Tryd.prog W = .ok (.int .u8 ((lets.getD k 0).toNat : Int)) W :=
  nat8 (fun k => (Instr.index 9 (.string ⟨#[83, 90, 89, 72, 88, 80, 78, 67]⟩) (.int .i64 k)).run Tryd.prog W = .ok (.int .u8 ((lets.getD k 0).toNat : Int)) W)
    (by refine ⟨?_, ?_, ?_, ?_, ?_, ?_, ?_, ?_⟩ <;> rw [run_index_string (h := Tryd.underlying9)] <;> rfl) k hk

theorem u8_beq (a b : UInt8) : ((a.toNat : Int) == (b.toNat : Int)) = (a == b) := by
  by_cases h : a = b
  · subst h; simp
  · rw [beq_eq_false_iff_ne.2 h, beq_eq_false_iff_ne]
    intro c
    exact h (UInt8.toNat_inj.1 (Int.ofNat_inj.1 c))
theorem u8_bne45 (a : UInt8) : ((a.toNat : Int) != 45) = !(a == 45) := by
  have := u8_beq a 45
  unfold bne
  rw [← this]
  rfl
theorem readIs_bad (s : ByteArray) (k : Nat) (hk : k < 8) (h : okAt s k = false) : readIs s = false := by
  cases e : readIs s
  · rfl
  · unfold readIs at e
    simp only [Bool.and_eq_true] at e
    obtain ⟨_, ⟨⟨⟨⟨⟨⟨⟨o0, o1⟩, o2⟩, o3⟩, o4⟩, o5⟩, o6⟩, o7⟩⟩ := e
    have := nat8 (fun j => okAt s j = true) ⟨o0, o1, o2, o3, o4, o5, o6, o7⟩ k hk
    rw [h] at this
    cases this
set_option maxHeartbeats 4000000 in
theorem read_any (s : ByteArray) (w : World) :
    Calls Tryd.prog 8 #[.string s] w fun e w' => e = .returned (.tuple #[.int .u8 (readF s), .bool (readIs s)]) ∧ Below w.heap.size w w' := by
  by_cases h8 : s.size = 8
  · have hd : decide (s.size = 8) = true := decide_eq_true h8
    have hixs : ∀ k : Nat, k < 8 → ∀ W, (Instr.index 9 (.string s) (.int .i64 k)).run Tryd.prog W = .ok (.int .u8 ((sAt s k).toNat : Int)) W := fun k hk W => run_index_sAt s h8 k hk W
    have HD := Lib.hid hd
    have HX := Lib.hid hixs
    clear hd hixs
    go_enter Tryd.func8, Tryd.ntmps8
    go_wp2_with fail
    clear h8
    have hA : Hid (ArrIs (w.alloc (.cells #[.bool false, .bool false, .bool false, .bool false, .bool false, .bool false, .bool false, .bool false] 22)) w.heap.size 8 (fun j => .bool (laidR s 0 j))) :=
      ArrIs.new w _ _ 0 0 _ 8 (.inr rfl) (fun j hj => nat8 (fun j => (#[Value.bool false, .bool false, .bool false, .bool false, .bool false, .bool false, .bool false, .bool false] : Array Value)[j]? = some (.bool (laidR s 0 j))) ⟨rfl, rfl, rfl, rfl, rfl, rfl, rfl, rfl⟩ j hj)
    have hbel : Hid (Below w.heap.size w (w.alloc (.cells #[.bool false, .bool false, .bool false, .bool false, .bool false, .bool false, .bool false, .bool false] 22))) := (Below.refl _ w).alloc (Nat.le_refl _) _
    obtain ⟨B, eB⟩ : ∃ A, A = w.heap.size := ⟨_, rfl⟩
    have hwB : w.heap.size ≤ B := by omega
    rw [← eB] at hA
    rw [← eB]
    clear eB
    go_loopw [9] (fun i wr => ∃ k : Nat, k ≤ 8 ∧ i = .int .i64 k ∧ ArrIs wr B 8 (fun j => .bool (laidR s k j)) ∧ okUpto s k ∧ Below w.heap.size w wr) (fun i _ => 8 - (intOf i).toNat)
    case atStart => exact ⟨0, by omega, rfl, hA.out, fun j hj => absurd hj (by omega), hbel.out⟩
    case round =>
      obtain ⟨k, hk, rfl, rA, rO, rb⟩ := hrel
      clear hA hbel
      have RA := Lib.hid rA
      have Rb := Lib.hid rb
      have RO := Lib.hid rO
      clear rA rb rO
      by_cases hlt : k < 8
      · have hk0 : (0 : Int) ≤ (k : Int) := by omega
        have hk1 : (k : Int) < 8 := by omega
        have hl := run_index_lets k hlt
        have hs := HX.out k hlt
        have cA := (RA.out k hlt).1
        have zA := (RA.out k hlt).2
        have hq : (((sAt s k).toNat : Int) == ((lets.getD k 0).toNat : Int)) = isLet s k := u8_beq _ _
        have h45 : (((sAt s k).toNat : Int) != 45) = !(sAt s k == 45) := u8_bne45 _
        have HOK := Lib.hid (show okAt s k = (isLet s k || sAt s k == 45) from rfl)
        generalize ((sAt s k).toNat : Int) = c at hs hq h45
        generalize ((lets.getD k 0).toNat : Int) = l at hl hq
        cases h1 : isLet s k
        · rw [h1] at hq
          cases h2 : (sAt s k == 45)
          · rw [h2] at h45
            have E1 := Lib.hid (readIs_bad s k hlt (by rw [HOK.out, h1, h2]; rfl))
            have E2 : Hid (readF s = 0) := by
              show readF s = 0
              unfold readF; rw [E1.out]; rfl
            clear h1 h2 HOK
            simp only [Bool.not_false] at h45
            go_wp2
            go_region
            go_wp2
            go_ret2
            exact ⟨by rw [E1.out, E2.out]; rfl, (Rb.out.setCell (by simpa using hwB) _).drew⟩
          · rw [h2] at h45
            have HK := Lib.hid (show okAt s k = true by rw [HOK.out, h1, h2]; rfl)
            have H1 := Lib.hid h1
            clear h1 h2 HOK
            simp only [Bool.not_true] at h45
            go_wp2
            go_region
            go_wp2
            go_roundw
            case rel =>
              refine ⟨k + 1, by omega, by go_num, ?_, RO.out.next HK.out, (Rb.out.setCell (by simpa using hwB) _).drew⟩
              exact (RA.out.set (.bool false) hlt).congr (fun j hj => by rw [← laidR_next s k j, H1.out])
            case measure => simp [intOf]; omega
        · rw [h1] at hq
          have HK := Lib.hid (show okAt s k = true by rw [HOK.out, h1]; rfl)
          have H1 := Lib.hid h1
          clear h1 HOK h45
          go_wp2
          go_region
          go_wp2
          go_roundw
          case rel =>
            refine ⟨k + 1, by omega, by go_num, ?_, RO.out.next HK.out, (Rb.out.setCell (by simpa using hwB) _).drew⟩
            exact (RA.out.set (.bool true) hlt).congr (fun j hj => by rw [← laidR_next s k j, H1.out])
          case measure => simp [intOf]; omega
      · obtain rfl : k = 8 := by omega
        have q0 : wr.cell? ⟨B, 0, none⟩ = some (.bool (isLet s 0)) := (RA.out 0 (by omega)).1
        have q1 : wr.cell? ⟨B, 1, none⟩ = some (.bool (isLet s 1)) := (RA.out 1 (by omega)).1
        have q2 : wr.cell? ⟨B, 2, none⟩ = some (.bool (isLet s 2)) := (RA.out 2 (by omega)).1
        have q3 : wr.cell? ⟨B, 3, none⟩ = some (.bool (isLet s 3)) := (RA.out 3 (by omega)).1
        have q4 : wr.cell? ⟨B, 4, none⟩ = some (.bool (isLet s 4)) := (RA.out 4 (by omega)).1
        have q5 : wr.cell? ⟨B, 5, none⟩ = some (.bool (isLet s 5)) := (RA.out 5 (by omega)).1
        have q6 : wr.cell? ⟨B, 6, none⟩ = some (.bool (isLet s 6)) := (RA.out 6 (by omega)).1
        have q7 : wr.cell? ⟨B, 7, none⟩ = some (.bool (isLet s 7)) := (RA.out 7 (by omega)).1
        have E1 : Hid (readIs s = true) := by
          show readIs s = true
          unfold readIs
          rw [HD.out, RO.out 0 (by omega), RO.out 1 (by omega), RO.out 2 (by omega), RO.out 3 (by omega), RO.out 4 (by omega), RO.out 5 (by omega), RO.out 6 (by omega), RO.out 7 (by omega)]
          rfl
        have E2 : Hid (readF s = mkM (isLet s 0) (isLet s 1) (isLet s 2) (isLet s 3) (isLet s 4) (isLet s 5) (isLet s 6) (isLet s 7)) := by
          show readF s = _
          unfold readF; rw [E1.out]; rfl
        go_wp2_with (go_at_call 10; refine (make_any _ _ _ _ _ _ _ _ _).mono ?_; rintro e w' ⟨rfl, hb⟩; have hsz := hb.size)
        go_ret2
        exact ⟨by rw [E1.out, E2.out]; rfl, bstep Rb.out hb⟩
  · have e1 : readIs s = false := by unfold readIs; rw [decide_eq_false h8]; rfl
    have e2 : readF s = 0 := by unfold readF; rw [e1]; rfl
    rw [e1, e2]
    clear e1 e2
    have hne : ((s.size : Int) != 8) = true := by simp; omega
    clear h8
    go_enter Tryd.func8, Tryd.ntmps8
    go_wp2
    go_ret2
    exact ⟨rfl, Below.refl _ _⟩
end Go.Proofs.YtdjienbfaebbdaaDoor
