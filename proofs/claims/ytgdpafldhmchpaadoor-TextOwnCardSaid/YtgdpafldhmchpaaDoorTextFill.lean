/- Layer 9 (text): a form filled: contract of fill. -/
import Derived.Test.YtgdpafldhmchpaaDoorTextOpna
import Derived.Test.YtgdpafldhmchpaaDoorMem
import Derived.Deep.RegionHeld3
import Derived.Lib.OthersKept
namespace Go.Proofs.YtgdpafldhmchpaaDoor
open Go.RowKit
set_option linter.unusedVariables false
set_option linter.unusedSimpArgs false

theorem builder_below {T e : TypeId} {B b : Nat} {bs : List Value} {W W' : World} (h : Lib.IsBuilderF T e B b bs W) (hb : Below W.heap.size W W') : Lib.IsBuilderF T e B b bs W' := by
  have key : ∀ p, Lib.BuilderAtF T e B b p bs W → Lib.BuilderAtF T e B b p bs W' := by
    intro p h
    have hlt := h.lt
    obtain ⟨hB, v, hv, hown, hne⟩ := h
    exact ⟨hB, v, (hb.block b hlt).trans hv, hown.kept (row := none) ⟨hb.os, hb.tape, hb.output, hb.size, fun k hk _ => hb.block k hk⟩ (Classical.em _), hne⟩
  exact h.elim (fun x => .inl (key _ x)) (fun x => .inr (key _ x))
theorem strCells_la (l : List UInt8) : Lib.strCells ⟨l.toArray⟩ = Lib.byteCells l := by simp [Lib.strCells, Lib.byteCells]
theorem byteCells_app (a b : List UInt8) : Lib.byteCells a ++ Lib.byteCells b = Lib.byteCells (a ++ b) := by simp [Lib.byteCells]
theorem dec3_le (n : Int) : (dec3 n).length ≤ 3 := dec3_length n
theorem tok_le (pl d m : Int) (k : Nat) : (tok pl d m k).length ≤ 8 := by
  have h1 := signL_length (signedM d)
  have h2 := signL_length (signedM (m % 256) + 2)
  unfold tok
  split
  · simp [hex2]
  split
  · simp [hex4]
  split
  · simp [toL]; omega
  split
  · simp [indexL]; omega
  · simp
theorem say_le (pl d m : Int) (l : List Nat) : (say pl d m l).length ≤ 8 * l.length := by
  induction l with
  | nil => simp [say]
  | cons k l ih =>
    have := tok_le pl d m k
    rw [say_cons, List.length_append, List.length_cons]
    omega
theorem pick_le (l : List (List Nat)) (h : ∀ t ∈ l, t.length ≤ 8) (i : Int) : (pick l i).length ≤ 8 := by
  unfold pick
  rw [List.getD_eq_getElem?_getD]
  cases e : l[i.toNat]? with
  | none => simp
  | some t => exact h t (List.mem_of_getElem? e)
theorem nameT_le (pl : Int) (n : Bool) (t : List Nat) (h : t.length ≤ 8) : (nameT pl n t).length ≤ 10 := by
  have hix : (ixT pl).length = 2 := rfl
  unfold nameT
  split
  · split
    · omega
    · split
      · simp
      · split
        · split
          · omega
          · rw [List.length_append]; omega
        · omega
  · omega
theorem ite_le {c : Prop} [Decidable c] {a b : List Nat} {n : Nat} (h1 : a.length ≤ n) (h2 : b.length ≤ n) : (if c then a else b).length ≤ n := by split <;> assumption
theorem opT_le (pl : Int) (n : Bool) (y z p : Int) (k : Nat) : (opT pl n y z p k).length ≤ 10 := by
  have r1 := nameT_le pl n _ (pick_le regN (by decide) y)
  have r2 := nameT_le pl n _ (pick_le regN (by decide) z)
  have r3 := nameT_le pl n _ (pick_le pairN (by decide) p)
  have r4 := nameT_le pl n _ (pick_le stackN (by decide) p)
  have r5 := nameT_le pl n [104, 108] (by simp)
  have c1 := pick_le condN (by decide) y
  have c2 := pick_le condN (by decide) (y % 4)
  have c3 := pick_le sumN (by decide) y
  have c4 := pick_le shiftN (by decide) y
  have c5 := pick_le modeN (by decide) y
  have c6 := pick_le digN (by decide) y
  have c7 := pick_le rstN (by decide) y
  unfold opT
  iterate 16 refine ite_le (by first | omega | (show 1 ≤ 10; omega)) ?_
  show 1 ≤ 10
  omega
/-- what n letters of a form are filled with -/
def filled (pl : Int) (nr : Bool) (y z p : Int) (F : List Nat) (n : Nat) : List Nat := (F.take n).flatMap (opT pl nr y z p)
theorem filled_succ (pl : Int) (nr : Bool) (y z p : Int) (F : List Nat) (n : Nat) (h : n < F.length) : filled pl nr y z p F (n + 1) = filled pl nr y z p F n ++ opT pl nr y z p (F.getD n 0) := by
  unfold filled
  rw [List.take_add_one, List.getElem?_eq_getElem h, List.flatMap_append]
  simp [h]
theorem filled_le (pl : Int) (nr : Bool) (y z p : Int) (F : List Nat) (n : Nat) : (filled pl nr y z p F n).length ≤ 10 * n := by
  induction n with
  | zero => simp [filled]
  | succ n ih =>
    by_cases h : n < F.length
    · rw [filled_succ _ _ _ _ _ _ _ h, List.length_append]
      have := opT_le pl nr y z p (F.getD n 0)
      omega
    · have e : filled pl nr y z p F (n + 1) = filled pl nr y z p F n := by unfold filled; rw [List.take_of_length_le (by omega), List.take_of_length_le (by omega)]
      rw [e]
      omega
theorem sb_cut (F : List Nat) (n : Nat) (h : n < F.length) : (sb F).extract n (n + 1) = ⟨#[UInt8.ofNat (F.getD n 0)]⟩ := by
  apply ByteArray.ext
  simp only [ByteArray.data_extract]
  unfold sb
  apply Array.ext
  · simp; omega
  · intro i h1 h2
    have : i = 0 := by simp at h2; omega
    subst this
    simp [h]
/-- the cells of an instruction whose text is made -/
abbrev shC (pl c d m le sk x y z p q : Int) (f : Value) : Array Value := #[.int .i64 pl, .int .u8 c, .int .u8 d, .int .u16 m, .int .i64 le, .int .i64 sk, .int .i64 x, .int .i64 y, .int .i64 z, .int .i64 p, .int .i64 q, f]
/-- the box of an instruction whose text is made -/
def Box12 (W : World) (B : Nat) (pl c d m le sk x y z p q : Int) (f : Value) : Prop := W.cell? ⟨B, 0, none⟩ = some (.int .i64 pl) ∧ W.cell? ⟨B, 1, none⟩ = some (.int .u8 c) ∧ W.cell? ⟨B, 2, none⟩ = some (.int .u8 d) ∧ W.cell? ⟨B, 3, none⟩ = some (.int .u16 m) ∧ W.cell? ⟨B, 4, none⟩ = some (.int .i64 le) ∧ W.cell? ⟨B, 5, none⟩ = some (.int .i64 sk) ∧ W.cell? ⟨B, 6, none⟩ = some (.int .i64 x) ∧ W.cell? ⟨B, 7, none⟩ = some (.int .i64 y) ∧ W.cell? ⟨B, 8, none⟩ = some (.int .i64 z) ∧ W.cell? ⟨B, 9, none⟩ = some (.int .i64 p) ∧ W.cell? ⟨B, 10, none⟩ = some (.int .i64 q) ∧ W.cell? ⟨B, 11, none⟩ = some f
theorem Box12.keep {W W' : World} {B K : Nat} {pl c d m le sk x y z p q : Int} {f : Value} (k : Below K W W') (hB : B < K) (h : W.cell? ⟨B, 0, none⟩ = some (.int .i64 pl) ∧ W.cell? ⟨B, 1, none⟩ = some (.int .u8 c) ∧ W.cell? ⟨B, 2, none⟩ = some (.int .u8 d) ∧ W.cell? ⟨B, 3, none⟩ = some (.int .u16 m) ∧ W.cell? ⟨B, 4, none⟩ = some (.int .i64 le) ∧ W.cell? ⟨B, 5, none⟩ = some (.int .i64 sk) ∧ W.cell? ⟨B, 6, none⟩ = some (.int .i64 x) ∧ W.cell? ⟨B, 7, none⟩ = some (.int .i64 y) ∧ W.cell? ⟨B, 8, none⟩ = some (.int .i64 z) ∧ W.cell? ⟨B, 9, none⟩ = some (.int .i64 p) ∧ W.cell? ⟨B, 10, none⟩ = some (.int .i64 q) ∧ W.cell? ⟨B, 11, none⟩ = some f) : W'.cell? ⟨B, 0, none⟩ = some (.int .i64 pl) ∧ W'.cell? ⟨B, 1, none⟩ = some (.int .u8 c) ∧ W'.cell? ⟨B, 2, none⟩ = some (.int .u8 d) ∧ W'.cell? ⟨B, 3, none⟩ = some (.int .u16 m) ∧ W'.cell? ⟨B, 4, none⟩ = some (.int .i64 le) ∧ W'.cell? ⟨B, 5, none⟩ = some (.int .i64 sk) ∧ W'.cell? ⟨B, 6, none⟩ = some (.int .i64 x) ∧ W'.cell? ⟨B, 7, none⟩ = some (.int .i64 y) ∧ W'.cell? ⟨B, 8, none⟩ = some (.int .i64 z) ∧ W'.cell? ⟨B, 9, none⟩ = some (.int .i64 p) ∧ W'.cell? ⟨B, 10, none⟩ = some (.int .i64 q) ∧ W'.cell? ⟨B, 11, none⟩ = some f := by
  have e : ∀ i, W'.cell? ⟨B, i, none⟩ = W.cell? ⟨B, i, none⟩ := fun i => World.cell?_of_block (k.block B hB)
  simp only [e]
  exact h
set_option maxRecDepth 20000 in
set_option maxHeartbeats 4000000 in
theorem fill_any (pl c d m le sk x y z p q : Int) (hc : B8 c) (hd : B8 d) (hm : 0 ≤ m ∧ m ≤ 65535) (hy : 0 ≤ y ∧ y ≤ 7) (hz : 0 ≤ z ∧ z ≤ 7) (hp : 0 ≤ p ∧ p ≤ 3) (F : List Nat) (hF : ∀ k ∈ F, k < 256) (hl : F.length ≤ 16) (w : World) (h : TextTabs w) :
    Calls Tryd.prog 16 #[shV pl c d m le sk x y z p q (namerV pl c d m le sk), .string (sb F)] w fun e w' => e = .returned (.string (sy pl d m (filled pl (nearM pl c) y z p F F.length))) ∧ Below w.heap.size w w' := by
  have kn := Lib.hid (fun (n : Nat) (hn : n < F.length) W (hW : Below w.heap.size w W) => operand_any pl c d m le sk x y z p q hc hd hm hy hz hp (F.getD n 0) (hF _ (by rw [List.getD_eq_getElem?_getD, List.getElem?_eq_getElem hn]; exact List.getElem_mem hn)) W (h.below hW))
  have hlen := sb_size F
  have hcut := Lib.hid (sb_cut F)
  clear hF hc hd hm hy hz hp h
  generalize namerV pl c d m le sk = f at *
  go_enter Tryd.func16, Tryd.ntmps16
  go_wp2_with fail
  have hI0 := Lib.IsBuilderF.of (Lib.fresh_isBuilder 61 5 (w.alloc (.cells (shC pl c d m le sk x y z p q f) 41)))
  have hR0 := (Row.new w 41 (shC pl c d m le sk x y z p q f)).alloc (.cells #[.pointer none, .slice none 0 0] 61)
  have hB0 : Below w.heap.size w ((w.alloc (.cells (shC pl c d m le sk x y z p q f) 41)).alloc (.cells #[.pointer none, .slice none 0 0] 61)) := (by repeat (first | exact Below.refl _ _ | assumption | refine bstep ?_ (by assumption) | refine Below.drew ?_ | refine Below.alloc ?_ (by first | (simp; done) | (simp; omega) | omega) _ | refine Below.setCell ?_ (by first | (simp; done) | (simp; omega) | omega) _))
  simp only [World.size_alloc] at hI0
  have hI0 := Lib.hid hI0
  have hR0 := Lib.hid hR0
  have hB0 := Lib.hid hB0
  go_loopw [9] (fun i wr => ∃ n : Nat, n ≤ F.length ∧ i = .int .i64 n ∧ Lib.IsBuilderF 61 5 (w.heap.size + 1) (w.heap.size + 1) (Lib.byteCells (say pl d m (filled pl (nearM pl c) y z p F n))) wr ∧ Row wr w.heap.size 41 (shC pl c d m le sk x y z p q f) ∧ Below w.heap.size w wr) (fun i _ => F.length - (intOf i).toNat)
  case atStart => exact ⟨0, by omega, rfl, hI0.out, hR0.out, hB0.out⟩
  case round =>
    obtain ⟨n, hn, rfl, rI, rR, rB⟩ := hrel
    clear hI0 hR0 hB0
    have RI := Lib.hid rI
    have RB := Lib.hid rB
    have RR := Lib.hid rR
    clear rI rB
    by_cases hlt : n < F.length
    · have n0 : (0 : Int) ≤ (n : Int) := by omega
      have n1 : (n : Int) < (F.length : Int) := by omega
      have hx : (sb F).extract n (n + 1) = ⟨#[UInt8.ofNat (F.getD n 0)]⟩ := hcut.out n hlt
      have p0 : (0 : Int) ≤ (n : Int) + 1 := by omega
      have p1 : (n : Int) + 1 ≤ (F.length : Int) := by omega
      have p2 : ((n : Int) + 1).toNat = n + 1 := by omega
      have p3 : (n : Int) ≤ (n : Int) + 1 := by omega
      have hw : IntKind.i64.wrap ((n : Int) + 1) = (n : Int) + 1 := by rw [IntKind.wrap_i64]; omega
      have kn2 := Lib.hid (show ∀ W, Below w.heap.size w W → Calls Tryd.prog 34 #[shV pl c d m le sk x y z p q f, .string ⟨#[UInt8.ofNat (F.getD n 0)]⟩] W fun e w' => e = .returned (.string ⟨(say pl d m (opT pl (nearM pl c) y z p (F.getD n 0))).toArray⟩) ∧ Below W.heap.size W w' from kn.out n hlt)
      clear kn
      have hf := Lib.hid (filled_succ pl (nearM pl c) y z p F n hlt)
      have g1 := say_le pl d m (opT pl (nearM pl c) y z p (F.getD n 0))
      have g2 := opT_le pl (nearM pl c) y z p (F.getD n 0)
      have hf := hf.out
      generalize F.getD n 0 = kk at *
      have HF := Lib.hid hf
      clear hf
      have g3 := say_le pl d m (filled pl (nearM pl c) y z p F n)
      have g4 := filled_le pl (nearM pl c) y z p F n
      have hsy := la_size (say pl d m (opT pl (nearM pl c) y z p (F.getD n 0)))
      have hs : wr.cell? ⟨w.heap.size, 0, none⟩ = some (.int .i64 pl) ∧ wr.cell? ⟨w.heap.size, 1, none⟩ = some (.int .u8 c) ∧ wr.cell? ⟨w.heap.size, 2, none⟩ = some (.int .u8 d) ∧ wr.cell? ⟨w.heap.size, 3, none⟩ = some (.int .u16 m) ∧ wr.cell? ⟨w.heap.size, 4, none⟩ = some (.int .i64 le) ∧ wr.cell? ⟨w.heap.size, 5, none⟩ = some (.int .i64 sk) ∧ wr.cell? ⟨w.heap.size, 6, none⟩ = some (.int .i64 x) ∧ wr.cell? ⟨w.heap.size, 7, none⟩ = some (.int .i64 y) ∧ wr.cell? ⟨w.heap.size, 8, none⟩ = some (.int .i64 z) ∧ wr.cell? ⟨w.heap.size, 9, none⟩ = some (.int .i64 p) ∧ wr.cell? ⟨w.heap.size, 10, none⟩ = some (.int .i64 q) ∧ wr.cell? ⟨w.heap.size, 11, none⟩ = some f :=
        ⟨rR.cell 0, rR.cell 1, rR.cell 2, rR.cell 3, rR.cell 4, rR.cell 5, rR.cell 6, rR.cell 7, rR.cell 8, rR.cell 9, rR.cell 10, rR.cell 11⟩
      clear rR
      have hlt2 : w.heap.size + 1 < wr.heap.size := by
        rcases RI.out with h | h
        · exact h.lt
        · exact h.lt
      have hK : w.heap.size < wr.heap.size := by omega
      go_wp2_with fail
      go_region_held3 (fun w' => w'.cell? ⟨w.heap.size, 0, none⟩ = some (.int .i64 pl) ∧ w'.cell? ⟨w.heap.size, 1, none⟩ = some (.int .u8 c) ∧ w'.cell? ⟨w.heap.size, 2, none⟩ = some (.int .u8 d) ∧ w'.cell? ⟨w.heap.size, 3, none⟩ = some (.int .u16 m) ∧ w'.cell? ⟨w.heap.size, 4, none⟩ = some (.int .i64 le) ∧ w'.cell? ⟨w.heap.size, 5, none⟩ = some (.int .i64 sk) ∧ w'.cell? ⟨w.heap.size, 6, none⟩ = some (.int .i64 x) ∧ w'.cell? ⟨w.heap.size, 7, none⟩ = some (.int .i64 y) ∧ w'.cell? ⟨w.heap.size, 8, none⟩ = some (.int .i64 z) ∧ w'.cell? ⟨w.heap.size, 9, none⟩ = some (.int .i64 p) ∧ w'.cell? ⟨w.heap.size, 10, none⟩ = some (.int .i64 q) ∧ w'.cell? ⟨w.heap.size, 11, none⟩ = some f) (first | assumption | exact Box12.keep hb hK (by assumption) | exact Box12.keep hb2 (Nat.lt_succ_self _) (by assumption))
        (first
        | (go_at_call 34; refine (kn2.out _ RB.out.drew).mono ?_; rintro e w1 ⟨rfl, hb⟩; have hI1 := builder_below (W := wr) RI.out ((Below.drew (Below.refl _ wr)).trans hb))
        | (go_at_call 33; refine (Sh.Builder_WriteString_k (w.heap.size + 1) (w.heap.size + 1) _ _ _ hI1 (by rw [Lib.byteCells_length]; rw [la_size]; omega) (by have := hb.size; first | omega | (simp at this; omega))).mono ?_; rintro e w2 ⟨rfl, hI2, hb2, hk2⟩))
      have hW : Below w.heap.size w w1 := RB.out.drew.trans (hb.mono RB.out.size)
      have hW2 : Below w.heap.size w w2 := hW.trans (hb2.mono (by omega))
      have hR2 : Row w2 w.heap.size 41 (shC pl c d m le sk x y z p q f) := (RR.out.below ((Below.drew (Below.refl _ wr)).trans hb) hK).below hb2 (Nat.lt_succ_self _)
      have hI3 : Lib.IsBuilderF 61 5 (w.heap.size + 1) (w.heap.size + 1) (Lib.byteCells (say pl d m (filled pl (nearM pl c) y z p F (n + 1)))) w2 := by
        rw [HF.out, say_app, ← byteCells_app, ← strCells_la (say pl d m (opT pl (nearM pl c) y z p kk))]
        exact .inr hI2
      have HI3 := Lib.hid hI3
      have HW2 := Lib.hid hW2
      have HR2 := Lib.hid hR2
      clear hI3 hW2 hR2 hW hI2 hb hb2 hk2 hI1 hs
      go_wp2
      go_roundw
      case rel => exact ⟨n + 1, by omega, by go_num, HI3.out, HR2.out, HW2.out⟩
      case measure => simp [intOf]; omega
    · obtain rfl : n = F.length := by omega
      have hlt2 : w.heap.size + 1 < wr.heap.size := by
        rcases RI.out with h | h
        · exact h.lt
        · exact h.lt
      go_wp2_with fail
      refine (Sh.Builder_String_any_k (w.heap.size + 1) (w.heap.size + 1) _ _ RI.out (by omega)).mono ?_
      rintro e w2 ⟨rfl, -, hb2, -⟩
      have hW2 : Below w.heap.size w w2 := RB.out.trans (hb2.mono (by omega))
      go_wp2
      go_ret
      exact ⟨rfl, hW2⟩
end Go.Proofs.YtgdpafldhmchpaaDoor
