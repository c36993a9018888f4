/- The law's walk and what it wants (several texts in one). -/
import Derived.Test.YtmnddlkhgajenaaGreatDoorAcG19
namespace Go.Proofs.YtmnddlkhgajenaaGreatDoor
open Go.RowKit
set_option linter.unusedVariables false
set_option linter.unusedSimpArgs false
set_option maxRecDepth 20000
set_option maxHeartbeats 20000000
def onG (g : Rg) : Rg := { g with r := tickR g.r 1, pc := (g.pc + 1) % 65536, late := true, iff1 := true, iff2 := true }
def offG (g : Rg) : Rg := { g with r := tickR g.r 1, pc := (g.pc + 1) % 65536, late := false, iff1 := false, iff2 := false }
def laterG (g : Rg) : Rg := { g with r := tickR g.r 1, pc := (g.pc + 1) % 65536, late := false }
theorem ei_on (g : Rg) : rgOf (nextOf { g with halted := false } [251]) = onG { g with halted := false } := by kernel_rfl
theorem di_off (g : Rg) : rgOf (nextOf { g with halted := false } [243]) = offG { g with halted := false } := by kernel_rfl
theorem nop_later (g : Rg) : rgOf (nextOf { g with halted := false } [0]) = laterG { g with halted := false } := by kernel_rfl
theorem RgB.on {g : Rg} (h : RgB g) : RgB (onG g) := ⟨h.af, h.bc, h.de, h.hl, h.af2, h.bc2, h.de2, h.hl2, h.ix, h.iy, h.sp, by show Wd16 ((g.pc + 1) % 65536); exact ⟨by omega, by omega⟩, h.wz, h.i, (h.tick 1).r, h.mode⟩
theorem acceptNone_walk (g : Rg) (irq : Bool) (A : Option Addr) (cap : Nat) (xs : List Int) (hg : RgB g) (w : World) (hc : xs.length ≤ cap) (hm : cap ≤ maxLen) (h8 : Bytes8 xs) (hin : BytesIn w w.heap.size A xs) (hn : A = none → cap = 0) (hM : Masks w) (hD : Digits w) (hC : Courses w) (hO : Modes w) :
    Calls Tryz.prog 7 #[regsV g, .bool irq, .slice A xs.length cap] w fun e w' => e = .returned (.bool true) ∧ Below w.heap.size w w' := by
  have ht : Tabs w w.heap.size := (NextTabs.mk hM hC hD hO).tabs
  obtain ⟨G, hG⟩ : ∃ G : Rg, G = { g with halted := false } := ⟨_, rfl⟩
  have hGb : RgB G := by subst hG; exact ⟨hg.af, hg.bc, hg.de, hg.hl, hg.af2, hg.bc2, hg.de2, hg.hl2, hg.ix, hg.iy, hg.sp, hg.pc, hg.wz, hg.i, hg.r, hg.mode⟩
  go_enter Tryz.func7, Tryz.ntmps7
  refine coStart <| qQ [] (Many.begin w) fun w1 k1 => coR <| qC (awake13_any w1 (ht.below k1.touch.below)) k1 fun w2 k2 => qE [] k2 fun w3 k3 => coS <| qQ [] k3 fun w4 k4 => coF <| coSkip <| eoT <| coS <| qQ [] k4 fun w5 k5 => coI (decide ((xs.length : Int) > 30)) (fun _ => qQ [] k5 fun w k => coRet <| eoTr <| eoIr (.bool true) ⟨rfl, k.touch.below⟩) fun hle => coSkip <| eoT <| qQ [0] k5 fun w6 k6 => ?_
  have hl : xs.length ≤ 1000000000 := by have : ¬ ((xs.length : Int) > 30) := by simpa using hle
                                         omega
  have k6 := k6.take 1 [⟨w.heap.size, 24, (regsC { g with halted := false }).toList.map some⟩]
  rw [← hG] at k6
  have h06 : w.heap.size < w6.heap.size := k6.lt 0 _ rfl
  obtain ⟨T, hT⟩ : ∃ T, T = ofX (nextOf G xs) := ⟨_, rfl⟩
  obtain ⟨c, hcE⟩ : ∃ c, c = T.c := ⟨_, rfl⟩
  obtain ⟨s, hsE⟩ : ∃ s, s = T.g := ⟨_, rfl⟩
  obtain ⟨d, hdE⟩ : ∃ d, d = T.b := ⟨_, rfl⟩
  have rA : Row w6 w.heap.size 24 (regsC G) := k6.row 0 (regsC G).toList (by kernel_rfl)
  have hB6 := k6.touch.below
  have KA : ∀ W, Below w6.heap.size w6 W → Calls Tryz.prog 9 #[regsV G, .int .i64 0, .slice A xs.length cap] W fun e w' => e = .returned (.tuple #[cyV c, regsV s, .bool d]) ∧ Below W.heap.size W w' := fun W hW => by
    have hwW := hB6.trans (hW.mono hB6.size)
    have := accept_any G hGb 0 A cap xs hc h8 hl W ((hin.below hwW).more hwW.size) (ht.below hwW)
    rw [show accOf G 0 xs = T from hT.symm] at this
    rw [hcE, hsE, hdE]
    exact this
  have KW : ∀ W, Calls Tryz.prog 11 #[regsV G, .bool false, .bool false] W fun e w' => e = .returned (.int .i64 0) ∧ Below W.heap.size W w' := fun W => which_any G false false W
  refine coBox [(some 31, .val (regsV G)), (some 32, .val (regsV G)), (some 33, .call (.int .i64 0)), (some 34, .val (.slice A xs.length cap)), (some 35, .call (.tuple #[cyV c, regsV s, .bool d])), (some 30, .val (.tuple #[cyV c, regsV s, .bool d])), (some 36, .val (cyV c)), (some 37, .val (regsV s)), (some 38, .val (.bool d)), (some 8, .box 28 (cyC zeroCy) (some (11, cyC c)) none), (some 9, .box 24 (regsC zeroRg) (some (12, regsC s)) none), (none, .put 9), (none, .put 10), (some 10, .val (.bool d))] ⟨fun p l a w I hd => heLoad rfl (by kernel_rfl) (ldR (rA.below I.below rA.lt).range), fun p l a w I hd => heLoad rfl (by kernel_rfl) (ldR (rA.below I.below rA.lt).range), fun p l a w I hd => ⟨_, _, (by kernel_rfl), KW w⟩, fun p l a w I hd => heMove (.inl rfl) (by kernel_rfl) w, fun p l a w I hd => ⟨_, _, (by kernel_rfl), KA w I.below⟩, fun p l a w I hd => heMove (.inl rfl) (by kernel_rfl) w, fun p l a w I hd => heExtract (vs := #[cyV c, regsV s, .bool d]) rfl (by kernel_rfl) (by kernel_rfl) w, fun p l a w I hd => heExtract (vs := #[cyV c, regsV s, .bool d]) rfl (by kernel_rfl) (by kernel_rfl) w, fun p l a w I hd => heExtract (vs := #[cyV c, regsV s, .bool d]) rfl (by kernel_rfl) (by kernel_rfl) w, ⟨fun k vs e => (by cases e; rfl), fun p l a w I hd => heAlloc rfl (allocCy w)⟩, ⟨fun k vs e => (by cases e; rfl), fun p l a w I hd => heAlloc rfl (allocRg w)⟩, fun p l a w I hd d t z s vs hj hr => (by cases hj; exact heStore rfl (by kernel_rfl) (by kernel_rfl) (stCy hr)), fun p l a w I hd d t z s vs hj hr => (by cases hj; exact heStore rfl (by kernel_rfl) (by kernel_rfl) (stRow hr)), fun p l a w I hd => heMove (.inr rfl) (by kernel_rfl) w, trivial⟩ fun p wb hE => ?_
  have hCb := hE.2.1 9 _ _ _ _ _ rfl
  have hSb := hE.2.1 10 _ _ _ _ _ rfl
  have hpn : p 9 ≠ p 10 := hE.2.2 9 10 _ _ _ _ _ _ _ _ _ _ rfl rfl (by decide)
  have q0 := hCb.1
  have q1 := hSb.1
  have kb : Many w [] [⟨w.heap.size, 24, (regsC G).toList.map some⟩, ⟨p 9, 28, (cyC c).toList.map some⟩, ⟨p 10, 24, (regsC s).toList.map some⟩] wb :=
    (k6.fresh hE.1 hCb.2 hCb.1).add hSb.2 (Nat.le_trans k6.touch.size hSb.1) (ac_two_ne (by omega) hpn)
  clear hCb hSb hE KA
  have KB : ∀ W, Below w.heap.size w W → Calls Tryz.prog 17 #[regsV G, .slice A xs.length cap] W fun e w' => e = .returned (.tuple #[cyV c, regsV s, .bool d]) ∧ Below W.heap.size W w' := fun W hW => by
    have := ac_rnext G hGb A cap xs hc h8 hl W ((hin.below hW).more hW.size)
    rw [← hT] at this
    rw [hcE, hsE, hdE]
    exact this
  have KON := fun (W : World) (b : Nat) (hb : BytesIn W W.heap.size (some ⟨b, 0, none⟩) [251]) => ac_rnext G hGb (some ⟨b, 0, none⟩) 1 [251] (Nat.le_refl _) (fun x hx => by cases List.mem_singleton.1 hx; exact ⟨by decide, by decide⟩) (by simp) W hb
  have KOF := fun (W : World) (b : Nat) (hb : BytesIn W W.heap.size (some ⟨b, 0, none⟩) [243]) => ac_rnext G hGb (some ⟨b, 0, none⟩) 1 [243] (Nat.le_refl _) (fun x hx => by cases List.mem_singleton.1 hx; exact ⟨by decide, by decide⟩) (by simp) W hb
  obtain ⟨T1, hT1⟩ : ∃ T, T = ofX (nextOf G [251]) := ⟨_, rfl⟩
  obtain ⟨T2, hT2⟩ : ∃ T, T = ofX (nextOf G [243]) := ⟨_, rfl⟩
  rw [← hT1] at KON
  rw [← hT2] at KOF
  have g1 : T1.g = onG G := by rw [hT1, hG]; exact ei_on g
  have g2 : T2.g = offG G := by rw [hT2, hG]; exact di_off g
  have KLA := fun (W : World) (b : Nat) (hb : BytesIn W W.heap.size (some ⟨b, 0, none⟩) [0]) => ac_rnext (onG G) hGb.on (some ⟨b, 0, none⟩) 1 [0] (Nat.le_refl _) (fun x hx => by cases List.mem_singleton.1 hx; exact ⟨by decide, by decide⟩) (by simp) W hb
  obtain ⟨T3', hT3⟩ : ∃ T, T = ofX (nextOf (onG G) [0]) := ⟨_, rfl⟩
  rw [← hT3] at KLA
  have g3 : T3'.g = laterG (onG G) := by rw [hT3, hG]; exact nop_later (onG { g with halted := false })
  have w1e : whichM T1.g false irq = 0 := by rw [g1]; cases irq <;> rfl
  have w2e : whichM T2.g false irq = 0 := by rw [g2]; cases irq <;> rfl
  have w3e : whichM T3'.g false irq = if irq then 2 else 0 := by rw [g3]; cases irq <;> rfl
  have KW1 := fun W => which_any T1.g false irq W
  have KW2 := fun W => which_any T2.g false irq W
  have KW3 := fun W => which_any T3'.g false irq W
  rw [w1e] at KW1
  rw [w2e] at KW2
  rw [w3e] at KW3
  rw [← g1] at KLA
  clear g1 g2 g3 w1e w2e w3e hT hT1 hT2 hT3 hcE hsE hdE rA
  refine coR <| qR 2 [0] kb fun wc kc => qC (KB wc kc.touch.below) kc fun wd kd => qE [3, 4] kd fun we ke => coS <| coR <| qR 2 [1, 3] ke fun wf kf => kBj 48 (cyV c) (cyV c) (.bool false) (cy_guard _ _ _ _ _) (cy_neq c) <| qR 3 [2, 4] kf fun wg kg => kBj 52 (regsV s) (regsV s) (.bool false) (regs_guard _ _ _ _ _) (regs_neq s) <| qR 4 [] kg fun wh kh => kBj 57 (.bool d) (.bool d) (.bool false) (ac_egB _ _ _ _ _) (ac_neB d) <| qE [] kh fun wi ki => coF <| coSkip <| eoT <| coR <| qR 2 [0] ki fun wj kj => ?_
  refine qC (KON wj wi.heap.size (plane_row (t := 5) (kj.row 5 (bvs [251]) (by kernel_rfl)))) kj fun wk kk => qE [6, 7] kk fun wl kl => coR <| qR 2 [0] kl fun wm km => ?_
  refine qC (KOF wm wl.heap.size (plane_row (t := 5) (km.row 8 (bvs [243]) (by kernel_rfl)))) km fun wn kn => qE [9, 10] kn fun wo ko => coR <| qR 2 [7] ko fun wp kp => ?_
  refine qC (KLA wp wo.heap.size (plane_row (t := 5) (kp.row 11 (bvs [0]) (by kernel_rfl)))) kp fun wq kq => qE [12, 13] kq fun wr kr => coR <| qR 2 [7] kr fun ws ks => qC (KW1 ws) ks fun wt kt => qR 4 [10] kt fun wu ku => qC (KW2 wu) ku fun wv kv => qR 5 [13] kv fun ww kw => qC (KW3 ww) kw fun wx kx => ?_
  cases irq with
  | false => exact qE [] kx fun wy ky => coRet <| eoIr (.bool true) ⟨rfl, ky.touch.below⟩
  | true => exact qE [] kx fun wy ky => coRet <| eoIr (.bool true) ⟨rfl, ky.touch.below⟩
end Go.Proofs.YtmnddlkhgajenaaGreatDoor
