/- Layer 14 (cells): the laws' walks. -/
import Derived.Test.YtahnejcfengljaaCellsAwake
import Derived.Test.YtahnejcfengljaaDecodeMath
import Derived.Test.YtahnejcfengljaaBytesStr
namespace Go.Proofs.Ytahnejcfengljaa
open Go.RowKit
set_option linter.unusedVariables false
set_option linter.unusedSimpArgs false
set_option maxRecDepth 20000

theorem eqE (x : Int) (w : World) : (binOp .eql 25 (.int .i64 x) (.int .i64 x)).run Try.prog w = .ok (.bool true) w := by simp [go_sem]
theorem guardE (op : BinOp) (x y : Operand) (a b : Int) (w : World) : (eqGuard op 25 x y (.int .i64 a) (.int .i64 b)).run Try.prog w = .ok () w := by simp [go_sem]
theorem eq8s (x : Int) (w : World) : (binOp .eql 5 (.int .u8 x) (.int .u8 x)).run Try.prog w = .ok (.bool true) w := by simp [go_sem]
theorem guard8 (op : BinOp) (x y : Operand) (a b : Int) (w : World) : (eqGuard op 5 x y (.int .u8 a) (.int .u8 b)).run Try.prog w = .ok () w := by simp [go_sem]
theorem csame_self (A : Option Addr) (cap : Nat) (A' : Option Addr) (cap' : Nat) (l : List (Int × Int)) (hl : l.length ≤ 1000000000) (w : World) (hin : CellsIn w w.heap.size A l) (hin' : CellsIn w w.heap.size A' l) :
    Calls Try.prog 10 #[.slice A l.length cap, .slice A' l.length cap'] w fun e w' => e = .returned (.bool true) ∧ Below w.heap.size w w' :=
  (csame_any A cap l A' cap' l hl w hin hin').mono fun e w' ⟨h1, h2⟩ => ⟨by rw [h1, decide_eq_true rfl], h2⟩
theorem cellsTell_walk (A : Option Addr) (cap : Nat) (l : List (Int × Int)) (at_ b : Int) (a0 : 0 ≤ at_) (a1 : at_ ≤ 65535) (b0 : 0 ≤ b) (b1 : b ≤ 255) (w : World) (hc : l.length ≤ cap) (hm : cap ≤ maxLen) (h16 : Cells16 l) (hin : CellsIn w w.heap.size A l) (hn : A = none → cap = 0) :
    Calls Try.prog 3 #[.slice A l.length cap, .int .u16 at_, .int .u8 b] w fun e w' => e = .returned (.bool true) ∧ Below w.heap.size w w' := by
  go_enter Try.func3, Try.ntmps3
  refine coStart <| qQ [] (Many.begin w) fun w1 k1 => coR <| kO (awake14_any w1) fun w2 hb2 => qE [] (k1.below hb2) fun w3 k3 => coS <| qQ [] k3 fun w4 k4 => coF <| coSkip <| eoT <| coS <| qQ [] k4 fun w5 k5 => coI (decide ((l.length : Int) > 60)) (fun _ => qQ [] k5 fun w6 k6 => coRet <| eoTr <| eoIr (.bool true) ⟨rfl, k6.touch.below⟩) fun hle => coSkip <| eoT ?_
  have hle : l.length ≤ 60 := by have : ¬ ((l.length : Int) > 60) := by simpa using hle
                                 omega
  have H : ∀ {W : World}, Below w.heap.size w W → CellsIn W W.heap.size A l := fun k => (hin.below k).more k.size
  have hl2 : (mkS (l ++ [(at_, b)])).length ≤ 1000 := by have := len_mkS (l ++ [(at_, b)]); simp at this; omega
  have hl1 : (mkS l).length ≤ 1000 := by have := len_mkS l; omega
  refine coR <| qR 1 [] k5 fun w6 k6 => kO (ccheck_any A cap l (by omega) h16 w6 (H k6.touch.below)) fun w7 h7 => qR 1 [] (k6.below h7) fun w8 k8 => kO (rccheck_any A cap l (by omega) h16 w8 (H k8.touch.below)) fun w9 h9 => wM (xBin (guardE _ _ _ (cerrI (okC 0 l)) (cerrI (okC 0 l)) _) (eqE (cerrI (okC 0 l)) _)) <| qR 2 [] (k8.below h9) fun wa ka => kX (cmake_any A cap l (by omega) h16 wa (H ka.touch.below)) ?_
  rintro e wb ⟨A1, c1, rfl, m1, -, -, hb⟩
  have hBb : Below w.heap.size w wb := (ka.below hb).touch.below
  refine ⟨_, rfl, qR 1 [] (Many.begin wb) fun wc kc => kX (rcmake_any A cap l (by omega) h16 wc (H (bOn hBb kc))) ?_⟩
  rintro e wd ⟨A2, c2, rfl, m2, -, -, hd⟩
  have hbd : Below wb.heap.size wb wd := kc.touch.below.trans (hd.mono kc.touch.size)
  have hBd : Below w.heap.size w wd := hBb.trans (hbd.mono hBb.size)
  refine ⟨_, rfl, kO (csame_self A1 c1 A2 c2 (mkS l) (by omega) wd ((m1.below hbd).more hbd.size) m2) fun we he => qR 4 [] (Many.begin we) fun wf kf => ?_⟩
  have hBe : Below w.heap.size w we := hBd.trans (he.mono hBd.size)
  refine kO (cget_any A cap l at_ (by omega) wf (H (bOn hBe kf))) fun wg hg => qR 2 [] (kf.below hg) fun wh kh => kO (rcget_any A cap l at_ (by omega) wh (H (bOn hBe kh))) fun wi hi => wM (xBin (guard8 _ _ _ (getC l at_) (getC l at_) _) (eq8s (getC l at_) _)) <| qR 5 [] (kh.below hi) fun wj kj => kX (cput_any A cap l at_ b (by omega) h16 ⟨a0, a1⟩ ⟨b0, b1⟩ wj (H (bOn hBe kj))) ?_
  rintro e wk ⟨A3, c3, rfl, m3, -, -, hk⟩
  have hBk : Below w.heap.size w wk := (bOn hBe kj).trans (hk.mono (bOn hBe kj).size)
  refine ⟨_, rfl, qR 3 [] (Many.begin wk) fun wl kl => kX (rcput_any A cap l at_ b (by omega) h16 ⟨a0, a1⟩ ⟨b0, b1⟩ wl (H (bOn hBk kl)) hn) ?_⟩
  rintro e wn ⟨A4, c4, rfl, m4, -, -, hwn⟩
  have hkn : Below wk.heap.size wk wn := kl.touch.below.trans (hwn.mono kl.touch.size)
  have hBn : Below w.heap.size w wn := hBk.trans (hkn.mono hBk.size)
  refine ⟨_, rfl, kO (csame_self A3 c3 A4 c4 (mkS (l ++ [(at_, b)])) (by omega) wn ((m3.below hkn).more hkn.size) m4) fun wo ho => qE [] (Many.begin wo) fun wp kp => coRet <| eoIr (.bool true) ⟨rfl, bOn (hBn.trans (ho.mono hBn.size)) kp⟩⟩

def keepB (A : Option Addr) (nl cap : Nat) (at_ b : Int) (A1 : Option Addr) (n1 c1 : Nat) (A2 : Option Addr) (n2 c2 : Nat) (x : LoopK) : List Value := [.slice A nl cap, .int .u16 at_, .int .u8 b, x.y 3, x.y 4, x.y 5, x.y 6, x.y 7, .slice A1 n1 c1, .slice A2 n2 c2, .int .i64 (x.k : Int), x.y 11, x.y 12, x.y 13, x.y 14, x.y 15, x.y 16, x.y 17, x.y 18, x.y 19, x.y 20, x.y 21, x.y 22, x.y 23, x.y 24, x.y 25, x.y 26, x.y 27, x.y 28, x.y 29, x.y 30, x.y 31, x.y 32, x.y 33, x.y 34, x.y 35, x.y 36, x.y 37, x.y 38, x.y 39, x.y 40, x.y 41, x.y 42, x.y 43, x.y 44, x.y 45, x.y 46, x.y 47, x.y 48, x.y 49, x.y 50, x.y 51, x.y 52, x.y 53, x.y 54, x.y 55, x.y 56, x.y 57, x.y 58, x.y 59, x.y 60, x.y 61, x.y 62, x.y 63, x.y 64, x.y 65, x.y 66, x.y 67, x.y 68, x.y 69, x.y 70, x.y 71, x.y 72, x.y 73, x.y 74, x.y 75, x.y 76, x.y 77, x.y 78, x.y 79, x.y 80, x.y 81, x.y 82, x.y 83, x.y 84, x.y 85, x.y 86, x.y 87, x.y 88, x.y 89, x.y 90]
def keepI (w0 : World) (m : List (Int × Int)) (x : LoopK) (W : World) : Prop := Below w0.heap.size w0 W ∧ x.k ≤ m.length
theorem cellsKeep_walk (A : Option Addr) (cap : Nat) (l : List (Int × Int)) (at_ b : Int) (a0 : 0 ≤ at_) (a1 : at_ ≤ 65535) (b0 : 0 ≤ b) (b1 : b ≤ 255) (w : World) (hc : l.length ≤ cap) (hm : cap ≤ maxLen) (h16 : Cells16 l) (hin : CellsIn w w.heap.size A l) (hn : A = none → cap = 0) :
    Calls Try.prog 6 #[.slice A l.length cap, .int .u16 at_, .int .u8 b] w fun e w' => e = .returned (.bool true) ∧ Below w.heap.size w w' := by
  go_enter Try.func6, Try.ntmps6
  refine coStart <| qQ [] (Many.begin w) fun w1 k1 => coR <| kO (awake14_any w1) fun w2 hb2 => qE [] (k1.below hb2) fun w3 k3 => coS <| qQ [] k3 fun w4 k4 => coF <| coSkip <| eoT <| coS <| qQ [] k4 fun w5 k5 => coI (decide ((l.length : Int) > 60)) (fun _ => qQ [] k5 fun w6 k6 => coRet <| eoTr <| eoIr (.bool true) ⟨rfl, k6.touch.below⟩) fun hle => coSkip <| eoT ?_
  have hle : l.length ≤ 60 := by have : ¬ ((l.length : Int) > 60) := by simpa using hle
                                 omega
  have H : ∀ {W : World}, Below w.heap.size w W → CellsIn W W.heap.size A l := fun k => (hin.below k).more k.size
  refine coR <| qR 1 [] k5 fun w6 k6 => kX (cmake_any A cap l (by omega) h16 w6 (H k6.touch.below)) ?_
  rintro e w7 ⟨A1, c1, rfl, m1, -, -, h7⟩
  obtain ⟨m, hmE⟩ : ∃ m, m = mkS l := ⟨_, rfl⟩
  have hlm : m.length ≤ 60 := by have := len_mkS l; rw [hmE]; omega
  have hsm : Srt m := by rw [hmE]; exact srt_mkS l
  have hzm : NoZero m := by rw [hmE]; exact nz_mkS l
  have h16m : Cells16 m := by rw [hmE]; exact c16_mkS h16
  rw [← hmE] at m1 ⊢
  have hB7 : Below w.heap.size w w7 := (k6.below h7).touch.below
  refine ⟨_, rfl, qE [] (Many.begin w7) fun w8 k8 => coR <| qR 3 [] k8 fun w9 k9 => kX (cput_any A1 c1 m at_ b (by omega) h16m ⟨a0, a1⟩ ⟨b0, b1⟩ w9 ((m1.below k9.touch.below).more k9.touch.size)) ?_⟩
  rintro e wa ⟨A2, c2, rfl, n1, -, -, ha⟩
  obtain ⟨n, hnE⟩ : ∃ n, n = mkS (m ++ [(at_, b)]) := ⟨_, rfl⟩
  have hln : n.length ≤ 61 := by have := len_mkS (m ++ [(at_, b)]); simp at this; rw [hnE]; omega
  have hsn : Srt n := by rw [hnE]; exact srt_mkS _
  have hzn : NoZero n := by rw [hnE]; exact nz_mkS _
  have h16n : Cells16 n := by rw [hnE]; exact c16_mkS (c16_append h16m fun c hc => by simp at hc; rw [hc]; exact ⟨a0, a1, b0, b1⟩)
  have hgn : ∀ x, getC n x = if at_ = x then b else getC m x := fun x => by rw [hnE, getC_mkS, getC_snoc]
  rw [← hnE] at n1 ⊢
  have h7a : Below w7.heap.size w7 wa := k9.touch.below.trans (ha.mono k9.touch.size)
  have hBa : Below w.heap.size w wa := hB7.trans (h7a.mono hB7.size)
  have ma : CellsIn wa wa.heap.size A1 m := (m1.below h7a).more h7a.size
  have Hm : ∀ {W : World}, Below wa.heap.size wa W → CellsIn W W.heap.size A1 m := fun k => (ma.below k).more k.size
  have Hn : ∀ {W : World}, Below wa.heap.size wa W → CellsIn W W.heap.size A2 n := fun k => (n1.below k).more k.size
  refine ⟨_, rfl, qE [] (Many.begin wa) fun wb kb => coS <| coR <| qR 2 [] kb fun wc kc => kO (cget_any A2 c2 n at_ (by omega) wc (Hn kc.touch.below)) fun wd hd => qR 3 [] (kc.below hd) fun we ke => ?_⟩
  have e1 : (getC n at_ != b) = false := by rw [hgn, if_pos rfl]; simp
  refine tell 28 e1 <| qR 1 [] ke fun wf kf => kO (ccheck_any A2 c2 n (by omega) h16n wf (Hn kf.touch.below)) fun wg hg => ?_
  have ok1 : okC 0 n = true := okC_srt 0 hsn hzn fun c hc => (h16n c hc).1
  have ok2 : okC 0 m = true := okC_srt 0 hsm hzm fun c hc => (h16m c hc).1
  rw [ok1]
  refine qR 4 [] (kf.below hg) fun wh kh => kO (ccheck_any A1 c1 m (by omega) h16m wh (Hm kh.touch.below)) fun wi hi => ?_
  rw [ok2]
  refine qE [] (kh.below hi) fun wj kj => coF <| coSkip <| eoT <| coS <| qQ [] kj fun wk kk => coB <| ?_
  refine coLoop (keepB A l.length cap at_ b A1 m.length c1 A2 n.length c2) (keepI wa m) (fun x => m.length - x.k) (fun y => ⟨0, y⟩) ⟨kk.touch.below, Nat.zero_le _⟩ ?_
  clear kk kj kh kf ke kc kb
  rintro ⟨k, y⟩ W ⟨hB, hk⟩
  have hk : k ≤ m.length := hk
  have hB : Below wa.heap.size wa W := hB
  refine coS <| qQ [] (Many.begin W) fun wb kb => coI (decide ((k : Int) < (m.length : Int))) (fun hlt => coSkip <| eoT <| coS <| coB <| ?_) fun hge => coX <| eoTx <| eoTx <| eoBx <| eoT ?_
  · have hlt : k < m.length := by have : (k : Int) < (m.length : Int) := by simpa using hlt
                                  omega
    obtain ⟨p, rfl, -⟩ := ma.at_ hlt
    have hmk := getC_srt hsm (List.getElem_mem hlt)
    refine coD 21 (bOn hB kb) fun wc hc hB2 => qM [0, 1] hB2 <| qT 2 hB2 (fun w' _ => xIndex (cixC p m.length c1 k hlt _)) <| qT 3 hB2 (fun w' _ => xField (fldC0 (p.add (k * 2)) _)) <| qT 4 hB2 (fun w' hS => xLoad ((ma.below hS).ld0 hlt)) <| qM [5, 6, 7] hB2 ?_
    by_cases h1 : m[k].1 = at_
    · have e1 : (m[k].1 != at_) = false := by simp [h1]
      refine tellP 51 e1 <| qM [8, 9, 10, 11, 12, 13, 14, 15, 16, 17, 18, 19, 20] hB2 <| poE <| qE [] (Many.begin wc) fun wd kd => coF <| coSkip <| eoB <| eoT <| coZ <| qR 1 [] kd fun we ke => wM (xInc k (by omega)) <| qF [] ke fun wf kf => eoRound (fun y => ⟨k + 1, y⟩) ⟨bOn hB2 kf, hlt⟩ (by show m.length - (k + 1) < m.length - k; omega)
    · have e1 : (m[k].1 != at_) = true := by simp [h1]
      have e2 : (getC n m[k].1 != m[k].2) = false := by rw [hgn, if_neg (fun e => h1 e.symm), hmk]; simp
      refine tellP 51 e1 <| qM [8, 9, 10] hB2 <| qT 11 hB2 (fun w' _ => xIndex (cixC p m.length c1 k hlt _)) <| qT 12 hB2 (fun w' _ => xField (fldC0 (p.add (k * 2)) _)) <| qT 13 hB2 (fun w' hS => xLoad ((ma.below hS).ld0 hlt)) <| qM [15, 16] hB2 <| qT 17 hB2 (fun w' _ => xIndex (cixC p m.length c1 k hlt _)) <| qT 18 hB2 (fun w' _ => xField (fldC1 (p.add (k * 2)) _)) <| qT 19 hB2 (fun w' hS => xLoad ((ma.below hS).ld1 hlt)) <| poOne 14 <| soC (cget_any A2 c2 n m[k].1 (by omega) wc (Hn hB2)) fun e wd ⟨he, hd⟩ => ⟨_, he, hB2.trans (hd.mono hB2.size), qM [20] (hB2.trans (hd.mono hB2.size)) <| tellP 64 e2 <| poE <| qE [] (Many.begin wd) fun we ke => coF <| coSkip <| eoB <| eoT <| coZ <| qR 1 [] ke fun wf kf => wM (xInc k (by omega)) <| qF [] kf fun wg kg => eoRound (fun y => ⟨k + 1, y⟩) ⟨bOn (hB2.trans (hd.mono hB2.size)) kg, hlt⟩ (by show m.length - (k + 1) < m.length - k; omega)⟩
  · have back : mkS (n ++ [(at_, getC m at_)]) = m := mkS_get hsm hzm fun a => by
      rw [getC_snoc, hgn]
      by_cases e : at_ = a
      · rw [if_pos e, e]
      · rw [if_neg e, if_neg e]
    have next : getC n ((at_ + 1) % 65536) = getC m ((at_ + 1) % 65536) := by rw [hgn, if_neg (by omega)]
    have gb := getC_b8 h16m at_
    refine coR <| qR 4 [] kb fun wc kc => kO (cget_any A1 c1 m at_ (by omega) wc (Hm (bOn hB kc))) fun wd hd => kX (cput_any A2 c2 n at_ (getC m at_) (by omega) h16n ⟨a0, a1⟩ gb wd (Hn ((bOn hB kc).trans (hd.mono (bOn hB kc).size)))) ?_
    rintro e we ⟨A3, c3, rfl, m3, -, -, hwe⟩
    rw [back] at m3 ⊢
    have hBd := (bOn hB kc).trans (hd.mono (bOn hB kc).size)
    have hBe : Below wa.heap.size wa we := hBd.trans (hwe.mono hBd.size)
    refine ⟨_, rfl, qR 1 [] (Many.begin we) fun wf kf => kO (csame_self A3 c3 A1 c1 m (by omega) wf ((m3.below kf.touch.below).more kf.touch.size) (Hm (bOn hBe kf))) fun wg hg => qR 3 [] (kf.below hg) fun wh kh => wM (xBin (guard16 _ _ _ at_ 1 _) (add16 at_ 1 _)) <| kO (cget_any A2 c2 n ((at_ + 1) % 65536) (by omega) wh (Hn (bOn hBe kh))) fun wi hi => qR 2 [] (kh.below hi) fun wj kj => wM (xBin (guard16 _ _ _ at_ 1 _) (add16 at_ 1 _)) <| kO (cget_any A1 c1 m ((at_ + 1) % 65536) (by omega) wj (Hm (bOn hBe kj))) fun wk hk2 => wM (xBin (guard8 _ _ _ (getC n ((at_ + 1) % 65536)) (getC m ((at_ + 1) % 65536)) _) (by rw [next]; exact eq8s _ _)) <| qR 3 [] (kj.below hk2) fun wl kl => kX (cmake_any A1 c1 m (by omega) h16m wl (Hm (bOn hBe kl))) ?_⟩
    rintro e wn ⟨A4, c4, rfl, m4, -, -, hwn⟩
    rw [mkS_self hsm hzm] at m4 ⊢
    have hBn : Below wa.heap.size wa wn := (bOn hBe kl).trans (hwn.mono (bOn hBe kl).size)
    refine ⟨_, rfl, qR 1 [] (Many.begin wn) fun wo ko => kO (csame_self A4 c4 A1 c1 m (by omega) wo ((m4.below ko.touch.below).more ko.touch.size) (Hm (bOn hBn ko))) fun wp hp => qE [] (ko.below hp) fun wq kq => coRet <| eoIr (.bool true) ⟨rfl, hBa.trans ((bOn hBn kq).mono hBa.size)⟩⟩
theorem dumpL_len (l : List (Int × Int)) (at_ : Int) (k : Nat) (h : k ≤ 4096) : (dumpL l at_ (k : Int)).length = k ∧ dumpL l at_ (k : Int) = dumpN l at_ k := by
  have e : min ((k : Int)).toNat 4096 = k := by simp; omega
  unfold dumpL
  rw [e]
  exact ⟨dumpN_length _ _ _, rfl⟩
theorem cellsLoad_walk (A : Option Addr) (cap : Nat) (l : List (Int × Int)) (at_ : Int) (A' : Option Addr) (cap' : Nat) (bs : List Int) (a0 : 0 ≤ at_) (a1 : at_ ≤ 65535) (w : World) (hc : l.length ≤ cap) (hm : cap ≤ maxLen) (h16 : Cells16 l) (hin : CellsIn w w.heap.size A l) (hn : A = none → cap = 0)
    (hc' : bs.length ≤ cap') (hm' : cap' ≤ maxLen) (h8 : Bytes8 bs) (hy : BytesIn w w.heap.size A' bs) (hn' : A' = none → cap' = 0) :
    Calls Try.prog 4 #[.slice A l.length cap, .int .u16 at_, .slice A' bs.length cap'] w fun e w' => e = .returned (.bool true) ∧ Below w.heap.size w w' := by
  go_enter Try.func4, Try.ntmps4
  refine coStart <| qQ [] (Many.begin w) fun w1 k1 => coR <| kO (awake14_any w1) fun w2 hb2 => qE [] (k1.below hb2) fun w3 k3 => coS <| qQ [] k3 fun w4 k4 => coF <| coSkip <| eoT <| coS <| coR <| qR 4 [] k4 fun w5 k5 => ?_
  by_cases g1 : (l.length : Int) > 40
  · exact tell 15 (decide_eq_true g1) <| qE [] k5 fun w6 k6 => coT <| qQ [] k6 fun w7 k7 => coRet <| eoTr <| eoIr (.bool true) ⟨rfl, k7.touch.below⟩
  refine tell 15 (decide_eq_false g1) <| qE [] k5 fun w6 k6 => coI (decide ((bs.length : Int) > 60)) (fun _ => qQ [] k6 fun w7 k7 => coRet <| eoTr <| eoIr (.bool true) ⟨rfl, k7.touch.below⟩) fun g2 => coSkip <| eoT ?_
  have hle : l.length ≤ 40 := by omega
  have hbl : bs.length ≤ 60 := by have : ¬ ((bs.length : Int) > 60) := by simpa using g2
                                  omega
  have H : ∀ {W : World}, Below w.heap.size w W → CellsIn W W.heap.size A l := fun k => (hin.below k).more k.size
  have HY : ∀ {W : World}, Below w.heap.size w W → BytesIn W W.heap.size A' bs := fun k => (hy.below k).more k.size
  have b8 : ∀ b ∈ bs, 0 ≤ b ∧ b ≤ 255 := h8
  refine coR <| qR 3 [] k6 fun w7 k7 => kX (cload_any A cap l at_ A' cap' bs (by omega) h16 ⟨a0, a1⟩ (by omega) b8 w7 (H k7.touch.below) (HY k7.touch.below)) ?_
  rintro e w8 ⟨A1, c1, rfl, m1, -, -, h8w⟩
  obtain ⟨m, hmE⟩ : ∃ m, m = mkS (l ++ loadL at_ bs) := ⟨_, rfl⟩
  have hlm : m.length ≤ 100 := by have := len_mkS (l ++ loadL at_ bs); rw [List.length_append, loadL_length] at this; rw [hmE]; omega
  have h16m : Cells16 m := by rw [hmE]; exact c16_mkS (c16_append h16 (c16_loadL bs at_ b8 ⟨a0, a1⟩))
  have hdm : dumpL m at_ (bs.length : Int) = bs := by
    rw [(dumpL_len m at_ bs.length (by omega)).2, hmE, dumpN_mkS]
    exact dump_load l at_ bs ⟨a0, a1⟩ (by omega)
  rw [← hmE] at m1 ⊢
  have hB8 : Below w.heap.size w w8 := (k7.below h8w).touch.below
  have Hm : ∀ {W : World}, Below w8.heap.size w8 W → CellsIn W W.heap.size A1 m := fun k => (m1.below k).more k.size
  have up : ∀ {W : World}, Below w8.heap.size w8 W → Below w.heap.size w W := fun k => hB8.trans (k.mono hB8.size)
  refine ⟨_, rfl, qE [] (Many.begin w8) fun w9 k9 => coS <| coD 21 k9.touch.below fun wa _ hBa => qM [0, 1, 2, 3] hBa <| poOne 4 <| soC (rcload_any A cap l at_ A' cap' bs (by omega) h16 ⟨a0, a1⟩ (by omega) b8 wa (H (up hBa)) hn (HY (up hBa))) ?_⟩
  rintro e wb ⟨A2, c2, rfl, m2, -, -, hwb⟩
  rw [← hmE] at m2 ⊢
  have hBb : Below w8.heap.size w8 wb := hBa.trans (hwb.mono hBa.size)
  refine ⟨_, rfl, hBb, poOne 5 <| soC (csame_self A1 c1 A2 c2 m (by omega) wb (Hm hBb) m2) ?_⟩
  rintro e wc ⟨rfl, hwc⟩
  have hBc : Below w8.heap.size w8 wc := hBb.trans (hwc.mono hBb.size)
  refine ⟨_, rfl, hBc, qM [6, 7, 8, 9, 10, 11, 14, 15, 16, 17] hBc <| poOne 12 <| soC (cdump_any A cap l at_ (bs.length : Int) (by omega) h16 ⟨a0, a1⟩ wc (H (up hBc))) ?_⟩
  rintro e wd ⟨g, rfl, hd, hwd⟩
  have hBd : Below w8.heap.size w8 wd := hBc.trans (hwd.mono hBc.size)
  have d8 : ∀ x ∈ dumpL l at_ (bs.length : Int), 0 ≤ x ∧ x ≤ 255 := dumpN_b8 h16 at_ _
  obtain ⟨ds, hds⟩ : ∃ ds, ds = dumpL l at_ (bs.length : Int) := ⟨_, rfl⟩
  rw [← hds] at hd d8 ⊢
  refine ⟨_, rfl, hBd, poTwo 13 18 (soV hBd (xConv (convB (c := ds.length) hd d8)) <| poOne 18 <| soC (rcdump_any A cap l at_ (bs.length : Int) (by omega) h16 ⟨a0, a1⟩ wd (H (up hBd))) ?_) (soC (rcdump_any A cap l at_ (bs.length : Int) (by omega) h16 ⟨a0, a1⟩ wd (H (up hBd))) ?_)⟩
  all_goals
    rintro e we ⟨A5, c5, rfl, he5, -, -, hwe⟩
    rw [← hds] at he5 ⊢
    have hBe : Below w8.heap.size w8 we := hBd.trans (hwe.mono hBd.size)
    have hd' : BytesIn we we.heap.size (some ⟨g, 0, none⟩) ds := (hd.below hwe).more hwe.size
  refine ⟨_, rfl, hBe, poOne 19 <| soV hBe (xConv (convB (c := c5) he5 d8)) <| ?_⟩
  rotate_left 1
  refine ⟨_, rfl, hBe, poTwo 13 19 (soV hBe (xConv (convB (c := ds.length) hd' d8)) <| poOne 19 <| soV hBe (xConv (convB (c := c5) he5 d8)) <| ?_) (soV hBe (xConv (convB (c := c5) he5 d8)) <| poOne 13 <| soV hBe (xConv (convB (c := ds.length) hd' d8)) <| ?_)⟩
  all_goals
    refine qT 20 hBe (fun w' _ => xBin (guardStr _ _ _ (strB ds) (strB ds) _) (neStr (strB ds) _)) <| poE <| qE [] (Many.begin we) fun wf kf => coF <| coSkip <| eoT <| coD 16 (bOn hBe kf) fun wg _ hBg => qM [0, 1, 2, 3, 6] hBg <| qT 7 hBg (fun w' hS => xConv (convB (c := cap') (HY (up hS)) b8)) <| poOne 4 <| soC (cdump_any A1 c1 m at_ (bs.length : Int) (by omega) h16m ⟨a0, a1⟩ wg (Hm hBg)) ?_
    rintro e wh ⟨g', rfl, hd9, hwh⟩
    rw [hdm] at hd9 ⊢
    have hBh : Below w8.heap.size w8 wh := hBg.trans (hwh.mono hBg.size)
    refine ⟨_, rfl, hBh, poOne 5 <| soV hBh (xConv (convB (c := bs.length) hd9 b8)) <| qT 8 hBh (fun w' _ => xBin (guardStr _ _ _ (strB bs) (strB bs) _) (eqStr (strB bs) _)) <| qM [9, 10, 11] hBh <| poOne 12 <| soC (cdump_any A cap l at_ (-1) (by omega) h16 ⟨a0, a1⟩ wh (H (up hBh))) ?_⟩
    rintro e wi ⟨g2', rfl, -, hwi⟩
    have hBi : Below w8.heap.size w8 wi := hBh.trans (hwi.mono hBh.size)
    exact ⟨_, rfl, hBi, qM [13, 14, 15] hBi <| poE <| qE [] (Many.begin wi) fun wj kj => coRet <| eoIr (.bool true) ⟨rfl, up (bOn hBi kj)⟩⟩
theorem eqIs (x y : Int) (h : x = y) (w : World) : (binOp .eql 3 (.int .i64 x) (.int .i64 y)).run Try.prog w = .ok (.bool true) w := by subst h; simp [go_sem]
theorem mkS_on (l : List (Int × Int)) (c : Int × Int) : mkS (mkS l ++ [c]) = mkS (l ++ [c]) := by rw [mkS_snoc, mkS_snoc, mkS_mkS]
structure DifferS where
  k : Nat
  A : Option Addr
  c : Nat
  y : Nat → Value
def differB (A : Option Addr) (n cap : Nat) (A' : Option Addr) (n' cap' : Nat) (D : Option Addr) (nd cd : Nat) (a d : List (Int × Int)) (x : DifferS) : List Value := [.slice A n cap, .slice A' n' cap', x.y 2, x.y 3, x.y 4, x.y 5, .slice D nd cd, .slice x.A (mkS (a ++ d.take x.k)).length x.c, .int .i64 (x.k : Int), x.y 9, x.y 10, x.y 11, x.y 12, x.y 13, x.y 14, x.y 15, x.y 16, x.y 17, x.y 18, x.y 19, x.y 20, x.y 21, x.y 22, x.y 23, x.y 24, x.y 25, x.y 26, x.y 27, x.y 28, x.y 29, x.y 30, x.y 31, x.y 32, x.y 33, x.y 34, x.y 35, x.y 36, x.y 37, x.y 38, x.y 39, x.y 40, x.y 41, x.y 42, x.y 43, x.y 44, x.y 45, x.y 46, x.y 47, x.y 48, x.y 49, x.y 50, x.y 51, x.y 52, x.y 53, x.y 54, x.y 55, x.y 56, x.y 57, x.y 58, x.y 59, x.y 60, x.y 61, x.y 62, x.y 63, x.y 64, x.y 65, x.y 66, x.y 67, x.y 68, x.y 69, x.y 70]
def differI (w0 : World) (a d : List (Int × Int)) (x : DifferS) (W : World) : Prop := Below w0.heap.size w0 W ∧ CellsIn W W.heap.size x.A (mkS (a ++ d.take x.k)) ∧ x.k ≤ d.length
theorem cellsDiffer_walk (A : Option Addr) (cap : Nat) (a : List (Int × Int)) (A' : Option Addr) (cap' : Nat) (b : List (Int × Int)) (w : World) (hc : a.length ≤ cap) (hm : cap ≤ maxLen) (h16 : Cells16 a) (hin : CellsIn w w.heap.size A a) (hn : A = none → cap = 0)
    (hc' : b.length ≤ cap') (hm' : cap' ≤ maxLen) (h16' : Cells16 b) (hin' : CellsIn w w.heap.size A' b) (hn' : A' = none → cap' = 0) :
    Calls Try.prog 5 #[.slice A a.length cap, .slice A' b.length cap'] w fun e w' => e = .returned (.bool true) ∧ Below w.heap.size w w' := by
  go_enter Try.func5, Try.ntmps5
  refine coStart <| qQ [] (Many.begin w) fun w1 k1 => coR <| kO (awake14_any w1) fun w2 hb2 => qE [] (k1.below hb2) fun w3 k3 => coS <| qQ [] k3 fun w4 k4 => coF <| coSkip <| eoT <| coS <| coR <| qR 4 [] k4 fun w5 k5 => ?_
  by_cases g1 : (a.length : Int) > 40
  · exact tell 15 (decide_eq_true g1) <| qE [] k5 fun w6 k6 => coT <| qQ [] k6 fun w7 k7 => coRet <| eoTr <| eoIr (.bool true) ⟨rfl, k7.touch.below⟩
  refine tell 15 (decide_eq_false g1) <| qE [] k5 fun w6 k6 => coI (decide ((b.length : Int) > 40)) (fun _ => qQ [] k6 fun w7 k7 => coRet <| eoTr <| eoIr (.bool true) ⟨rfl, k7.touch.below⟩) fun g2 => coSkip <| eoT ?_
  have hle : a.length ≤ 40 := by omega
  have hbl : b.length ≤ 40 := by have : ¬ ((b.length : Int) > 40) := by simpa using g2
                                 omega
  have H : ∀ {W : World}, Below w.heap.size w W → CellsIn W W.heap.size A a := fun k => (hin.below k).more k.size
  have H' : ∀ {W : World}, Below w.heap.size w W → CellsIn W W.heap.size A' b := fun k => (hin'.below k).more k.size
  refine coR <| qR 2 [] k6 fun w7 k7 => kX (cdiff_any A cap a A' cap' b (by omega) (by omega) h16 h16' w7 (H k7.touch.below) (H' k7.touch.below)) ?_
  rintro e w8 ⟨D, cd, rfl, d1, -, -, h8w⟩
  obtain ⟨d, hdE⟩ : ∃ d, d = diffL a b := ⟨_, rfl⟩
  have hld : d.length ≤ 80 := by have := len_diffL a b; rw [hdE]; omega
  have h16d : Cells16 d := by rw [hdE]; exact c16_diffL h16 h16'
  rw [← hdE] at d1 ⊢
  have hB8 : Below w.heap.size w w8 := (k7.below h8w).touch.below
  have Hd : ∀ {W : World}, Below w8.heap.size w8 W → CellsIn W W.heap.size D d := fun k => (d1.below k).more k.size
  have up : ∀ {W : World}, Below w8.heap.size w8 W → Below w.heap.size w W := fun k => hB8.trans (k.mono hB8.size)
  refine ⟨_, rfl, qE [] (Many.begin w8) fun w9 k9 => coS <| coR <| qR 3 [] k9 fun wa ka => kX (rcdiff_any A cap a A' cap' b (by omega) (by omega) h16 h16' wa (H (up ka.touch.below)) (H' (up ka.touch.below))) ?_⟩
  rintro e wb ⟨D2, cd2, rfl, d2, -, -, hwb⟩
  rw [← hdE] at d2 ⊢
  have hBb : Below w8.heap.size w8 wb := ka.touch.below.trans (hwb.mono ka.touch.size)
  refine ⟨_, rfl, kO (csame_self D cd D2 cd2 d (by omega) wb (Hd hBb) d2) fun wc hwc => qE [] (Many.begin wc) fun wd kd => coF <| coSkip <| eoT <| coR <| qR 1 [] kd fun we ke => ?_⟩
  have hBc : Below w8.heap.size w8 wc := hBb.trans (hwc.mono hBb.size)
  refine kX (cmake_any A cap a (by omega) h16 we (H (up (bOn hBc ke)))) ?_
  rintro e wf ⟨A1, c1, rfl, m1, -, -, hwf⟩
  have hBf : Below w8.heap.size w8 wf := (bOn hBc ke).trans (hwf.mono (bOn hBc ke).size)
  refine ⟨_, rfl, qE [] (Many.begin wf) fun wg kg => coS <| qQ [] kg fun wh kh => coB <| coLoop (differB A a.length cap A' b.length cap' D d.length cd a d) (differI w8 a d) (fun x => d.length - x.k) (fun y => ⟨0, A1, c1, y⟩) ⟨bOn hBf kh, ?_, Nat.zero_le _⟩ ?_ ?_⟩
  · show CellsIn wh wh.heap.size A1 (mkS (a ++ d.take 0))
    rw [List.take_zero, List.append_nil]
    exact (m1.below kh.touch.below).more kh.touch.size
  rotate_left 1
  · have e0 : a = a ++ d.take 0 := by rw [List.take_zero, List.append_nil]
    show _ = differB A a.length cap A' b.length cap' D d.length cd a d ⟨0, A1, c1, _⟩
    unfold differB
    simp only [List.take_zero, List.append_nil]
    kernel_rfl
  clear kh kg ke kd ka k9 k7 k6 k5 k4 k3 k1
  rintro ⟨k, Ak, ck, y⟩ W ⟨hB, hM, hk⟩
  have hk : k ≤ d.length := hk
  have hB : Below w8.heap.size w8 W := hB
  have hM : CellsIn W W.heap.size Ak (mkS (a ++ d.take k)) := hM
  have hlk : (mkS (a ++ d.take k)).length ≤ 200 := by
    have := len_mkS (a ++ d.take k)
    rw [List.length_append, List.length_take] at this
    omega
  refine coS <| qQ [] (Many.begin W) fun wi ki => coI (decide ((k : Int) < (d.length : Int))) (fun hlt => coSkip <| eoT <| coS <| coB <| ?_) fun hge => coX <| eoTx <| eoTx <| eoBx <| eoT ?_
  · have hlt : k < d.length := by have : (k : Int) < (d.length : Int) := by simpa using hlt
                                  omega
    obtain ⟨p, rfl, -⟩ := d1.at_ hlt
    have hck := h16d _ (List.getElem_mem hlt)
    refine coDz 12 (bOn hB ki) fun wj hj hBj => qM [0, 1, 2] hBj <| qT 3 hBj (fun w' _ => xIndex (cixC p d.length cd k hlt _)) <| qT 4 hBj (fun w' _ => xField (fldC0 (p.add (k * 2)) _)) <| qT 5 hBj (fun w' hS => xLoad ((Hd hS).ld0 hlt)) <| qM [6, 7] hBj <| qT 8 hBj (fun w' _ => xIndex (cixC p d.length cd k hlt _)) <| qT 9 hBj (fun w' _ => xField (fldC1 (p.add (k * 2)) _)) <| qT 10 hBj (fun w' hS => xLoad ((Hd hS).ld1 hlt)) <| poOne 11 <| soC (cput_any Ak ck (mkS (a ++ d.take k)) d[k].1 d[k].2 (by omega) (c16_mkS (c16_append h16 fun c hc => h16d c (List.mem_of_mem_take hc))) ⟨hck.1, hck.2.1⟩ ⟨hck.2.2.1, hck.2.2.2⟩ wj (((hM.below ki.touch.below).more ki.touch.size |>.below hj).more hj.size)) ?_
    rintro e wk ⟨A5, c5, rfl, m5, -, -, hwk⟩
    have hBk : Below w8.heap.size w8 wk := hBj.trans (hwk.mono hBj.size)
    have e5 : mkS (mkS (a ++ d.take k) ++ [(d[k].1, d[k].2)]) = mkS (a ++ d.take (k + 1)) := by
      rw [mkS_on, take_snoc d k hlt, List.append_assoc]
    rw [e5] at m5 ⊢
    refine ⟨_, rfl, hBk, poE <| qF [] (Many.begin wk) fun wl kl => eoB <| eoT <| coZ <| qR 1 [] kl fun wn kn => wM (xInc k (by omega)) <| qF [] kn fun wo ko => eoRound (fun y => ⟨k + 1, A5, c5, y⟩) ⟨bOn hBk ko, (m5.below ko.touch.below).more ko.touch.size, hlt⟩ (by show d.length - (k + 1) < d.length - k; omega)⟩
  · have hkl : k = d.length := by have : ¬ ((k : Int) < (d.length : Int)) := by simpa using hge
                                  omega
    subst hkl
    have hfin : mkS (a ++ d.take d.length) = mkS b := by rw [List.take_length, hdE, diff_goes]
    unfold differB
    rw [hfin] at hM
    simp only [hfin]
    have hlb : (mkS b).length ≤ 60 := by have := len_mkS b; omega
    refine coR <| qR 2 [] ki fun wj kj => kX (cmake_any A' cap' b (by omega) h16' wj (H' (up (bOn hB kj)))) ?_
    rintro e wk ⟨A6, c6, rfl, m6, -, -, hwk⟩
    have hWk : Below W.heap.size W wk := kj.touch.below.trans (hwk.mono kj.touch.size)
    have hBk : Below w8.heap.size w8 wk := hB.trans (hWk.mono hB.size)
    refine ⟨_, rfl, kO (csame_self Ak ck A6 c6 (mkS b) (by omega) wk ((hM.below hWk).more hWk.size) m6) fun wl hwl => qR 3 [] (Many.begin wl) fun wn kn => ?_⟩
    have hBl : Below w8.heap.size w8 wl := hBk.trans (hwl.mono hBk.size)
    refine kX (cdiff_any A cap a A cap a (by omega) (by omega) h16 h16 wn (H (up (bOn hBl kn))) (H (up (bOn hBl kn)))) ?_
    rintro e wo ⟨A7, c7, rfl, -, -, -, hwo⟩
    rw [diff_self]
    have hBo : Below w8.heap.size w8 wo := (bOn hBl kn).trans (hwo.mono (bOn hBl kn).size)
    refine ⟨_, rfl, qR 6 [] (Many.begin wo) fun wp kp => kX (cdiff_any A cap a A' cap' b (by omega) (by omega) h16 h16' wp (H (up (bOn hBo kp))) (H' (up (bOn hBo kp)))) ?_⟩
    rintro e wq ⟨A8, c8, rfl, -, -, -, hwq⟩
    have hBq : Below w8.heap.size w8 wq := (bOn hBo kp).trans (hwq.mono (bOn hBo kp).size)
    refine ⟨_, rfl, qR 3 [] (Many.begin wq) fun wr kr => kX (cdiff_any A' cap' b A cap a (by omega) (by omega) h16' h16 wr (H' (up (bOn hBq kr))) (H (up (bOn hBq kr)))) ?_⟩
    rintro e ws ⟨A9, c9, rfl, -, -, -, hws⟩
    have hBs : Below w8.heap.size w8 ws := (bOn hBq kr).trans (hws.mono (bOn hBq kr).size)
    refine ⟨_, rfl, qR 1 [] (Many.begin ws) fun wt kt => wM (xBin (guardI _ _ _ ((diffL a b).length : Int) ((diffL b a).length : Int) _) (eqIs _ _ (by rw [diff_len]) _)) <| qE [] kt fun wu ku => coRet <| eoIr (.bool true) ⟨rfl, up (bOn hBs ku)⟩⟩
end Go.Proofs.Ytahnejcfengljaa
