/- Layer 10 (times): what the package's tables hold; contracts of the functions below Of. -/
import Derived.Test.YtlmeekaemhghgaaDoorTimesMath
import Derived.Test.YtlmeekaemhghgaaDoorDecodeLeaf
import Derived.Lib.LaidTab
import Derived.FnData
import Derived.Below
namespace Go.Proofs.YtlmeekaemhghgaaDoor
open Go.RowKit
set_option linter.unusedVariables false
set_option linter.unusedSimpArgs false

def u8Vs (l : List Int) : List Value := l.map (Value.int .u8)
def Tab8 (w : World) (name : String) (l : List Int) : Prop := w.var? Tryd.prog name = some (u8Vs l).toArray
theorem tab8_below {w w' : World} {name : String} {l : List Int} (h : Tab8 w name l) (k : Below w.heap.size w w') : Tab8 w' name l := by
  unfold Tab8 World.var? at h ⊢
  obtain ⟨g, hg, h⟩ := Option.bind_eq_some_iff.1 h
  rw [hg, Option.bind_some]
  have hlt : g < w.heap.size := by
    rcases Nat.lt_or_ge g w.heap.size with e | e
    · exact e
    · rw [Array.getElem?_eq_none e] at h; cases h
  rw [k.block g hlt]
  exact h
theorem Tab8.at_ {w : World} {name : String} {l : List Int} {g : Nat} (h : Tab8 w name l) (hg : Tryd.prog.globalNamed name = some g) (i : Nat) (hi : i < l.length) : w.cell? ⟨g, i, none⟩ = some (.int .u8 (l.getD i 0)) := by
  rw [World.var?_cell hg h i]
  simp [u8Vs, hi]
/-- all that the layer reads -/
structure TimesTabs (w : World) : Prop where
  rows : Tab8 w "charabanc/times.rows" rowsT
  rowOf : Tab8 w "charabanc/times.rowOf" rowOfT
  single : Tab8 w "charabanc/times.single" singleT
  special : Tab8 w "charabanc/times.special" specialT
theorem TimesTabs.below {w w' : World} (h : TimesTabs w) (k : Below w.heap.size w w') : TimesTabs w' :=
  ⟨tab8_below h.rows k, tab8_below h.rowOf k, tab8_below h.single k, tab8_below h.special k⟩
theorem g_trows : Tryd.prog.globalNamed "charabanc/times.rows" = some 2 := by kernel_rfl
theorem g_trowOf : Tryd.prog.globalNamed "charabanc/times.rowOf" = some 3 := by kernel_rfl
theorem g_tsingle : Tryd.prog.globalNamed "charabanc/times.single" = some 0 := by kernel_rfl
theorem g_tspecial : Tryd.prog.globalNamed "charabanc/times.special" = some 1 := by kernel_rfl
theorem rowsT_len : rowsT.length = 160 := by decide +kernel
theorem rowOfT_len : rowOfT.length = 16 := by decide +kernel
theorem rowOf_fin : ∀ k : Fin 16, 0 ≤ rowOfT.getD k.val 0 ∧ rowOfT.getD k.val 0 ≤ 9 := by decide +kernel
theorem unheld_fin : ∀ c : Fin 256, 4 ≤ unheldM (c.val : Int) ∧ unheldM (c.val : Int) ≤ 19 := by decide +kernel
theorem unheld_all (c : Int) (hc : B8 c) : 4 ≤ unheldM c ∧ unheldM c ≤ 19 := byte_all (P := fun c => 4 ≤ unheldM c ∧ unheldM c ≤ 19) unheld_fin c hc.1 hc.2
set_option maxHeartbeats 1000000 in
theorem unheld_any (c : Int) (hc : B8 c) (w : World) (ht : TimesTabs w) :
    Calls Tryd.prog 29 #[.int .u8 c] w fun e w' => e = .returned (.int .i64 (unheldM c)) ∧ w = w' := by
  have hk : 0 ≤ c / 16 ∧ c / 16 ≤ 15 := by obtain ⟨h0, h1⟩ := hc; omega
  have hm : 0 ≤ c % 16 ∧ c % 16 ≤ 15 := by omega
  have hr := rowOf_fin ⟨(c / 16).toNat, by omega⟩
  simp only at hr
  have hu := unheld_all c hc
  have c1 := ht.rowOf.at_ g_trowOf (c / 16).toNat (by rw [rowOfT_len]; omega)
  have c2 := ht.rows.at_ g_trows (rowOfT.getD (c / 16).toNat 0 * 16 + c % 16).toNat (by rw [rowsT_len]; omega)
  have e : unheldM c = rowsT.getD (rowOfT.getD (c / 16).toNat 0 * 16 + c % 16).toNat 0 := rfl
  rw [← e] at c2
  generalize unheldM c = u at *
  generalize rowOfT.getD (c / 16).toNat 0 = r at *
  clear e ht
  rw [show (r * 16 + c % 16).toNat = r.toNat * 16 + (c % 16).toNat by omega] at c2
  obtain ⟨h0, h1⟩ := hc
  go_enter Tryd.func29, Tryd.ntmps29
  go_wp2
  go_ret
  exact ⟨rfl, rfl⟩
theorem fields3 (c : Int) (hc : B8 c) : (0 ≤ fx c ∧ fx c ≤ 3) ∧ (0 ≤ fy c ∧ fy c ≤ 7) ∧ (0 ≤ fz c ∧ fz c ≤ 7) := ⟨fx_b c hc, fy_b c hc, fz_b c hc⟩
set_option maxHeartbeats 4000000 in
theorem added_any (c : Int) (hc : B8 c) (w : World) :
    Calls Tryd.prog 31 #[.int .u8 c] w fun e w' => e = .returned (.int .i64 (addedM c)) ∧ w = w' := by
  have hf := Lib.hid (fields_any c hc)
  obtain ⟨bx, bY, bz⟩ := fields3 c hc
  have hd := Lib.hid (show addedM c = if fx c = 3 ∧ fz c = 4 then 7 else if fx c = 3 ∧ fz c = 0 then 6 else if c = 16 ∨ (fx c = 0 ∧ fz c = 0 ∧ 4 ≤ fy c) then 5 else 0 from rfl)
  generalize addedM c = A at *
  unfold five at hf
  generalize fx c = x at *
  generalize fy c = y at *
  generalize fz c = z at *
  generalize fp c = p at *
  generalize fq c = q at *
  obtain ⟨h0, h1⟩ := hc
  by_cases x3 : x = 3
  · subst x3
    by_cases z4 : z = 4
    · subst z4
      have e : A = 7 := by rw [hd.out]; simp
      clear hd
      subst e
      go_enter Tryd.func31, Tryd.ntmps31
      go_wp2_with (go_at_call 33; refine (hf.out _).mono ?_; rintro e w' ⟨rfl, rfl⟩)
      go_ret
      exact ⟨rfl, rfl⟩
    · have z4' : (z == 4) = false := by simpa using z4
      by_cases z0 : z = 0
      · subst z0
        have e : A = 6 := by rw [hd.out]; simp
        clear hd
        subst e
        go_enter Tryd.func31, Tryd.ntmps31
        go_wp2_with (go_at_call 33; refine (hf.out _).mono ?_; rintro e w' ⟨rfl, rfl⟩)
        go_ret
        exact ⟨rfl, rfl⟩
      · have z0' : (z == 0) = false := by simpa using z0
        by_cases c16 : c = 16
        · subst c16
          have e : A = 5 := by rw [hd.out]; simp [z4, z0]
          clear hd
          subst e
          go_enter Tryd.func31, Tryd.ntmps31
          go_wp2_with (go_at_call 33; refine (hf.out _).mono ?_; rintro e w' ⟨rfl, rfl⟩)
          go_ret
          exact ⟨rfl, rfl⟩
        · have c16' : (c == 16) = false := by simpa using c16
          have e : A = 0 := by rw [hd.out]; simp [z4, z0, c16]
          clear hd
          subst e
          go_enter Tryd.func31, Tryd.ntmps31
          go_wp2_with (go_at_call 33; refine (hf.out _).mono ?_; rintro e w' ⟨rfl, rfl⟩)
          go_ret
          exact ⟨rfl, rfl⟩
  · have x3' : (x == 3) = false := by simpa using x3
    by_cases c16 : c = 16
    · subst c16
      have e : A = 5 := by rw [hd.out]; simp [x3]
      clear hd
      subst e
      go_enter Tryd.func31, Tryd.ntmps31
      go_wp2_with (go_at_call 33; refine (hf.out _).mono ?_; rintro e w' ⟨rfl, rfl⟩)
      go_ret
      exact ⟨rfl, rfl⟩
    · have c16' : (c == 16) = false := by simpa using c16
      by_cases x0 : x = 0
      · subst x0
        by_cases z0 : z = 0
        · subst z0
          by_cases y4 : 4 ≤ y
          · have e : A = 5 := by rw [hd.out]; simp [y4]
            clear hd
            subst e
            go_enter Tryd.func31, Tryd.ntmps31
            go_wp2_with (go_at_call 33; refine (hf.out _).mono ?_; rintro e w' ⟨rfl, rfl⟩)
            go_ret
            exact ⟨rfl, rfl⟩
          · have e : A = 0 := by rw [hd.out]; simp [y4, c16]
            clear hd
            subst e
            go_enter Tryd.func31, Tryd.ntmps31
            go_wp2_with (go_at_call 33; refine (hf.out _).mono ?_; rintro e w' ⟨rfl, rfl⟩)
            go_ret
            exact ⟨rfl, rfl⟩
        · have z0' : (z == 0) = false := by simpa using z0
          have e : A = 0 := by rw [hd.out]; simp [z0, c16]
          clear hd
          subst e
          go_enter Tryd.func31, Tryd.ntmps31
          go_wp2_with (go_at_call 33; refine (hf.out _).mono ?_; rintro e w' ⟨rfl, rfl⟩)
          go_ret
          exact ⟨rfl, rfl⟩
      · have x0' : (x == 0) = false := by simpa using x0
        have e : A = 0 := by rw [hd.out]; simp [x0, x3, c16]
        clear hd
        subst e
        go_enter Tryd.func31, Tryd.ntmps31
        go_wp2_with (go_at_call 33; refine (hf.out _).mono ?_; rintro e w' ⟨rfl, rfl⟩)
        go_ret
        exact ⟨rfl, rfl⟩
theorem added_fin : ∀ c : Fin 256, 0 ≤ addedM (c.val : Int) ∧ addedM (c.val : Int) ≤ 7 := by decide +kernel
theorem added_all (c : Int) (hc : B8 c) : 0 ≤ addedM c ∧ addedM c ≤ 7 := byte_all (P := fun c => 0 ≤ addedM c ∧ addedM c ≤ 7) added_fin c hc.1 hc.2
set_option maxHeartbeats 1000000 in
theorem plain_any (c : Int) (t : Bool) (hc : B8 c) (w : World) (ht : TimesTabs w) :
    Calls Tryd.prog 18 #[.int .u8 c, .bool t] w fun e w' => e = .returned (.int .i64 (plainM c t)) ∧ w = w' := by
  have k1 := Lib.hid (unheld_any c hc w ht)
  have k2 := Lib.hid (added_any c hc)
  have b1 := unheld_all c hc
  have b2 := added_all c hc
  unfold plainM
  generalize unheldM c = u at *
  generalize addedM c = d at *
  clear ht
  cases t
  all_goals
    go_enter Tryd.func18, Tryd.ntmps18
    go_wp2_with (first
      | (go_at_call 29; refine (k1.out).mono ?_; rintro e w' ⟨rfl, rfl⟩)
      | (go_at_call 31; refine (k2.out _).mono ?_; rintro e w' ⟨rfl, rfl⟩))
    go_ret
    exact ⟨rfl, rfl⟩
set_option maxHeartbeats 1000000 in
theorem onBits_any (c : Int) (hc : B8 c) (w : World) :
    Calls Tryd.prog 20 #[.int .u8 c] w fun e w' => e = .returned (.int .i64 (bitsCM c)) ∧ w = w' := by
  have hf := Lib.hid (fields_any c hc)
  obtain ⟨bx, bY, bz⟩ := fields3 c hc
  unfold bitsCM
  unfold five at hf
  generalize fx c = x at *
  generalize fy c = y at *
  generalize fz c = z at *
  by_cases z6 : z = 6 <;> by_cases x1 : x = 1
  all_goals
    (try subst z6)
    (try subst x1)
    (try have z6' : (z == 6) = false := by simpa using z6)
    (try have z6'' : (z != 6) = true := by simpa using z6)
    (try have x1' : (x == 1) = false := by simpa using x1)
    go_enter Tryd.func20, Tryd.ntmps20
    go_wp2_with (go_at_call 33; refine (hf.out _).mono ?_; rintro e w' ⟨rfl, rfl⟩)
    go_ret
    refine ⟨ret_int ?_, rfl⟩
    simp [*]
set_option maxHeartbeats 1000000 in
theorem onBitsNear_any (c : Int) (hc : B8 c) (w : World) :
    Calls Tryd.prog 21 #[.int .u8 c] w fun e w' => e = .returned (.int .i64 (bitsNM c)) ∧ w = w' := by
  have hf := Lib.hid (fields_any c hc)
  unfold bitsNM
  unfold five at hf
  generalize fx c = x at *
  by_cases x1 : x = 1
  all_goals
    (try subst x1)
    (try have x1' : (x == 1) = false := by simpa using x1)
    go_enter Tryd.func21, Tryd.ntmps21
    go_wp2_with (go_at_call 33; refine (hf.out _).mono ?_; rintro e w' ⟨rfl, rfl⟩)
    go_ret
    refine ⟨ret_int ?_, rfl⟩
    simp [*]
theorem blocks_any (t : Bool) (w : World) :
    Calls Tryd.prog 34 #[.bool t] w fun e w' => e = .returned (.int .i64 (if t then 21 else 16)) ∧ w = w' := by
  cases t
  all_goals
    go_enter Tryd.func34, Tryd.ntmps34
    go_wp2
    go_ret
    exact ⟨rfl, rfl⟩
theorem singleT_len : singleT.length = 7 := by decide +kernel
theorem specialT_len : specialT.length = 8 := by decide +kernel
theorem single_fin : ∀ k : Fin 7, 0 ≤ singleT.getD k.val 0 ∧ singleT.getD k.val 0 ≤ 20 := by decide +kernel
theorem special_fin : ∀ k : Fin 8, 0 ≤ specialT.getD k.val 0 ∧ specialT.getD k.val 0 ≤ 20 := by decide +kernel
set_option maxHeartbeats 4000000 in
theorem extended_any (c : Int) (t : Bool) (hc : B8 c) (w : World) (ht : TimesTabs w) :
    Calls Tryd.prog 22 #[.int .u8 c, .bool t] w fun e w' => e = .returned (.int .i64 (extM c t)) ∧ w = w' := by
  have hf := Lib.hid (fields_any c hc)
  obtain ⟨bx, bY, bz⟩ := fields3 c hc
  have hd := Lib.hid (show extM c t = if fx c = 1 then (if fz c < 7 then singleT.getD (fz c).toNat 0 else specialT.getD (fy c).toNat 0) else if fx c = 2 ∧ fz c < 4 ∧ 4 ≤ fy c then (if t && decide (6 ≤ fy c) then 21 else 16) else 8 from rfl)
  have c2 := ht.special.at_ g_tspecial (fy c).toNat (by rw [specialT_len]; omega)
  have s2 := special_fin ⟨(fy c).toNat, by omega⟩
  have c1 := fun (h : fz c < 7) => ht.single.at_ g_tsingle (fz c).toNat (by rw [singleT_len]; omega)
  have s1 := fun (h : fz c < 7) => single_fin ⟨(fz c).toNat, by omega⟩
  simp only at s1 s2
  clear ht
  unfold five at hf
  generalize extM c t = A at *
  generalize fx c = x at *
  generalize fy c = y at *
  generalize fz c = z at *
  have hb1 := Lib.hid (blocks_any true)
  have hb0 := Lib.hid (blocks_any false)
  simp only [if_true, if_false, Bool.false_eq_true] at hb1 hb0
  generalize specialT.getD y.toNat 0 = sp at *
  generalize singleT.getD z.toNat 0 = sg at *
  by_cases x1 : x = 1
  · subst x1
    by_cases z7 : z < 7
    · have c1 := c1 z7
      have s1 := s1 z7
      have e : A = sg := by rw [hd.out]; simp [z7]
      clear hd c2 s2
      subst e
      go_enter Tryd.func22, Tryd.ntmps22
      go_wp2_with (go_at_call 33; refine (hf.out _).mono ?_; rintro e w' ⟨rfl, rfl⟩)
      go_ret
      exact ⟨rfl, rfl⟩
    · have e : A = sp := by rw [hd.out]; simp [z7]
      clear hd c1 s1
      subst e
      go_enter Tryd.func22, Tryd.ntmps22
      go_wp2_with (go_at_call 33; refine (hf.out _).mono ?_; rintro e w' ⟨rfl, rfl⟩)
      go_ret
      exact ⟨rfl, rfl⟩
  · clear c1 s1 c2 s2
    have x1' : (x == 1) = false := by simpa using x1
    by_cases x2 : x = 2
    · subst x2
      by_cases z4 : z < 4
      · by_cases y4 : 4 ≤ y
        · cases t
          · have e : A = 16 := by rw [hd.out]; simp [z4, y4]
            clear hd
            subst e
            go_enter Tryd.func22, Tryd.ntmps22
            go_wp2_with (first
              | (go_at_call 33; refine (hf.out _).mono ?_; rintro e w' ⟨rfl, rfl⟩)
              | (go_at_call 34; refine (hb0.out _).mono ?_; rintro e w' ⟨rfl, rfl⟩))
            go_ret
            exact ⟨rfl, rfl⟩
          · by_cases y6 : 6 ≤ y
            · have e : A = 21 := by rw [hd.out]; simp [z4, y4, y6]
              clear hd
              subst e
              go_enter Tryd.func22, Tryd.ntmps22
              go_wp2_with (first
                | (go_at_call 33; refine (hf.out _).mono ?_; rintro e w' ⟨rfl, rfl⟩)
                | (go_at_call 34; refine (hb1.out _).mono ?_; rintro e w' ⟨rfl, rfl⟩))
              go_ret
              exact ⟨rfl, rfl⟩
            · have e : A = 16 := by rw [hd.out]; simp [z4, y4, y6]
              have y6' : decide (6 ≤ y) = false := by simpa using y6
              clear hd
              subst e
              go_enter Tryd.func22, Tryd.ntmps22
              go_wp2_with (first
                | (go_at_call 33; refine (hf.out _).mono ?_; rintro e w' ⟨rfl, rfl⟩)
                | (go_at_call 34; refine (hb0.out _).mono ?_; rintro e w' ⟨rfl, rfl⟩))
              go_ret
              exact ⟨rfl, rfl⟩
        · have e : A = 8 := by rw [hd.out]; simp [z4, y4]
          clear hd
          subst e
          go_enter Tryd.func22, Tryd.ntmps22
          go_wp2_with (go_at_call 33; refine (hf.out _).mono ?_; rintro e w' ⟨rfl, rfl⟩)
          go_ret
          exact ⟨rfl, rfl⟩
      · have e : A = 8 := by rw [hd.out]; simp [z4]
        clear hd
        subst e
        go_enter Tryd.func22, Tryd.ntmps22
        go_wp2_with (go_at_call 33; refine (hf.out _).mono ?_; rintro e w' ⟨rfl, rfl⟩)
        go_ret
        exact ⟨rfl, rfl⟩
    · have x2' : (x == 2) = false := by simpa using x2
      have e : A = 8 := by rw [hd.out]; simp [x1, x2]
      clear hd
      subst e
      go_enter Tryd.func22, Tryd.ntmps22
      go_wp2_with (go_at_call 33; refine (hf.out _).mono ?_; rintro e w' ⟨rfl, rfl⟩)
      go_ret
      exact ⟨rfl, rfl⟩
end Go.Proofs.YtlmeekaemhghgaaDoor
