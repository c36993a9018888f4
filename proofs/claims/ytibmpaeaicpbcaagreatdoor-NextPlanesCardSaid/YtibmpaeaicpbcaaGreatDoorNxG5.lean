/- Contracts and facts that the claim's proof wants (several texts in one). -/
import Derived.WalkKit
import Derived.ProofKit
import Derived.OpenShut
import Derived.ChangeArms
import Derived.Deep.Fields
import Derived.LaidLaws
import Derived.FnData
import Derived.BigQuiet
import Derived.Deep.DeepCutAuto
import Derived.Deep.QuietTactic
import Derived.StillTailTactics
import Derived.Test.YtibmpaeaicpbcaaGreatDoorNxG1
import Derived.Test.YtibmpaeaicpbcaaGreatDoorNxG2
import Derived.Test.YtibmpaeaicpbcaaGreatDoorNxG3
import Derived.Test.YtibmpaeaicpbcaaGreatDoorNxG4
namespace Go.Proofs.YtibmpaeaicpbcaaGreatDoor
open Go.RowKit
set_option linter.unusedVariables false
set_option linter.unusedSimpArgs false
set_option maxRecDepth 20000
set_option maxHeartbeats 20000000
theorem deaf_read (a : Int) (s : Ms) : (readN a s).Deaf := ⟨by simp [CyK], fun h => absurd (show (2 : Int) = 3 ∨ (2 : Int) = 5 ∨ (2 : Int) = 7 from h) (by decide), fun _ => trivial⟩
theorem deaf_in (a : Int) (s : Ms) : (inN a s).Deaf := ⟨by simp [CyK], fun h => absurd (show (4 : Int) = 3 ∨ (4 : Int) = 5 ∨ (4 : Int) = 7 from h) (by decide), fun _ => trivial⟩
theorem deaf_glance (s : Ms) : (glanceN s).Deaf := ⟨by simp [CyK], fun h => absurd (show (1 : Int) = 3 ∨ (1 : Int) = 5 ∨ (1 : Int) = 7 from h) (by decide), fun _ => trivial⟩
theorem deaf_write (a b : Int) (s : Ms) : (writeN a b s).Deaf := ⟨by simp [CyK], fun _ _ _ => rfl, fun _ => trivial⟩
theorem deaf_out (a b : Int) (s : Ms) : (outN a b s).Deaf := ⟨by simp [CyK], fun _ _ _ => rfl, fun _ => trivial⟩
theorem deaf_pause (n : Int) (s : Ms) (h : 1 ≤ n ∧ n ≤ 7 := by decide) : (pauseN n s).Deaf := ⟨by simpa [CyK] using h, fun _ _ _ => rfl, fun _ => trivial⟩
theorem deaf_fetch (s : Ms) : (fetchN s).Deaf := Tr.Deaf.bind (deaf_glance s) fun _ => trivial
theorem deaf_number (s : Ms) : (numberN s).Deaf := Tr.Deaf.bind (deaf_read ..) fun _ => trivial
theorem deaf_word (s : Ms) : (wordN s).Deaf := Tr.Deaf.bind (deaf_number _) fun _ => Tr.Deaf.bind (deaf_number _) fun _ => trivial
theorem deaf_wordAt (a : Int) (s : Ms) : (wordAtN a s).Deaf := Tr.Deaf.bind (deaf_read ..) fun _ => Tr.Deaf.bind (deaf_read ..) fun _ => trivial
theorem deaf_push (x : Int) (s : Ms) : (pushN x s).Deaf := Tr.Deaf.bind (deaf_write ..) fun _ => deaf_write ..
theorem deaf_pop (s : Ms) : (popN s).Deaf := Tr.Deaf.bind (deaf_wordAt ..) fun _ => trivial
theorem deaf_ite {α : Type} {c : Prop} [Decidable c] {t u : Tr α} (h : t.Deaf) (k : u.Deaf) : (if c then t else u).Deaf := by split <;> assumption
theorem deaf_get (k : Int) (s : Ms) : (getN k s).Deaf := deaf_ite (deaf_read ..) trivial
theorem deaf_put (k b : Int) (s : Ms) : (putN k b s).Deaf := deaf_ite (deaf_write ..) trivial
theorem deaf_aim (s : Ms) : (aimN s).Deaf := Tr.Deaf.bind (deaf_number _) fun _ => trivial
theorem deaf_jump (b : Bool) (s : Ms) : (jumpByN b s).Deaf := Tr.Deaf.bind (deaf_number _) fun _ => deaf_ite (Tr.Deaf.bind (deaf_pause ..) fun _ => trivial) trivial
theorem deaf_call (b : Bool) (s : Ms) : (callN b s).Deaf := Tr.Deaf.bind (deaf_word _) fun _ => deaf_ite (Tr.Deaf.bind (deaf_pause ..) fun _ => Tr.Deaf.bind (deaf_push ..) fun _ => trivial) trivial
theorem deaf_storeA (a : Int) (s : Ms) : (storeAN a s).Deaf := Tr.Deaf.bind (deaf_write ..) fun _ => trivial
theorem deaf_loadA (a : Int) (s : Ms) : (loadAN a s).Deaf := Tr.Deaf.bind (deaf_read ..) fun _ => trivial
theorem deaf_storeWord (a x : Int) (s : Ms) : (storeWordN a x s).Deaf := Tr.Deaf.bind (deaf_write ..) fun _ => Tr.Deaf.bind (deaf_write ..) fun _ => trivial
theorem deaf_loadWord (a : Int) (s : Ms) : (loadWordN a s).Deaf := Tr.Deaf.bind (deaf_wordAt ..) fun _ => trivial
theorem deaf_quarter (s : Ms) : (quarterN s).Deaf := by
  unfold quarterN variousN loadN reckonN controlN branchN wholePairN throughPlaceN stepPairN countN loadNumberN popsN pushesN singleN exchangeTopN
  repeat' first
    | exact trivial
    | exact deaf_jump ..
    | exact deaf_call ..
    | exact deaf_storeA ..
    | exact deaf_loadA ..
    | exact deaf_storeWord ..
    | exact deaf_get ..
    | exact deaf_put ..
    | exact deaf_push ..
    | refine Tr.Deaf.bind (deaf_pause ..) fun _ => ?_
    | refine Tr.Deaf.bind (deaf_word ..) fun _ => ?_
    | refine Tr.Deaf.bind (deaf_wordAt ..) fun _ => ?_
    | refine Tr.Deaf.bind (deaf_pop ..) fun _ => ?_
    | refine Tr.Deaf.bind (deaf_number ..) fun _ => ?_
    | refine Tr.Deaf.bind (deaf_get ..) fun _ => ?_
    | refine Tr.Deaf.bind (deaf_loadWord ..) fun _ => ?_
    | refine Tr.Deaf.bind (deaf_out ..) fun _ => ?_
    | refine Tr.Deaf.bind (deaf_in ..) fun _ => ?_
    | refine Tr.Deaf.bind (deaf_push ..) fun _ => ?_
    | refine Tr.Deaf.bind (deaf_write ..) fun _ => ?_
    | refine Tr.Deaf.bind (deaf_ite (deaf_pause ..) trivial) fun _ => ?_
    | refine deaf_ite ?_ ?_
theorem deaf_quarterE (s : Ms) : (quarterE s).Deaf := by
  unfold quarterE extendedN blocksN blockSel takeInN giveOutN addCarriedN pairAtPlaceN specialN turnDigitsN blockMoveN blockFindN blockTakeN blockGiveN repeatN
  repeat' first
    | exact trivial
    | exact deaf_storeWord ..
    | exact deaf_put ..
    | refine Tr.Deaf.bind (deaf_pause ..) fun _ => ?_
    | refine Tr.Deaf.bind (deaf_word ..) fun _ => ?_
    | refine Tr.Deaf.bind (deaf_pop ..) fun _ => ?_
    | refine Tr.Deaf.bind (deaf_loadWord ..) fun _ => ?_
    | refine Tr.Deaf.bind (deaf_read ..) fun _ => ?_
    | refine Tr.Deaf.bind (deaf_write ..) fun _ => ?_
    | refine Tr.Deaf.bind (deaf_out ..) fun _ => ?_
    | refine Tr.Deaf.bind (deaf_in ..) fun _ => ?_
    | refine Tr.Deaf.bind (deaf_ite trivial (deaf_get ..)) fun _ => ?_
    | refine deaf_ite ?_ ?_
    | refine Tr.Deaf.bind ?_ fun _ => ?_
theorem deaf_quarterC (s : Ms) : (quarterC s).Deaf := by
  unfold quarterC shiftedN testedN changedN operandN resultN
  repeat' first
    | exact trivial
    | exact deaf_put ..
    | exact deaf_get ..
    | exact deaf_write ..
    | refine Tr.Deaf.bind (deaf_pause ..) fun _ => ?_
    | refine Tr.Deaf.bind (deaf_read ..) fun _ => ?_
    | refine deaf_ite ?_ ?_
    | refine Tr.Deaf.bind ?_ fun _ => ?_
theorem deaf_body (c : Int) (s : Ms) : (bodyN c s).Deaf := by
  unfold bodyN
  refine deaf_ite (Tr.Deaf.bind (Tr.Deaf.bind ?_ fun _ => trivial) fun _ => deaf_quarterC _) (deaf_ite (Tr.Deaf.bind (Tr.Deaf.bind (deaf_fetch _) fun _ => trivial) fun _ => deaf_quarterE _) (Tr.Deaf.bind ?_ fun _ => deaf_quarter _))
  · unfold codeCBN
    exact deaf_ite (deaf_fetch _) (Tr.Deaf.bind (deaf_aim _) fun _ => Tr.Deaf.bind (deaf_number _) fun _ => Tr.Deaf.bind (deaf_pause ..) fun _ => trivial)
  · unfold aloneHead
    exact deaf_ite (Tr.Deaf.bind (deaf_aim _) fun _ => deaf_ite (deaf_pause ..) trivial) trivial
def posM (xs : List Int) : Nat → Nat
  | 0 => 0
  | k + 1 => posM xs k + lenOf (xs.drop (posM xs k))
def Runs (xs : List Int) (k : Nat) : Prop := ∀ j, j < k → okM (xs.drop (posM xs j)) = true
def Stops (xs : List Int) (k : Nat) : Prop := Runs xs k ∧ okM (xs.drop (posM xs k)) = false
theorem Runs.zero (xs : List Int) : Runs xs 0 := fun j hj => by omega
theorem Runs.succ {xs : List Int} {k : Nat} (h : Runs xs k) (o : okM (xs.drop (posM xs k)) = true) : Runs xs (k + 1) := fun j hj => by
  by_cases e : j = k
  · subst e; exact o
  · exact h j (by omega)
theorem ok_len {ys : List Int} (h : okM ys = true) : lenOf ys ≤ ys.length := by
  unfold okM at h
  exact of_decide_eq_true h
theorem Runs.pos {xs : List Int} {k : Nat} (h : Runs xs k) : k ≤ posM xs k ∧ posM xs k ≤ xs.length := by
  induction k with
  | zero => exact ⟨Nat.le_refl _, Nat.zero_le _⟩
  | succ k ih =>
    have h1 := ih (fun j hj => h j (by omega))
    have h2 := ok_len (h k (by omega))
    have h3 := lead_lt_len (xs.drop (posM xs k))
    rw [List.length_drop] at h2
    show k + 1 ≤ posM xs k + lenOf (xs.drop (posM xs k)) ∧ posM xs k + lenOf (xs.drop (posM xs k)) ≤ xs.length
    omega
theorem Stops.same {xs : List Int} {j k : Nat} (h : Stops xs j) (h' : Stops xs k) : j = k := by
  rcases Nat.lt_trichotomy j k with e | e | e
  · have := h'.1 j e
    rw [h.2] at this
    cases this
  · exact e
  · have := h.1 k e
    rw [h'.2] at this
    cases this
theorem Bytes8.drop {xs : List Int} (h : Bytes8 xs) (k : Nat) : Bytes8 (xs.drop k) := fun x hx => h x (List.mem_of_mem_drop hx)
theorem Bytes8.take {xs : List Int} (h : Bytes8 xs) (k : Nat) : Bytes8 (xs.take k) := fun x hx => h x (List.mem_of_mem_take hx)
theorem Bytes8.append {xs ys : List Int} (h : Bytes8 xs) (h' : Bytes8 ys) : Bytes8 (xs ++ ys) := fun x hx => by
  rcases List.mem_append.1 hx with e | e
  · exact h x e
  · exact h' x e
def preS (c : Int) (s : Ms) : Ms := ({ s.toPlane (if c = 253 then 4 else 3) with r := tickG s.r 1 } : Ms).pcUp
theorem exec_nil {c : Int} (h : c = 221 ∨ c = 253) (s : Ms) : execN [] c s = .error ⟨1, s.r.pc, 0, 4⟩ := by rw [execN, if_pos h]
theorem exec_cons {c : Int} (h : c = 221 ∨ c = 253) (s : Ms) (b : Int) (bs : List Int) : execN (b :: bs) c s = execN bs b (preS c s) := by rw [execN, if_pos h]; rfl
theorem fetch_k (a : Int) : CyK ⟨1, a, 0, 4⟩ := by simp [CyK]
theorem exec_k {e : Cy} : ∀ {xs : List Int} {c : Int} {s : Ms}, execN xs c s = .error e → CyK e := by
  intro xs
  induction xs with
  | nil =>
    intro c s h
    by_cases hp : c = 221 ∨ c = 253
    · rw [exec_nil hp] at h
      injection h with h; subst h
      exact fetch_k _
    · rw [exec_body hp] at h; exact (deaf_body c s).error h
  | cons x xs ih =>
    intro c s h
    by_cases hp : c = 221 ∨ c = 253
    · rw [exec_cons hp] at h; exact ih h
    · rw [exec_body hp] at h; exact (deaf_body c s).error h
def ms1 (g : Rg) : Ms := (({ ms0 g with r := tickG g 1 } : Ms).pcUp).noLate
theorem next_nil (g : Rg) : nextOf g [] = .error ⟨1, g.pc, 0, 4⟩ := by unfold nextOf; split <;> rfl
theorem next_halt {g : Rg} (h : g.halted = true) (b : Int) (bs : List Int) : nextOf g (b :: bs) = .ok ({ ms0 g with r := tickG g 1 }, bs) := by unfold nextOf; rw [if_pos h]; exact Tr.run_done _ _
theorem next_cons {g : Rg} (h : g.halted = false) (b : Int) (bs : List Int) : nextOf g (b :: bs) = execN bs b (ms1 g) := by unfold nextOf; rw [if_neg (by rw [h]; simp)]; rfl
theorem next_k {g : Rg} {e : Cy} {xs : List Int} (h : nextOf g xs = .error e) : CyK e := by
  cases xs with
  | nil => rw [next_nil] at h; injection h with h; subst h; exact fetch_k _
  | cons x xs =>
    cases hh : g.halted with
    | true => rw [next_halt hh] at h; cases h
    | false => rw [next_cons hh] at h; exact exec_k h
theorem next_t {g : Rg} {xs : List Int} (h : doneOf (nextOf g xs) = false) : 1 ≤ (cyOf (nextOf g xs)).t ∧ (cyOf (nextOf g xs)).t ≤ 7 := by
  cases e : nextOf g xs with
  | ok a => rw [e] at h; cases h
  | error c => have := next_k e; exact ⟨this.2.2.2.1, this.2.2.2.2.1⟩
theorem byte_list {b : Int} (h : B8 b) : Bytes8 [b] := fun x hx => by cases List.mem_singleton.1 hx; exact h
section
variable {rd : Int → Bool} {f : List Int → Cy × Bool} {c : Cy} {d : Bool} {got : List Int}
theorem takes_read (hF : f got = (c, d)) (hd : d = false) (hr : rd c.kind = true) (hl : got.length < 200) (xs : List Int) (n : Int) : takesGo rd f (200 - (got ++ [xs.headD 0]).length) (got ++ [xs.headD 0]) xs.tail (n + c.t) = takesGo rd f (200 - got.length) got xs n := by
  obtain ⟨k, hk⟩ : ∃ k, 200 - got.length = k + 1 := ⟨199 - got.length, by omega⟩
  rw [hk, takesGo, hF, List.length_append, List.length_singleton, show 200 - (got.length + 1) = k by omega]
  subst hd
  simp only [Bool.false_eq_true, if_false, hr, if_true]
theorem takes_none (hF : f got = (c, d)) (hd : d = false) (hr : rd c.kind = false) (hl : got.length < 200) (xs : List Int) (n : Int) : takesGo rd f (200 - (got ++ [0]).length) (got ++ [0]) xs (n + c.t) = takesGo rd f (200 - got.length) got xs n := by
  obtain ⟨k, hk⟩ : ∃ k, 200 - got.length = k + 1 := ⟨199 - got.length, by omega⟩
  rw [hk, takesGo, hF, List.length_append, List.length_singleton, show 200 - (got.length + 1) = k by omega]
  subst hd
  simp only [Bool.false_eq_true, if_false, hr]
theorem takes_done (hF : f got = (c, d)) (hd : d = true) (xs : List Int) (n : Int) : takesGo rd f (200 - got.length) got xs n = (n, got) := by
  cases h : 200 - got.length with
  | zero => rfl
  | succ k => rw [takesGo, hF, hd]; rfl
theorem takes_full (hl : 200 ≤ got.length) (xs : List Int) (n : Int) : takesGo rd f (200 - got.length) got xs n = (n, got) := by
  rw [show 200 - got.length = 0 by omega]; rfl
end
theorem reads_any' (k : Int) (w : World) : Calls Tryz.prog 32 #[.int .i64 k] w (fun e w' => e = .returned (.bool (readsM k)) ∧ Below w.heap.size w w') := reads_any k w
theorem ntakes_any (g : Rg) (hg : RgB g) (A : Option Addr) (cap : Nat) (ans : List Int) (hc : ans.length ≤ cap) (hans : Bytes8 ans) (w : World) (hin : BytesIn w w.heap.size A ans) (ht : Tabs w w.heap.size) :
    Calls Tryz.prog 16 #[regsV g, .slice A ans.length cap] w fun e w' => e = .returned (.tuple #[.int .i64 (takesOf g ans).1, .int .i64 ((takesOf g ans).2.length : Int)]) ∧ Below w.heap.size w w' := by
  have hb := Below.refl w.heap.size w
  go_enter Tryz.func16, Tryz.ntmps16
  refine wp_seq_k fun K1 hK1 => ?_
  refine region_row [(some 2, .box 24 (regsC g) none none), (some 4, .val (.int .i64 (0))), (some 5, .val (.int .i64 (0)))] (by kernel_rfl) ⟨⟨fun k vs e => (by cases e), fun p l a w I hd => heBox rfl (by kernel_rfl) (boxRg _ w)⟩, fun p l a w I hd => heMove (.inr rfl) (by kernel_rfl) w, fun p l a w I hd => heMove (.inr rfl) (by kernel_rfl) w, trivial⟩ ?_
  intro p2 W2 hE
  have hb := hb.trans (hE.1.mono hb.size)
  have rb2_0 : Row W2 (p2 0) 24 (regsC g) := (hE.2.1 0 _ _ _ _ _ rfl).2
  clear hE
  try simp only [litA, layL, Pl.value, sA, sB, sC]
  generalize p2 0 = b2_0 at *
  refine thenN (hK1 _ _ ?_)
  refine wp_seq_k fun K3 hK3 => ?_
  refine regionL ?_
  refine oA 6 (.int .i64 (0)) ?_
  refine endL ?_
  try simp only [Act.put, sA, sB, sC]
  refine thenN (hK3 _ _ ?_)
  refine wp_seq_k fun K4 hK4 => ?_
  refine regionL ?_
  refine oA 7 (.slice none 0 0) ?_
  refine endL ?_
  try simp only [Act.put, sA, sB, sC]
  refine thenN (hK4 _ _ ?_)
  refine wp_seq_k fun K5 hK5 => ?_
  refine wp_block ?_
  have hB0 := Below.refl W2.heap.size W2
  have hrlt := rb2_0.lt
  have hb0 := hb
  have hr0 := rb2_0
  refine wp_loop (fun a' w' => ∃ (got1 xs1 : List Int) (n1 : Int) (A1 : Option Addr) (c1 : Nat) (v1 y8 y9 y10 y11 y12 y13 y14 y15 y16 y17 y18 y19 y20 y21 y22 y23 y24 y25 y26 y27 y28 y29 y30 y31 y32 y33 y34 y35 y36 y37 y38 y39 y40 y41 y42 y43 : Value), a' = { tmps := #[regsV g, .slice A1 xs1.length c1, pT b2_0 0, undef, .int .i64 (0), .int .i64 (0), .int .i64 n1, v1, y8, y9, y10, y11, y12, y13, y14, y15, y16, y17, y18, y19, y20, y21, y22, y23, y24, y25, y26, y27, y28, y29, y30, y31, y32, y33, y34, y35, y36, y37, y38, y39, y40, y41, y42, y43, undef, undef, undef], defers := [] } ∧ Below W2.heap.size W2 w' ∧ w'.ownsRow W2.heap.size 5 1 v1 got1.length (bvs got1) ∧ Bytes8 got1 ∧ got1.length ≤ 200 ∧ 0 ≤ n1 ∧ n1 ≤ 7 * (got1.length : Int) ∧ Bytes8 xs1 ∧ BytesIn w w.heap.size A1 xs1 ∧ xs1.length ≤ c1 ∧ takesGo readsM (nextF g) (200 - got1.length) got1 xs1 n1 = takesOf g ans) (fun a' _ => 200 - lenV (a'.tmps.getD 7 undef)) ⟨[], ans, 0, A, cap, .slice none 0 0, undef, undef, undef, undef, undef, undef, undef, undef, undef, undef, undef, undef, undef, undef, undef, undef, undef, undef, undef, undef, undef, undef, undef, undef, undef, undef, undef, undef, undef, undef, undef, undef, undef, undef, undef, undef, rfl, hB0, World.ownsRow_nil _ _ _ _, (fun x h => by cases h), (by decide), (by decide), (by decide), hans, hin, hc, rfl⟩ ?_
  rintro a1 w1 ⟨got1, xs1, n1, A1, c1, v1, y8, y9, y10, y11, y12, y13, y14, y15, y16, y17, y18, y19, y20, y21, y22, y23, y24, y25, y26, y27, y28, y29, y30, y31, y32, y33, y34, y35, y36, y37, y38, y39, y40, y41, y42, y43, rfl, hB, own, hg8, hl200, hn0, hn7, hx8, hin1, hxc, hT⟩
  have rb2_0 := hr0.below hB hrlt
  have hb := hb0.trans (hB.mono hb0.size)
  obtain ⟨Av, cv, rfl, hle, hby, hnn⟩ := own_slice own
  obtain ⟨c, hcE⟩ : ∃ c, c = cyOf (nextOf g got1) := ⟨_, rfl⟩
  obtain ⟨s, hsE⟩ : ∃ s, s = rgOf (nextOf g got1) := ⟨_, rfl⟩
  obtain ⟨d, hdE⟩ : ∃ d, d = doneOf (nextOf g got1) := ⟨_, rfl⟩
  have hF : nextF g got1 = (c, d) := by rw [hcE, hdE]; rfl
  have hct : d = false → 1 ≤ c.t ∧ c.t ≤ 7 := fun h => by rw [hcE]; exact next_t (hdE.symm.trans h)
  have K := next_hid g hg Av cv got1 hle hg8 w1 hby (ht.below hb)
  rw [← hcE, ← hsE, ← hdE] at K
  refine wp_seq_k fun K6 hK6 => ?_
  refine wp_seq_k fun K7 hK7 => ?_
  refine regionL ?_
  refine oM 12 (.slice Av got1.length cv) ?_
  refine oT 13 (.int .i64 ((got1.length : Int))) (by kernel_rfl) ?_
  refine oJ 14 (.int .i64 ((got1.length : Int))) (.int .i64 (200)) (.bool (decide ((got1.length : Int) < 200))) (egI _ _ _ _ _) (bLtI ((got1.length : Int)) 200) ?_
  refine endL ?_
  try simp only [Act.put, sA, sB, sC]
  refine thenN (hK7 _ _ ?_)
  refine wp_cond_split (t := decide ((got1.length : Int) < 200)) (by kernel_rfl) (fun h8 => ?_) (fun h8 => ?_)
  · skip
    have g8 : (got1.length : Int) < 200 := by simpa using h8
    refine wp_skip ?_
    refine thenN (hK6 _ _ ?_)
    refine wp_block ?_
    refine wp_seq_k fun K9 hK9 => ?_
    refine region_row [(some 16, .val (regsV g)), (some 17, .val (.slice Av got1.length cv)), (some 18, .call (.tuple #[cyV c, regsV s, .bool (d)])), (some 15, .val (.tuple #[cyV c, regsV s, .bool (d)])), (some 19, .val (cyV c)), (some 20, .val (regsV s)), (some 21, .val (.bool (d))), (some 8, .box 28 (cyC zeroCy) (some (9, cyC c)) none), (some 9, .box 24 (regsC zeroRg) (some (10, regsC s)) none), (none, .put 7), (none, .put 8), (some 10, .val (.bool (d)))] (by kernel_rfl) ⟨fun p l a w I hd => heLoad rfl (by kernel_rfl) (ldR (rb2_0.below I.below rb2_0.lt).range), fun p l a w I hd => heMove (.inl rfl) (by kernel_rfl) w, fun p l a w I hd => ⟨_, _, (by kernel_rfl), K w I.below⟩, fun p l a w I hd => heMove (.inl rfl) (by kernel_rfl) w, fun p l a w I hd => heExtract (vs := #[cyV c, regsV s, .bool (d)]) rfl (by kernel_rfl) (by kernel_rfl) w, fun p l a w I hd => heExtract (vs := #[cyV c, regsV s, .bool (d)]) rfl (by kernel_rfl) (by kernel_rfl) w, fun p l a w I hd => heExtract (vs := #[cyV c, regsV s, .bool (d)]) rfl (by kernel_rfl) (by kernel_rfl) w, ⟨fun k vs e => (by cases e; rfl), fun p l a w I hd => heAlloc rfl (allocCy w)⟩, ⟨fun k vs e => (by cases e; rfl), fun p l a w I hd => heAlloc rfl (allocRg w)⟩, fun p l a w I hd d t z s vs hj hr => (by cases hj; exact heStore rfl (by kernel_rfl) (by kernel_rfl) (stCy hr)), fun p l a w I hd d t z s vs hj hr => (by cases hj; exact heStore rfl (by kernel_rfl) (by kernel_rfl) (stRow hr)), fun p l a w I hd => heMove (.inr rfl) (by kernel_rfl) w, trivial⟩ ?_
    intro p10 W10 hE
    have rb2_0 := rb2_0.below hE.1 rb2_0.lt
    have own := own_below own hE.1
    have hb := hb.trans (hE.1.mono hb.size)
    have hB := hB.trans (hE.1.mono hB.size)
    have rb10_7 : Row W10 (p10 7) 28 (cyC c) := (hE.2.1 7 _ _ _ _ _ rfl).2
    have rb10_8 : Row W10 (p10 8) 24 (regsC s) := (hE.2.1 8 _ _ _ _ _ rfl).2
    clear hE
    try simp only [litA, layL, Pl.value, sA, sB, sC]
    generalize p10 7 = b10_7 at *
    generalize p10 8 = b10_8 at *
    refine thenN (hK9 _ _ ?_)
    refine wp_seq_k fun K11 hK11 => ?_
    refine wp_seq_k fun K12 hK12 => ?_
    refine regionL ?_
    refine oM 22 (.bool (d)) ?_
    refine endL ?_
    try simp only [Act.put, sA, sB, sC]
    refine thenN (hK12 _ _ ?_)
    refine wp_cond_split (t := d) (by kernel_rfl) (fun h13 => ?_) (fun h13 => ?_)
    · skip
      have g13 : d = true := by simpa using h13
      refine wp_exit ?_
      refine thenE ?_
      refine blockO (by decide) ?_
      refine thenE ?_
      refine blockE ?_
      refine thenN (hK5 _ _ ?_)
      refine wp_seq_k fun K14 hK14 => ?_
      refine regionL ?_
      refine oM 44 (.int .i64 (n1)) ?_
      refine oM 45 (.slice Av got1.length cv) ?_
      refine oT 46 (.int .i64 ((got1.length : Int))) (by kernel_rfl) ?_
      refine oA 4 (.int .i64 (n1)) ?_
      refine oA 5 (.int .i64 ((got1.length : Int))) ?_
      refine endL ?_
      try simp only [Act.put, sA, sB, sC]
      refine thenN (hK14 _ _ ?_)
      refine wp_ret ?_
      have hR := hT.symm.trans (takes_done hF h13 _ _)
      exact bodyPost_ret (results_tmp2 rfl _ _ _) rfl ⟨by rw [hR]; rfl, hb⟩
    · skip
      have g13 : ¬ d = true := by simpa using h13
      refine wp_skip ?_
      refine thenN (hK11 _ _ ?_)
      refine wp_seq_k fun K15 hK15 => ?_
      refine regionL ?_
      refine oM 23 (.int .i64 (n1)) ?_
      refine oF 24 (fC3 b10_7) ?_
      refine oL 25 (ldI (rb10_7.at 3 (.int .i64 (c.t)))) ?_
      refine oJ 26 (.int .i64 (n1)) (.int .i64 (c.t)) (.int .i64 (n1 + c.t)) (egI _ _ _ _ _) (bAddI' n1 c.t (by have := hct h13; omega) (by have := hct h13; omega)) ?_
      refine oA 6 (.int .i64 (n1 + c.t)) ?_
      refine endL ?_
      try simp only [Act.put, sA, sB, sC]
      refine thenN (hK15 _ _ ?_)
      refine wp_seq_k fun K16 hK16 => ?_
      refine regionL ?_
      refine oA 11 (.int .u8 (0)) ?_
      refine endL ?_
      try simp only [Act.put, sA, sB, sC]
      refine thenN (hK16 _ _ ?_)
      refine wp_seq_k fun K17 hK17 => ?_
      refine wp_seq_k fun K18 hK18 => ?_
      refine regionL ?_
      refine oF 27 (fC0 b10_7) ?_
      refine oL 28 (ldI (rb10_7.at 0 (.int .i64 (c.kind)))) ?_
      refine oC (.bool (readsM c.kind)) (reads_any' _ _) ?_
      intro W19 hk
      have rb2_0 := rb2_0.below hk rb2_0.lt
      have rb10_7 := rb10_7.below hk rb10_7.lt
      have rb10_8 := rb10_8.below hk rb10_8.lt
      have own := own_below own hk
      have hb := hb.trans (hk.mono hb.size)
      have hB := hB.trans (hk.mono hB.size)
      refine oM 30 (.bool (readsM c.kind)) ?_
      rcases Bool.eq_false_or_eq_true (readsM c.kind) with h20 | h20
      · skip
        have g20 : readsM c.kind = true := by simpa using h20
        rewrite [h20]
        refine oT 31 (.slice A1 xs1.length c1) (heMove (.inl rfl) (by kernel_rfl) _) ?_
        refine oT 32 (.int .i64 ((xs1.length : Int))) (by kernel_rfl) ?_
        refine oT 33 (.bool (decide (0 < (xs1.length : Int)))) (heBin (V := .int .i64 ((xs1.length : Int))) (W := .int .i64 (0)) (R := .bool (decide (0 < (xs1.length : Int)))) rfl (by kernel_rfl) (by kernel_rfl) (egI _ _ _ _ _) (bGtI' ((xs1.length : Int)) 0) _) ?_
        refine oP 34 (.bool (decide (0 < (xs1.length : Int)))) true ?_
        refine endL ?_
        try simp only [Act.put, sA, sB, sC]
        refine thenN (hK18 _ _ ?_)
        refine wp_cond_split (t := decide (0 < (xs1.length : Int))) (by kernel_rfl) (fun h21 => ?_) (fun h21 => ?_)
        · skip
          have g21 : 0 < (xs1.length : Int) := by simpa using h21
          obtain ⟨x2, xs2, rfl⟩ : ∃ x xs, xs1 = x :: xs := by cases xs1 with | nil => simp at g21 | cons x xs => exact ⟨x, xs, rfl⟩
          obtain ⟨ad, hA1, had, hcell⟩ := hin1.at_ (k := 0) (by simp)
          subst hA1
          have hin2 : BytesIn w w.heap.size (if c1 = 1 then some ad else (some ad).map (·.add 1)) xs2 := hin1.drop (k := 1) (cap := c1) (by simp) hxc
          have hxl : 1 ≤ (x2 :: xs2).length := by simp
          refine held_start (fun w' => Below W19.heap.size W19 w') (by kernel_rfl) (fun w' h => h.drew) (Below.refl _ _) ?_
          intro W22 hE1
          refine heldTake (i := 0) 35 (.slice (some ad) (x2 :: xs2).length c1) (by kernel_rfl) rfl (by kernel_rfl) (by kernel_rfl) (by kernel_rfl) (fun _ _ _ h => h) (by kernel_rfl) (fun w hS => heMove (.inl rfl) (by kernel_rfl) _) hE1 ?_
          try simp only [Act.put, List.setIfInBounds_toArray, List.set_cons_zero, List.set_cons_succ]
          refine heldTake (i := 1) 36 (.pointer (some (ad.add 0))) (by kernel_rfl) rfl (by kernel_rfl) (by kernel_rfl) (by kernel_rfl) (fun _ _ _ h => h) (by kernel_rfl) (fun w hS => heIndex (V := .slice (some ad) (x2 :: xs2).length c1) (W := .int .i64 (0)) rfl (by kernel_rfl) (by kernel_rfl) (ix0 _ _ _ hxl _)) hE1 ?_
          try simp only [Act.put, List.setIfInBounds_toArray, List.set_cons_zero, List.set_cons_succ]
          refine heldTake (i := 2) 37 (.int .u8 (x2)) (by kernel_rfl) rfl (by kernel_rfl) (by kernel_rfl) (by kernel_rfl) (fun _ _ _ h => h) (by kernel_rfl) (fun w hS => heLoad rfl (by kernel_rfl) (ld8 ((hb.trans (hS.mono hb.size)).cell (p := ad.add 0) (by rw [add_block]; exact had) |>.trans hcell))) hE1 ?_
          try simp only [Act.put, List.setIfInBounds_toArray, List.set_cons_zero, List.set_cons_succ]
          refine heldTake (i := 3) 38 (.slice (some ad) (x2 :: xs2).length c1) (by kernel_rfl) rfl (by kernel_rfl) (by kernel_rfl) (by kernel_rfl) (fun _ _ _ h => h) (by kernel_rfl) (fun w hS => heMove (.inl rfl) (by kernel_rfl) _) hE1 ?_
          try simp only [Act.put, List.setIfInBounds_toArray, List.set_cons_zero, List.set_cons_succ]
          refine heldTake (i := 4) 39 (.slice (if c1 = 1 then some ad else (some ad).map (·.add 1)) xs2.length (c1 - 1)) (by kernel_rfl) rfl (by kernel_rfl) (by kernel_rfl) (by kernel_rfl) (fun _ _ _ h => h) (by kernel_rfl) (fun w hS => heSlice (V := .slice (some ad) (x2 :: xs2).length c1) rfl (by kernel_rfl) (by kernel_rfl) (by kernel_rfl) (by kernel_rfl) (slFrom1 _ _ _ hxl hxc _)) hE1 ?_
          try simp only [Act.put, List.setIfInBounds_toArray, List.set_cons_zero, List.set_cons_succ]
          refine heldTake (i := 5) 11 (.int .u8 (x2)) (by kernel_rfl) rfl (by kernel_rfl) (by kernel_rfl) (by kernel_rfl) (fun _ _ _ h => h) (by kernel_rfl) (fun w hS => heMove (.inr rfl) (by kernel_rfl) _) hE1 ?_
          try simp only [Act.put, List.setIfInBounds_toArray, List.set_cons_zero, List.set_cons_succ]
          refine heldTake (i := 6) 1 (.slice (if c1 = 1 then some ad else (some ad).map (·.add 1)) xs2.length (c1 - 1)) (by kernel_rfl) rfl (by kernel_rfl) (by kernel_rfl) (by kernel_rfl) (fun _ _ _ h => h) (by kernel_rfl) (fun w hS => heMove (.inr rfl) (by kernel_rfl) _) hE1 ?_
          try simp only [Act.put, List.setIfInBounds_toArray, List.set_cons_zero, List.set_cons_succ]
          refine wpAnyH_done (by kernel_rfl) ?_ _
          have rb2_0 := rb2_0.below hE1 rb2_0.lt
          have rb10_7 := rb10_7.below hE1 rb10_7.lt
          have rb10_8 := rb10_8.below hE1 rb10_8.lt
          have own := own_below own hE1
          have hb := hb.trans (hE1.mono hb.size)
          have hB := hB.trans (hE1.mono hB.size)
          try simp only [Act.put, sA, sB, sC]
          refine thenN (hK17 _ _ ?_)
          refine regionL <| oM 40 (.slice Av got1.length cv) <| oM 41 (.int .u8 (x2)) <| oV 42 1 #[.int .u8 (x2)] 5 #[(0, .int .u8 (x2))] (bs1 x2 _) ?_
          have hBa := hB.alloc hB.size (.cells #[.int .u8 (x2)] 5)
          refine oE (c := 1) W2 W2.heap.size [x2] hBa (Nat.le_refl _) hBa.size (own.alloc _) (byte_new W22 x2 _) (fun h => by cases h) (by simp; omega) ?_
          intro v2 w2 own2 hB2 hs2
          refine oA 7 v2 ?_
          refine endL ?_
          try simp only [Act.put, sA, sB, sC]
          refine blockN ?_
          have own3 : w2.ownsRow W2.heap.size 5 1 v2 (got1 ++ [x2]).length (bvs (got1 ++ [x2])) := by rw [List.length_append]; exact own2
          obtain ⟨A3, c3, hv3, -⟩ := own_slice own3
          subst hv3
          have hkt := hct h13
          have hb := hb0.trans (hB2.mono hb0.size)
          exact thenN ⟨⟨got1 ++ [x2], xs2, n1 + c.t, (if c1 = 1 then some ad else (some ad).map (·.add 1)), c1 - 1, .slice A3 (got1 ++ [x2]).length c3, pT b10_7 0, pT b10_8 0, .bool (d), .int .u8 (x2), .slice Av got1.length cv, .int .i64 ((got1.length : Int)), .bool (decide ((got1.length : Int) < 200)), .tuple #[cyV c, regsV s, .bool (d)], regsV g, .slice Av got1.length cv, .tuple #[cyV c, regsV s, .bool (d)], cyV c, regsV s, .bool (d), .bool (d), .int .i64 (n1), pT b10_7 3, .int .i64 (c.t), .int .i64 (n1 + c.t), pT b10_7 0, .int .i64 (c.kind), .bool (true), .bool (true), .slice (some ad) (x2 :: xs2).length c1, .int .i64 (((x2 :: xs2).length : Int)), .bool (decide (0 < ((x2 :: xs2).length : Int))), .bool (decide (0 < ((x2 :: xs2).length : Int))), .slice (some ad) (x2 :: xs2).length c1, .pointer (some (ad.add 0)), .int .u8 (x2), .slice (some ad) (x2 :: xs2).length c1, .slice (if c1 = 1 then some ad else (some ad).map (·.add 1)) xs2.length (c1 - 1), .slice Av got1.length cv, .int .u8 (x2), .slice (some ⟨W22.heap.size, 0, none⟩) 1 1, .slice A3 (got1 ++ [x2]).length c3, rfl, hB2, own3, hg8.append (byte_list hx8.head), (by rw [List.length_append, List.length_singleton]; omega), (by omega), (by rw [List.length_append, List.length_singleton]; omega), hx8.tail, hin2, (by simp at hxc ⊢; omega), (takes_read (rd := readsM) hF h13 h20 (by omega) (x2 :: xs2) n1).trans hT⟩, by simp [lenV]; omega⟩
        · skip
          have g21 : ¬ 0 < (xs1.length : Int) := by simpa using h21
          refine wp_skip ?_
          refine thenN (hK17 _ _ ?_)
          refine regionL <| oM 40 (.slice Av got1.length cv) <| oM 41 (.int .u8 (0)) <| oV 42 1 #[.int .u8 (0)] 5 #[(0, .int .u8 (0))] (bs1 0 _) ?_
          have hBa := hB.alloc hB.size (.cells #[.int .u8 (0)] 5)
          refine oE (c := 1) W2 W2.heap.size [0] hBa (Nat.le_refl _) hBa.size (own.alloc _) (byte_new W19 0 _) (fun h => by cases h) (by simp; omega) ?_
          intro v2 w2 own2 hB2 hs2
          refine oA 7 v2 ?_
          refine endL ?_
          try simp only [Act.put, sA, sB, sC]
          refine blockN ?_
          have own3 : w2.ownsRow W2.heap.size 5 1 v2 (got1 ++ [0]).length (bvs (got1 ++ [0])) := by rw [List.length_append]; exact own2
          obtain ⟨A3, c3, hv3, -⟩ := own_slice own3
          subst hv3
          have hkt := hct h13
          have hb := hb0.trans (hB2.mono hb0.size)
          obtain rfl : xs1 = [] := List.eq_nil_of_length_eq_zero (by omega)
          exact thenN ⟨⟨got1 ++ [0], [], n1 + c.t, _, _, .slice A3 (got1 ++ [0]).length c3, pT b10_7 0, pT b10_8 0, .bool (d), .int .u8 (0), .slice Av got1.length cv, .int .i64 ((got1.length : Int)), .bool (decide ((got1.length : Int) < 200)), .tuple #[cyV c, regsV s, .bool (d)], regsV g, .slice Av got1.length cv, .tuple #[cyV c, regsV s, .bool (d)], cyV c, regsV s, .bool (d), .bool (d), .int .i64 (n1), pT b10_7 3, .int .i64 (c.t), .int .i64 (n1 + c.t), pT b10_7 0, .int .i64 (c.kind), .bool (true), .bool (true), .slice A1 ([] : List Int).length c1, .int .i64 ((([] : List Int).length : Int)), .bool (decide (0 < (([] : List Int).length : Int))), .bool (decide (0 < (([] : List Int).length : Int))), y35, y36, y37, y38, y39, .slice Av got1.length cv, .int .u8 (0), .slice (some ⟨W19.heap.size, 0, none⟩) 1 1, .slice A3 (got1 ++ [0]).length c3, rfl, hB2, own3, hg8.append (byte_list B8.zero), (by rw [List.length_append, List.length_singleton]; omega), (by omega), (by rw [List.length_append, List.length_singleton]; omega), hx8, BytesIn.nil _ _ _, hxc, (takes_read (rd := readsM) hF h13 h20 (by omega) [] n1).trans hT⟩, by simp [lenV]; omega⟩
      · skip
        have g20 : ¬ readsM c.kind = true := by simpa using h20
        rewrite [h20]
        refine oZ 31 ?_
        refine oZ 32 ?_
        refine oZ 33 ?_
        refine oP 34 (.bool (false)) false ?_
        refine endL ?_
        try simp only [Act.put, sA, sB, sC]
        refine thenN (hK18 _ _ ?_)
        refine wp_cond_false (by kernel_rfl) ?_
        refine wp_skip ?_
        refine thenN (hK17 _ _ ?_)
        refine regionL <| oM 40 (.slice Av got1.length cv) <| oM 41 (.int .u8 (0)) <| oV 42 1 #[.int .u8 (0)] 5 #[(0, .int .u8 (0))] (bs1 0 _) ?_
        have hBa := hB.alloc hB.size (.cells #[.int .u8 (0)] 5)
        refine oE (c := 1) W2 W2.heap.size [0] hBa (Nat.le_refl _) hBa.size (own.alloc _) (byte_new W19 0 _) (fun h => by cases h) (by simp; omega) ?_
        intro v2 w2 own2 hB2 hs2
        refine oA 7 v2 ?_
        refine endL ?_
        try simp only [Act.put, sA, sB, sC]
        refine blockN ?_
        have own3 : w2.ownsRow W2.heap.size 5 1 v2 (got1 ++ [0]).length (bvs (got1 ++ [0])) := by rw [List.length_append]; exact own2
        obtain ⟨A3, c3, hv3, -⟩ := own_slice own3
        subst hv3
        have hkt := hct h13
        have hb := hb0.trans (hB2.mono hb0.size)
        exact thenN ⟨⟨got1 ++ [0], xs1, n1 + c.t, _, _, .slice A3 (got1 ++ [0]).length c3, pT b10_7 0, pT b10_8 0, .bool (d), .int .u8 (0), .slice Av got1.length cv, .int .i64 ((got1.length : Int)), .bool (decide ((got1.length : Int) < 200)), .tuple #[cyV c, regsV s, .bool (d)], regsV g, .slice Av got1.length cv, .tuple #[cyV c, regsV s, .bool (d)], cyV c, regsV s, .bool (d), .bool (d), .int .i64 (n1), pT b10_7 3, .int .i64 (c.t), .int .i64 (n1 + c.t), pT b10_7 0, .int .i64 (c.kind), .bool (false), .bool (false), undef, undef, undef, .bool (false), y35, y36, y37, y38, y39, .slice Av got1.length cv, .int .u8 (0), .slice (some ⟨W19.heap.size, 0, none⟩) 1 1, .slice A3 (got1 ++ [0]).length c3, rfl, hB2, own3, hg8.append (byte_list B8.zero), (by rw [List.length_append, List.length_singleton]; omega), (by omega), (by rw [List.length_append, List.length_singleton]; omega), hx8, hin1, hxc, (takes_none (rd := readsM) hF h13 h20 (by omega) xs1 n1).trans hT⟩, by simp [lenV]; omega⟩
  · skip
    have g8 : ¬ (got1.length : Int) < 200 := by simpa using h8
    refine wp_exit ?_
    refine thenE ?_
    refine thenE ?_
    refine blockE ?_
    refine thenN (hK5 _ _ ?_)
    refine wp_seq_k fun K23 hK23 => ?_
    refine regionL ?_
    refine oM 44 (.int .i64 (n1)) ?_
    refine oM 45 (.slice Av got1.length cv) ?_
    refine oT 46 (.int .i64 ((got1.length : Int))) (by kernel_rfl) ?_
    refine oA 4 (.int .i64 (n1)) ?_
    refine oA 5 (.int .i64 ((got1.length : Int))) ?_
    refine endL ?_
    try simp only [Act.put, sA, sB, sC]
    refine thenN (hK23 _ _ ?_)
    refine wp_ret ?_
    have hR := hT.symm.trans (takes_full (by omega) _ _)
    exact bodyPost_ret (results_tmp2 rfl _ _ _) rfl ⟨by rw [hR]; rfl, hb⟩
def ca0 : Cy := ⟨1, 5, 0, 4⟩
def ca1 : Cy := ⟨2, 6, 0, 3⟩
def ga2 : Rg := { zeroRg with af := 1792, pc := 7, r := 1 }
def ga3 : Rg := { g5 with af := 256 }
theorem g5_b : RgB g5 := by constructor <;> first | exact ⟨by decide, by decide⟩ | decide
theorem b62 : Bytes8 [62] := fun x hx => by cases List.mem_singleton.1 hx; exact ⟨by decide, by decide⟩
theorem b627 : Bytes8 [62, 7] := fun x hx => by
  simp only [List.mem_cons, List.not_mem_nil, or_false] at hx
  rcases hx with rfl | rfl <;> exact ⟨by decide, by decide⟩
theorem bytes_row {w : World} {b : Nat} {t : TypeId} {cs : Array Value} {xs : List Int} (h : Row w b t cs) (e : ∀ j : Nat, ∀ x, xs[j]? = some x → cs[j]? = some (.int .u8 x)) : BytesIn w w.heap.size (some ⟨b, 0, none⟩) xs := fun j x hx =>
  ⟨_, rfl, h.lt, by
    have k := (h.cell j).trans (e j x hx)
    rw [show (⟨b, 0, none⟩ : Addr).add j = ⟨b, j, none⟩ by simp [Addr.add]; omega]
    exact k⟩
theorem row_1 {w : World} {b : Nat} {t : TypeId} {x : Int} (h : Row w b t #[.int .u8 x]) : BytesIn w w.heap.size (some ⟨b, 0, none⟩) [x] := bytes_row h fun j y hy => by
  cases j with
  | zero => cases hy; rfl
  | succ j => cases hy
theorem row_2 {w : World} {b : Nat} {t : TypeId} {x y : Int} (h : Row w b t #[.int .u8 x, .int .u8 y]) : BytesIn w w.heap.size (some ⟨b, 0, none⟩) [x, y] := bytes_row h fun j z hz => by
  rcases j with _ | _ | j
  · cases hz; rfl
  · cases hz; rfl
  · cases hz
theorem awake_0 (w : World) (ht : Tabs w w.heap.size) : Calls Tryz.prog 12 #[regsV g5, .slice none 0 0] w fun e w' => e = .returned (.tuple #[cyV ca0, regsV zeroRg, .bool false]) ∧ Below w.heap.size w w' := by
  have h := nnext_any g5 g5_b none 0 [] (Nat.le_refl _) (fun x h => by cases h) w (BytesIn.nil _ _ _) ht
  rw [tellV_eq, ex_0] at h
  exact h
theorem awake_1 (w : World) (ht : Tabs w w.heap.size) {b : Nat} {t : TypeId} (hr : Row w b t #[.int .u8 62]) : Calls Tryz.prog 12 #[regsV g5, .slice (some ⟨b, 0, none⟩) 1 1] w fun e w' => e = .returned (.tuple #[cyV ca1, regsV zeroRg, .bool false]) ∧ Below w.heap.size w w' := by
  have h := nnext_any g5 g5_b (some ⟨b, 0, none⟩) 1 [62] (Nat.le_refl _) b62 w (row_1 hr) ht
  rw [tellV_eq, ex_1] at h
  exact h
theorem awake_2 (w : World) (ht : Tabs w w.heap.size) {b : Nat} {t : TypeId} (hr : Row w b t #[.int .u8 62, .int .u8 7]) : Calls Tryz.prog 12 #[regsV g5, .slice (some ⟨b, 0, none⟩) 2 2] w fun e w' => e = .returned (.tuple #[cyV zeroCy, regsV ga2, .bool true]) ∧ Below w.heap.size w w' := by
  have h := nnext_any g5 g5_b (some ⟨b, 0, none⟩) 2 [62, 7] (Nat.le_refl _) b627 w (row_2 hr) ht
  rw [tellV_eq, ex_2.1, ex_2.2, show cyOf (nextOf g5 [62, 7]) = zeroCy by rfl] at h
  exact h
theorem awake_3 (w : World) (ht : Tabs w w.heap.size) : Calls Tryz.prog 14 #[regsV g5, .int .u8 60, .slice none 0 0] w fun e w' => e = .returned (.tuple #[cyV zeroCy, regsV ga3, .bool true]) ∧ Below w.heap.size w w' := by
  have h := nafter_any g5 g5_b 60 ⟨by decide, by decide⟩ none 0 [] (Nat.le_refl _) (fun x h => by cases h) w (BytesIn.nil _ _ _) ht
  rw [tellV_eq, ex_3.1, show cyOf (afterOf g5 60 []) = zeroCy by rfl, show rgOf (afterOf g5 60 []) = ga3 by rfl] at h
  exact h
theorem awake_4 (w : World) (ht : Tabs w w.heap.size) {b : Nat} {t : TypeId} (hr : Row w b t #[.int .u8 62, .int .u8 7]) : Calls Tryz.prog 16 #[regsV g5, .slice (some ⟨b, 0, none⟩) 2 2] w fun e w' => e = .returned (.tuple #[.int .i64 7, .int .i64 2]) ∧ Below w.heap.size w w' := by
  have h := ntakes_any g5 g5_b (some ⟨b, 0, none⟩) 2 [62, 7] (Nat.le_refl _) b627 w (row_2 hr) ht
  rw [ex_4.1, ex_4.2] at h
  exact h
theorem awake12_any (w : World) (ht : Tabs w w.heap.size) :
    Calls Tryz.prog 11 #[] w fun e w' => e = .returned (.bool true) ∧ Below w.heap.size w w' := by
  have hb := Below.refl w.heap.size w
  go_enter Tryz.func11, Tryz.ntmps11
  refine wp_seq_k fun K1 hK1 => ?_
  refine regionL ?_
  refine oA 0 (.bool (false)) ?_
  refine endL ?_
  try simp only [Act.put, sA, sB, sC]
  refine thenN (hK1 _ _ ?_)
  refine wp_seq_k fun K2 hK2 => ?_
  refine region_row [(some 16, .val (regsV g5)), (some 1, .box 24 (regsC zeroRg) (some (2, regsC g5)) none), (none, .put 1)] (by kernel_rfl) ⟨fun p l a w I hd => heBuild (cells := regsC g5) rfl (by kernel_rfl) w, ⟨fun k vs e => (by cases e; rfl), fun p l a w I hd => heAlloc rfl (allocRg w)⟩, fun p l a w I hd d t z s vs hj hr => (by cases hj; exact heStore rfl (by kernel_rfl) (by kernel_rfl) (stRow hr)), trivial⟩ ?_
  intro p3 W3 hE
  have hb := hb.trans (hE.1.mono hb.size)
  have rb3_1 : Row W3 (p3 1) 24 (regsC g5) := (hE.2.1 1 _ _ _ _ _ rfl).2
  clear hE
  try simp only [litA, layL, Pl.value, sA, sB, sC]
  generalize p3 1 = b3_1 at *
  refine thenN (hK2 _ _ ?_)
  refine wp_seq_k fun K4 hK4 => ?_
  refine region_row [(some 18, .val (regsV g5)), (some 19, .call (.tuple #[cyV ca0, regsV zeroRg, .bool (false)])), (some 17, .val (.tuple #[cyV ca0, regsV zeroRg, .bool (false)])), (some 20, .val (cyV ca0)), (some 21, .val (regsV zeroRg)), (some 22, .val (.bool (false))), (some 2, .box 28 (cyC zeroCy) (some (8, cyC ca0)) none), (some 3, .box 24 (regsC zeroRg) (some (9, regsC zeroRg)) none), (none, .put 6), (none, .put 7), (some 4, .val (.bool (false)))] (by kernel_rfl) ⟨fun p l a w I hd => heLoad rfl (by kernel_rfl) (ldR (rb3_1.below I.below rb3_1.lt).range), fun p l a w I hd => ⟨_, _, (by kernel_rfl), awake_0 w (ht.below (hb.trans (I.below.mono hb.size)))⟩, fun p l a w I hd => heMove (.inl rfl) (by kernel_rfl) w, fun p l a w I hd => heExtract (vs := #[cyV ca0, regsV zeroRg, .bool (false)]) rfl (by kernel_rfl) (by kernel_rfl) w, fun p l a w I hd => heExtract (vs := #[cyV ca0, regsV zeroRg, .bool (false)]) rfl (by kernel_rfl) (by kernel_rfl) w, fun p l a w I hd => heExtract (vs := #[cyV ca0, regsV zeroRg, .bool (false)]) rfl (by kernel_rfl) (by kernel_rfl) w, ⟨fun k vs e => (by cases e; rfl), fun p l a w I hd => heAlloc rfl (allocCy w)⟩, ⟨fun k vs e => (by cases e; rfl), fun p l a w I hd => heAlloc rfl (allocRg w)⟩, fun p l a w I hd d t z s vs hj hr => (by cases hj; exact heStore rfl (by kernel_rfl) (by kernel_rfl) (stCy hr)), fun p l a w I hd d t z s vs hj hr => (by cases hj; exact heStore rfl (by kernel_rfl) (by kernel_rfl) (stRow hr)), fun p l a w I hd => heMove (.inr rfl) (by kernel_rfl) w, trivial⟩ ?_
  intro p5 W5 hE
  have rb3_1 := rb3_1.below hE.1 rb3_1.lt
  have hb := hb.trans (hE.1.mono hb.size)
  have rb5_6 : Row W5 (p5 6) 28 (cyC ca0) := (hE.2.1 6 _ _ _ _ _ rfl).2
  have rb5_7 : Row W5 (p5 7) 24 (regsC zeroRg) := (hE.2.1 7 _ _ _ _ _ rfl).2
  clear hE
  try simp only [litA, layL, Pl.value, sA, sB, sC]
  generalize p5 6 = b5_6 at *
  generalize p5 7 = b5_7 at *
  refine thenN (hK4 _ _ ?_)
  refine wp_seq_k fun K6 hK6 => ?_
  refine region_row [(some 24, .val (regsV g5)), (some 25, .box 5 #[.int .u8 (62)] none (some 1)), (some 26, .call (.tuple #[cyV ca1, regsV zeroRg, .bool (false)])), (some 23, .val (.tuple #[cyV ca1, regsV zeroRg, .bool (false)])), (some 27, .val (cyV ca1)), (some 28, .val (regsV zeroRg)), (some 29, .val (.bool (false))), (some 5, .box 28 (cyC zeroCy) (some (9, cyC ca1)) none), (some 6, .box 24 (regsC zeroRg) (some (10, regsC zeroRg)) none), (none, .put 7), (none, .put 8), (some 7, .val (.bool (false)))] (by kernel_rfl) ⟨fun p l a w I hd => heLoad rfl (by kernel_rfl) (ldR (rb3_1.below I.below rb3_1.lt).range), ⟨fun k vs e => (by cases e), fun p l a w I hd => heBS (ps := #[(0, .int .u8 (62))]) rfl (by kernel_rfl) (bs1 62 w)⟩, fun p l a w I hd => ⟨_, _, (by kernel_rfl), awake_1 w (ht.below (hb.trans (I.below.mono hb.size))) (I.boxed 1 _ _ _ _ _ rfl (hd 1 (by kernel_rfl))).2⟩, fun p l a w I hd => heMove (.inl rfl) (by kernel_rfl) w, fun p l a w I hd => heExtract (vs := #[cyV ca1, regsV zeroRg, .bool (false)]) rfl (by kernel_rfl) (by kernel_rfl) w, fun p l a w I hd => heExtract (vs := #[cyV ca1, regsV zeroRg, .bool (false)]) rfl (by kernel_rfl) (by kernel_rfl) w, fun p l a w I hd => heExtract (vs := #[cyV ca1, regsV zeroRg, .bool (false)]) rfl (by kernel_rfl) (by kernel_rfl) w, ⟨fun k vs e => (by cases e; rfl), fun p l a w I hd => heAlloc rfl (allocCy w)⟩, ⟨fun k vs e => (by cases e; rfl), fun p l a w I hd => heAlloc rfl (allocRg w)⟩, fun p l a w I hd d t z s vs hj hr => (by cases hj; exact heStore rfl (by kernel_rfl) (by kernel_rfl) (stCy hr)), fun p l a w I hd d t z s vs hj hr => (by cases hj; exact heStore rfl (by kernel_rfl) (by kernel_rfl) (stRow hr)), fun p l a w I hd => heMove (.inr rfl) (by kernel_rfl) w, trivial⟩ ?_
  intro p7 W7 hE
  have rb3_1 := rb3_1.below hE.1 rb3_1.lt
  have rb5_6 := rb5_6.below hE.1 rb5_6.lt
  have rb5_7 := rb5_7.below hE.1 rb5_7.lt
  have hb := hb.trans (hE.1.mono hb.size)
  have rb7_1 : Row W7 (p7 1) 5 (#[.int .u8 (62)]) := (hE.2.1 1 _ _ _ _ _ rfl).2
  have rb7_7 : Row W7 (p7 7) 28 (cyC ca1) := (hE.2.1 7 _ _ _ _ _ rfl).2
  have rb7_8 : Row W7 (p7 8) 24 (regsC zeroRg) := (hE.2.1 8 _ _ _ _ _ rfl).2
  clear hE
  try simp only [litA, layL, Pl.value, sA, sB, sC]
  generalize p7 1 = b7_1 at *
  generalize p7 7 = b7_7 at *
  generalize p7 8 = b7_8 at *
  refine thenN (hK6 _ _ ?_)
  refine wp_seq_k fun K8 hK8 => ?_
  refine region_row [(some 31, .val (regsV g5)), (some 32, .box 5 #[.int .u8 (62), .int .u8 (7)] none (some 2)), (some 33, .call (.tuple #[cyV zeroCy, regsV ga2, .bool (true)])), (some 30, .val (.tuple #[cyV zeroCy, regsV ga2, .bool (true)])), (some 34, .val (cyV zeroCy)), (some 35, .val (regsV ga2)), (some 36, .val (.bool (true))), (some 8, .box 28 (cyC zeroCy) (some (9, cyC zeroCy)) none), (some 9, .box 24 (regsC zeroRg) (some (10, regsC ga2)) none), (none, .put 7), (none, .put 8), (some 10, .val (.bool (true)))] (by kernel_rfl) ⟨fun p l a w I hd => heLoad rfl (by kernel_rfl) (ldR (rb3_1.below I.below rb3_1.lt).range), ⟨fun k vs e => (by cases e), fun p l a w I hd => heBS (ps := #[(0, .int .u8 (62)), (1, .int .u8 (7))]) rfl (by kernel_rfl) (bs2 62 7 w)⟩, fun p l a w I hd => ⟨_, _, (by kernel_rfl), awake_2 w (ht.below (hb.trans (I.below.mono hb.size))) (I.boxed 1 _ _ _ _ _ rfl (hd 1 (by kernel_rfl))).2⟩, fun p l a w I hd => heMove (.inl rfl) (by kernel_rfl) w, fun p l a w I hd => heExtract (vs := #[cyV zeroCy, regsV ga2, .bool (true)]) rfl (by kernel_rfl) (by kernel_rfl) w, fun p l a w I hd => heExtract (vs := #[cyV zeroCy, regsV ga2, .bool (true)]) rfl (by kernel_rfl) (by kernel_rfl) w, fun p l a w I hd => heExtract (vs := #[cyV zeroCy, regsV ga2, .bool (true)]) rfl (by kernel_rfl) (by kernel_rfl) w, ⟨fun k vs e => (by cases e; rfl), fun p l a w I hd => heAlloc rfl (allocCy w)⟩, ⟨fun k vs e => (by cases e; rfl), fun p l a w I hd => heAlloc rfl (allocRg w)⟩, fun p l a w I hd d t z s vs hj hr => (by cases hj; exact heStore rfl (by kernel_rfl) (by kernel_rfl) (stCy hr)), fun p l a w I hd d t z s vs hj hr => (by cases hj; exact heStore rfl (by kernel_rfl) (by kernel_rfl) (stRow hr)), fun p l a w I hd => heMove (.inr rfl) (by kernel_rfl) w, trivial⟩ ?_
  intro p9 W9 hE
  have rb3_1 := rb3_1.below hE.1 rb3_1.lt
  have rb5_6 := rb5_6.below hE.1 rb5_6.lt
  have rb5_7 := rb5_7.below hE.1 rb5_7.lt
  have rb7_1 := rb7_1.below hE.1 rb7_1.lt
  have rb7_7 := rb7_7.below hE.1 rb7_7.lt
  have rb7_8 := rb7_8.below hE.1 rb7_8.lt
  have hb := hb.trans (hE.1.mono hb.size)
  have rb9_1 : Row W9 (p9 1) 5 (#[.int .u8 (62), .int .u8 (7)]) := (hE.2.1 1 _ _ _ _ _ rfl).2
  have rb9_7 : Row W9 (p9 7) 28 (cyC zeroCy) := (hE.2.1 7 _ _ _ _ _ rfl).2
  have rb9_8 : Row W9 (p9 8) 24 (regsC ga2) := (hE.2.1 8 _ _ _ _ _ rfl).2
  clear hE
  try simp only [litA, layL, Pl.value, sA, sB, sC]
  generalize p9 1 = b9_1 at *
  generalize p9 7 = b9_7 at *
  generalize p9 8 = b9_8 at *
  refine thenN (hK8 _ _ ?_)
  refine wp_seq_k fun K10 hK10 => ?_
  refine region_row [(some 38, .val (regsV g5)), (some 39, .call (.tuple #[cyV zeroCy, regsV ga3, .bool (true)])), (some 37, .val (.tuple #[cyV zeroCy, regsV ga3, .bool (true)])), (some 40, .val (cyV zeroCy)), (some 41, .val (regsV ga3)), (some 42, .val (.bool (true))), (some 11, .box 28 (cyC zeroCy) (some (8, cyC zeroCy)) none), (some 12, .box 24 (regsC zeroRg) (some (9, regsC ga3)) none), (none, .put 6), (none, .put 7), (some 13, .val (.bool (true)))] (by kernel_rfl) ⟨fun p l a w I hd => heLoad rfl (by kernel_rfl) (ldR (rb3_1.below I.below rb3_1.lt).range), fun p l a w I hd => ⟨_, _, (by kernel_rfl), awake_3 w (ht.below (hb.trans (I.below.mono hb.size)))⟩, fun p l a w I hd => heMove (.inl rfl) (by kernel_rfl) w, fun p l a w I hd => heExtract (vs := #[cyV zeroCy, regsV ga3, .bool (true)]) rfl (by kernel_rfl) (by kernel_rfl) w, fun p l a w I hd => heExtract (vs := #[cyV zeroCy, regsV ga3, .bool (true)]) rfl (by kernel_rfl) (by kernel_rfl) w, fun p l a w I hd => heExtract (vs := #[cyV zeroCy, regsV ga3, .bool (true)]) rfl (by kernel_rfl) (by kernel_rfl) w, ⟨fun k vs e => (by cases e; rfl), fun p l a w I hd => heAlloc rfl (allocCy w)⟩, ⟨fun k vs e => (by cases e; rfl), fun p l a w I hd => heAlloc rfl (allocRg w)⟩, fun p l a w I hd d t z s vs hj hr => (by cases hj; exact heStore rfl (by kernel_rfl) (by kernel_rfl) (stCy hr)), fun p l a w I hd d t z s vs hj hr => (by cases hj; exact heStore rfl (by kernel_rfl) (by kernel_rfl) (stRow hr)), fun p l a w I hd => heMove (.inr rfl) (by kernel_rfl) w, trivial⟩ ?_
  intro p11 W11 hE
  have rb3_1 := rb3_1.below hE.1 rb3_1.lt
  have rb5_6 := rb5_6.below hE.1 rb5_6.lt
  have rb5_7 := rb5_7.below hE.1 rb5_7.lt
  have rb7_1 := rb7_1.below hE.1 rb7_1.lt
  have rb7_7 := rb7_7.below hE.1 rb7_7.lt
  have rb7_8 := rb7_8.below hE.1 rb7_8.lt
  have rb9_1 := rb9_1.below hE.1 rb9_1.lt
  have rb9_7 := rb9_7.below hE.1 rb9_7.lt
  have rb9_8 := rb9_8.below hE.1 rb9_8.lt
  have hb := hb.trans (hE.1.mono hb.size)
  have rb11_6 : Row W11 (p11 6) 28 (cyC zeroCy) := (hE.2.1 6 _ _ _ _ _ rfl).2
  have rb11_7 : Row W11 (p11 7) 24 (regsC ga3) := (hE.2.1 7 _ _ _ _ _ rfl).2
  clear hE
  try simp only [litA, layL, Pl.value, sA, sB, sC]
  generalize p11 6 = b11_6 at *
  generalize p11 7 = b11_7 at *
  refine thenN (hK10 _ _ ?_)
  refine wp_seq_k fun K12 hK12 => ?_
  refine region_row [(some 44, .val (regsV g5)), (some 45, .box 5 #[.int .u8 (62), .int .u8 (7)] none (some 2)), (some 46, .call (.tuple #[.int .i64 (7), .int .i64 (2)])), (some 43, .val (.tuple #[.int .i64 (7), .int .i64 (2)])), (some 47, .val (.int .i64 (7))), (some 48, .val (.int .i64 (2))), (some 14, .val (.int .i64 (7))), (some 15, .val (.int .i64 (2)))] (by kernel_rfl) ⟨fun p l a w I hd => heLoad rfl (by kernel_rfl) (ldR (rb3_1.below I.below rb3_1.lt).range), ⟨fun k vs e => (by cases e), fun p l a w I hd => heBS (ps := #[(0, .int .u8 (62)), (1, .int .u8 (7))]) rfl (by kernel_rfl) (bs2 62 7 w)⟩, fun p l a w I hd => ⟨_, _, (by kernel_rfl), awake_4 w (ht.below (hb.trans (I.below.mono hb.size))) (I.boxed 1 _ _ _ _ _ rfl (hd 1 (by kernel_rfl))).2⟩, fun p l a w I hd => heMove (.inl rfl) (by kernel_rfl) w, fun p l a w I hd => heExtract (vs := #[.int .i64 (7), .int .i64 (2)]) rfl (by kernel_rfl) (by kernel_rfl) w, fun p l a w I hd => heExtract (vs := #[.int .i64 (7), .int .i64 (2)]) rfl (by kernel_rfl) (by kernel_rfl) w, fun p l a w I hd => heMove (.inr rfl) (by kernel_rfl) w, fun p l a w I hd => heMove (.inr rfl) (by kernel_rfl) w, trivial⟩ ?_
  intro p13 W13 hE
  have rb3_1 := rb3_1.below hE.1 rb3_1.lt
  have rb5_6 := rb5_6.below hE.1 rb5_6.lt
  have rb5_7 := rb5_7.below hE.1 rb5_7.lt
  have rb7_1 := rb7_1.below hE.1 rb7_1.lt
  have rb7_7 := rb7_7.below hE.1 rb7_7.lt
  have rb7_8 := rb7_8.below hE.1 rb7_8.lt
  have rb9_1 := rb9_1.below hE.1 rb9_1.lt
  have rb9_7 := rb9_7.below hE.1 rb9_7.lt
  have rb9_8 := rb9_8.below hE.1 rb9_8.lt
  have rb11_6 := rb11_6.below hE.1 rb11_6.lt
  have rb11_7 := rb11_7.below hE.1 rb11_7.lt
  have hb := hb.trans (hE.1.mono hb.size)
  have rb13_1 : Row W13 (p13 1) 5 (#[.int .u8 (62), .int .u8 (7)]) := (hE.2.1 1 _ _ _ _ _ rfl).2
  clear hE
  try simp only [litA, layL, Pl.value, sA, sB, sC]
  generalize p13 1 = b13_1 at *
  refine thenN (hK12 _ _ ?_)
  refine wp_seq_k fun K14 hK14 => ?_
  refine regionL ?_
  refine oM 49 (.bool (false)) ?_
  refine oW 50 (.bool (false)) (.bool (true)) (fun _ => rfl) ?_
  refine oM 51 (.bool (true)) ?_
  refine oT 52 (cyV ca0) (heLoad rfl (by kernel_rfl) (ldCy rb5_6)) ?_
  refine oT 53 (cyV ca0) (heBuild (cells := cyC ca0) rfl (by kernel_rfl) _) ?_
  refine oT 54 (.bool (true)) (heBin (V := cyV ca0) (W := cyV ca0) (R := .bool (true)) rfl (by kernel_rfl) (by kernel_rfl) (cy_guard _ _ _ _ _) (cy_eql _) _) ?_
  refine oP 55 (.bool (true)) true ?_
  refine oM 56 (.bool (true)) ?_
  refine oT 57 (.bool (false)) (heMove (.inl rfl) (by kernel_rfl) _) ?_
  refine oT 58 (.bool (true)) (heUn (V := .bool (false)) (R := .bool (true)) rfl (by kernel_rfl) (fun _ => rfl) _) ?_
  refine oP 59 (.bool (true)) true ?_
  refine oM 60 (.bool (true)) ?_
  refine oT 61 (cyV ca1) (heLoad rfl (by kernel_rfl) (ldCy rb7_7)) ?_
  refine oT 62 (cyV ca1) (heBuild (cells := cyC ca1) rfl (by kernel_rfl) _) ?_
  refine oT 63 (.bool (true)) (heBin (V := cyV ca1) (W := cyV ca1) (R := .bool (true)) rfl (by kernel_rfl) (by kernel_rfl) (cy_guard _ _ _ _ _) (cy_eql _) _) ?_
  refine oP 64 (.bool (true)) true ?_
  refine oM 65 (.bool (true)) ?_
  refine oT 66 (.bool (true)) (heMove (.inl rfl) (by kernel_rfl) _) ?_
  refine oP 67 (.bool (true)) true ?_
  refine oM 68 (.bool (true)) ?_
  refine oT 69 (regsV ga2) (heLoad rfl (by kernel_rfl) (ldR rb9_8.range)) ?_
  refine oT 70 (regsV ga2) (heBuild (cells := regsC ga2) rfl (by kernel_rfl) _) ?_
  refine oT 71 (.bool (true)) (heBin (V := regsV ga2) (W := regsV ga2) (R := .bool (true)) rfl (by kernel_rfl) (by kernel_rfl) (regs_guard _ _ _ _ _) (regs_eql _) _) ?_
  refine oP 72 (.bool (true)) true ?_
  refine oM 73 (.bool (true)) ?_
  refine oT 74 (.bool (true)) (heMove (.inl rfl) (by kernel_rfl) _) ?_
  refine oP 75 (.bool (true)) true ?_
  refine oM 76 (.bool (true)) ?_
  refine oT 77 (pT b11_7 0) (heField (V := pT b11_7 0) (R := pT b11_7 0) rfl (by kernel_rfl) (fR0 b11_7) _) ?_
  refine oT 78 (.int .u16 (ga3.af)) (heLoad rfl (by kernel_rfl) (ld16 (rb11_7.at 0 (.int .u16 (ga3.af))))) ?_
  refine oT 79 (.bool (true)) (heBin (V := .int .u16 (ga3.af)) (W := .int .u16 (256)) (R := .bool (true)) rfl (by kernel_rfl) (by kernel_rfl) (eg16 _ _ _ _ _) (bEq16 ga3.af 256) _) ?_
  refine oP 80 (.bool (true)) true ?_
  refine oM 81 (.bool (true)) ?_
  refine oT 82 (.int .i64 (7)) (heMove (.inl rfl) (by kernel_rfl) _) ?_
  refine oT 83 (.bool (true)) (heBin (V := .int .i64 (7)) (W := .int .i64 (7)) (R := .bool (true)) rfl (by kernel_rfl) (by kernel_rfl) (egI _ _ _ _ _) (bEqI 7 7) _) ?_
  refine oP 84 (.bool (true)) true ?_
  refine oM 85 (.bool (true)) ?_
  refine oT 86 (.int .i64 (2)) (heMove (.inl rfl) (by kernel_rfl) _) ?_
  refine oT 87 (.bool (true)) (heBin (V := .int .i64 (2)) (W := .int .i64 (2)) (R := .bool (true)) rfl (by kernel_rfl) (by kernel_rfl) (egI _ _ _ _ _) (bEqI 2 2) _) ?_
  refine oP 88 (.bool (true)) true ?_
  refine oA 0 (.bool (true)) ?_
  refine endL ?_
  try simp only [Act.put, sA, sB, sC]
  refine thenN (hK14 _ _ ?_)
  refine wp_ret ?_
  exact bodyPost_ret (results_tmp rfl _ _ _) rfl ⟨rfl, hb⟩
section
open Go.ChangeShapes Go.WideShapes Go.ChangeAt Go.RowKit Go.Deep
theorem list20 {α : Type} (l : List α) (h : l.length = 20) : ∃ a0 a1 a2 a3 a4 a5 a6 a7 a8 a9 a10 a11 a12 a13 a14 a15 a16 a17 a18 a19, l = [a0, a1, a2, a3, a4, a5, a6, a7, a8, a9, a10, a11, a12, a13, a14, a15, a16, a17, a18, a19] := by
  match l, h with
  | [a0, a1, a2, a3, a4, a5, a6, a7, a8, a9, a10, a11, a12, a13, a14, a15, a16, a17, a18, a19], _ => exact ⟨a0, a1, a2, a3, a4, a5, a6, a7, a8, a9, a10, a11, a12, a13, a14, a15, a16, a17, a18, a19, rfl⟩
theorem open_regs {H : Type} {enc : TypeId × Value → H} {P : Program} {w : World} {r : Reach} {b0 base : Nat} {sp : Nat → Bool} {held : Bool} {t : TypeId} {f0 f1 f2 f3 f4 f5 f6 f7 f8 f9 f10 f11 f12 f13 f14 f15 f16 f17 f18 f19 : Field} {v : Value} {d : DataW H} {ps : List MemPlace}
    (hs : P.underlying t = some (.struct #[f0, f1, f2, f3, f4, f5, f6, f7, f8, f9, f10, f11, f12, f13, f14, f15, f16, f17, f18, f19])) (hone : oneCellFields P #[f0, f1, f2, f3, f4, f5, f6, f7, f8, f9, f10, f11, f12, f13, f14, f15, f16, f17, f18, f19] = true) (hC : P.cellsOf t = 20)
    (u0 : P.underlying f0.type = some (.int .u16)) (u1 : P.underlying f1.type = some (.int .u16)) (u2 : P.underlying f2.type = some (.int .u16)) (u3 : P.underlying f3.type = some (.int .u16)) (u4 : P.underlying f4.type = some (.int .u16)) (u5 : P.underlying f5.type = some (.int .u16)) (u6 : P.underlying f6.type = some (.int .u16)) (u7 : P.underlying f7.type = some (.int .u16)) (u8 : P.underlying f8.type = some (.int .u16)) (u9 : P.underlying f9.type = some (.int .u16)) (u10 : P.underlying f10.type = some (.int .u16)) (u11 : P.underlying f11.type = some (.int .u16)) (u12 : P.underlying f12.type = some (.int .u16)) (u13 : P.underlying f13.type = some (.int .u8)) (u14 : P.underlying f14.type = some (.int .u8)) (u15 : P.underlying f15.type = some .bool) (u16 : P.underlying f16.type = some .bool) (u17 : P.underlying f17.type = some .bool) (u18 : P.underlying f18.type = some .bool) (u19 : P.underlying f19.type = some (.int .i64))
    (hv : Value.okWide P w r b0 t v) (h : DataW.Trod enc P w base sp held t v d ps) : ∃ g : Rg, v = regsV g ∧ RgB g := by
  obtain ⟨cs, rfl, hsz⟩ := okWide_struct hs hv
  obtain ⟨fuel, hf⟩ := h
  obtain ⟨xs, n, -, -, -, hlen, hg⟩ := DataW.trod_struct hs hf
  rw [hC] at hsz
  have hlen : xs.length = 20 := hlen
  have cell : ∀ (k : Nat) (f : Field), #[f0, f1, f2, f3, f4, f5, f6, f7, f8, f9, f10, f11, f12, f13, f14, f15, f16, f17, f18, f19][k]? = some f → ∃ u z, cs[k]? = some u ∧ DataW.trod enc P w base sp held n f.type [u] = some z := by
    intro k f hk
    obtain ⟨ho, h1⟩ := hone_of hone k f hk
    have hkl : k < 20 := (Array.getElem?_eq_some_iff.1 hk).1
    have h2 := hg k f hk
    rw [ho, h1] at h2
    have e1 : ((Value.agg cs).cells.toList.drop k).take 1 = [cs[k]'(by omega)] := by
      have e : (Value.agg cs).cells.toList = cs.toList := rfl
      rw [e, List.drop_eq_getElem_cons (by simp; omega)]
      simp
    rw [e1, List.getElem?_eq_getElem (by omega)] at h2
    exact ⟨_, _, Array.getElem?_eq_getElem (by omega), h2⟩
  have one : ∀ (k : Nat) (f : Field) (K : IntKind), #[f0, f1, f2, f3, f4, f5, f6, f7, f8, f9, f10, f11, f12, f13, f14, f15, f16, f17, f18, f19][k]? = some f → P.underlying f.type = some (.int K) → ∃ z, cs[k]? = some (.int K z) ∧ (Lit.int K z).wf = true := by
    intro k f K hk hu
    obtain ⟨u, z, hc, h2⟩ := cell k f hk
    obtain ⟨z, e2, -, hw⟩ := DataW.trod_int hu h2
    injection e2 with e3
    exact ⟨z, by rw [hc, e3], hw⟩
  have oneB : ∀ (k : Nat) (f : Field), #[f0, f1, f2, f3, f4, f5, f6, f7, f8, f9, f10, f11, f12, f13, f14, f15, f16, f17, f18, f19][k]? = some f → P.underlying f.type = some .bool → ∃ z, cs[k]? = some (.bool z) := by
    intro k f hk hu
    obtain ⟨u, z, hc, h2⟩ := cell k f hk
    obtain ⟨z, e2, -⟩ := DataW.trod_bool hu h2
    injection e2 with e3
    exact ⟨z, by rw [hc, e3]⟩
  clear hg hlen hf hone
  obtain ⟨z0, e0, w0⟩ := one 0 f0 .u16 rfl u0
  have b0 := bounds_u16 w0
  obtain ⟨z1, e1, w1⟩ := one 1 f1 .u16 rfl u1
  have b1 := bounds_u16 w1
  obtain ⟨z2, e2, w2⟩ := one 2 f2 .u16 rfl u2
  have b2 := bounds_u16 w2
  obtain ⟨z3, e3, w3⟩ := one 3 f3 .u16 rfl u3
  have b3 := bounds_u16 w3
  obtain ⟨z4, e4, w4⟩ := one 4 f4 .u16 rfl u4
  have b4 := bounds_u16 w4
  obtain ⟨z5, e5, w5⟩ := one 5 f5 .u16 rfl u5
  have b5 := bounds_u16 w5
  obtain ⟨z6, e6, w6⟩ := one 6 f6 .u16 rfl u6
  have b6 := bounds_u16 w6
  obtain ⟨z7, e7, w7⟩ := one 7 f7 .u16 rfl u7
  have b7 := bounds_u16 w7
  obtain ⟨z8, e8, w8⟩ := one 8 f8 .u16 rfl u8
  have b8 := bounds_u16 w8
  obtain ⟨z9, e9, w9⟩ := one 9 f9 .u16 rfl u9
  have b9 := bounds_u16 w9
  obtain ⟨z10, e10, w10⟩ := one 10 f10 .u16 rfl u10
  have b10 := bounds_u16 w10
  obtain ⟨z11, e11, w11⟩ := one 11 f11 .u16 rfl u11
  have b11 := bounds_u16 w11
  obtain ⟨z12, e12, w12⟩ := one 12 f12 .u16 rfl u12
  have b12 := bounds_u16 w12
  obtain ⟨z13, e13, w13⟩ := one 13 f13 .u8 rfl u13
  have b13 := bounds_u8 w13
  obtain ⟨z14, e14, w14⟩ := one 14 f14 .u8 rfl u14
  have b14 := bounds_u8 w14
  obtain ⟨z15, e15⟩ := oneB 15 f15 rfl u15
  obtain ⟨z16, e16⟩ := oneB 16 f16 rfl u16
  obtain ⟨z17, e17⟩ := oneB 17 f17 rfl u17
  obtain ⟨z18, e18⟩ := oneB 18 f18 rfl u18
  obtain ⟨z19, e19, w19⟩ := one 19 f19 .i64 rfl u19
  have b19 := bounds_i64 w19
  clear one oneB cell
  refine ⟨⟨z0, z1, z2, z3, z4, z5, z6, z7, z8, z9, z10, z11, z12, z13, z14, z15, z16, z17, z18, z19⟩, ?_, ⟨b0, b1, b2, b3, b4, b5, b6, b7, b8, b9, b10, b11, b12, b13, b14, b19⟩⟩
  obtain ⟨l⟩ := cs
  obtain ⟨a0, a1, a2, a3, a4, a5, a6, a7, a8, a9, a10, a11, a12, a13, a14, a15, a16, a17, a18, a19, rfl⟩ := list20 l hsz
  simp only [List.getElem?_toArray, List.getElem?_cons_zero, List.getElem?_cons_succ, Option.some.injEq] at e0 e1 e2 e3 e4 e5 e6 e7 e8 e9 e10 e11 e12 e13 e14 e15 e16 e17 e18 e19
  rw [e0, e1, e2, e3, e4, e5, e6, e7, e8, e9, e10, e11, e12, e13, e14, e15, e16, e17, e18, e19]
end
def flats {H : Type} (F : TypeId → DataW H → Option (List Value)) : List (TypeId × Nat) → List (DataW H) → Nat → Option (List Value)
  | [], [], _ => some []
  | (e, o) :: L, d :: ds, cur => if o = cur then (F e d).bind fun a => (flats F L ds (cur + a.length)).map fun b => a ++ b else none
  | _, _, _ => none
def flat {H : Type} (P : Program) : Nat → TypeId → DataW H → Option (List Value)
  | 0, _, _ => none
  | k + 1, t, d => match P.underlying t, d with
    | some (.int q), .lit (.int q' n) => if q = q' then some [.int q n] else none
    | some .bool, .lit (.bool b) => some [.bool b]
    | some .string, .lit (.string bs) => some [.string ⟨bs.toArray⟩]
    | some (.array n e), .agg ds => (flats (flat P k) ((List.range n).map fun i => (e, i * P.cellsOf e)) ds 0).bind fun out => if out.length = P.cellsOf t then some out else none
    | some (.struct fs), .agg ds => (flats (flat P k) (fs.toList.map fun f => (f.type, f.offset)) ds 0).bind fun out => if out.length = P.cellsOf t then some out else none
    | _, _ => none
section
variable {H : Type} {enc : TypeId × Value → H} {P : Program} {w : World} {base : Nat} {sp : Nat → Bool} {held : Bool}
theorem flats_ok (F : TypeId → DataW H → Option (List Value)) (m : Nat) (cs : List Value)
    (hF : ∀ e d cs' p a, DataW.trod enc P w base sp held m e cs' = some (d, p) → F e d = some a → cs' = a) :
    ∀ (L : List (TypeId × Nat)) (xs : List (DataW H × List MemPlace)) (cur : Nat) (out : List Value), L.length = xs.length →
      (∀ (i : Nat) (e : TypeId) (o : Nat), L[i]? = some (e, o) → DataW.trod enc P w base sp held m e ((cs.drop o).take (P.cellsOf e)) = xs[i]?) → flats F L (xs.map (·.1)) cur = some out → (cs.drop cur).take out.length = out
  | [], [], cur, out, _, _, h => by
    simp only [List.map_nil, flats, Option.some.injEq] at h
    subst h; simp
  | (e, o) :: L, (d, p) :: xs, cur, out, hl, hx, h => by
    simp only [List.map_cons, flats] at h
    split at h
    · rename_i ho
      subst ho
      obtain ⟨a, ha, h⟩ := Option.bind_eq_some_iff.1 h
      obtain ⟨b, hb, rfl⟩ := Option.map_eq_some_iff.1 h
      have h0 := hx 0 e o rfl
      have e1 := hF e d _ p a (by simpa using h0) ha
      have ih := flats_ok F m cs hF L xs (o + a.length) b (by simpa using hl) (fun i e' o' hi => by simpa using hx (i + 1) e' o' (by simpa using hi)) hb
      have e2 : (cs.drop o).take a.length = a := by
        conv => rhs; rw [← e1]
        rw [← e1, List.length_take]
        rcases Nat.le_total (P.cellsOf e) (cs.drop o).length with hq | hq
        · rw [Nat.min_eq_left hq]
        · rw [Nat.min_eq_right hq, List.take_length, List.take_of_length_le hq]
      have e3 : cs.drop o = a ++ cs.drop (o + a.length) := by
        conv => lhs; rw [← List.take_append_drop a.length (cs.drop o), e2, List.drop_drop]
      rw [e3, List.length_append, List.take_length_add_append, ih]
    · cases h
  | [], _ :: _, _, _, hl, _, _ => by simp at hl
  | _ :: _, [], _, _, hl, _, _ => by simp at hl
theorem flat_ok : ∀ (k : Nat) (t : TypeId) (d : DataW H) (cs : List Value) (fuel : Nat) (p : List MemPlace) (out : List Value), DataW.trod enc P w base sp held fuel t cs = some (d, p) → flat P k t d = some out → cs = out
  | 0, _, _, _, _, _, _, _, h => by simp [flat] at h
  | k + 1, t, d, cs, fuel, p, out, ht, h => by
    unfold flat at h
    split at h
    · rename_i hu
      split at h
      · rename_i hq
        subst hq
        obtain ⟨n, rfl, e, _⟩ := DataW.trod_int hu ht
        simp only [Prod.mk.injEq, DataW.lit.injEq, Lit.int.injEq, true_and] at e
        obtain ⟨rfl, _⟩ := e
        exact Option.some.inj h
      · cases h
    · rename_i hu
      obtain ⟨b, rfl, e⟩ := DataW.trod_bool hu ht
      simp only [Prod.mk.injEq, DataW.lit.injEq, Lit.bool.injEq] at e
      obtain ⟨rfl, _⟩ := e
      exact Option.some.inj h
    · rename_i hu
      obtain ⟨s, rfl, e, _⟩ := DataW.trod_string hu ht
      simp only [Prod.mk.injEq, DataW.lit.injEq, Lit.string.injEq] at e
      obtain ⟨rfl, _⟩ := e
      exact Option.some.inj h
    · rename_i n e ds hu
      obtain ⟨xs, m, rfl, hx, hlen, hxl, hi⟩ := DataW.trod_array hu ht
      simp only [Prod.mk.injEq, DataW.agg.injEq] at hx
      obtain ⟨rfl, rfl⟩ := hx
      obtain ⟨o, ho, h⟩ := Option.bind_eq_some_iff.1 h
      split at h
      · rename_i hol
        obtain rfl := Option.some.inj h
        have := flats_ok (flat P k) m cs (fun e d cs' p a h1 h2 => flat_ok k e d cs' m p a h1 h2) _ xs 0 o (by simp [hxl]) (fun i e' o' hq => by
          simp only [List.getElem?_map, Option.map_eq_some_iff, Prod.mk.injEq] at hq
          obtain ⟨j, hj, rfl, rfl⟩ := hq
          obtain ⟨hj1, hj2⟩ := List.getElem?_eq_some_iff.1 hj
          simp only [List.getElem_range] at hj2
          subst hj2
          exact hi _ (by simpa using hj1)) ho
        rwa [List.drop_zero, hol, ← hlen, List.take_length] at this
      · cases h
    · rename_i fs ds hu
      obtain ⟨xs, m, rfl, hx, hlen, hxl, hi⟩ := DataW.trod_struct hu ht
      simp only [Prod.mk.injEq, DataW.agg.injEq] at hx
      obtain ⟨rfl, rfl⟩ := hx
      obtain ⟨o, ho, h⟩ := Option.bind_eq_some_iff.1 h
      split at h
      · rename_i hol
        obtain rfl := Option.some.inj h
        have := flats_ok (flat P k) m cs (fun e d cs' p a h1 h2 => flat_ok k e d cs' m p a h1 h2) _ xs 0 o (by simp [hxl]) (fun i e' o' hq => by
          simp only [List.getElem?_map, Option.map_eq_some_iff, Prod.mk.injEq] at hq
          obtain ⟨f, hf, rfl, rfl⟩ := hq
          exact hi i f (by simpa using hf)) ho
        rwa [List.drop_zero, hol, ← hlen, List.take_length] at this
      · cases h
    · cases h
end
theorem laidVars_at {P : Program} {W : World} {name : String} {d : DataW Unit} : ∀ (laid : List (String × DataW Unit)) (ps : List MemPlace), DataW.LaidVars P W laid ps → ∀ (i : Nat), laid[i]? = some (name, d) →
    ∃ g t cs fuel p, P.globalNamed name = some g ∧ (P.globals[g]?).map (·.type) = some t ∧ W.var? P name = some cs ∧ DataW.trod (fun _ => ()) P W 0 (fun _ => true) false fuel t cs.toList = some (d, p)
  | [], _, _, i, hi => by simp at hi
  | (n, d') :: r, ps, h, 0, hi => by
    obtain ⟨g, t, cs, fuel, p, q, h1, h2, h3, h4, _, _⟩ := h
    simp only [List.getElem?_cons_zero, Option.some.injEq, Prod.mk.injEq] at hi
    obtain ⟨rfl, rfl⟩ := hi
    exact ⟨g, t, cs, fuel, p, h1, h2, h3, h4⟩
  | (n, d') :: r, ps, h, i + 1, hi => by
    obtain ⟨g, t, cs, fuel, p, q, _, _, _, _, h5, _⟩ := h
    exact laidVars_at r q h5 i (by simpa using hi)
theorem laid_var {P : Program} {W : World} {name : String} {d : DataW Unit} {laid : List (String × DataW Unit)} {g : Nat} {t : TypeId} {k : Nat} {out : List Value} (i : Nat) (hi : laid[i]? = some (name, d)) (hg : P.globalNamed name = some g) (hty : (P.globals[g]?).map (·.type) = some t)
    (hf : flat P k t d = some out) (h : laidMet P laid W) : W.var? P name = some out.toArray := by
  obtain ⟨ps, h1, _⟩ := h
  obtain ⟨g', t', cs, fuel, p, hg', ht', hvar, hd⟩ := laidVars_at laid ps h1 i hi
  obtain rfl := Option.some.inj (hg.symm.trans hg')
  obtain rfl := Option.some.inj (hty.symm.trans ht')
  rw [hvar, ← flat_ok k t d _ _ _ _ hd hf]
theorem laid_cell {P : Program} {W : World} {name : String} {g : Nat} {out : List Value} (h : W.var? P name = some out.toArray) (hg : P.globalNamed name = some g) (i : Nat) (v : Value) (hv : out[i]? = some v) : W.cell? ⟨g, i, none⟩ = some v := by
  rw [World.var?_cell hg h i]
  simpa using hv
structure Ws where
  r : Rg
  plane : Int
  code : Int
  m : Int
  known : Bool
structure WsB (s : Ws) : Prop where
  r : RgB s.r
  code : B8 s.code
  m : Wd16 s.m
def cycW (c : Cy) (s : Ws) : Tr (Int × Ws) := .ask c fun b => .done (b, s)
def statesW (n : Int) (s : Ws) : Tr Ws := (cycW ⟨7, 0, 0, n⟩ s).bind fun b => .done b.2
def readW (a : Int) (s : Ws) : Tr (Int × Ws) := cycW ⟨2, a, 0, 3⟩ s
def writeW (a b : Int) (s : Ws) : Tr Ws := (cycW ⟨3, a, b, 3⟩ s).bind fun b => .done b.2
def Ws.pc (s : Ws) (v : Int) : Ws := { s with r := { s.r with pc := v } }
def Ws.sp (s : Ws) (v : Int) : Ws := { s with r := { s.r with sp := v } }
def Ws.wz (s : Ws) (v : Int) : Ws := { s with r := { s.r with wz := v } }
def Ws.hlTo (s : Ws) (v : Int) : Ws := { s with r := { s.r with hl := v } }
def Ws.af (s : Ws) (a f : Int) : Ws := { s with r := { s.r with af := 256 * a + f } }
def Ws.tick (s : Ws) : Ws := { s with r := tickG s.r 1 }
def Ws.pcUp (s : Ws) : Ws := s.pc ((s.r.pc + 1) % 65536)
def Ws.a (s : Ws) : Int := s.r.af / 256
def Ws.f (s : Ws) : Int := s.r.af % 256
def fetchW (s : Ws) : Tr (Int × Ws) := (cycW ⟨1, s.r.pc, 0, 4⟩ s).bind fun b => .done (b.1, b.2.pcUp.tick)
def numberW (s : Ws) : Tr (Int × Ws) := (readW s.r.pc s).bind fun b => .done (b.1, b.2.pcUp)
def wordW (s : Ws) : Tr (Int × Ws) := (numberW s).bind fun l => (numberW l.2).bind fun h => .done (256 * h.1 + l.1, h.2)
def Ws.spDown (s : Ws) : Ws := s.sp ((s.r.sp - 1) % 65536)
def Ws.spUp (s : Ws) : Ws := s.sp ((s.r.sp + 1) % 65536)
def pushW (x : Int) (s : Ws) : Tr Ws := (writeW s.spDown.r.sp (x / 256) s.spDown).bind fun s => writeW s.spDown.r.sp (x % 256) s.spDown
def popW (s : Ws) : Tr (Int × Ws) := (readW s.r.sp s).bind fun l => (readW l.2.spUp.r.sp l.2.spUp).bind fun h => .done (256 * h.1 + l.1, h.2.spUp)
def Ws.hl (s : Ws) : Int := pairG s.r s.plane 2
def Ws.setHl (s : Ws) (w : Int) : Ws := { s with r := setPairG s.r s.plane 2 w }
def Ws.know (s : Ws) (v : Int) : Ws := { s with known := true, m := v }
def Ws.mTo (s : Ws) (v : Int) : Ws := { s with m := v }
def whereW (s : Ws) : Tr (Int × Ws) :=
  if s.known = true then .done (s.m, s) else
  if s.plane = 3 ∨ s.plane = 4 then (numberW (s.know s.r.hl)).bind fun e => (statesW 5 e.2).bind fun t => .done (moveM t.hl (signedM e.1), (t.mTo (moveM t.hl (signedM e.1))).wz (moveM t.hl (signedM e.1)))
  else .done (s.r.hl, s.know s.r.hl)
def throughW (s : Ws) : Int := if nearM s.plane s.code = true then 0 else s.plane
def getW (k : Int) (s : Ws) : Tr (Int × Ws) := if k = 6 then (whereW s).bind fun a => readW a.1 a.2 else .done (getG s.r (throughW s) k, s)
def setW (k b : Int) (s : Ws) : Tr Ws := if k = 6 then (whereW s).bind fun a => writeW a.1 b a.2 else .done { s with r := setG s.r (throughW s) k b }
def sumW (y b : Int) (s : Ws) : Ws :=
  if y = 0 then s.af (addR s.a b false) (addF s.a b false) else if y = 1 then s.af (addR s.a b (isM s.f 0)) (addF s.a b (isM s.f 0)) else
  if y = 2 then s.af (subR s.a b false) (subF s.a b false) else if y = 3 then s.af (subR s.a b (isM s.f 0)) (subF s.a b (isM s.f 0)) else
  if y = 4 then s.af (andR s.a b) (andFl (andR s.a b)) else if y = 5 then s.af (xorR s.a b) (evenFM (xorR s.a b)) else
  if y = 6 then s.af (orR s.a b) (evenFM (orR s.a b)) else s.af s.a (cmpF s.a b)
def hopW (is : Bool) (s : Ws) : Tr Ws := (numberW s).bind fun e => if is = true then (statesW 5 e.2).bind fun s => .done ((s.pc (moveM s.r.pc (signedM e.1))).wz (moveM s.r.pc (signedM e.1))) else .done e.2
def Ws.left (s : Ws) : Int := (s.r.bc / 256 - 1) % 256
def Ws.less (s : Ws) : Ws := { s with r := { s.r with bc := 256 * s.left + s.r.bc % 256 } }
def hopsW (y : Int) (s : Ws) : Tr Ws :=
  if y = 0 then .done s else if y = 1 then .done { s with r := swapG s.r } else
  if y = 2 then (statesW 1 s).bind fun s => hopW (s.left != 0) s.less else if y = 3 then hopW true s else hopW (testM s.f (y - 4)) s
def storeAW (a : Int) (s : Ws) : Tr Ws := (writeW a s.a s).bind fun s => .done (s.wz (256 * s.a + (a % 256 + 1) % 256))
def loadAW (a : Int) (s : Ws) : Tr Ws := (readW a s).bind fun b => .done ((b.2.af b.1 b.2.f).wz ((a + 1) % 65536))
def storesW (y : Int) (s : Ws) : Tr Ws :=
  if y = 2 then storeAW s.r.de s else if y = 3 then loadAW s.r.de s else
  if 3 < y then (wordW s).bind fun a =>
    if y = 6 then storeAW a.1 a.2 else if y = 7 then loadAW a.1 a.2 else
    if y = 4 then (writeW a.1 (a.2.hl % 256) a.2).bind fun s => (writeW ((a.1 + 1) % 65536) (s.hl / 256) s).bind fun s => .done (s.wz ((a.1 + 1) % 65536)) else
    if y = 5 then (readW a.1 a.2).bind fun l => (readW ((a.1 + 1) % 65536) l.2).bind fun h => .done ((h.2.setHl (256 * h.1 + l.1)).wz ((a.1 + 1) % 65536)) else .done (a.2.wz ((a.1 + 1) % 65536))
  else if y = 0 then storeAW s.r.bc s else if y = 1 then loadAW s.r.bc s else .done (s.wz ((s.r.bc + 1) % 65536))
def stepW (y z : Int) (s : Ws) : Tr Ws := (getW y s).bind fun b => (if y = 6 then statesW 1 b.2 else .done b.2).bind fun s =>
  if z = 5 then setW y (subR b.1 1 false) (s.af s.a (decF b.1 s.f)) else setW y (addR b.1 1 false) (s.af s.a (incF b.1 s.f))
def turnW (y : Int) (s : Ws) : Ws :=
  if y = 4 then s.af (daaR s.a s.f) (daaF s.a s.f) else if y = 5 then s.af (255 - s.a) (cplF s.a s.f) else
  if y = 6 then s.af s.a (scfF s.a s.f) else if y = 7 then s.af s.a (ccfF s.a s.f) else s.af (accR y s.a s.f) (accF y s.a s.f)
def Ws.setP (s : Ws) (p w : Int) : Ws := { s with r := setPairG s.r s.plane p w }
def Ws.setP0 (s : Ws) (p w : Int) : Ws := { s with r := setPairG s.r 0 p w }
def lowW (y z p q : Int) (s : Ws) : Tr Ws :=
  if z = 0 then hopsW y s else
  if z = 1 then (if q = 0 then (wordW s).bind fun x => .done (x.2.setP p x.1) else
    (statesW 7 s).bind fun s => .done (((s.wz ((s.hl + 1) % 65536)).setHl (adcW (s.wz ((s.hl + 1) % 65536)).hl (pairG (s.wz ((s.hl + 1) % 65536)).r s.plane p) false)).af
      ((s.wz ((s.hl + 1) % 65536)).setHl (adcW (s.wz ((s.hl + 1) % 65536)).hl (pairG (s.wz ((s.hl + 1) % 65536)).r s.plane p) false)).a (addWF (s.wz ((s.hl + 1) % 65536)).hl (pairG (s.wz ((s.hl + 1) % 65536)).r s.plane p) (s.wz ((s.hl + 1) % 65536)).f))) else
  if z = 2 then storesW y s else
  if z = 3 then (statesW 2 s).bind fun s => if q = 0 then .done (s.setP p ((pairG s.r s.plane p + 1) % 65536)) else .done (s.setP p ((pairG s.r s.plane p - 1) % 65536)) else
  if z = 4 ∨ z = 5 then stepW y z s else
  if z = 6 then (if y = 6 ∧ s.plane ≠ 0 then (numberW s).bind fun e => (numberW ((e.2.know (moveM e.2.hl (signedM e.1))).wz (moveM e.2.hl (signedM e.1)))).bind fun b => (statesW 2 b.2).bind fun s => writeW s.m b.1 s
    else (numberW s).bind fun b => setW y b.1 b.2) else .done (turnW y s)
def backW (s : Ws) : Tr Ws := (popW s).bind fun x => .done ((x.2.pc x.1).wz x.1)
def callW (is : Bool) (s : Ws) : Tr Ws := (wordW s).bind fun x => if is = true then (statesW 1 (x.2.wz x.1)).bind fun s => (pushW s.r.pc s).bind fun s => .done (s.pc s.r.wz) else .done (x.2.wz x.1)
def popsW (p q : Int) (s : Ws) : Tr Ws :=
  if q = 0 then (if p = 3 then (popW s).bind fun x => .done { x.2 with r := { x.2.r with af := x.1 } } else (popW s).bind fun x => .done (x.2.setP p x.1)) else
  if p = 0 then backW s else if p = 1 then .done { s with r := exxG s.r } else if p = 2 then .done (s.pc s.hl) else (statesW 2 s).bind fun s => .done (s.sp s.hl)
def portsW (y : Int) (s : Ws) : Tr Ws :=
  if y = 0 then (wordW s).bind fun x => .done ((x.2.pc x.1).wz x.1) else
  if y = 2 then (numberW s).bind fun n => (cycW ⟨5, 256 * n.2.a + n.1, n.2.a, 4⟩ n.2).bind fun b => .done (b.2.wz (256 * b.2.a + (n.1 + 1) % 256)) else
  if y = 3 then (numberW s).bind fun n => (cycW ⟨4, 256 * n.2.a + n.1, 0, 4⟩ n.2).bind fun b => .done ((b.2.af b.1 b.2.f).wz ((256 * n.2.a + n.1 + 1) % 65536)) else
  if y = 4 then (readW s.r.sp s).bind fun l => (readW ((l.2.r.sp + 1) % 65536) l.2).bind fun h => (statesW 1 h.2).bind fun s => (writeW ((s.r.sp + 1) % 65536) (s.hl / 256) s).bind fun s =>
    (writeW s.r.sp (s.hl % 256) s).bind fun s => (statesW 2 s).bind fun s => .done ((s.wz (256 * h.1 + l.1)).setHl (256 * h.1 + l.1)) else
  if y = 5 then .done { s with r := { s.r with de := s.r.hl, hl := s.r.de } } else
  if y = 6 then .done { s with r := { s.r with iff1 := false, iff2 := false } } else if y = 7 then .done { s with r := { s.r with iff1 := true, iff2 := true, late := true } } else .done s
def highW (y z p q : Int) (s : Ws) : Tr Ws :=
  if z = 0 then (statesW 1 s).bind fun t => if testM s.f y = true then backW t else .done t else
  if z = 1 then popsW p q s else
  if z = 2 then (wordW s).bind fun x => if testM s.f y = true then .done ((x.2.wz x.1).pc x.1) else .done (x.2.wz x.1) else
  if z = 3 then portsW y s else if z = 4 then callW (testM s.f y) s else
  if z = 5 then (if q = 1 then callW true s else (statesW 1 s).bind fun s => if p = 3 then pushW s.r.af s else pushW (pairG s.r s.plane p) s) else
  if z = 6 then (numberW s).bind fun b => .done (sumW y b.1 b.2) else
  (statesW 1 s).bind fun s => (pushW s.r.pc s).bind fun s => .done ((s.pc ((8 * y) % 65536)).wz ((8 * y) % 65536))
def Ws.at_ (s : Ws) (plane code : Int) : Ws := { s with plane := plane, code := code }
def plainW (plane c : Int) (s : Ws) : Tr Ws :=
  if fx c = 0 then lowW (fy c) (fz c) (fp c) (fq c) (s.at_ plane c) else
  if fx c = 1 then (if fy c = 6 ∧ fz c = 6 then .done { (s.at_ plane c) with r := { s.r with halted := true } } else (getW (fz c) (s.at_ plane c)).bind fun b => setW (fy c) b.1 b.2) else
  if fx c = 2 then (getW (fz c) (s.at_ plane c)).bind fun b => .done (sumW (fy c) b.1 b.2) else highW (fy c) (fz c) (fp c) (fq c) (s.at_ plane c)
def bitsetW (far : Bool) (k z b : Int) (s : Ws) : Tr Ws := (setW k b s).bind fun s => if far = true ∧ z ≠ 6 then setW z b s else .done s
def bitopW (far : Bool) (x y z k b lines : Int) (s : Ws) : Tr Ws :=
  if x = 0 then bitsetW far k z (doR y b s.f) (s.af s.a (doF y b s.f)) else if x = 1 then .done (s.af s.a (bitF y b lines s.f)) else
  if x = 2 then bitsetW far k z (withM b y false) s else bitsetW far k z (withM b y true) s
def bitW (far : Bool) (c : Int) (s : Ws) : Tr Ws :=
  if far = true then (getW 6 (s.at_ 0 0)).bind fun b => (statesW 1 b.2).bind fun t => bitopW far (fx c) (fy c) (fz c) 6 b.1 (t.r.wz / 256) t else
  (getW (fz c) (s.at_ 0 0)).bind fun b => if fz c = 6 then (statesW 1 b.2).bind fun t => bitopW far (fx c) (fy c) (fz c) (fz c) b.1 (t.r.wz / 256) t else bitopW far (fx c) (fy c) (fz c) (fz c) b.1 b.1 b.2
def wordsW (p q : Int) (s : Ws) : Tr Ws := (wordW s).bind fun a =>
  if q = 0 then (writeW a.1 (pairG a.2.r 0 p % 256) a.2).bind fun s => (writeW ((a.1 + 1) % 65536) (pairG a.2.r 0 p / 256) s).bind fun s => .done (s.wz ((a.1 + 1) % 65536))
  else (readW a.1 a.2).bind fun l => (readW ((a.1 + 1) % 65536) l.2).bind fun h => .done ((h.2.setP0 p (256 * h.1 + l.1)).wz ((a.1 + 1) % 65536))
def shownW (b : Int) (s : Ws) : Ws := s.af b (mkM (isM (resultM b) 7) (isM (resultM b) 6) (isM (resultM b) 5) (isM (resultM b) 4) (isM (resultM b) 3) s.r.iff2 (isM (resultM b) 1) (isM s.f 0))
def oddW (y : Int) (s : Ws) : Tr Ws :=
  if y < 4 then (statesW 1 s).bind fun s =>
    if y = 0 then .done { s with r := { s.r with i := s.a } } else if y = 1 then .done { s with r := { s.r with r := s.a } } else
    if y = 3 then .done (shownW s.r.r s) else if y = 2 then .done (shownW s.r.i s) else .done s
  else if y = 4 then (readW s.r.hl s).bind fun b => (statesW 4 b.2).bind fun s => (writeW s.r.hl (digB true s.a b.1) s).bind fun t => .done ((t.af (digA true s.a b.1) (evenC (digA true s.a b.1) (isM s.f 0))).wz ((t.r.hl + 1) % 65536))
  else if y = 5 then (readW s.r.hl s).bind fun b => (statesW 4 b.2).bind fun s => (writeW s.r.hl (digB false s.a b.1) s).bind fun t => .done ((t.af (digA false s.a b.1) (evenC (digA false s.a b.1) (isM s.f 0))).wz ((t.r.hl + 1) % 65536))
  else .done s
@[reducible] def wC (s : Ws) (A : Option Addr) (n cap : Nat) (z : Zs) : Array Value := #[.int .u16 s.r.af, .int .u16 s.r.bc, .int .u16 s.r.de, .int .u16 s.r.hl, .int .u16 s.r.af2, .int .u16 s.r.bc2, .int .u16 s.r.de2, .int .u16 s.r.hl2, .int .u16 s.r.ix, .int .u16 s.r.iy, .int .u16 s.r.sp, .int .u16 s.r.pc, .int .u16 s.r.wz, .int .u8 s.r.i, .int .u8 s.r.r, .bool s.r.iff1, .bool s.r.iff2, .bool s.r.halted, .bool s.r.late, .int .i64 s.r.mode, .slice A n cap, .int .i64 (z.pos : Int), .bool z.lacks, .int .i64 z.asked.kind, .int .u16 z.asked.addr, .int .u8 z.asked.data, .int .i64 z.asked.t, .int .i64 s.plane, .int .u8 s.code, .int .u16 s.m, .bool s.known]
structure AtW (w : World) (p B : Nat) (s : Ws) (xs : List Int) (z : Zs) : Prop where
  row : ∃ A cap, xs.length ≤ cap ∧ Row w p 52 (wC s A xs.length cap z) ∧ BytesIn w B A xs
  low : B ≤ p
  bytes : Bytes8 xs
  ms : WsB s
  pos : z.pos ≤ xs.length
  big : xs.length ≤ 1000000000000000
theorem AtW.lt {w : World} {p B : Nat} {s : Ws} {xs : List Int} {z : Zs} (h : AtW w p B s xs z) : p < w.heap.size := by
  obtain ⟨A, cap, hc, hr, hb⟩ := h.row
  exact hr.lt
theorem AtW.below {w w' : World} {p B : Nat} {s : Ws} {xs : List Int} {z : Zs} (h : AtW w p B s xs z) (k : Below w.heap.size w w') : AtW w' p B s xs z := by
  have hp := h.lt
  obtain ⟨⟨A, cap, hc, hr, hb⟩, hl, h8, hm, ht, hg⟩ := h
  exact ⟨⟨A, cap, hc, hr.below k hp, hb.keep fun b hlt => k.block b (by omega)⟩, hl, h8, hm, ht, hg⟩
theorem AtW.drew {w : World} {p B : Nat} {s : Ws} {xs : List Int} {z : Zs} (h : AtW w p B s xs z) : AtW w.drew p B s xs z := by
  obtain ⟨⟨A, cap, hc, hr, hb⟩, hl, h8, hm, ht, hg⟩ := h
  exact ⟨⟨A, cap, hc, hr, hb⟩, hl, h8, hm, ht, hg⟩
theorem AtW.cell {w : World} {p B : Nat} {s : Ws} {xs : List Int} {z : Zs} (h : AtW w p B s xs z) (i : Nat) (V : Value) (hV : ∀ A n cap, (wC s A n cap z)[i]? = some V) : w.cell? ⟨p, i, none⟩ = some V := by
  obtain ⟨A, cap, hc, hr, hb⟩ := h.row
  rw [hr.cell i]
  exact hV ..
theorem AtW.frozen {w : World} {p B : Nat} {s : Ws} {xs : List Int} {z : Zs} (h : AtW w p B s xs z) (i : Nat) : w.frozen? ⟨p, i, none⟩ = false := by
  obtain ⟨A, cap, hc, hr, hb⟩ := h.row
  exact hr.frozen i
theorem AtW.regs {w : World} {p B : Nat} {s : Ws} {xs : List Int} {z : Zs} (h : AtW w p B s xs z) : w.rangeAt p 0 (regsC s.r).toList := by
  obtain ⟨A, cap, hc, hr, hb⟩ := h.row
  intro j v hv
  rw [Nat.zero_add, hr.cell j]
  have hj : j < 20 := (List.getElem?_eq_some_iff.1 hv).1
  revert hv
  match j, hj with
  | 0, _ => exact id
  | 1, _ => exact id
  | 2, _ => exact id
  | 3, _ => exact id
  | 4, _ => exact id
  | 5, _ => exact id
  | 6, _ => exact id
  | 7, _ => exact id
  | 8, _ => exact id
  | 9, _ => exact id
  | 10, _ => exact id
  | 11, _ => exact id
  | 12, _ => exact id
  | 13, _ => exact id
  | 14, _ => exact id
  | 15, _ => exact id
  | 16, _ => exact id
  | 17, _ => exact id
  | 18, _ => exact id
  | 19, _ => exact id
  | n + 20, h => omega
theorem AtW.set {w : World} {p B : Nat} {s : Ws} {xs : List Int} {z : Zs} (h : AtW w p B s xs z) (i : Nat) (v : Value) (s' : Ws) (hs : ∀ A n cap, (wC s A n cap z).setIfInBounds i v = wC s' A n cap z) (hb : WsB s') : AtW (w.setCell ⟨p, i, none⟩ v) p B s' xs z := by
  have hp := h.lt
  obtain ⟨⟨A, cap, hc, hr, hby⟩, hl, h8, hm, ht, hg⟩ := h
  have k : ∀ b, b < B → (w.setCell ⟨p, i, none⟩ v).heap[b]? = w.heap[b]? := fun b hlt => Below.heap_setCell w _ v b (by show b ≠ p; omega)
  refine ⟨⟨A, cap, hc, ?_, hby.keep k⟩, hl, h8, hb, ht, hg⟩
  have := hr.set i v
  rwa [hs] at this
structure NowW (w0 : World) (p B : Nat) (s : Ws) (xs : List Int) (z : Zs) (w : World) : Prop where
  at_ : AtW w p B s xs z
  bes : Besides p p w0 w
theorem NowW.begin {w : World} {p B : Nat} {s : Ws} {xs : List Int} {z : Zs} (h : AtW w p B s xs z) : NowW w p B s xs z w := ⟨h, .refl ..⟩
theorem NowW.below {w0 w w' : World} {p B : Nat} {s : Ws} {xs : List Int} {z : Zs} (h : NowW w0 p B s xs z w) (k : Below w.heap.size w w') : NowW w0 p B s xs z w' := ⟨h.at_.below k, h.bes.trans (.of_below k)⟩
theorem NowW.drew {w0 w : World} {p B : Nat} {s : Ws} {xs : List Int} {z : Zs} (h : NowW w0 p B s xs z w) : NowW w0 p B s xs z w.drew := ⟨h.at_.drew, h.bes.drew⟩
theorem NowW.set {w0 w : World} {p B : Nat} {s : Ws} {xs : List Int} {z : Zs} (h : NowW w0 p B s xs z w) (i : Nat) (v : Value) (s' : Ws) (hs : ∀ A n cap, (wC s A n cap z).setIfInBounds i v = wC s' A n cap z) (hb : WsB s') : NowW w0 p B s' xs z (w.setCell ⟨p, i, none⟩ v) :=
  ⟨h.at_.set i v s' hs hb, h.bes.setCell (.inl rfl) v⟩
theorem NowW.after {w0 w w' : World} {p B : Nat} {s s' : Ws} {xs xs' : List Int} {z z' : Zs} (h : NowW w0 p B s xs z w) (k : NowW w p B s' xs' z' w') : NowW w0 p B s' xs' z' w' := ⟨k.at_, h.bes.trans k.bes⟩
def OutX (w0 : World) (p B : Nat) (k : IntKind) (xs : List Int) (X : (Int × Ws) × Zs) : Ending → World → Prop := fun e w' => e = .returned (.int k X.1.1) ∧ kB k X.1.1 ∧ NowW w0 p B X.1.2 xs X.2 w'
def OutY (w0 : World) (p B : Nat) (xs : List Int) (X : Ws × Zs) : Ending → World → Prop := fun e w' => e = .returned (.tuple #[]) ∧ NowW w0 p B X.1 xs X.2 w'
theorem OutX.ok {w0 w : World} {p B : Nat} {k : IntKind} {xs : List Int} {X : (Int × Ws) × Zs} {v : Int} {s : Ws} {z : Zs} (h : X = ((v, s), z)) (hk : kB k v) (hn : NowW w0 p B s xs z w) : OutX w0 p B k xs X (.returned (.int k v)) w := by
  subst h
  exact ⟨rfl, hk, hn⟩
theorem OutY.ok {w0 w : World} {p B : Nat} {xs : List Int} {X : Ws × Zs} {s : Ws} {z : Zs} (h : X = (s, z)) (hn : NowW w0 p B s xs z w) : OutY w0 p B xs X (.returned (.tuple #[])) w := by
  subst h
  exact ⟨rfl, hn⟩
section
variable {ops : Array Oper} {Q : Exit → Act → World → Prop} {a : Act} {w w0 : World} {o : Oper} {rest : List Oper} {p B : Nat} {s0 : Ws} {xs : List Int} {z0 : Zs} {x y : Operand}
theorem sCallX {k : IntKind} {X : (Int × Ws) × Zs} {g : FuncId} {args : Array Value} (hn : NowW w0 p B s0 xs z0 w) (hg : o.guard = none) (he : (execOp a.eval o).run Tryz.prog w = .ok (.enter g args) w) (hc : Calls Tryz.prog g args w (OutX w p B k xs X))
    (hK : ∀ v s z w', X = ((v, s), z) → kB k v → NowW w0 p B s xs z w' → WL Tryz.prog ops Q rest (a.put o.dst (.int k v)) w') : WL Tryz.prog ops Q (o :: rest) a w :=
  list_call (wantedN hg) he hc fun e w' ho => by
    obtain ⟨rfl, hk, hN⟩ := ho
    exact hK _ _ _ w' rfl hk (hn.after hN)
theorem sCallY {X : Ws × Zs} {g : FuncId} {args : Array Value} (hn : NowW w0 p B s0 xs z0 w) (hg : o.guard = none) (he : (execOp a.eval o).run Tryz.prog w = .ok (.enter g args) w) (hc : Calls Tryz.prog g args w (OutY w p B xs X))
    (hK : ∀ s z w', X = (s, z) → NowW w0 p B s xs z w' → WL Tryz.prog ops Q rest (a.put o.dst (.tuple #[])) w') : WL Tryz.prog ops Q (o :: rest) a w :=
  list_call (wantedN hg) he hc fun e w' ho => by
    obtain ⟨rfl, hN⟩ := ho
    exact hK _ _ w' rfl (hn.after hN)
theorem sSetW (hn : NowW w0 p B s0 xs z0 w) (i : Nat) (V : Value) (s' : Ws) {t : TypeId} (hd : o.dst = none) (hg : o.guard = none) (ho : o.op = .store t x y) (hx : a.eval x = .pointer (some ⟨p, i, none⟩)) (hy : a.eval y = V)
    (hl : (Instr.storeAt t (.pointer (some ⟨p, i, none⟩)) V).run Tryz.prog w = .ok () (w.setCell ⟨p, i, none⟩ V)) (hs : ∀ A n cap, (wC s0 A n cap z0).setIfInBounds i V = wC s' A n cap z0) (hb : WsB s')
    (h : ∀ w', NowW w0 p B s' xs z0 w' → WL Tryz.prog ops Q rest (a.put none undef) w') : WL Tryz.prog ops Q (o :: rest) a w := sStore _ _ hd hg ho hx hy hl (h _ (hn.set i V s' hs hb))
end
section
variable {α β : Type}
theorem bindZ {t : Tr α} {xs : List Int} {z z' : Zs} {a : α} (h : t.runZ xs z = (a, z')) (f : α → Tr β) : (t.bind f).runZ xs z = (f a).runZ xs z' := by rw [Tr.runZ_bind, h]
theorem doneZ (a : α) (xs : List Int) (z : Zs) : (Tr.done a).runZ xs z = (a, z) := rfl
theorem zif_pos {c : Prop} [Decidable c] {t e : Tr α} {xs : List Int} {z : Zs} (hc : c) : (if c then t else e).runZ xs z = t.runZ xs z := by rw [if_pos hc]
theorem zif_neg {c : Prop} [Decidable c] {t e : Tr α} {xs : List Int} {z : Zs} (hc : ¬ c) : (if c then t else e).runZ xs z = e.runZ xs z := by rw [if_neg hc]
theorem zbif_pos {c : Prop} [Decidable c] {t e : Tr α} {f : α → Tr β} {xs : List Int} {z : Zs} (hc : c) : ((if c then t else e).bind f).runZ xs z = (t.bind f).runZ xs z := by rw [if_pos hc]
theorem zbif_neg {c : Prop} [Decidable c] {t e : Tr α} {f : α → Tr β} {xs : List Int} {z : Zs} (hc : ¬ c) : ((if c then t else e).bind f).runZ xs z = (e.bind f).runZ xs z := by rw [if_neg hc]
end
def Ws.u_af (s : Ws) (v : Int) : Ws := { s with r := { s.r with af := v } }
theorem WsB.u_af {s : Ws} (h : WsB s) {v : Int} (hv : Wd16 v) : WsB (s.u_af v) := ⟨⟨hv, h.r.bc, h.r.de, h.r.hl, h.r.af2, h.r.bc2, h.r.de2, h.r.hl2, h.r.ix, h.r.iy, h.r.sp, h.r.pc, h.r.wz, h.r.i, h.r.r, h.r.mode⟩, h.code, h.m⟩
def Ws.u_bc (s : Ws) (v : Int) : Ws := { s with r := { s.r with bc := v } }
theorem WsB.u_bc {s : Ws} (h : WsB s) {v : Int} (hv : Wd16 v) : WsB (s.u_bc v) := ⟨⟨h.r.af, hv, h.r.de, h.r.hl, h.r.af2, h.r.bc2, h.r.de2, h.r.hl2, h.r.ix, h.r.iy, h.r.sp, h.r.pc, h.r.wz, h.r.i, h.r.r, h.r.mode⟩, h.code, h.m⟩
def Ws.u_de (s : Ws) (v : Int) : Ws := { s with r := { s.r with de := v } }
theorem WsB.u_de {s : Ws} (h : WsB s) {v : Int} (hv : Wd16 v) : WsB (s.u_de v) := ⟨⟨h.r.af, h.r.bc, hv, h.r.hl, h.r.af2, h.r.bc2, h.r.de2, h.r.hl2, h.r.ix, h.r.iy, h.r.sp, h.r.pc, h.r.wz, h.r.i, h.r.r, h.r.mode⟩, h.code, h.m⟩
def Ws.u_hl (s : Ws) (v : Int) : Ws := { s with r := { s.r with hl := v } }
theorem WsB.u_hl {s : Ws} (h : WsB s) {v : Int} (hv : Wd16 v) : WsB (s.u_hl v) := ⟨⟨h.r.af, h.r.bc, h.r.de, hv, h.r.af2, h.r.bc2, h.r.de2, h.r.hl2, h.r.ix, h.r.iy, h.r.sp, h.r.pc, h.r.wz, h.r.i, h.r.r, h.r.mode⟩, h.code, h.m⟩
def Ws.u_sp (s : Ws) (v : Int) : Ws := { s with r := { s.r with sp := v } }
theorem WsB.u_sp {s : Ws} (h : WsB s) {v : Int} (hv : Wd16 v) : WsB (s.u_sp v) := ⟨⟨h.r.af, h.r.bc, h.r.de, h.r.hl, h.r.af2, h.r.bc2, h.r.de2, h.r.hl2, h.r.ix, h.r.iy, hv, h.r.pc, h.r.wz, h.r.i, h.r.r, h.r.mode⟩, h.code, h.m⟩
def Ws.u_pc (s : Ws) (v : Int) : Ws := { s with r := { s.r with pc := v } }
theorem WsB.u_pc {s : Ws} (h : WsB s) {v : Int} (hv : Wd16 v) : WsB (s.u_pc v) := ⟨⟨h.r.af, h.r.bc, h.r.de, h.r.hl, h.r.af2, h.r.bc2, h.r.de2, h.r.hl2, h.r.ix, h.r.iy, h.r.sp, hv, h.r.wz, h.r.i, h.r.r, h.r.mode⟩, h.code, h.m⟩
def Ws.u_wz (s : Ws) (v : Int) : Ws := { s with r := { s.r with wz := v } }
theorem wu_wz (s : Ws) (v : Int) (z : Zs) (A : Option Addr) (n cap : Nat) : (wC s A n cap z).setIfInBounds 12 (.int .u16 v) = wC (s.u_wz v) A n cap z := rfl
theorem WsB.u_wz {s : Ws} (h : WsB s) {v : Int} (hv : Wd16 v) : WsB (s.u_wz v) := ⟨⟨h.r.af, h.r.bc, h.r.de, h.r.hl, h.r.af2, h.r.bc2, h.r.de2, h.r.hl2, h.r.ix, h.r.iy, h.r.sp, h.r.pc, hv, h.r.i, h.r.r, h.r.mode⟩, h.code, h.m⟩
def Ws.u_i (s : Ws) (v : Int) : Ws := { s with r := { s.r with i := v } }
theorem WsB.u_i {s : Ws} (h : WsB s) {v : Int} (hv : B8 v) : WsB (s.u_i v) := ⟨⟨h.r.af, h.r.bc, h.r.de, h.r.hl, h.r.af2, h.r.bc2, h.r.de2, h.r.hl2, h.r.ix, h.r.iy, h.r.sp, h.r.pc, h.r.wz, hv, h.r.r, h.r.mode⟩, h.code, h.m⟩
def Ws.u_r (s : Ws) (v : Int) : Ws := { s with r := { s.r with r := v } }
theorem WsB.u_r {s : Ws} (h : WsB s) {v : Int} (hv : B8 v) : WsB (s.u_r v) := ⟨⟨h.r.af, h.r.bc, h.r.de, h.r.hl, h.r.af2, h.r.bc2, h.r.de2, h.r.hl2, h.r.ix, h.r.iy, h.r.sp, h.r.pc, h.r.wz, h.r.i, hv, h.r.mode⟩, h.code, h.m⟩
def Ws.u_iff1 (s : Ws) (v : Bool) : Ws := { s with r := { s.r with iff1 := v } }
theorem WsB.u_iff1 {s : Ws} (h : WsB s) {v : Bool} : WsB (s.u_iff1 v) := ⟨⟨h.r.af, h.r.bc, h.r.de, h.r.hl, h.r.af2, h.r.bc2, h.r.de2, h.r.hl2, h.r.ix, h.r.iy, h.r.sp, h.r.pc, h.r.wz, h.r.i, h.r.r, h.r.mode⟩, h.code, h.m⟩
def Ws.u_iff2 (s : Ws) (v : Bool) : Ws := { s with r := { s.r with iff2 := v } }
theorem WsB.u_iff2 {s : Ws} (h : WsB s) {v : Bool} : WsB (s.u_iff2 v) := ⟨⟨h.r.af, h.r.bc, h.r.de, h.r.hl, h.r.af2, h.r.bc2, h.r.de2, h.r.hl2, h.r.ix, h.r.iy, h.r.sp, h.r.pc, h.r.wz, h.r.i, h.r.r, h.r.mode⟩, h.code, h.m⟩
def Ws.u_halted (s : Ws) (v : Bool) : Ws := { s with r := { s.r with halted := v } }
theorem WsB.u_halted {s : Ws} (h : WsB s) {v : Bool} : WsB (s.u_halted v) := ⟨⟨h.r.af, h.r.bc, h.r.de, h.r.hl, h.r.af2, h.r.bc2, h.r.de2, h.r.hl2, h.r.ix, h.r.iy, h.r.sp, h.r.pc, h.r.wz, h.r.i, h.r.r, h.r.mode⟩, h.code, h.m⟩
def Ws.u_late (s : Ws) (v : Bool) : Ws := { s with r := { s.r with late := v } }
theorem wu_late (s : Ws) (v : Bool) (z : Zs) (A : Option Addr) (n cap : Nat) : (wC s A n cap z).setIfInBounds 18 (.bool v) = wC (s.u_late v) A n cap z := rfl
theorem WsB.u_late {s : Ws} (h : WsB s) {v : Bool} : WsB (s.u_late v) := ⟨⟨h.r.af, h.r.bc, h.r.de, h.r.hl, h.r.af2, h.r.bc2, h.r.de2, h.r.hl2, h.r.ix, h.r.iy, h.r.sp, h.r.pc, h.r.wz, h.r.i, h.r.r, h.r.mode⟩, h.code, h.m⟩
def Ws.u_mode (s : Ws) (v : Int) : Ws := { s with r := { s.r with mode := v } }
theorem wu_mode (s : Ws) (v : Int) (z : Zs) (A : Option Addr) (n cap : Nat) : (wC s A n cap z).setIfInBounds 19 (.int .i64 v) = wC (s.u_mode v) A n cap z := rfl
theorem WsB.u_mode {s : Ws} (h : WsB s) {v : Int} (hv : -9223372036854775808 ≤ v ∧ v ≤ 9223372036854775807) : WsB (s.u_mode v) := ⟨⟨h.r.af, h.r.bc, h.r.de, h.r.hl, h.r.af2, h.r.bc2, h.r.de2, h.r.hl2, h.r.ix, h.r.iy, h.r.sp, h.r.pc, h.r.wz, h.r.i, h.r.r, hv⟩, h.code, h.m⟩
theorem WsB.u_rg {s : Ws} (h : WsB s) {g : Rg} (hg : RgB g) : WsB { s with r := g } := ⟨hg, h.code, h.m⟩
def Ws.u_plane (s : Ws) (v : Int) : Ws := { s with plane := v }
theorem wu_plane (s : Ws) (v : Int) (z : Zs) (A : Option Addr) (n cap : Nat) : (wC s A n cap z).setIfInBounds 27 (.int .i64 v) = wC (s.u_plane v) A n cap z := rfl
theorem WsB.u_plane {s : Ws} (h : WsB s) {v : Int} : WsB (s.u_plane v) := ⟨h.r, h.code, h.m⟩
def Ws.u_code (s : Ws) (v : Int) : Ws := { s with code := v }
theorem wu_code (s : Ws) (v : Int) (z : Zs) (A : Option Addr) (n cap : Nat) : (wC s A n cap z).setIfInBounds 28 (.int .u8 v) = wC (s.u_code v) A n cap z := rfl
theorem WsB.u_code {s : Ws} (h : WsB s) {v : Int} (hv : B8 v) : WsB (s.u_code v) := ⟨h.r, hv, h.m⟩
def Ws.u_m (s : Ws) (v : Int) : Ws := { s with m := v }
theorem wu_m (s : Ws) (v : Int) (z : Zs) (A : Option Addr) (n cap : Nat) : (wC s A n cap z).setIfInBounds 29 (.int .u16 v) = wC (s.u_m v) A n cap z := rfl
theorem WsB.u_m {s : Ws} (h : WsB s) {v : Int} (hv : Wd16 v) : WsB (s.u_m v) := ⟨h.r, h.code, hv⟩
def Ws.u_known (s : Ws) (v : Bool) : Ws := { s with known := v }
theorem wu_known (s : Ws) (v : Bool) (z : Zs) (A : Option Addr) (n cap : Nat) : (wC s A n cap z).setIfInBounds 30 (.bool v) = wC (s.u_known v) A n cap z := rfl
theorem WsB.u_known {s : Ws} (h : WsB s) {v : Bool} : WsB (s.u_known v) := ⟨h.r, h.code, h.m⟩
theorem fW0 (b : Nat) (w : World) : (Instr.fieldAt 52 (.pointer (some ⟨b, 0, none⟩)) 0).run Tryz.prog w = .ok (.pointer (some ⟨b, 0, none⟩)) w := by simp [go_sem]
theorem fW1 (b : Nat) (w : World) : (Instr.fieldAt 52 (.pointer (some ⟨b, 0, none⟩)) 1).run Tryz.prog w = .ok (.pointer (some ⟨b, 20, none⟩)) w := by simp [go_sem]
theorem fW2 (b : Nat) (w : World) : (Instr.fieldAt 52 (.pointer (some ⟨b, 0, none⟩)) 2).run Tryz.prog w = .ok (.pointer (some ⟨b, 21, none⟩)) w := by simp [go_sem]
theorem fW3 (b : Nat) (w : World) : (Instr.fieldAt 52 (.pointer (some ⟨b, 0, none⟩)) 3).run Tryz.prog w = .ok (.pointer (some ⟨b, 22, none⟩)) w := by simp [go_sem]
theorem fW4 (b : Nat) (w : World) : (Instr.fieldAt 52 (.pointer (some ⟨b, 0, none⟩)) 4).run Tryz.prog w = .ok (.pointer (some ⟨b, 23, none⟩)) w := by simp [go_sem]
theorem fW5 (b : Nat) (w : World) : (Instr.fieldAt 52 (.pointer (some ⟨b, 0, none⟩)) 5).run Tryz.prog w = .ok (.pointer (some ⟨b, 27, none⟩)) w := by simp [go_sem]
theorem fW6 (b : Nat) (w : World) : (Instr.fieldAt 52 (.pointer (some ⟨b, 0, none⟩)) 6).run Tryz.prog w = .ok (.pointer (some ⟨b, 28, none⟩)) w := by simp [go_sem]
theorem fW7 (b : Nat) (w : World) : (Instr.fieldAt 52 (.pointer (some ⟨b, 0, none⟩)) 7).run Tryz.prog w = .ok (.pointer (some ⟨b, 29, none⟩)) w := by simp [go_sem]
theorem fW8 (b : Nat) (w : World) : (Instr.fieldAt 52 (.pointer (some ⟨b, 0, none⟩)) 8).run Tryz.prog w = .ok (.pointer (some ⟨b, 30, none⟩)) w := by simp [go_sem]
theorem bGtI (x y : Int) (w : World) : (binOp .gtr 3 (.int .i64 x) (.int .i64 y)).run Tryz.prog w = .ok (.bool (decide (y < x))) w := by simp [go_sem]
theorem rpair_0bc (p : Int) (cs : Array Value) (x : Int) (hc : cs[1]? = some (.int .u16 x)) (w : World) :
    Calls Tryz.prog 82 #[.agg cs, .int .i64 p, .int .i64 0] w fun e w' => e = .returned (.int .u16 x) ∧ Below w.heap.size w w' := by
  have c1 := ((Row.new w 24 cs).cell 1).trans hc
  have HB := Lib.hid ((Below.refl w.heap.size w).alloc (Nat.le_refl _) (.cells cs 24))
  clear hc
  go_enter Tryz.func82, Tryz.ntmps82
  go_wp2
  go_ret
  exact ⟨rfl, HB.out⟩
theorem rpair_1de (p : Int) (cs : Array Value) (x : Int) (hc : cs[2]? = some (.int .u16 x)) (w : World) :
    Calls Tryz.prog 82 #[.agg cs, .int .i64 p, .int .i64 1] w fun e w' => e = .returned (.int .u16 x) ∧ Below w.heap.size w w' := by
  have c1 := ((Row.new w 24 cs).cell 2).trans hc
  have HB := Lib.hid ((Below.refl w.heap.size w).alloc (Nat.le_refl _) (.cells cs 24))
  clear hc
  go_enter Tryz.func82, Tryz.ntmps82
  go_wp2
  go_ret
  exact ⟨rfl, HB.out⟩
theorem rpair_2ix (cs : Array Value) (x : Int) (hc : cs[8]? = some (.int .u16 x)) (w : World) :
    Calls Tryz.prog 82 #[.agg cs, .int .i64 3, .int .i64 2] w fun e w' => e = .returned (.int .u16 x) ∧ Below w.heap.size w w' := by
  have c1 := ((Row.new w 24 cs).cell 8).trans hc
  have HB := Lib.hid ((Below.refl w.heap.size w).alloc (Nat.le_refl _) (.cells cs 24))
  clear hc
  go_enter Tryz.func82, Tryz.ntmps82
  go_wp2
  go_ret
  exact ⟨rfl, HB.out⟩
theorem rpair_2iy (cs : Array Value) (x : Int) (hc : cs[9]? = some (.int .u16 x)) (w : World) :
    Calls Tryz.prog 82 #[.agg cs, .int .i64 4, .int .i64 2] w fun e w' => e = .returned (.int .u16 x) ∧ Below w.heap.size w w' := by
  have c1 := ((Row.new w 24 cs).cell 9).trans hc
  have HB := Lib.hid ((Below.refl w.heap.size w).alloc (Nat.le_refl _) (.cells cs 24))
  clear hc
  go_enter Tryz.func82, Tryz.ntmps82
  go_wp2
  go_ret
  exact ⟨rfl, HB.out⟩
theorem rpair_2hl (p : Int) (h3 : p ≠ 3) (h4 : p ≠ 4) (cs : Array Value) (x : Int) (hc : cs[3]? = some (.int .u16 x)) (w : World) :
    Calls Tryz.prog 82 #[.agg cs, .int .i64 p, .int .i64 2] w fun e w' => e = .returned (.int .u16 x) ∧ Below w.heap.size w w' := by
  have e3 : (p == 3) = false := by simpa using h3
  have e4 : (p == 4) = false := by simpa using h4
  clear h3 h4
  have c1 := ((Row.new w 24 cs).cell 3).trans hc
  have HB := Lib.hid ((Below.refl w.heap.size w).alloc (Nat.le_refl _) (.cells cs 24))
  clear hc
  go_enter Tryz.func82, Tryz.ntmps82
  go_wp2
  go_ret
  exact ⟨rfl, HB.out⟩
theorem rpair_3sp (p : Int) (cs : Array Value) (x : Int) (hc : cs[10]? = some (.int .u16 x)) (w : World) :
    Calls Tryz.prog 82 #[.agg cs, .int .i64 p, .int .i64 3] w fun e w' => e = .returned (.int .u16 x) ∧ Below w.heap.size w w' := by
  have c1 := ((Row.new w 24 cs).cell 10).trans hc
  have HB := Lib.hid ((Below.refl w.heap.size w).alloc (Nat.le_refl _) (.cells cs 24))
  clear hc
  go_enter Tryz.func82, Tryz.ntmps82
  go_wp2
  go_ret
  exact ⟨rfl, HB.out⟩
theorem rpair_no (p k : Int) (hk : k < 0 ∨ 3 < k) (cs : Array Value) (w : World) :
    Calls Tryz.prog 82 #[.agg cs, .int .i64 p, .int .i64 k] w fun e w' => e = .returned (.int .u16 0) ∧ Below w.heap.size w w' := by
  have e0 : (k == 0) = false := by simp; omega
  have e1 : (k == 1) = false := by simp; omega
  have e2 : (k == 2) = false := by simp; omega
  have e3 : (k == 3) = false := by simp; omega
  have HB := Lib.hid ((Below.refl w.heap.size w).alloc (Nat.le_refl _) (.cells cs 24))
  clear hk
  go_enter Tryz.func82, Tryz.ntmps82
  go_wp2
  go_ret
  exact ⟨rfl, HB.out⟩
theorem rpair_any (g : Rg) (p k : Int) (w : World) :
    Calls Tryz.prog 82 #[regsV g, .int .i64 p, .int .i64 k] w fun e w' => e = .returned (.int .u16 (pairG g p k)) ∧ Below w.heap.size w w' := by
  by_cases hn : k < 0 ∨ 3 < k
  · rw [pairG_no g p k hn]
    exact rpair_no p k hn _ w
  obtain rfl | rfl | rfl | rfl : k = 0 ∨ k = 1 ∨ k = 2 ∨ k = 3 := by omega
  · exact rpair_0bc p _ g.bc rfl w
  · exact rpair_1de p _ g.de rfl w
  · rw [pairG_2]
    by_cases h3 : p = 3
    · subst h3
      exact rpair_2ix _ g.ix rfl w
    by_cases h4 : p = 4
    · subst h4
      exact rpair_2iy _ g.iy rfl w
    · rw [if_neg h3, if_neg h4]
      exact rpair_2hl p h3 h4 _ g.hl rfl w
  · exact rpair_3sp p _ g.sp rfl w
theorem rsetPair_0bc (g : Rg) (p v : Int) (w : World) :
    Calls Tryz.prog 170 #[regsV g, .int .i64 p, .int .i64 0, .int .u16 v] w fun e w' => e = .returned (regsV ({ g with bc := v })) ∧ Below w.heap.size w w' := by
  obtain ⟨cs, hcs⟩ : ∃ cs, cs = (regsC g) := ⟨_, rfl⟩
  have HE := Lib.hid hcs
  show Calls _ _ #[.agg (regsC g), .int .i64 p, .int .i64 0, .int .u16 v] _ _
  rw [← hcs]
  clear hcs
  go_enter Tryz.func170, Tryz.ntmps170
  go_upto_region 1 with (fail)
  have rA := (Row.new w 24 cs).alloc (.cells zL 24)
  have rZ := Row.new (w.alloc (.cells cs 24)) 24 zL
  rw [show (w.alloc (.cells cs 24)).heap.size = w.heap.size + 1 by simp] at rZ
  have rZ := Lib.hid rZ
  have HB := Lib.hid (((Below.refl w.heap.size w).alloc (Nat.le_refl _) (.cells cs 24)).alloc (by simp) (.cells zL 24))
  have HW := Lib.hid (show ((w.alloc (.cells cs 24)).alloc (.cells zL 24)).heap.size = w.heap.size + 2 by simp)
  generalize (w.alloc (.cells cs 24)).alloc (.cells zL 24) = W0 at *
  rw [HE.out] at rA
  have rA := Lib.hid rA
  have hltA := rA.out.lt
  have hltZ := rZ.out.lt
  have lA1 : W0.cell? ⟨w.heap.size, 1, none⟩ = some (.int .u16 g.bc) := rA.out.cell 1
  have fA1 := rA.out.frozen 1
  have qA0 : Row (W0.setCell ⟨w.heap.size, 1, none⟩ (.int .u16 v)) (w.heap.size) 24 (regsC { g with bc := v }) := rA.out.set 1 (.int .u16 v)
  have qZ0 : Row (W0.setCell ⟨w.heap.size, 1, none⟩ (.int .u16 v)) (w.heap.size + 1) 24 zL := rZ.out.far (p := ⟨w.heap.size, 1, none⟩) (by simp) (.int .u16 v)
  have qA := qA0
  have qZ := qZ0
  clear qA0 qZ0
  have HB' := Lib.hid (HB.out.setCell (p := ⟨w.heap.size, 1, none⟩) (by first | exact Nat.le_refl _ | exact Nat.le_add_right _ _) (.int .u16 v))
  go_upto_region 13 with (fail)
  clear lA1 fA1 rA rZ HB
  have rA := Lib.hid qA
  have rZ := Lib.hid qZ
  clear qA qZ
  have HB := HB'
  clear HB'
  generalize W0.setCell ⟨w.heap.size, 1, none⟩ (.int .u16 v) = W1 at *
  obtain ⟨ds, hds⟩ : ∃ ds, ds = (regsC { g with bc := v }) := ⟨_, rfl⟩
  have i24 : Hid ((Tryz.prog.info? 24).map (·.size) = some ds.size) := Lib.hid (by rw [hds]; exact info24)
  have one : Hid (ds.toList.all (·.oneCell') = true) := Lib.hid (by rw [hds]; rfl)
  have hsz : Hid (ds.size = 20) := Lib.hid (by rw [hds]; rfl)
  have HD := Lib.hid hds
  have hR := rA.out
  rw [← hds] at hR
  clear hds
  apply wp_region_lit
  refine wpList_load_row rfl 24 _ rfl _ _ _ rfl hR _ Tryz.underlying24 rfl i24.out ?_
  refine wpList_store_row rfl 24 _ _ rfl (w.heap.size + 1) _ _ ds rfl rfl rZ.out (by rw [hsz.out]; exact Eq.refl 20) i24.out one.out ?_
  have rE := rZ.out.setAll (vs := ds) (by rw [hsz.out]; exact Eq.refl 20)
  have HE9 := Lib.hid (Below.setCellsAll HB.out (b := w.heap.size + 1) (Nat.le_add_right _ _) ds.toList 0)
  generalize W1.setCells (w.heap.size + 1) 0 ds.toList = W9 at *
  apply wpList_nil
  rename_i hret
  refine hret _ _ (wp_ret ?_)
  try simp only [Exit.inBlock, Exit.then]
  refine bodyPost_ret (results_row rfl rfl rE _ Tryz.underlying24 rfl i24.out) rfl ?_
  exact ⟨(congrArg (fun q => Ending.returned (Value.agg q)) HD.out).trans rfl, HE9.out⟩
theorem rsetPair_1de (g : Rg) (p v : Int) (w : World) :
    Calls Tryz.prog 170 #[regsV g, .int .i64 p, .int .i64 1, .int .u16 v] w fun e w' => e = .returned (regsV ({ g with de := v })) ∧ Below w.heap.size w w' := by
  obtain ⟨cs, hcs⟩ : ∃ cs, cs = (regsC g) := ⟨_, rfl⟩
  have HE := Lib.hid hcs
  show Calls _ _ #[.agg (regsC g), .int .i64 p, .int .i64 1, .int .u16 v] _ _
  rw [← hcs]
  clear hcs
  go_enter Tryz.func170, Tryz.ntmps170
  go_upto_region 1 with (fail)
  have rA := (Row.new w 24 cs).alloc (.cells zL 24)
  have rZ := Row.new (w.alloc (.cells cs 24)) 24 zL
  rw [show (w.alloc (.cells cs 24)).heap.size = w.heap.size + 1 by simp] at rZ
  have rZ := Lib.hid rZ
  have HB := Lib.hid (((Below.refl w.heap.size w).alloc (Nat.le_refl _) (.cells cs 24)).alloc (by simp) (.cells zL 24))
  have HW := Lib.hid (show ((w.alloc (.cells cs 24)).alloc (.cells zL 24)).heap.size = w.heap.size + 2 by simp)
  generalize (w.alloc (.cells cs 24)).alloc (.cells zL 24) = W0 at *
  rw [HE.out] at rA
  have rA := Lib.hid rA
  have hltA := rA.out.lt
  have hltZ := rZ.out.lt
  have lA2 : W0.cell? ⟨w.heap.size, 2, none⟩ = some (.int .u16 g.de) := rA.out.cell 2
  have fA2 := rA.out.frozen 2
  have qA0 : Row (W0.setCell ⟨w.heap.size, 2, none⟩ (.int .u16 v)) (w.heap.size) 24 (regsC { g with de := v }) := rA.out.set 2 (.int .u16 v)
  have qZ0 : Row (W0.setCell ⟨w.heap.size, 2, none⟩ (.int .u16 v)) (w.heap.size + 1) 24 zL := rZ.out.far (p := ⟨w.heap.size, 2, none⟩) (by simp) (.int .u16 v)
  have qA := qA0
  have qZ := qZ0
  clear qA0 qZ0
  have HB' := Lib.hid (HB.out.setCell (p := ⟨w.heap.size, 2, none⟩) (by first | exact Nat.le_refl _ | exact Nat.le_add_right _ _) (.int .u16 v))
  go_upto_region 13 with (fail)
  clear lA2 fA2 rA rZ HB
  have rA := Lib.hid qA
  have rZ := Lib.hid qZ
  clear qA qZ
  have HB := HB'
  clear HB'
  generalize W0.setCell ⟨w.heap.size, 2, none⟩ (.int .u16 v) = W1 at *
  obtain ⟨ds, hds⟩ : ∃ ds, ds = (regsC { g with de := v }) := ⟨_, rfl⟩
  have i24 : Hid ((Tryz.prog.info? 24).map (·.size) = some ds.size) := Lib.hid (by rw [hds]; exact info24)
  have one : Hid (ds.toList.all (·.oneCell') = true) := Lib.hid (by rw [hds]; rfl)
  have hsz : Hid (ds.size = 20) := Lib.hid (by rw [hds]; rfl)
  have HD := Lib.hid hds
  have hR := rA.out
  rw [← hds] at hR
  clear hds
  apply wp_region_lit
  refine wpList_load_row rfl 24 _ rfl _ _ _ rfl hR _ Tryz.underlying24 rfl i24.out ?_
  refine wpList_store_row rfl 24 _ _ rfl (w.heap.size + 1) _ _ ds rfl rfl rZ.out (by rw [hsz.out]; exact Eq.refl 20) i24.out one.out ?_
  have rE := rZ.out.setAll (vs := ds) (by rw [hsz.out]; exact Eq.refl 20)
  have HE9 := Lib.hid (Below.setCellsAll HB.out (b := w.heap.size + 1) (Nat.le_add_right _ _) ds.toList 0)
  generalize W1.setCells (w.heap.size + 1) 0 ds.toList = W9 at *
  apply wpList_nil
  rename_i hret
  refine hret _ _ (wp_ret ?_)
  try simp only [Exit.inBlock, Exit.then]
  refine bodyPost_ret (results_row rfl rfl rE _ Tryz.underlying24 rfl i24.out) rfl ?_
  exact ⟨(congrArg (fun q => Ending.returned (Value.agg q)) HD.out).trans rfl, HE9.out⟩
theorem rsetPair_2ix (g : Rg) (v : Int) (w : World) :
    Calls Tryz.prog 170 #[regsV g, .int .i64 3, .int .i64 2, .int .u16 v] w fun e w' => e = .returned (regsV ({ g with ix := v })) ∧ Below w.heap.size w w' := by
  obtain ⟨cs, hcs⟩ : ∃ cs, cs = (regsC g) := ⟨_, rfl⟩
  have HE := Lib.hid hcs
  show Calls _ _ #[.agg (regsC g), .int .i64 3, .int .i64 2, .int .u16 v] _ _
  rw [← hcs]
  clear hcs
  go_enter Tryz.func170, Tryz.ntmps170
  go_upto_region 1 with (fail)
  have rA := (Row.new w 24 cs).alloc (.cells zL 24)
  have rZ := Row.new (w.alloc (.cells cs 24)) 24 zL
  rw [show (w.alloc (.cells cs 24)).heap.size = w.heap.size + 1 by simp] at rZ
  have rZ := Lib.hid rZ
  have HB := Lib.hid (((Below.refl w.heap.size w).alloc (Nat.le_refl _) (.cells cs 24)).alloc (by simp) (.cells zL 24))
  have HW := Lib.hid (show ((w.alloc (.cells cs 24)).alloc (.cells zL 24)).heap.size = w.heap.size + 2 by simp)
  generalize (w.alloc (.cells cs 24)).alloc (.cells zL 24) = W0 at *
  rw [HE.out] at rA
  have rA := Lib.hid rA
  have hltA := rA.out.lt
  have hltZ := rZ.out.lt
  have lA8 : W0.cell? ⟨w.heap.size, 8, none⟩ = some (.int .u16 g.ix) := rA.out.cell 8
  have fA8 := rA.out.frozen 8
  have qA0 : Row (W0.setCell ⟨w.heap.size, 8, none⟩ (.int .u16 v)) (w.heap.size) 24 (regsC { g with ix := v }) := rA.out.set 8 (.int .u16 v)
  have qZ0 : Row (W0.setCell ⟨w.heap.size, 8, none⟩ (.int .u16 v)) (w.heap.size + 1) 24 zL := rZ.out.far (p := ⟨w.heap.size, 8, none⟩) (by simp) (.int .u16 v)
  have qA := qA0
  have qZ := qZ0
  clear qA0 qZ0
  have HB' := Lib.hid (HB.out.setCell (p := ⟨w.heap.size, 8, none⟩) (by first | exact Nat.le_refl _ | exact Nat.le_add_right _ _) (.int .u16 v))
  go_upto_region 13 with (fail)
  clear lA8 fA8 rA rZ HB
  have rA := Lib.hid qA
  have rZ := Lib.hid qZ
  clear qA qZ
  have HB := HB'
  clear HB'
  generalize W0.setCell ⟨w.heap.size, 8, none⟩ (.int .u16 v) = W1 at *
  obtain ⟨ds, hds⟩ : ∃ ds, ds = (regsC { g with ix := v }) := ⟨_, rfl⟩
  have i24 : Hid ((Tryz.prog.info? 24).map (·.size) = some ds.size) := Lib.hid (by rw [hds]; exact info24)
  have one : Hid (ds.toList.all (·.oneCell') = true) := Lib.hid (by rw [hds]; rfl)
  have hsz : Hid (ds.size = 20) := Lib.hid (by rw [hds]; rfl)
  have HD := Lib.hid hds
  have hR := rA.out
  rw [← hds] at hR
  clear hds
  apply wp_region_lit
  refine wpList_load_row rfl 24 _ rfl _ _ _ rfl hR _ Tryz.underlying24 rfl i24.out ?_
  refine wpList_store_row rfl 24 _ _ rfl (w.heap.size + 1) _ _ ds rfl rfl rZ.out (by rw [hsz.out]; exact Eq.refl 20) i24.out one.out ?_
  have rE := rZ.out.setAll (vs := ds) (by rw [hsz.out]; exact Eq.refl 20)
  have HE9 := Lib.hid (Below.setCellsAll HB.out (b := w.heap.size + 1) (Nat.le_add_right _ _) ds.toList 0)
  generalize W1.setCells (w.heap.size + 1) 0 ds.toList = W9 at *
  apply wpList_nil
  rename_i hret
  refine hret _ _ (wp_ret ?_)
  try simp only [Exit.inBlock, Exit.then]
  refine bodyPost_ret (results_row rfl rfl rE _ Tryz.underlying24 rfl i24.out) rfl ?_
  exact ⟨(congrArg (fun q => Ending.returned (Value.agg q)) HD.out).trans rfl, HE9.out⟩
theorem rsetPair_2iy (g : Rg) (v : Int) (w : World) :
    Calls Tryz.prog 170 #[regsV g, .int .i64 4, .int .i64 2, .int .u16 v] w fun e w' => e = .returned (regsV ({ g with iy := v })) ∧ Below w.heap.size w w' := by
  obtain ⟨cs, hcs⟩ : ∃ cs, cs = (regsC g) := ⟨_, rfl⟩
  have HE := Lib.hid hcs
  show Calls _ _ #[.agg (regsC g), .int .i64 4, .int .i64 2, .int .u16 v] _ _
  rw [← hcs]
  clear hcs
  go_enter Tryz.func170, Tryz.ntmps170
  go_upto_region 1 with (fail)
  have rA := (Row.new w 24 cs).alloc (.cells zL 24)
  have rZ := Row.new (w.alloc (.cells cs 24)) 24 zL
  rw [show (w.alloc (.cells cs 24)).heap.size = w.heap.size + 1 by simp] at rZ
  have rZ := Lib.hid rZ
  have HB := Lib.hid (((Below.refl w.heap.size w).alloc (Nat.le_refl _) (.cells cs 24)).alloc (by simp) (.cells zL 24))
  have HW := Lib.hid (show ((w.alloc (.cells cs 24)).alloc (.cells zL 24)).heap.size = w.heap.size + 2 by simp)
  generalize (w.alloc (.cells cs 24)).alloc (.cells zL 24) = W0 at *
  rw [HE.out] at rA
  have rA := Lib.hid rA
  have hltA := rA.out.lt
  have hltZ := rZ.out.lt
  have lA9 : W0.cell? ⟨w.heap.size, 9, none⟩ = some (.int .u16 g.iy) := rA.out.cell 9
  have fA9 := rA.out.frozen 9
  have qA0 : Row (W0.setCell ⟨w.heap.size, 9, none⟩ (.int .u16 v)) (w.heap.size) 24 (regsC { g with iy := v }) := rA.out.set 9 (.int .u16 v)
  have qZ0 : Row (W0.setCell ⟨w.heap.size, 9, none⟩ (.int .u16 v)) (w.heap.size + 1) 24 zL := rZ.out.far (p := ⟨w.heap.size, 9, none⟩) (by simp) (.int .u16 v)
  have qA := qA0
  have qZ := qZ0
  clear qA0 qZ0
  have HB' := Lib.hid (HB.out.setCell (p := ⟨w.heap.size, 9, none⟩) (by first | exact Nat.le_refl _ | exact Nat.le_add_right _ _) (.int .u16 v))
  go_upto_region 13 with (fail)
  clear lA9 fA9 rA rZ HB
  have rA := Lib.hid qA
  have rZ := Lib.hid qZ
  clear qA qZ
  have HB := HB'
  clear HB'
  generalize W0.setCell ⟨w.heap.size, 9, none⟩ (.int .u16 v) = W1 at *
  obtain ⟨ds, hds⟩ : ∃ ds, ds = (regsC { g with iy := v }) := ⟨_, rfl⟩
  have i24 : Hid ((Tryz.prog.info? 24).map (·.size) = some ds.size) := Lib.hid (by rw [hds]; exact info24)
  have one : Hid (ds.toList.all (·.oneCell') = true) := Lib.hid (by rw [hds]; rfl)
  have hsz : Hid (ds.size = 20) := Lib.hid (by rw [hds]; rfl)
  have HD := Lib.hid hds
  have hR := rA.out
  rw [← hds] at hR
  clear hds
  apply wp_region_lit
  refine wpList_load_row rfl 24 _ rfl _ _ _ rfl hR _ Tryz.underlying24 rfl i24.out ?_
  refine wpList_store_row rfl 24 _ _ rfl (w.heap.size + 1) _ _ ds rfl rfl rZ.out (by rw [hsz.out]; exact Eq.refl 20) i24.out one.out ?_
  have rE := rZ.out.setAll (vs := ds) (by rw [hsz.out]; exact Eq.refl 20)
  have HE9 := Lib.hid (Below.setCellsAll HB.out (b := w.heap.size + 1) (Nat.le_add_right _ _) ds.toList 0)
  generalize W1.setCells (w.heap.size + 1) 0 ds.toList = W9 at *
  apply wpList_nil
  rename_i hret
  refine hret _ _ (wp_ret ?_)
  try simp only [Exit.inBlock, Exit.then]
  refine bodyPost_ret (results_row rfl rfl rE _ Tryz.underlying24 rfl i24.out) rfl ?_
  exact ⟨(congrArg (fun q => Ending.returned (Value.agg q)) HD.out).trans rfl, HE9.out⟩
theorem rsetPair_2hl (g : Rg) (p v : Int) (h3 : p ≠ 3) (h4 : p ≠ 4) (w : World) :
    Calls Tryz.prog 170 #[regsV g, .int .i64 p, .int .i64 2, .int .u16 v] w fun e w' => e = .returned (regsV ({ g with hl := v })) ∧ Below w.heap.size w w' := by
  have e3 : (p == 3) = false := by simpa using h3
  have e4 : (p == 4) = false := by simpa using h4
  clear h3 h4
  obtain ⟨cs, hcs⟩ : ∃ cs, cs = (regsC g) := ⟨_, rfl⟩
  have HE := Lib.hid hcs
  show Calls _ _ #[.agg (regsC g), .int .i64 p, .int .i64 2, .int .u16 v] _ _
  rw [← hcs]
  clear hcs
  go_enter Tryz.func170, Tryz.ntmps170
  go_upto_region 1 with (fail)
  have rA := (Row.new w 24 cs).alloc (.cells zL 24)
  have rZ := Row.new (w.alloc (.cells cs 24)) 24 zL
  rw [show (w.alloc (.cells cs 24)).heap.size = w.heap.size + 1 by simp] at rZ
  have rZ := Lib.hid rZ
  have HB := Lib.hid (((Below.refl w.heap.size w).alloc (Nat.le_refl _) (.cells cs 24)).alloc (by simp) (.cells zL 24))
  have HW := Lib.hid (show ((w.alloc (.cells cs 24)).alloc (.cells zL 24)).heap.size = w.heap.size + 2 by simp)
  generalize (w.alloc (.cells cs 24)).alloc (.cells zL 24) = W0 at *
  rw [HE.out] at rA
  have rA := Lib.hid rA
  have hltA := rA.out.lt
  have hltZ := rZ.out.lt
  have lA3 : W0.cell? ⟨w.heap.size, 3, none⟩ = some (.int .u16 g.hl) := rA.out.cell 3
  have fA3 := rA.out.frozen 3
  have qA0 : Row (W0.setCell ⟨w.heap.size, 3, none⟩ (.int .u16 v)) (w.heap.size) 24 (regsC { g with hl := v }) := rA.out.set 3 (.int .u16 v)
  have qZ0 : Row (W0.setCell ⟨w.heap.size, 3, none⟩ (.int .u16 v)) (w.heap.size + 1) 24 zL := rZ.out.far (p := ⟨w.heap.size, 3, none⟩) (by simp) (.int .u16 v)
  have qA := qA0
  have qZ := qZ0
  clear qA0 qZ0
  have HB' := Lib.hid (HB.out.setCell (p := ⟨w.heap.size, 3, none⟩) (by first | exact Nat.le_refl _ | exact Nat.le_add_right _ _) (.int .u16 v))
  go_upto_region 13 with (fail)
  clear lA3 fA3 rA rZ HB
  have rA := Lib.hid qA
  have rZ := Lib.hid qZ
  clear qA qZ
  have HB := HB'
  clear HB'
  generalize W0.setCell ⟨w.heap.size, 3, none⟩ (.int .u16 v) = W1 at *
  obtain ⟨ds, hds⟩ : ∃ ds, ds = (regsC { g with hl := v }) := ⟨_, rfl⟩
  have i24 : Hid ((Tryz.prog.info? 24).map (·.size) = some ds.size) := Lib.hid (by rw [hds]; exact info24)
  have one : Hid (ds.toList.all (·.oneCell') = true) := Lib.hid (by rw [hds]; rfl)
  have hsz : Hid (ds.size = 20) := Lib.hid (by rw [hds]; rfl)
  have HD := Lib.hid hds
  have hR := rA.out
  rw [← hds] at hR
  clear hds
  apply wp_region_lit
  refine wpList_load_row rfl 24 _ rfl _ _ _ rfl hR _ Tryz.underlying24 rfl i24.out ?_
  refine wpList_store_row rfl 24 _ _ rfl (w.heap.size + 1) _ _ ds rfl rfl rZ.out (by rw [hsz.out]; exact Eq.refl 20) i24.out one.out ?_
  have rE := rZ.out.setAll (vs := ds) (by rw [hsz.out]; exact Eq.refl 20)
  have HE9 := Lib.hid (Below.setCellsAll HB.out (b := w.heap.size + 1) (Nat.le_add_right _ _) ds.toList 0)
  generalize W1.setCells (w.heap.size + 1) 0 ds.toList = W9 at *
  apply wpList_nil
  rename_i hret
  refine hret _ _ (wp_ret ?_)
  try simp only [Exit.inBlock, Exit.then]
  refine bodyPost_ret (results_row rfl rfl rE _ Tryz.underlying24 rfl i24.out) rfl ?_
  exact ⟨(congrArg (fun q => Ending.returned (Value.agg q)) HD.out).trans rfl, HE9.out⟩
theorem rsetPair_3sp (g : Rg) (p v : Int) (w : World) :
    Calls Tryz.prog 170 #[regsV g, .int .i64 p, .int .i64 3, .int .u16 v] w fun e w' => e = .returned (regsV ({ g with sp := v })) ∧ Below w.heap.size w w' := by
  obtain ⟨cs, hcs⟩ : ∃ cs, cs = (regsC g) := ⟨_, rfl⟩
  have HE := Lib.hid hcs
  show Calls _ _ #[.agg (regsC g), .int .i64 p, .int .i64 3, .int .u16 v] _ _
  rw [← hcs]
  clear hcs
  go_enter Tryz.func170, Tryz.ntmps170
  go_upto_region 1 with (fail)
  have rA := (Row.new w 24 cs).alloc (.cells zL 24)
  have rZ := Row.new (w.alloc (.cells cs 24)) 24 zL
  rw [show (w.alloc (.cells cs 24)).heap.size = w.heap.size + 1 by simp] at rZ
  have rZ := Lib.hid rZ
  have HB := Lib.hid (((Below.refl w.heap.size w).alloc (Nat.le_refl _) (.cells cs 24)).alloc (by simp) (.cells zL 24))
  have HW := Lib.hid (show ((w.alloc (.cells cs 24)).alloc (.cells zL 24)).heap.size = w.heap.size + 2 by simp)
  generalize (w.alloc (.cells cs 24)).alloc (.cells zL 24) = W0 at *
  rw [HE.out] at rA
  have rA := Lib.hid rA
  have hltA := rA.out.lt
  have hltZ := rZ.out.lt
  have lA10 : W0.cell? ⟨w.heap.size, 10, none⟩ = some (.int .u16 g.sp) := rA.out.cell 10
  have fA10 := rA.out.frozen 10
  have qA0 : Row (W0.setCell ⟨w.heap.size, 10, none⟩ (.int .u16 v)) (w.heap.size) 24 (regsC { g with sp := v }) := rA.out.set 10 (.int .u16 v)
  have qZ0 : Row (W0.setCell ⟨w.heap.size, 10, none⟩ (.int .u16 v)) (w.heap.size + 1) 24 zL := rZ.out.far (p := ⟨w.heap.size, 10, none⟩) (by simp) (.int .u16 v)
  have qA := qA0
  have qZ := qZ0
  clear qA0 qZ0
  have HB' := Lib.hid (HB.out.setCell (p := ⟨w.heap.size, 10, none⟩) (by first | exact Nat.le_refl _ | exact Nat.le_add_right _ _) (.int .u16 v))
  go_upto_region 13 with (fail)
  clear lA10 fA10 rA rZ HB
  have rA := Lib.hid qA
  have rZ := Lib.hid qZ
  clear qA qZ
  have HB := HB'
  clear HB'
  generalize W0.setCell ⟨w.heap.size, 10, none⟩ (.int .u16 v) = W1 at *
  obtain ⟨ds, hds⟩ : ∃ ds, ds = (regsC { g with sp := v }) := ⟨_, rfl⟩
  have i24 : Hid ((Tryz.prog.info? 24).map (·.size) = some ds.size) := Lib.hid (by rw [hds]; exact info24)
  have one : Hid (ds.toList.all (·.oneCell') = true) := Lib.hid (by rw [hds]; rfl)
  have hsz : Hid (ds.size = 20) := Lib.hid (by rw [hds]; rfl)
  have HD := Lib.hid hds
  have hR := rA.out
  rw [← hds] at hR
  clear hds
  apply wp_region_lit
  refine wpList_load_row rfl 24 _ rfl _ _ _ rfl hR _ Tryz.underlying24 rfl i24.out ?_
  refine wpList_store_row rfl 24 _ _ rfl (w.heap.size + 1) _ _ ds rfl rfl rZ.out (by rw [hsz.out]; exact Eq.refl 20) i24.out one.out ?_
  have rE := rZ.out.setAll (vs := ds) (by rw [hsz.out]; exact Eq.refl 20)
  have HE9 := Lib.hid (Below.setCellsAll HB.out (b := w.heap.size + 1) (Nat.le_add_right _ _) ds.toList 0)
  generalize W1.setCells (w.heap.size + 1) 0 ds.toList = W9 at *
  apply wpList_nil
  rename_i hret
  refine hret _ _ (wp_ret ?_)
  try simp only [Exit.inBlock, Exit.then]
  refine bodyPost_ret (results_row rfl rfl rE _ Tryz.underlying24 rfl i24.out) rfl ?_
  exact ⟨(congrArg (fun q => Ending.returned (Value.agg q)) HD.out).trans rfl, HE9.out⟩
theorem rsetPair_no (g : Rg) (p k v : Int) (hk : k < 0 ∨ 3 < k) (w : World) :
    Calls Tryz.prog 170 #[regsV g, .int .i64 p, .int .i64 k, .int .u16 v] w fun e w' => e = .returned (regsV (g)) ∧ Below w.heap.size w w' := by
  have e0 : (k == 0) = false := by simp; omega
  have e1 : (k == 1) = false := by simp; omega
  have e2 : (k == 2) = false := by simp; omega
  have e3 : (k == 3) = false := by simp; omega
  clear hk
  obtain ⟨cs, hcs⟩ : ∃ cs, cs = (regsC g) := ⟨_, rfl⟩
  have HE := Lib.hid hcs
  show Calls _ _ #[.agg (regsC g), .int .i64 p, .int .i64 k, .int .u16 v] _ _
  rw [← hcs]
  clear hcs
  go_enter Tryz.func170, Tryz.ntmps170
  go_upto_region 1 with (fail)
  have rA := (Row.new w 24 cs).alloc (.cells zL 24)
  have rZ := Row.new (w.alloc (.cells cs 24)) 24 zL
  rw [show (w.alloc (.cells cs 24)).heap.size = w.heap.size + 1 by simp] at rZ
  have rZ := Lib.hid rZ
  have HB := Lib.hid (((Below.refl w.heap.size w).alloc (Nat.le_refl _) (.cells cs 24)).alloc (by simp) (.cells zL 24))
  have HW := Lib.hid (show ((w.alloc (.cells cs 24)).alloc (.cells zL 24)).heap.size = w.heap.size + 2 by simp)
  generalize (w.alloc (.cells cs 24)).alloc (.cells zL 24) = W0 at *
  rw [HE.out] at rA
  have rA := Lib.hid rA
  have hltA := rA.out.lt
  have hltZ := rZ.out.lt
  go_upto_region 13 with (fail)
  obtain ⟨ds, hds⟩ : ∃ ds, ds = (regsC g) := ⟨_, rfl⟩
  have i24 : Hid ((Tryz.prog.info? 24).map (·.size) = some ds.size) := Lib.hid (by rw [hds]; exact info24)
  have one : Hid (ds.toList.all (·.oneCell') = true) := Lib.hid (by rw [hds]; rfl)
  have hsz : Hid (ds.size = 20) := Lib.hid (by rw [hds]; rfl)
  have HD := Lib.hid hds
  have hR := rA.out
  rw [← hds] at hR
  clear hds
  apply wp_region_lit
  refine wpList_load_row rfl 24 _ rfl _ _ _ rfl hR _ Tryz.underlying24 rfl i24.out ?_
  refine wpList_store_row rfl 24 _ _ rfl (w.heap.size + 1) _ _ ds rfl rfl rZ.out (by rw [hsz.out]; exact Eq.refl 20) i24.out one.out ?_
  have rE := rZ.out.setAll (vs := ds) (by rw [hsz.out]; exact Eq.refl 20)
  have HE9 := Lib.hid (Below.setCellsAll HB.out (b := w.heap.size + 1) (Nat.le_add_right _ _) ds.toList 0)
  generalize W0.setCells (w.heap.size + 1) 0 ds.toList = W9 at *
  apply wpList_nil
  rename_i hret
  refine hret _ _ (wp_ret ?_)
  try simp only [Exit.inBlock, Exit.then]
  refine bodyPost_ret (results_row rfl rfl rE _ Tryz.underlying24 rfl i24.out) rfl ?_
  exact ⟨(congrArg (fun q => Ending.returned (Value.agg q)) HD.out).trans rfl, HE9.out⟩
theorem rsetPair_any (g : Rg) (p k v : Int) (w : World) :
    Calls Tryz.prog 170 #[regsV g, .int .i64 p, .int .i64 k, .int .u16 v] w fun e w' => e = .returned (regsV (setPairG g p k v)) ∧ Below w.heap.size w w' := by
  by_cases hn : k < 0 ∨ 3 < k
  · rw [setPairG_no g p k v hn]
    exact rsetPair_no g p k v hn w
  obtain rfl | rfl | rfl | rfl : k = 0 ∨ k = 1 ∨ k = 2 ∨ k = 3 := by omega
  · exact rsetPair_0bc g p v w
  · exact rsetPair_1de g p v w
  · rw [setPairG_2]
    by_cases h3 : p = 3
    · subst h3
      exact rsetPair_2ix g v w
    by_cases h4 : p = 4
    · subst h4
      exact rsetPair_2iy g v w
    · rw [if_neg h3, if_neg h4]
      exact rsetPair_2hl g p v h3 h4 w
  · exact rsetPair_3sp g p v w
section
variable {P : Program}
theorem wpStill_load_row {ops : Array Oper} {w : World} {Q : Act → Prop} {a : Act} {op : Oper} {rest : List Oper} (hgd : op.guard = none) (ty : TypeId) (x : Operand) (ho : op.op = .load ty x)
    (g : Nat) (u : TypeId) (cs : Array Value) (hx : a.eval x = .pointer (some ⟨g, 0, none⟩)) (hr : Row w g u cs) (d : TypeDesc) (hu : P.underlying ty = some d) (hd : d.isRow = true) (hi : (P.info? ty).map (·.size) = some cs.size)
    (h : wpStill P ops w Q rest (a.put op.dst (.agg cs))) : wpStill P ops w Q (op :: rest) a :=
  wpStill_step fun K hK => by
    have e : (execOp a.eval op).run P w = .ok (.value (.agg cs)) w := by
      unfold execOp
      simp only [ho, hx, Instr.loadAt, Instr.sureAddr, Sem.run_bind, Sem.run_pure, Result.andThen_ok, loadVar_row hr hu hd hi]
    rw [if_pos (by unfold Region.wanted; rw [hgd])]
    unfold Oper.still
    rw [e, Oper.stillUpon_value]
    exact hK _ h
end
theorem rset_0 (g : Rg) (p x v : Int) (hx : Wd16 x) (hv : B8 v) (he : pairG g p 0 = x) (w : World) :
    Calls Tryz.prog 163 #[regsV g, .int .i64 p, .int .i64 0, .int .u8 v] w fun e w' => e = .returned (regsV (setPairG g p 0 (256 * v + x % 256))) ∧ Below w.heap.size w w' := by
  have kp : Hid (∀ W, Calls Tryz.prog 82 #[.agg (regsC g), .int .i64 p, .int .i64 0] W fun e w' => e = .returned (.int .u16 x) ∧ Below W.heap.size W w') := Lib.hid (fun W => by have h := rpair_any g p 0 W; rw [he] at h; exact h)
  obtain ⟨ds, hds⟩ : ∃ ds, ds = regsC (setPairG g p 0 (256 * v + x % 256)) := ⟨_, rfl⟩
  have ks : Hid (∀ W, Calls Tryz.prog 170 #[.agg (regsC g), .int .i64 p, .int .i64 0, .int .u16 (256 * v + x % 256)] W fun e w' => e = .returned (.agg ds) ∧ Below W.heap.size W w') := Lib.hid (fun W => by rw [hds]; exact rsetPair_any g p 0 (256 * v + x % 256) W)
  have iD : Hid ((Tryz.prog.info? 24).map (·.size) = some ds.size) := Lib.hid (by rw [hds]; exact info24)
  have oD : Hid (ds.toList.all (·.oneCell') = true) := Lib.hid (by rw [hds]; rfl)
  have sD : Hid (ds.size = 20) := Lib.hid (by rw [hds]; rfl)
  have k1 := Lib.hid (fun w => rlo_any x hx.1 hx.2 w)
  have k2 := Lib.hid (fun w => rword_any v (x % 256) hv.1 hv.2 (by omega) (by omega) w)
  have HD := Lib.hid hds
  clear hds he hx hv
  obtain ⟨cs, hcs⟩ : ∃ cs, cs = (regsC g) := ⟨_, rfl⟩
  have HE := Lib.hid hcs
  show Calls _ _ #[.agg (regsC g), .int .i64 p, .int .i64 0, .int .u8 v] _ _
  rw [← hcs]
  clear hcs
  go_enter Tryz.func163, Tryz.ntmps163
  go_upto_region 1 with (fail)
  have rA := (Row.new w 24 cs).alloc (.cells zL 24)
  have rZ := Row.new (w.alloc (.cells cs 24)) 24 zL
  rw [show (w.alloc (.cells cs 24)).heap.size = w.heap.size + 1 by simp] at rZ
  have rZ := Lib.hid rZ
  have HB := Lib.hid (((Below.refl w.heap.size w).alloc (Nat.le_refl _) (.cells cs 24)).alloc (by simp) (.cells zL 24))
  have HW := Lib.hid (show ((w.alloc (.cells cs 24)).alloc (.cells zL 24)).heap.size = w.heap.size + 2 by simp)
  generalize (w.alloc (.cells cs 24)).alloc (.cells zL 24) = W0 at *
  rw [HE.out] at rA
  have rA := Lib.hid rA
  have hltA := rA.out.lt
  have hltZ := rZ.out.lt
  have hA := rA.out
  rw [← HE.out] at hA kp ks
  have iC : Hid ((Tryz.prog.info? 24).map (·.size) = some cs.size) := Lib.hid (by rw [HE.out]; exact info24)
  clear rA HE HW hltA hltZ
  go_upto_region 8 with (first
    | (refine wpList_load_row rfl 24 _ rfl _ _ _ rfl hA _ Tryz.underlying24 rfl iC.out ?_)
    | (go_at_call 82; refine (kp.out _).mono ?_; rintro e w1 ⟨rfl, hb⟩; have HB2 := Lib.hid (HB.out.trans (hb.mono HB.out.size)); have hA2 := hA.below hb hA.lt; have rZ2 := Lib.hid (rZ.out.below hb rZ.out.lt); clear hb hA rZ HB kp))
  have hA3 : Row w1.drew w.heap.size 24 cs := hA2
  refine wp_region_still_tail 8 (by kernel_rfl) (by kernel_rfl) ?_
  simp only [List.take_succ_cons, List.take_zero, List.drop_succ_cons, List.drop_zero]
  refine wpStill_load_row rfl 24 _ rfl _ _ cs rfl hA3 _ Tryz.underlying24 rfl iC.out ?_
  repeat still_step
  still_call ((k1.out _).mono fun e w' h => ⟨h.1, h.2.symm⟩)
  repeat still_step
  still_call ((k2.out _).mono fun e w' h => ⟨h.1, h.2.symm⟩)
  repeat still_step
  refine wpStill_nil ?_
  change wpList _ _ _ _ _ w1.drew
  clear hA3 k1 k2
  have rZ : Hid (Row w1.drew (w.heap.size + 1) 24 zL) := Lib.hid rZ2.out
  have HB := Lib.hid HB2.out.drew
  clear rZ2 HB2 hA2 iC
  generalize w1.drew = W2 at *
  go_wp2_with fail
  refine (ks.out _).mono ?_
  rintro e w3 ⟨rfl, hb⟩
  have HB2 := Lib.hid (HB.out.trans (hb.mono HB.out.size))
  have rZ2 := rZ.out.below hb rZ.out.lt
  clear hb rZ HB ks
  have rE := rZ2.setAll (vs := ds) (by rw [sD.out]; exact Eq.refl 20)
  have HE9 := Lib.hid (Below.setCellsAll HB2.out (b := w.heap.size + 1) (Nat.le_add_right _ _) ds.toList 0)
  go_wp2_with (first
    | (refine wpList_store_row rfl 24 _ _ rfl (w.heap.size + 1) _ _ ds rfl rfl rZ2 (by rw [sD.out]; exact Eq.refl 20) iD.out oD.out ?_; generalize w3.setCells (w.heap.size + 1) 0 ds.toList = W9 at *))
  try simp only [Exit.inBlock, Exit.then]
  refine bodyPost_ret (results_row rfl rfl rE _ Tryz.underlying24 rfl iD.out) rfl ?_
  exact ⟨congrArg (fun q => Ending.returned (Value.agg q)) HD.out, HE9.out⟩
theorem rset_1 (g : Rg) (p x v : Int) (hx : Wd16 x) (hv : B8 v) (he : pairG g p 0 = x) (w : World) :
    Calls Tryz.prog 163 #[regsV g, .int .i64 p, .int .i64 1, .int .u8 v] w fun e w' => e = .returned (regsV (setPairG g p 0 (256 * (x / 256) + v))) ∧ Below w.heap.size w w' := by
  have kp : Hid (∀ W, Calls Tryz.prog 82 #[.agg (regsC g), .int .i64 p, .int .i64 0] W fun e w' => e = .returned (.int .u16 x) ∧ Below W.heap.size W w') := Lib.hid (fun W => by have h := rpair_any g p 0 W; rw [he] at h; exact h)
  obtain ⟨ds, hds⟩ : ∃ ds, ds = regsC (setPairG g p 0 (256 * (x / 256) + v)) := ⟨_, rfl⟩
  have ks : Hid (∀ W, Calls Tryz.prog 170 #[.agg (regsC g), .int .i64 p, .int .i64 0, .int .u16 (256 * (x / 256) + v)] W fun e w' => e = .returned (.agg ds) ∧ Below W.heap.size W w') := Lib.hid (fun W => by rw [hds]; exact rsetPair_any g p 0 (256 * (x / 256) + v) W)
  have iD : Hid ((Tryz.prog.info? 24).map (·.size) = some ds.size) := Lib.hid (by rw [hds]; exact info24)
  have oD : Hid (ds.toList.all (·.oneCell') = true) := Lib.hid (by rw [hds]; rfl)
  have sD : Hid (ds.size = 20) := Lib.hid (by rw [hds]; rfl)
  have k1 := Lib.hid (fun w => rhi_any x hx.1 hx.2 w)
  have k2 := Lib.hid (fun w => rword_any (x / 256) v (by have := hx.1; omega) (by have := hx.2; omega) hv.1 hv.2 w)
  have HD := Lib.hid hds
  clear hds he hx hv
  obtain ⟨cs, hcs⟩ : ∃ cs, cs = (regsC g) := ⟨_, rfl⟩
  have HE := Lib.hid hcs
  show Calls _ _ #[.agg (regsC g), .int .i64 p, .int .i64 1, .int .u8 v] _ _
  rw [← hcs]
  clear hcs
  go_enter Tryz.func163, Tryz.ntmps163
  go_upto_region 1 with (fail)
  have rA := (Row.new w 24 cs).alloc (.cells zL 24)
  have rZ := Row.new (w.alloc (.cells cs 24)) 24 zL
  rw [show (w.alloc (.cells cs 24)).heap.size = w.heap.size + 1 by simp] at rZ
  have rZ := Lib.hid rZ
  have HB := Lib.hid (((Below.refl w.heap.size w).alloc (Nat.le_refl _) (.cells cs 24)).alloc (by simp) (.cells zL 24))
  have HW := Lib.hid (show ((w.alloc (.cells cs 24)).alloc (.cells zL 24)).heap.size = w.heap.size + 2 by simp)
  generalize (w.alloc (.cells cs 24)).alloc (.cells zL 24) = W0 at *
  rw [HE.out] at rA
  have rA := Lib.hid rA
  have hltA := rA.out.lt
  have hltZ := rZ.out.lt
  have hA := rA.out
  rw [← HE.out] at hA kp ks
  have iC : Hid ((Tryz.prog.info? 24).map (·.size) = some cs.size) := Lib.hid (by rw [HE.out]; exact info24)
  clear rA HE HW hltA hltZ
  go_upto_region 9 with (first
    | (refine wpList_load_row rfl 24 _ rfl _ _ _ rfl hA _ Tryz.underlying24 rfl iC.out ?_)
    | (go_at_call 82; refine (kp.out _).mono ?_; rintro e w1 ⟨rfl, hb⟩; have HB2 := Lib.hid (HB.out.trans (hb.mono HB.out.size)); have hA2 := hA.below hb hA.lt; have rZ2 := Lib.hid (rZ.out.below hb rZ.out.lt); clear hb hA rZ HB kp))
  have hA3 : Row w1.drew w.heap.size 24 cs := hA2
  refine wp_region_still_tail 8 (by kernel_rfl) (by kernel_rfl) ?_
  simp only [List.take_succ_cons, List.take_zero, List.drop_succ_cons, List.drop_zero]
  refine wpStill_load_row rfl 24 _ rfl _ _ cs rfl hA3 _ Tryz.underlying24 rfl iC.out ?_
  repeat still_step
  still_call ((k1.out _).mono fun e w' h => ⟨h.1, h.2.symm⟩)
  repeat still_step
  still_call ((k2.out _).mono fun e w' h => ⟨h.1, h.2.symm⟩)
  repeat still_step
  refine wpStill_nil ?_
  change wpList _ _ _ _ _ w1.drew
  clear hA3 k1 k2
  have rZ : Hid (Row w1.drew (w.heap.size + 1) 24 zL) := Lib.hid rZ2.out
  have HB := Lib.hid HB2.out.drew
  clear rZ2 HB2 hA2 iC
  generalize w1.drew = W2 at *
  go_wp2_with fail
  refine (ks.out _).mono ?_
  rintro e w3 ⟨rfl, hb⟩
  have HB2 := Lib.hid (HB.out.trans (hb.mono HB.out.size))
  have rZ2 := rZ.out.below hb rZ.out.lt
  clear hb rZ HB ks
  have rE := rZ2.setAll (vs := ds) (by rw [sD.out]; exact Eq.refl 20)
  have HE9 := Lib.hid (Below.setCellsAll HB2.out (b := w.heap.size + 1) (Nat.le_add_right _ _) ds.toList 0)
  go_wp2_with (first
    | (refine wpList_store_row rfl 24 _ _ rfl (w.heap.size + 1) _ _ ds rfl rfl rZ2 (by rw [sD.out]; exact Eq.refl 20) iD.out oD.out ?_; generalize w3.setCells (w.heap.size + 1) 0 ds.toList = W9 at *))
  try simp only [Exit.inBlock, Exit.then]
  refine bodyPost_ret (results_row rfl rfl rE _ Tryz.underlying24 rfl iD.out) rfl ?_
  exact ⟨congrArg (fun q => Ending.returned (Value.agg q)) HD.out, HE9.out⟩
theorem rset_2 (g : Rg) (p x v : Int) (hx : Wd16 x) (hv : B8 v) (he : pairG g p 1 = x) (w : World) :
    Calls Tryz.prog 163 #[regsV g, .int .i64 p, .int .i64 2, .int .u8 v] w fun e w' => e = .returned (regsV (setPairG g p 1 (256 * v + x % 256))) ∧ Below w.heap.size w w' := by
  have kp : Hid (∀ W, Calls Tryz.prog 82 #[.agg (regsC g), .int .i64 p, .int .i64 1] W fun e w' => e = .returned (.int .u16 x) ∧ Below W.heap.size W w') := Lib.hid (fun W => by have h := rpair_any g p 1 W; rw [he] at h; exact h)
  obtain ⟨ds, hds⟩ : ∃ ds, ds = regsC (setPairG g p 1 (256 * v + x % 256)) := ⟨_, rfl⟩
  have ks : Hid (∀ W, Calls Tryz.prog 170 #[.agg (regsC g), .int .i64 p, .int .i64 1, .int .u16 (256 * v + x % 256)] W fun e w' => e = .returned (.agg ds) ∧ Below W.heap.size W w') := Lib.hid (fun W => by rw [hds]; exact rsetPair_any g p 1 (256 * v + x % 256) W)
  have iD : Hid ((Tryz.prog.info? 24).map (·.size) = some ds.size) := Lib.hid (by rw [hds]; exact info24)
  have oD : Hid (ds.toList.all (·.oneCell') = true) := Lib.hid (by rw [hds]; rfl)
  have sD : Hid (ds.size = 20) := Lib.hid (by rw [hds]; rfl)
  have k1 := Lib.hid (fun w => rlo_any x hx.1 hx.2 w)
  have k2 := Lib.hid (fun w => rword_any v (x % 256) hv.1 hv.2 (by omega) (by omega) w)
  have HD := Lib.hid hds
  clear hds he hx hv
  obtain ⟨cs, hcs⟩ : ∃ cs, cs = (regsC g) := ⟨_, rfl⟩
  have HE := Lib.hid hcs
  show Calls _ _ #[.agg (regsC g), .int .i64 p, .int .i64 2, .int .u8 v] _ _
  rw [← hcs]
  clear hcs
  go_enter Tryz.func163, Tryz.ntmps163
  go_upto_region 1 with (fail)
  have rA := (Row.new w 24 cs).alloc (.cells zL 24)
  have rZ := Row.new (w.alloc (.cells cs 24)) 24 zL
  rw [show (w.alloc (.cells cs 24)).heap.size = w.heap.size + 1 by simp] at rZ
  have rZ := Lib.hid rZ
  have HB := Lib.hid (((Below.refl w.heap.size w).alloc (Nat.le_refl _) (.cells cs 24)).alloc (by simp) (.cells zL 24))
  have HW := Lib.hid (show ((w.alloc (.cells cs 24)).alloc (.cells zL 24)).heap.size = w.heap.size + 2 by simp)
  generalize (w.alloc (.cells cs 24)).alloc (.cells zL 24) = W0 at *
  rw [HE.out] at rA
  have rA := Lib.hid rA
  have hltA := rA.out.lt
  have hltZ := rZ.out.lt
  have hA := rA.out
  rw [← HE.out] at hA kp ks
  have iC : Hid ((Tryz.prog.info? 24).map (·.size) = some cs.size) := Lib.hid (by rw [HE.out]; exact info24)
  clear rA HE HW hltA hltZ
  go_upto_region 8 with (first
    | (refine wpList_load_row rfl 24 _ rfl _ _ _ rfl hA _ Tryz.underlying24 rfl iC.out ?_)
    | (go_at_call 82; refine (kp.out _).mono ?_; rintro e w1 ⟨rfl, hb⟩; have HB2 := Lib.hid (HB.out.trans (hb.mono HB.out.size)); have hA2 := hA.below hb hA.lt; have rZ2 := Lib.hid (rZ.out.below hb rZ.out.lt); clear hb hA rZ HB kp))
  have hA3 : Row w1.drew w.heap.size 24 cs := hA2
  refine wp_region_still_tail 8 (by kernel_rfl) (by kernel_rfl) ?_
  simp only [List.take_succ_cons, List.take_zero, List.drop_succ_cons, List.drop_zero]
  refine wpStill_load_row rfl 24 _ rfl _ _ cs rfl hA3 _ Tryz.underlying24 rfl iC.out ?_
  repeat still_step
  still_call ((k1.out _).mono fun e w' h => ⟨h.1, h.2.symm⟩)
  repeat still_step
  still_call ((k2.out _).mono fun e w' h => ⟨h.1, h.2.symm⟩)
  repeat still_step
  refine wpStill_nil ?_
  change wpList _ _ _ _ _ w1.drew
  clear hA3 k1 k2
  have rZ : Hid (Row w1.drew (w.heap.size + 1) 24 zL) := Lib.hid rZ2.out
  have HB := Lib.hid HB2.out.drew
  clear rZ2 HB2 hA2 iC
  generalize w1.drew = W2 at *
  go_wp2_with fail
  refine (ks.out _).mono ?_
  rintro e w3 ⟨rfl, hb⟩
  have HB2 := Lib.hid (HB.out.trans (hb.mono HB.out.size))
  have rZ2 := rZ.out.below hb rZ.out.lt
  clear hb rZ HB ks
  have rE := rZ2.setAll (vs := ds) (by rw [sD.out]; exact Eq.refl 20)
  have HE9 := Lib.hid (Below.setCellsAll HB2.out (b := w.heap.size + 1) (Nat.le_add_right _ _) ds.toList 0)
  go_wp2_with (first
    | (refine wpList_store_row rfl 24 _ _ rfl (w.heap.size + 1) _ _ ds rfl rfl rZ2 (by rw [sD.out]; exact Eq.refl 20) iD.out oD.out ?_; generalize w3.setCells (w.heap.size + 1) 0 ds.toList = W9 at *))
  try simp only [Exit.inBlock, Exit.then]
  refine bodyPost_ret (results_row rfl rfl rE _ Tryz.underlying24 rfl iD.out) rfl ?_
  exact ⟨congrArg (fun q => Ending.returned (Value.agg q)) HD.out, HE9.out⟩
theorem rset_3 (g : Rg) (p x v : Int) (hx : Wd16 x) (hv : B8 v) (he : pairG g p 1 = x) (w : World) :
    Calls Tryz.prog 163 #[regsV g, .int .i64 p, .int .i64 3, .int .u8 v] w fun e w' => e = .returned (regsV (setPairG g p 1 (256 * (x / 256) + v))) ∧ Below w.heap.size w w' := by
  have kp : Hid (∀ W, Calls Tryz.prog 82 #[.agg (regsC g), .int .i64 p, .int .i64 1] W fun e w' => e = .returned (.int .u16 x) ∧ Below W.heap.size W w') := Lib.hid (fun W => by have h := rpair_any g p 1 W; rw [he] at h; exact h)
  obtain ⟨ds, hds⟩ : ∃ ds, ds = regsC (setPairG g p 1 (256 * (x / 256) + v)) := ⟨_, rfl⟩
  have ks : Hid (∀ W, Calls Tryz.prog 170 #[.agg (regsC g), .int .i64 p, .int .i64 1, .int .u16 (256 * (x / 256) + v)] W fun e w' => e = .returned (.agg ds) ∧ Below W.heap.size W w') := Lib.hid (fun W => by rw [hds]; exact rsetPair_any g p 1 (256 * (x / 256) + v) W)
  have iD : Hid ((Tryz.prog.info? 24).map (·.size) = some ds.size) := Lib.hid (by rw [hds]; exact info24)
  have oD : Hid (ds.toList.all (·.oneCell') = true) := Lib.hid (by rw [hds]; rfl)
  have sD : Hid (ds.size = 20) := Lib.hid (by rw [hds]; rfl)
  have k1 := Lib.hid (fun w => rhi_any x hx.1 hx.2 w)
  have k2 := Lib.hid (fun w => rword_any (x / 256) v (by have := hx.1; omega) (by have := hx.2; omega) hv.1 hv.2 w)
  have HD := Lib.hid hds
  clear hds he hx hv
  obtain ⟨cs, hcs⟩ : ∃ cs, cs = (regsC g) := ⟨_, rfl⟩
  have HE := Lib.hid hcs
  show Calls _ _ #[.agg (regsC g), .int .i64 p, .int .i64 3, .int .u8 v] _ _
  rw [← hcs]
  clear hcs
  go_enter Tryz.func163, Tryz.ntmps163
  go_upto_region 1 with (fail)
  have rA := (Row.new w 24 cs).alloc (.cells zL 24)
  have rZ := Row.new (w.alloc (.cells cs 24)) 24 zL
  rw [show (w.alloc (.cells cs 24)).heap.size = w.heap.size + 1 by simp] at rZ
  have rZ := Lib.hid rZ
  have HB := Lib.hid (((Below.refl w.heap.size w).alloc (Nat.le_refl _) (.cells cs 24)).alloc (by simp) (.cells zL 24))
  have HW := Lib.hid (show ((w.alloc (.cells cs 24)).alloc (.cells zL 24)).heap.size = w.heap.size + 2 by simp)
  generalize (w.alloc (.cells cs 24)).alloc (.cells zL 24) = W0 at *
  rw [HE.out] at rA
  have rA := Lib.hid rA
  have hltA := rA.out.lt
  have hltZ := rZ.out.lt
  have hA := rA.out
  rw [← HE.out] at hA kp ks
  have iC : Hid ((Tryz.prog.info? 24).map (·.size) = some cs.size) := Lib.hid (by rw [HE.out]; exact info24)
  clear rA HE HW hltA hltZ
  go_upto_region 9 with (first
    | (refine wpList_load_row rfl 24 _ rfl _ _ _ rfl hA _ Tryz.underlying24 rfl iC.out ?_)
    | (go_at_call 82; refine (kp.out _).mono ?_; rintro e w1 ⟨rfl, hb⟩; have HB2 := Lib.hid (HB.out.trans (hb.mono HB.out.size)); have hA2 := hA.below hb hA.lt; have rZ2 := Lib.hid (rZ.out.below hb rZ.out.lt); clear hb hA rZ HB kp))
  have hA3 : Row w1.drew w.heap.size 24 cs := hA2
  refine wp_region_still_tail 8 (by kernel_rfl) (by kernel_rfl) ?_
  simp only [List.take_succ_cons, List.take_zero, List.drop_succ_cons, List.drop_zero]
  refine wpStill_load_row rfl 24 _ rfl _ _ cs rfl hA3 _ Tryz.underlying24 rfl iC.out ?_
  repeat still_step
  still_call ((k1.out _).mono fun e w' h => ⟨h.1, h.2.symm⟩)
  repeat still_step
  still_call ((k2.out _).mono fun e w' h => ⟨h.1, h.2.symm⟩)
  repeat still_step
  refine wpStill_nil ?_
  change wpList _ _ _ _ _ w1.drew
  clear hA3 k1 k2
  have rZ : Hid (Row w1.drew (w.heap.size + 1) 24 zL) := Lib.hid rZ2.out
  have HB := Lib.hid HB2.out.drew
  clear rZ2 HB2 hA2 iC
  generalize w1.drew = W2 at *
  go_wp2_with fail
  refine (ks.out _).mono ?_
  rintro e w3 ⟨rfl, hb⟩
  have HB2 := Lib.hid (HB.out.trans (hb.mono HB.out.size))
  have rZ2 := rZ.out.below hb rZ.out.lt
  clear hb rZ HB ks
  have rE := rZ2.setAll (vs := ds) (by rw [sD.out]; exact Eq.refl 20)
  have HE9 := Lib.hid (Below.setCellsAll HB2.out (b := w.heap.size + 1) (Nat.le_add_right _ _) ds.toList 0)
  go_wp2_with (first
    | (refine wpList_store_row rfl 24 _ _ rfl (w.heap.size + 1) _ _ ds rfl rfl rZ2 (by rw [sD.out]; exact Eq.refl 20) iD.out oD.out ?_; generalize w3.setCells (w.heap.size + 1) 0 ds.toList = W9 at *))
  try simp only [Exit.inBlock, Exit.then]
  refine bodyPost_ret (results_row rfl rfl rE _ Tryz.underlying24 rfl iD.out) rfl ?_
  exact ⟨congrArg (fun q => Ending.returned (Value.agg q)) HD.out, HE9.out⟩
theorem rset_4 (g : Rg) (p x v : Int) (hx : Wd16 x) (hv : B8 v) (he : pairG g p 2 = x) (w : World) :
    Calls Tryz.prog 163 #[regsV g, .int .i64 p, .int .i64 4, .int .u8 v] w fun e w' => e = .returned (regsV (setPairG g p 2 (256 * v + x % 256))) ∧ Below w.heap.size w w' := by
  have kp : Hid (∀ W, Calls Tryz.prog 82 #[.agg (regsC g), .int .i64 p, .int .i64 2] W fun e w' => e = .returned (.int .u16 x) ∧ Below W.heap.size W w') := Lib.hid (fun W => by have h := rpair_any g p 2 W; rw [he] at h; exact h)
  obtain ⟨ds, hds⟩ : ∃ ds, ds = regsC (setPairG g p 2 (256 * v + x % 256)) := ⟨_, rfl⟩
  have ks : Hid (∀ W, Calls Tryz.prog 170 #[.agg (regsC g), .int .i64 p, .int .i64 2, .int .u16 (256 * v + x % 256)] W fun e w' => e = .returned (.agg ds) ∧ Below W.heap.size W w') := Lib.hid (fun W => by rw [hds]; exact rsetPair_any g p 2 (256 * v + x % 256) W)
  have iD : Hid ((Tryz.prog.info? 24).map (·.size) = some ds.size) := Lib.hid (by rw [hds]; exact info24)
  have oD : Hid (ds.toList.all (·.oneCell') = true) := Lib.hid (by rw [hds]; rfl)
  have sD : Hid (ds.size = 20) := Lib.hid (by rw [hds]; rfl)
  have k1 := Lib.hid (fun w => rlo_any x hx.1 hx.2 w)
  have k2 := Lib.hid (fun w => rword_any v (x % 256) hv.1 hv.2 (by omega) (by omega) w)
  have HD := Lib.hid hds
  clear hds he hx hv
  obtain ⟨cs, hcs⟩ : ∃ cs, cs = (regsC g) := ⟨_, rfl⟩
  have HE := Lib.hid hcs
  show Calls _ _ #[.agg (regsC g), .int .i64 p, .int .i64 4, .int .u8 v] _ _
  rw [← hcs]
  clear hcs
  go_enter Tryz.func163, Tryz.ntmps163
  go_upto_region 1 with (fail)
  have rA := (Row.new w 24 cs).alloc (.cells zL 24)
  have rZ := Row.new (w.alloc (.cells cs 24)) 24 zL
  rw [show (w.alloc (.cells cs 24)).heap.size = w.heap.size + 1 by simp] at rZ
  have rZ := Lib.hid rZ
  have HB := Lib.hid (((Below.refl w.heap.size w).alloc (Nat.le_refl _) (.cells cs 24)).alloc (by simp) (.cells zL 24))
  have HW := Lib.hid (show ((w.alloc (.cells cs 24)).alloc (.cells zL 24)).heap.size = w.heap.size + 2 by simp)
  generalize (w.alloc (.cells cs 24)).alloc (.cells zL 24) = W0 at *
  rw [HE.out] at rA
  have rA := Lib.hid rA
  have hltA := rA.out.lt
  have hltZ := rZ.out.lt
  have hA := rA.out
  rw [← HE.out] at hA kp ks
  have iC : Hid ((Tryz.prog.info? 24).map (·.size) = some cs.size) := Lib.hid (by rw [HE.out]; exact info24)
  clear rA HE HW hltA hltZ
  go_upto_region 8 with (first
    | (refine wpList_load_row rfl 24 _ rfl _ _ _ rfl hA _ Tryz.underlying24 rfl iC.out ?_)
    | (go_at_call 82; refine (kp.out _).mono ?_; rintro e w1 ⟨rfl, hb⟩; have HB2 := Lib.hid (HB.out.trans (hb.mono HB.out.size)); have hA2 := hA.below hb hA.lt; have rZ2 := Lib.hid (rZ.out.below hb rZ.out.lt); clear hb hA rZ HB kp))
  have hA3 : Row w1.drew w.heap.size 24 cs := hA2
  refine wp_region_still_tail 8 (by kernel_rfl) (by kernel_rfl) ?_
  simp only [List.take_succ_cons, List.take_zero, List.drop_succ_cons, List.drop_zero]
  refine wpStill_load_row rfl 24 _ rfl _ _ cs rfl hA3 _ Tryz.underlying24 rfl iC.out ?_
  repeat still_step
  still_call ((k1.out _).mono fun e w' h => ⟨h.1, h.2.symm⟩)
  repeat still_step
  still_call ((k2.out _).mono fun e w' h => ⟨h.1, h.2.symm⟩)
  repeat still_step
  refine wpStill_nil ?_
  change wpList _ _ _ _ _ w1.drew
  clear hA3 k1 k2
  have rZ : Hid (Row w1.drew (w.heap.size + 1) 24 zL) := Lib.hid rZ2.out
  have HB := Lib.hid HB2.out.drew
  clear rZ2 HB2 hA2 iC
  generalize w1.drew = W2 at *
  go_wp2_with fail
  refine (ks.out _).mono ?_
  rintro e w3 ⟨rfl, hb⟩
  have HB2 := Lib.hid (HB.out.trans (hb.mono HB.out.size))
  have rZ2 := rZ.out.below hb rZ.out.lt
  clear hb rZ HB ks
  have rE := rZ2.setAll (vs := ds) (by rw [sD.out]; exact Eq.refl 20)
  have HE9 := Lib.hid (Below.setCellsAll HB2.out (b := w.heap.size + 1) (Nat.le_add_right _ _) ds.toList 0)
  go_wp2_with (first
    | (refine wpList_store_row rfl 24 _ _ rfl (w.heap.size + 1) _ _ ds rfl rfl rZ2 (by rw [sD.out]; exact Eq.refl 20) iD.out oD.out ?_; generalize w3.setCells (w.heap.size + 1) 0 ds.toList = W9 at *))
  try simp only [Exit.inBlock, Exit.then]
  refine bodyPost_ret (results_row rfl rfl rE _ Tryz.underlying24 rfl iD.out) rfl ?_
  exact ⟨congrArg (fun q => Ending.returned (Value.agg q)) HD.out, HE9.out⟩
theorem rset_5 (g : Rg) (p x v : Int) (hx : Wd16 x) (hv : B8 v) (he : pairG g p 2 = x) (w : World) :
    Calls Tryz.prog 163 #[regsV g, .int .i64 p, .int .i64 5, .int .u8 v] w fun e w' => e = .returned (regsV (setPairG g p 2 (256 * (x / 256) + v))) ∧ Below w.heap.size w w' := by
  have kp : Hid (∀ W, Calls Tryz.prog 82 #[.agg (regsC g), .int .i64 p, .int .i64 2] W fun e w' => e = .returned (.int .u16 x) ∧ Below W.heap.size W w') := Lib.hid (fun W => by have h := rpair_any g p 2 W; rw [he] at h; exact h)
  obtain ⟨ds, hds⟩ : ∃ ds, ds = regsC (setPairG g p 2 (256 * (x / 256) + v)) := ⟨_, rfl⟩
  have ks : Hid (∀ W, Calls Tryz.prog 170 #[.agg (regsC g), .int .i64 p, .int .i64 2, .int .u16 (256 * (x / 256) + v)] W fun e w' => e = .returned (.agg ds) ∧ Below W.heap.size W w') := Lib.hid (fun W => by rw [hds]; exact rsetPair_any g p 2 (256 * (x / 256) + v) W)
  have iD : Hid ((Tryz.prog.info? 24).map (·.size) = some ds.size) := Lib.hid (by rw [hds]; exact info24)
  have oD : Hid (ds.toList.all (·.oneCell') = true) := Lib.hid (by rw [hds]; rfl)
  have sD : Hid (ds.size = 20) := Lib.hid (by rw [hds]; rfl)
  have k1 := Lib.hid (fun w => rhi_any x hx.1 hx.2 w)
  have k2 := Lib.hid (fun w => rword_any (x / 256) v (by have := hx.1; omega) (by have := hx.2; omega) hv.1 hv.2 w)
  have HD := Lib.hid hds
  clear hds he hx hv
  obtain ⟨cs, hcs⟩ : ∃ cs, cs = (regsC g) := ⟨_, rfl⟩
  have HE := Lib.hid hcs
  show Calls _ _ #[.agg (regsC g), .int .i64 p, .int .i64 5, .int .u8 v] _ _
  rw [← hcs]
  clear hcs
  go_enter Tryz.func163, Tryz.ntmps163
  go_upto_region 1 with (fail)
  have rA := (Row.new w 24 cs).alloc (.cells zL 24)
  have rZ := Row.new (w.alloc (.cells cs 24)) 24 zL
  rw [show (w.alloc (.cells cs 24)).heap.size = w.heap.size + 1 by simp] at rZ
  have rZ := Lib.hid rZ
  have HB := Lib.hid (((Below.refl w.heap.size w).alloc (Nat.le_refl _) (.cells cs 24)).alloc (by simp) (.cells zL 24))
  have HW := Lib.hid (show ((w.alloc (.cells cs 24)).alloc (.cells zL 24)).heap.size = w.heap.size + 2 by simp)
  generalize (w.alloc (.cells cs 24)).alloc (.cells zL 24) = W0 at *
  rw [HE.out] at rA
  have rA := Lib.hid rA
  have hltA := rA.out.lt
  have hltZ := rZ.out.lt
  have hA := rA.out
  rw [← HE.out] at hA kp ks
  have iC : Hid ((Tryz.prog.info? 24).map (·.size) = some cs.size) := Lib.hid (by rw [HE.out]; exact info24)
  clear rA HE HW hltA hltZ
  go_upto_region 9 with (first
    | (refine wpList_load_row rfl 24 _ rfl _ _ _ rfl hA _ Tryz.underlying24 rfl iC.out ?_)
    | (go_at_call 82; refine (kp.out _).mono ?_; rintro e w1 ⟨rfl, hb⟩; have HB2 := Lib.hid (HB.out.trans (hb.mono HB.out.size)); have hA2 := hA.below hb hA.lt; have rZ2 := Lib.hid (rZ.out.below hb rZ.out.lt); clear hb hA rZ HB kp))
  have hA3 : Row w1.drew w.heap.size 24 cs := hA2
  refine wp_region_still_tail 8 (by kernel_rfl) (by kernel_rfl) ?_
  simp only [List.take_succ_cons, List.take_zero, List.drop_succ_cons, List.drop_zero]
  refine wpStill_load_row rfl 24 _ rfl _ _ cs rfl hA3 _ Tryz.underlying24 rfl iC.out ?_
  repeat still_step
  still_call ((k1.out _).mono fun e w' h => ⟨h.1, h.2.symm⟩)
  repeat still_step
  still_call ((k2.out _).mono fun e w' h => ⟨h.1, h.2.symm⟩)
  repeat still_step
  refine wpStill_nil ?_
  change wpList _ _ _ _ _ w1.drew
  clear hA3 k1 k2
  have rZ : Hid (Row w1.drew (w.heap.size + 1) 24 zL) := Lib.hid rZ2.out
  have HB := Lib.hid HB2.out.drew
  clear rZ2 HB2 hA2 iC
  generalize w1.drew = W2 at *
  go_wp2_with fail
  refine (ks.out _).mono ?_
  rintro e w3 ⟨rfl, hb⟩
  have HB2 := Lib.hid (HB.out.trans (hb.mono HB.out.size))
  have rZ2 := rZ.out.below hb rZ.out.lt
  clear hb rZ HB ks
  have rE := rZ2.setAll (vs := ds) (by rw [sD.out]; exact Eq.refl 20)
  have HE9 := Lib.hid (Below.setCellsAll HB2.out (b := w.heap.size + 1) (Nat.le_add_right _ _) ds.toList 0)
  go_wp2_with (first
    | (refine wpList_store_row rfl 24 _ _ rfl (w.heap.size + 1) _ _ ds rfl rfl rZ2 (by rw [sD.out]; exact Eq.refl 20) iD.out oD.out ?_; generalize w3.setCells (w.heap.size + 1) 0 ds.toList = W9 at *))
  try simp only [Exit.inBlock, Exit.then]
  refine bodyPost_ret (results_row rfl rfl rE _ Tryz.underlying24 rfl iD.out) rfl ?_
  exact ⟨congrArg (fun q => Ending.returned (Value.agg q)) HD.out, HE9.out⟩
theorem rset_7 (g : Rg) (p v : Int) (hx : Wd16 g.af) (hv : B8 v) (w : World) :
    Calls Tryz.prog 163 #[regsV g, .int .i64 p, .int .i64 7, .int .u8 v] w fun e w' => e = .returned (regsV ({ g with af := 256 * v + g.af % 256 })) ∧ Below w.heap.size w w' := by
  have hx : Wd16 g.af := hx
  have k1 := Lib.hid (fun w => rlo_any g.af hx.1 hx.2 w)
  have k2 := Lib.hid (fun w => rword_any v (g.af % 256) hv.1 hv.2 (by omega) (by omega) w)
  clear hx hv
  obtain ⟨cs, hcs⟩ : ∃ cs, cs = (regsC g) := ⟨_, rfl⟩
  have HE := Lib.hid hcs
  show Calls _ _ #[.agg (regsC g), .int .i64 p, .int .i64 7, .int .u8 v] _ _
  rw [← hcs]
  clear hcs
  go_enter Tryz.func163, Tryz.ntmps163
  go_upto_region 1 with (fail)
  have rA := (Row.new w 24 cs).alloc (.cells zL 24)
  have rZ := Row.new (w.alloc (.cells cs 24)) 24 zL
  rw [show (w.alloc (.cells cs 24)).heap.size = w.heap.size + 1 by simp] at rZ
  have rZ := Lib.hid rZ
  have HB := Lib.hid (((Below.refl w.heap.size w).alloc (Nat.le_refl _) (.cells cs 24)).alloc (by simp) (.cells zL 24))
  have HW := Lib.hid (show ((w.alloc (.cells cs 24)).alloc (.cells zL 24)).heap.size = w.heap.size + 2 by simp)
  generalize (w.alloc (.cells cs 24)).alloc (.cells zL 24) = W0 at *
  rw [HE.out] at rA
  have rA := Lib.hid rA
  have hltA := rA.out.lt
  have hltZ := rZ.out.lt
  have lA0 : W0.cell? ⟨w.heap.size, 0, none⟩ = some (.int .u16 g.af) := rA.out.cell 0
  have fA0 := rA.out.frozen 0
  have qA0 : Row (W0.setCell ⟨w.heap.size, 0, none⟩ (.int .u16 (256 * v + g.af % 256))) (w.heap.size) 24 (regsC { g with af := (256 * v + g.af % 256) }) := rA.out.set 0 (.int .u16 (256 * v + g.af % 256))
  have qZ0 : Row (W0.setCell ⟨w.heap.size, 0, none⟩ (.int .u16 (256 * v + g.af % 256))) (w.heap.size + 1) 24 zL := rZ.out.far (p := ⟨w.heap.size, 0, none⟩) (by simp) (.int .u16 (256 * v + g.af % 256))
  have qA := qA0
  have qZ := qZ0
  clear qA0 qZ0
  have HB' := Lib.hid (HB.out.setCell (p := ⟨w.heap.size, 0, none⟩) (by first | exact Nat.le_refl _ | exact Nat.le_add_right _ _) (.int .u16 (256 * v + g.af % 256)))
  go_upto_region 3 with (first
    | (go_at_call 153; refine (k1.out _).mono ?_; rintro e w' ⟨rfl, rfl⟩)
    | (go_at_call 156; refine (k2.out _).mono ?_; rintro e w' ⟨rfl, rfl⟩))
  clear lA0 fA0 rA rZ HB
  have rA := Lib.hid qA
  have rZ := Lib.hid qZ
  clear qA qZ
  have HB := HB'
  clear HB'
  generalize W0.setCell ⟨w.heap.size, 0, none⟩ (.int .u16 (256 * v + g.af % 256)) = W1 at *
  obtain ⟨ds, hds⟩ : ∃ ds, ds = (regsC { g with af := (256 * v + g.af % 256) }) := ⟨_, rfl⟩
  have i24 : Hid ((Tryz.prog.info? 24).map (·.size) = some ds.size) := Lib.hid (by rw [hds]; exact info24)
  have one : Hid (ds.toList.all (·.oneCell') = true) := Lib.hid (by rw [hds]; rfl)
  have hsz : Hid (ds.size = 20) := Lib.hid (by rw [hds]; rfl)
  have HD := Lib.hid hds
  have hR := rA.out
  rw [← hds] at hR
  clear hds
  apply wp_region_lit
  refine wpList_load_row rfl 24 _ rfl _ _ _ rfl hR _ Tryz.underlying24 rfl i24.out ?_
  refine wpList_store_row rfl 24 _ _ rfl (w.heap.size + 1) _ _ ds rfl rfl rZ.out (by rw [hsz.out]; exact Eq.refl 20) i24.out one.out ?_
  have rE := rZ.out.setAll (vs := ds) (by rw [hsz.out]; exact Eq.refl 20)
  have HE9 := Lib.hid (Below.setCellsAll HB.out (b := w.heap.size + 1) (Nat.le_add_right _ _) ds.toList 0)
  generalize W1.setCells (w.heap.size + 1) 0 ds.toList = W9 at *
  apply wpList_nil
  rename_i hret
  refine hret _ _ (wp_ret ?_)
  try simp only [Exit.inBlock, Exit.then]
  refine bodyPost_ret (results_row rfl rfl rE _ Tryz.underlying24 rfl i24.out) rfl ?_
  exact ⟨(congrArg (fun q => Ending.returned (Value.agg q)) HD.out).trans rfl, HE9.out⟩
theorem rset_no0 (g : Rg) (p k v : Int) (hk : k < 0) (w : World) :
    Calls Tryz.prog 163 #[regsV g, .int .i64 p, .int .i64 k, .int .u8 v] w fun e w' => e = .returned (regsV (g)) ∧ Below w.heap.size w w' := by
  have e7 : (k == 7) = false := by simp; omega
  obtain ⟨cs, hcs⟩ : ∃ cs, cs = (regsC g) := ⟨_, rfl⟩
  have HE := Lib.hid hcs
  show Calls _ _ #[.agg (regsC g), .int .i64 p, .int .i64 k, .int .u8 v] _ _
  rw [← hcs]
  clear hcs
  go_enter Tryz.func163, Tryz.ntmps163
  go_upto_region 1 with (fail)
  have rA := (Row.new w 24 cs).alloc (.cells zL 24)
  have rZ := Row.new (w.alloc (.cells cs 24)) 24 zL
  rw [show (w.alloc (.cells cs 24)).heap.size = w.heap.size + 1 by simp] at rZ
  have rZ := Lib.hid rZ
  have HB := Lib.hid (((Below.refl w.heap.size w).alloc (Nat.le_refl _) (.cells cs 24)).alloc (by simp) (.cells zL 24))
  have HW := Lib.hid (show ((w.alloc (.cells cs 24)).alloc (.cells zL 24)).heap.size = w.heap.size + 2 by simp)
  generalize (w.alloc (.cells cs 24)).alloc (.cells zL 24) = W0 at *
  rw [HE.out] at rA
  have rA := Lib.hid rA
  have hltA := rA.out.lt
  have hltZ := rZ.out.lt
  go_upto_region 5 with (fail)
  obtain ⟨ds, hds⟩ : ∃ ds, ds = (regsC g) := ⟨_, rfl⟩
  have i24 : Hid ((Tryz.prog.info? 24).map (·.size) = some ds.size) := Lib.hid (by rw [hds]; exact info24)
  have one : Hid (ds.toList.all (·.oneCell') = true) := Lib.hid (by rw [hds]; rfl)
  have hsz : Hid (ds.size = 20) := Lib.hid (by rw [hds]; rfl)
  have HD := Lib.hid hds
  have hR := rA.out
  rw [← hds] at hR
  clear hds
  apply wp_region_lit
  refine wpList_load_row rfl 24 _ rfl _ _ _ rfl hR _ Tryz.underlying24 rfl i24.out ?_
  refine wpList_store_row rfl 24 _ _ rfl (w.heap.size + 1) _ _ ds rfl rfl rZ.out (by rw [hsz.out]; exact Eq.refl 20) i24.out one.out ?_
  have rE := rZ.out.setAll (vs := ds) (by rw [hsz.out]; exact Eq.refl 20)
  have HE9 := Lib.hid (Below.setCellsAll HB.out (b := w.heap.size + 1) (Nat.le_add_right _ _) ds.toList 0)
  generalize W0.setCells (w.heap.size + 1) 0 ds.toList = W9 at *
  apply wpList_nil
  rename_i hret
  refine hret _ _ (wp_ret ?_)
  try simp only [Exit.inBlock, Exit.then]
  refine bodyPost_ret (results_row rfl rfl rE _ Tryz.underlying24 rfl i24.out) rfl ?_
  exact ⟨(congrArg (fun q => Ending.returned (Value.agg q)) HD.out).trans rfl, HE9.out⟩
theorem rset_no1 (g : Rg) (p k v : Int) (hk : 5 < k ∧ k ≠ 7) (w : World) :
    Calls Tryz.prog 163 #[regsV g, .int .i64 p, .int .i64 k, .int .u8 v] w fun e w' => e = .returned (regsV (g)) ∧ Below w.heap.size w w' := by
  obtain ⟨h5, h7⟩ := hk
  have e7 : (k == 7) = false := by simp; omega
  have h0 : 0 ≤ k := by omega
  clear h7
  obtain ⟨cs, hcs⟩ : ∃ cs, cs = (regsC g) := ⟨_, rfl⟩
  have HE := Lib.hid hcs
  show Calls _ _ #[.agg (regsC g), .int .i64 p, .int .i64 k, .int .u8 v] _ _
  rw [← hcs]
  clear hcs
  go_enter Tryz.func163, Tryz.ntmps163
  go_upto_region 1 with (fail)
  have rA := (Row.new w 24 cs).alloc (.cells zL 24)
  have rZ := Row.new (w.alloc (.cells cs 24)) 24 zL
  rw [show (w.alloc (.cells cs 24)).heap.size = w.heap.size + 1 by simp] at rZ
  have rZ := Lib.hid rZ
  have HB := Lib.hid (((Below.refl w.heap.size w).alloc (Nat.le_refl _) (.cells cs 24)).alloc (by simp) (.cells zL 24))
  have HW := Lib.hid (show ((w.alloc (.cells cs 24)).alloc (.cells zL 24)).heap.size = w.heap.size + 2 by simp)
  generalize (w.alloc (.cells cs 24)).alloc (.cells zL 24) = W0 at *
  rw [HE.out] at rA
  have rA := Lib.hid rA
  have hltA := rA.out.lt
  have hltZ := rZ.out.lt
  go_upto_region 5 with (fail)
  obtain ⟨ds, hds⟩ : ∃ ds, ds = (regsC g) := ⟨_, rfl⟩
  have i24 : Hid ((Tryz.prog.info? 24).map (·.size) = some ds.size) := Lib.hid (by rw [hds]; exact info24)
  have one : Hid (ds.toList.all (·.oneCell') = true) := Lib.hid (by rw [hds]; rfl)
  have hsz : Hid (ds.size = 20) := Lib.hid (by rw [hds]; rfl)
  have HD := Lib.hid hds
  have hR := rA.out
  rw [← hds] at hR
  clear hds
  apply wp_region_lit
  refine wpList_load_row rfl 24 _ rfl _ _ _ rfl hR _ Tryz.underlying24 rfl i24.out ?_
  refine wpList_store_row rfl 24 _ _ rfl (w.heap.size + 1) _ _ ds rfl rfl rZ.out (by rw [hsz.out]; exact Eq.refl 20) i24.out one.out ?_
  have rE := rZ.out.setAll (vs := ds) (by rw [hsz.out]; exact Eq.refl 20)
  have HE9 := Lib.hid (Below.setCellsAll HB.out (b := w.heap.size + 1) (Nat.le_add_right _ _) ds.toList 0)
  generalize W0.setCells (w.heap.size + 1) 0 ds.toList = W9 at *
  apply wpList_nil
  rename_i hret
  refine hret _ _ (wp_ret ?_)
  try simp only [Exit.inBlock, Exit.then]
  refine bodyPost_ret (results_row rfl rfl rE _ Tryz.underlying24 rfl i24.out) rfl ?_
  exact ⟨(congrArg (fun q => Ending.returned (Value.agg q)) HD.out).trans rfl, HE9.out⟩
theorem rset_any (g : Rg) (hg : RgB g) (p k v : Int) (hv : B8 v) (w : World) :
    Calls Tryz.prog 163 #[regsV g, .int .i64 p, .int .i64 k, .int .u8 v] w fun e w' => e = .returned (regsV (setG g p k v)) ∧ Below w.heap.size w w' := by
  by_cases hn : k < 0 ∨ k = 6 ∨ 7 < k
  · rw [setG_no g p k v hn]
    by_cases h0 : k < 0
    · exact rset_no0 g p k v h0 w
    · exact rset_no1 g p k v (by omega) w
  obtain rfl | rfl | rfl | rfl | rfl | rfl | rfl : k = 0 ∨ k = 1 ∨ k = 2 ∨ k = 3 ∨ k = 4 ∨ k = 5 ∨ k = 7 := by omega
  · exact rset_0 g p _ v (hg.pair p 0) hv rfl w
  · exact rset_1 g p _ v (hg.pair p 0) hv rfl w
  · exact rset_2 g p _ v (hg.pair p 1) hv rfl w
  · exact rset_3 g p _ v (hg.pair p 1) hv rfl w
  · exact rset_4 g p _ v (hg.pair p 2) hv rfl w
  · exact rset_5 g p _ v (hg.pair p 2) hv rfl w
  · exact rset_7 g p v hg.af hv w
theorem rget_0 (g : Rg) (p x : Int) (hx : Wd16 x) (he : pairG g p 0 = x) (w : World) :
    Calls Tryz.prog 165 #[regsV g, .int .i64 p, .int .i64 0] w fun e w' => e = .returned (.int .u8 (x / 256)) ∧ Below w.heap.size w w' := by
  obtain ⟨cs, hcs⟩ : ∃ cs, cs = regsC g := ⟨_, rfl⟩
  have kp : Hid (∀ W, Calls Tryz.prog 82 #[.agg cs, .int .i64 p, .int .i64 0] W fun e w' => e = .returned (.int .u16 x) ∧ Below W.heap.size W w') := Lib.hid (by rw [hcs, ← he]; exact fun W => rpair_any g p 0 W)
  have kb := Lib.hid (fun w => rhi_any x hx.1 hx.2 w)
  have i24 : Hid ((Tryz.prog.info? 24).map (·.size) = some cs.size) := Lib.hid (by rw [hcs]; exact info24)
  show Calls _ _ #[.agg (regsC g), .int .i64 p, .int .i64 0] _ _
  rw [← hcs]
  clear hcs he hx
  have r0 := Row.new w 24 cs
  have HB := Lib.hid ((Below.refl w.heap.size w).alloc (Nat.le_refl _) (.cells cs 24))
  go_enter Tryz.func165, Tryz.ntmps165
  go_upto_region 1 with (fail)
  generalize w.alloc (.cells cs 24) = W at *
  go_wp2_with (first
    | (refine wpList_load_row rfl 24 _ rfl _ _ _ rfl r0 _ Tryz.underlying24 rfl i24.out ?_)
    | (go_at_call 82; refine (kp.out _).mono ?_; rintro e w' ⟨rfl, hb⟩; have HB2 := Lib.hid (HB.out.trans (hb.mono HB.out.size)); clear hb)
    | (go_at_call 89; refine (kb.out _).mono ?_; rintro e w' ⟨rfl, rfl⟩))
  go_ret
  exact ⟨rfl, HB2.out⟩
theorem rget_1 (g : Rg) (p x : Int) (hx : Wd16 x) (he : pairG g p 0 = x) (w : World) :
    Calls Tryz.prog 165 #[regsV g, .int .i64 p, .int .i64 1] w fun e w' => e = .returned (.int .u8 (x % 256)) ∧ Below w.heap.size w w' := by
  obtain ⟨cs, hcs⟩ : ∃ cs, cs = regsC g := ⟨_, rfl⟩
  have kp : Hid (∀ W, Calls Tryz.prog 82 #[.agg cs, .int .i64 p, .int .i64 0] W fun e w' => e = .returned (.int .u16 x) ∧ Below W.heap.size W w') := Lib.hid (by rw [hcs, ← he]; exact fun W => rpair_any g p 0 W)
  have kb := Lib.hid (fun w => rlo_any x hx.1 hx.2 w)
  have i24 : Hid ((Tryz.prog.info? 24).map (·.size) = some cs.size) := Lib.hid (by rw [hcs]; exact info24)
  show Calls _ _ #[.agg (regsC g), .int .i64 p, .int .i64 1] _ _
  rw [← hcs]
  clear hcs he hx
  have r0 := Row.new w 24 cs
  have HB := Lib.hid ((Below.refl w.heap.size w).alloc (Nat.le_refl _) (.cells cs 24))
  go_enter Tryz.func165, Tryz.ntmps165
  go_upto_region 1 with (fail)
  generalize w.alloc (.cells cs 24) = W at *
  go_wp2_with (first
    | (refine wpList_load_row rfl 24 _ rfl _ _ _ rfl r0 _ Tryz.underlying24 rfl i24.out ?_)
    | (go_at_call 82; refine (kp.out _).mono ?_; rintro e w' ⟨rfl, hb⟩; have HB2 := Lib.hid (HB.out.trans (hb.mono HB.out.size)); clear hb)
    | (go_at_call 153; refine (kb.out _).mono ?_; rintro e w' ⟨rfl, rfl⟩))
  go_ret
  exact ⟨rfl, HB2.out⟩
theorem rget_2 (g : Rg) (p x : Int) (hx : Wd16 x) (he : pairG g p 1 = x) (w : World) :
    Calls Tryz.prog 165 #[regsV g, .int .i64 p, .int .i64 2] w fun e w' => e = .returned (.int .u8 (x / 256)) ∧ Below w.heap.size w w' := by
  obtain ⟨cs, hcs⟩ : ∃ cs, cs = regsC g := ⟨_, rfl⟩
  have kp : Hid (∀ W, Calls Tryz.prog 82 #[.agg cs, .int .i64 p, .int .i64 1] W fun e w' => e = .returned (.int .u16 x) ∧ Below W.heap.size W w') := Lib.hid (by rw [hcs, ← he]; exact fun W => rpair_any g p 1 W)
  have kb := Lib.hid (fun w => rhi_any x hx.1 hx.2 w)
  have i24 : Hid ((Tryz.prog.info? 24).map (·.size) = some cs.size) := Lib.hid (by rw [hcs]; exact info24)
  show Calls _ _ #[.agg (regsC g), .int .i64 p, .int .i64 2] _ _
  rw [← hcs]
  clear hcs he hx
  have r0 := Row.new w 24 cs
  have HB := Lib.hid ((Below.refl w.heap.size w).alloc (Nat.le_refl _) (.cells cs 24))
  go_enter Tryz.func165, Tryz.ntmps165
  go_upto_region 1 with (fail)
  generalize w.alloc (.cells cs 24) = W at *
  go_wp2_with (first
    | (refine wpList_load_row rfl 24 _ rfl _ _ _ rfl r0 _ Tryz.underlying24 rfl i24.out ?_)
    | (go_at_call 82; refine (kp.out _).mono ?_; rintro e w' ⟨rfl, hb⟩; have HB2 := Lib.hid (HB.out.trans (hb.mono HB.out.size)); clear hb)
    | (go_at_call 89; refine (kb.out _).mono ?_; rintro e w' ⟨rfl, rfl⟩))
  go_ret
  exact ⟨rfl, HB2.out⟩
theorem rget_3 (g : Rg) (p x : Int) (hx : Wd16 x) (he : pairG g p 1 = x) (w : World) :
    Calls Tryz.prog 165 #[regsV g, .int .i64 p, .int .i64 3] w fun e w' => e = .returned (.int .u8 (x % 256)) ∧ Below w.heap.size w w' := by
  obtain ⟨cs, hcs⟩ : ∃ cs, cs = regsC g := ⟨_, rfl⟩
  have kp : Hid (∀ W, Calls Tryz.prog 82 #[.agg cs, .int .i64 p, .int .i64 1] W fun e w' => e = .returned (.int .u16 x) ∧ Below W.heap.size W w') := Lib.hid (by rw [hcs, ← he]; exact fun W => rpair_any g p 1 W)
  have kb := Lib.hid (fun w => rlo_any x hx.1 hx.2 w)
  have i24 : Hid ((Tryz.prog.info? 24).map (·.size) = some cs.size) := Lib.hid (by rw [hcs]; exact info24)
  show Calls _ _ #[.agg (regsC g), .int .i64 p, .int .i64 3] _ _
  rw [← hcs]
  clear hcs he hx
  have r0 := Row.new w 24 cs
  have HB := Lib.hid ((Below.refl w.heap.size w).alloc (Nat.le_refl _) (.cells cs 24))
  go_enter Tryz.func165, Tryz.ntmps165
  go_upto_region 1 with (fail)
  generalize w.alloc (.cells cs 24) = W at *
  go_wp2_with (first
    | (refine wpList_load_row rfl 24 _ rfl _ _ _ rfl r0 _ Tryz.underlying24 rfl i24.out ?_)
    | (go_at_call 82; refine (kp.out _).mono ?_; rintro e w' ⟨rfl, hb⟩; have HB2 := Lib.hid (HB.out.trans (hb.mono HB.out.size)); clear hb)
    | (go_at_call 153; refine (kb.out _).mono ?_; rintro e w' ⟨rfl, rfl⟩))
  go_ret
  exact ⟨rfl, HB2.out⟩
theorem rget_4 (g : Rg) (p x : Int) (hx : Wd16 x) (he : pairG g p 2 = x) (w : World) :
    Calls Tryz.prog 165 #[regsV g, .int .i64 p, .int .i64 4] w fun e w' => e = .returned (.int .u8 (x / 256)) ∧ Below w.heap.size w w' := by
  obtain ⟨cs, hcs⟩ : ∃ cs, cs = regsC g := ⟨_, rfl⟩
  have kp : Hid (∀ W, Calls Tryz.prog 82 #[.agg cs, .int .i64 p, .int .i64 2] W fun e w' => e = .returned (.int .u16 x) ∧ Below W.heap.size W w') := Lib.hid (by rw [hcs, ← he]; exact fun W => rpair_any g p 2 W)
  have kb := Lib.hid (fun w => rhi_any x hx.1 hx.2 w)
  have i24 : Hid ((Tryz.prog.info? 24).map (·.size) = some cs.size) := Lib.hid (by rw [hcs]; exact info24)
  show Calls _ _ #[.agg (regsC g), .int .i64 p, .int .i64 4] _ _
  rw [← hcs]
  clear hcs he hx
  have r0 := Row.new w 24 cs
  have HB := Lib.hid ((Below.refl w.heap.size w).alloc (Nat.le_refl _) (.cells cs 24))
  go_enter Tryz.func165, Tryz.ntmps165
  go_upto_region 1 with (fail)
  generalize w.alloc (.cells cs 24) = W at *
  go_wp2_with (first
    | (refine wpList_load_row rfl 24 _ rfl _ _ _ rfl r0 _ Tryz.underlying24 rfl i24.out ?_)
    | (go_at_call 82; refine (kp.out _).mono ?_; rintro e w' ⟨rfl, hb⟩; have HB2 := Lib.hid (HB.out.trans (hb.mono HB.out.size)); clear hb)
    | (go_at_call 89; refine (kb.out _).mono ?_; rintro e w' ⟨rfl, rfl⟩))
  go_ret
  exact ⟨rfl, HB2.out⟩
theorem rget_5 (g : Rg) (p x : Int) (hx : Wd16 x) (he : pairG g p 2 = x) (w : World) :
    Calls Tryz.prog 165 #[regsV g, .int .i64 p, .int .i64 5] w fun e w' => e = .returned (.int .u8 (x % 256)) ∧ Below w.heap.size w w' := by
  obtain ⟨cs, hcs⟩ : ∃ cs, cs = regsC g := ⟨_, rfl⟩
  have kp : Hid (∀ W, Calls Tryz.prog 82 #[.agg cs, .int .i64 p, .int .i64 2] W fun e w' => e = .returned (.int .u16 x) ∧ Below W.heap.size W w') := Lib.hid (by rw [hcs, ← he]; exact fun W => rpair_any g p 2 W)
  have kb := Lib.hid (fun w => rlo_any x hx.1 hx.2 w)
  have i24 : Hid ((Tryz.prog.info? 24).map (·.size) = some cs.size) := Lib.hid (by rw [hcs]; exact info24)
  show Calls _ _ #[.agg (regsC g), .int .i64 p, .int .i64 5] _ _
  rw [← hcs]
  clear hcs he hx
  have r0 := Row.new w 24 cs
  have HB := Lib.hid ((Below.refl w.heap.size w).alloc (Nat.le_refl _) (.cells cs 24))
  go_enter Tryz.func165, Tryz.ntmps165
  go_upto_region 1 with (fail)
  generalize w.alloc (.cells cs 24) = W at *
  go_wp2_with (first
    | (refine wpList_load_row rfl 24 _ rfl _ _ _ rfl r0 _ Tryz.underlying24 rfl i24.out ?_)
    | (go_at_call 82; refine (kp.out _).mono ?_; rintro e w' ⟨rfl, hb⟩; have HB2 := Lib.hid (HB.out.trans (hb.mono HB.out.size)); clear hb)
    | (go_at_call 153; refine (kb.out _).mono ?_; rintro e w' ⟨rfl, rfl⟩))
  go_ret
  exact ⟨rfl, HB2.out⟩
theorem rget_7 (p : Int) (cs : Array Value) (x : Int) (hx : Wd16 x) (hc : cs[0]? = some (.int .u16 x)) (w : World) :
    Calls Tryz.prog 165 #[.agg cs, .int .i64 p, .int .i64 7] w fun e w' => e = .returned (.int .u8 (x / 256)) ∧ Below w.heap.size w w' := by
  have kb := Lib.hid (fun w => rhi_any x hx.1 hx.2 w)
  have c1 := ((Row.new w 24 cs).cell 0).trans hc
  have HB := Lib.hid ((Below.refl w.heap.size w).alloc (Nat.le_refl _) (.cells cs 24))
  clear hx hc
  go_enter Tryz.func165, Tryz.ntmps165
  go_wp2_with (first
    | (go_at_call 89; refine (kb.out _).mono ?_; rintro e w' ⟨rfl, rfl⟩))
  go_ret
  exact ⟨rfl, HB.out⟩
theorem rget_no (p k : Int) (hk : k < 0 ∨ k = 6 ∨ 7 < k) (cs : Array Value) (w : World) :
    Calls Tryz.prog 165 #[.agg cs, .int .i64 p, .int .i64 k] w fun e w' => e = .returned (.int .u8 0) ∧ Below w.heap.size w w' := by
  have e7 : (k == 7) = false := by simp; omega
  have HB := Lib.hid ((Below.refl w.heap.size w).alloc (Nat.le_refl _) (.cells cs 24))
  by_cases h0 : k < 0
  · clear hk
    go_enter Tryz.func165, Tryz.ntmps165
    go_wp2
    go_ret
    exact ⟨rfl, HB.out⟩
  · have h5 : 5 < k := by omega
    clear hk
    go_enter Tryz.func165, Tryz.ntmps165
    go_wp2
    go_ret
    exact ⟨rfl, HB.out⟩
theorem rget_any (g : Rg) (hg : RgB g) (p k : Int) (w : World) :
    Calls Tryz.prog 165 #[regsV g, .int .i64 p, .int .i64 k] w fun e w' => e = .returned (.int .u8 (getG g p k)) ∧ Below w.heap.size w w' := by
  by_cases hn : k < 0 ∨ k = 6 ∨ 7 < k
  · rw [getG_no g p k hn]
    exact rget_no p k hn _ w
  obtain rfl | rfl | rfl | rfl | rfl | rfl | rfl : k = 0 ∨ k = 1 ∨ k = 2 ∨ k = 3 ∨ k = 4 ∨ k = 5 ∨ k = 7 := by omega
  · exact rget_0 g p _ (hg.pair p 0) rfl w
  · exact rget_1 g p _ (hg.pair p 0) rfl w
  · exact rget_2 g p _ (hg.pair p 1) rfl w
  · exact rget_3 g p _ (hg.pair p 1) rfl w
  · exact rget_4 g p _ (hg.pair p 2) rfl w
  · exact rget_5 g p _ (hg.pair p 2) rfl w
  · exact rget_7 p _ g.af hg.af rfl w
theorem rswap_any (g : Rg) (w : World) :
    Calls Tryz.prog 251 #[regsV g] w fun e w' => e = .returned (regsV (swapG g)) ∧ Below w.heap.size w w' := by
  obtain ⟨cs, hcs⟩ : ∃ cs, cs = (regsC g) := ⟨_, rfl⟩
  have HE := Lib.hid hcs
  show Calls _ _ #[.agg (regsC g)] _ _
  rw [← hcs]
  clear hcs
  go_enter Tryz.func251, Tryz.ntmps251
  go_upto_region 1 with (fail)
  have rA := (Row.new w 24 cs).alloc (.cells zL 24)
  have rZ := Row.new (w.alloc (.cells cs 24)) 24 zL
  rw [show (w.alloc (.cells cs 24)).heap.size = w.heap.size + 1 by simp] at rZ
  have rZ := Lib.hid rZ
  have HB := Lib.hid (((Below.refl w.heap.size w).alloc (Nat.le_refl _) (.cells cs 24)).alloc (by simp) (.cells zL 24))
  have HW := Lib.hid (show ((w.alloc (.cells cs 24)).alloc (.cells zL 24)).heap.size = w.heap.size + 2 by simp)
  generalize (w.alloc (.cells cs 24)).alloc (.cells zL 24) = W0 at *
  rw [HE.out] at rA
  have rA := Lib.hid rA
  have hltA := rA.out.lt
  have hltZ := rZ.out.lt
  obtain ⟨es, hes⟩ : ∃ es, es = (regsC g) := ⟨_, rfl⟩
  have HS := Lib.hid hes
  have hA := rA.out
  rw [← hes] at hA
  have hA := Lib.hid hA
  have iE : Hid ((Tryz.prog.info? 24).map (·.size) = some es.size) := Lib.hid (by rw [hes]; exact info24)
  have oE : Hid (es.toList.all (·.oneCell') = true) := Lib.hid (by rw [hes]; rfl)
  have sE : Hid (es.size = 20) := Lib.hid (by rw [hes]; rfl)
  clear hes rA
  go_upto_region 2 with (first
    | (refine wpList_load_row rfl 24 _ rfl _ _ _ rfl hA.out _ Tryz.underlying24 rfl iE.out ?_)
    | (refine wpList_store_top rfl 24 _ _ rfl _ _ _ _ es rfl rfl (by simp) (by rw [sE.out]; exact Eq.refl 20) iE.out oE.out ?_))
  have rS := Row.new W0 24 es
  have rA := hA.out.alloc (.cells es 24)
  have rZ' := Lib.hid (rZ.out.alloc (.cells es 24))
  have HB' := Lib.hid (HB.out.alloc HB.out.size (.cells es 24))
  rw [HW.out] at rS
  rw [HW.out]
  clear rZ HB HW hA
  have rZ := rZ'
  have HB := HB'
  clear rZ' HB'
  generalize W0.alloc (.cells es 24) = W1 at *
  rw [HS.out] at rS rA
  have rS := Lib.hid rS
  have rA := Lib.hid rA
  have hltS := rS.out.lt
  have lA4 : W1.cell? ⟨w.heap.size, 4, none⟩ = some (.int .u16 g.af2) := rA.out.cell 4
  have lS0 : W1.cell? ⟨w.heap.size + 2, 0, none⟩ = some (.int .u16 g.af) := rS.out.cell 0
  have fS0 := rS.out.frozen 0
  have qA0 : Row (W1.setCell ⟨w.heap.size + 2, 0, none⟩ (.int .u16 g.af2)) (w.heap.size) 24 (regsC g) := rA.out.far (p := ⟨w.heap.size + 2, 0, none⟩) (by simp) (.int .u16 g.af2)
  have qZ0 : Row (W1.setCell ⟨w.heap.size + 2, 0, none⟩ (.int .u16 g.af2)) (w.heap.size + 1) 24 zL := rZ.out.far (p := ⟨w.heap.size + 2, 0, none⟩) (by simp) (.int .u16 g.af2)
  have qS0 : Row (W1.setCell ⟨w.heap.size + 2, 0, none⟩ (.int .u16 g.af2)) (w.heap.size + 2) 24 (regsC { g with af := g.af2 }) := rS.out.set 0 (.int .u16 g.af2)
  have qA := qA0
  have qZ := qZ0
  have qS := qS0
  clear qA0 qZ0 qS0
  have HB' := Lib.hid (HB.out.setCell (p := ⟨w.heap.size + 2, 0, none⟩) (by first | exact Nat.le_refl _ | exact Nat.le_add_right _ _) (.int .u16 g.af2))
  go_upto_region 3 with (fail)
  clear lA4 lS0 fS0 rA rZ rS HB
  have rA := Lib.hid qA
  have rZ := Lib.hid qZ
  have rS := Lib.hid qS
  clear qA qZ qS
  have HB := HB'
  clear HB'
  generalize W1.setCell ⟨w.heap.size + 2, 0, none⟩ (.int .u16 g.af2) = W2 at *
  have lA0 : W2.cell? ⟨w.heap.size, 0, none⟩ = some (.int .u16 g.af) := rA.out.cell 0
  have lS4 : W2.cell? ⟨w.heap.size + 2, 4, none⟩ = some (.int .u16 g.af2) := rS.out.cell 4
  have fS4 := rS.out.frozen 4
  have qA0 : Row (W2.setCell ⟨w.heap.size + 2, 4, none⟩ (.int .u16 g.af)) (w.heap.size) 24 (regsC g) := rA.out.far (p := ⟨w.heap.size + 2, 4, none⟩) (by simp) (.int .u16 g.af)
  have qZ0 : Row (W2.setCell ⟨w.heap.size + 2, 4, none⟩ (.int .u16 g.af)) (w.heap.size + 1) 24 zL := rZ.out.far (p := ⟨w.heap.size + 2, 4, none⟩) (by simp) (.int .u16 g.af)
  have qS0 : Row (W2.setCell ⟨w.heap.size + 2, 4, none⟩ (.int .u16 g.af)) (w.heap.size + 2) 24 (regsC { g with af := g.af2, af2 := g.af }) := rS.out.set 4 (.int .u16 g.af)
  have qA := qA0
  have qZ := qZ0
  have qS := qS0
  clear qA0 qZ0 qS0
  have HB' := Lib.hid (HB.out.setCell (p := ⟨w.heap.size + 2, 4, none⟩) (by first | exact Nat.le_refl _ | exact Nat.le_add_right _ _) (.int .u16 g.af))
  go_upto_region 4 with (fail)
  clear lA0 lS4 fS4 rA rZ rS HB
  have rA := Lib.hid qA
  have rZ := Lib.hid qZ
  have rS := Lib.hid qS
  clear qA qZ qS
  have HB := HB'
  clear HB'
  generalize W2.setCell ⟨w.heap.size + 2, 4, none⟩ (.int .u16 g.af) = W3 at *
  obtain ⟨ds, hds⟩ : ∃ ds, ds = (regsC { g with af := g.af2, af2 := g.af }) := ⟨_, rfl⟩
  have i24 : Hid ((Tryz.prog.info? 24).map (·.size) = some ds.size) := Lib.hid (by rw [hds]; exact info24)
  have one : Hid (ds.toList.all (·.oneCell') = true) := Lib.hid (by rw [hds]; rfl)
  have hsz : Hid (ds.size = 20) := Lib.hid (by rw [hds]; rfl)
  have HD := Lib.hid hds
  have hR := rS.out
  rw [← hds] at hR
  clear hds
  apply wp_region_lit
  refine wpList_load_row rfl 24 _ rfl _ _ _ rfl hR _ Tryz.underlying24 rfl i24.out ?_
  refine wpList_store_row rfl 24 _ _ rfl (w.heap.size + 1) _ _ ds rfl rfl rZ.out (by rw [hsz.out]; exact Eq.refl 20) i24.out one.out ?_
  have rE := rZ.out.setAll (vs := ds) (by rw [hsz.out]; exact Eq.refl 20)
  have HE9 := Lib.hid (Below.setCellsAll HB.out (b := w.heap.size + 1) (Nat.le_add_right _ _) ds.toList 0)
  generalize W3.setCells (w.heap.size + 1) 0 ds.toList = W9 at *
  apply wpList_nil
  rename_i hret
  refine hret _ _ (wp_ret ?_)
  try simp only [Exit.inBlock, Exit.then]
  refine bodyPost_ret (results_row rfl rfl rE _ Tryz.underlying24 rfl i24.out) rfl ?_
  exact ⟨(congrArg (fun q => Ending.returned (Value.agg q)) HD.out).trans rfl, HE9.out⟩
theorem rexx_any (g : Rg) (w : World) :
    Calls Tryz.prog 261 #[regsV g] w fun e w' => e = .returned (regsV (exxG g)) ∧ Below w.heap.size w w' := by
  obtain ⟨cs, hcs⟩ : ∃ cs, cs = (regsC g) := ⟨_, rfl⟩
  have HE := Lib.hid hcs
  show Calls _ _ #[.agg (regsC g)] _ _
  rw [← hcs]
  clear hcs
  go_enter Tryz.func261, Tryz.ntmps261
  go_upto_region 1 with (fail)
  have rA := (Row.new w 24 cs).alloc (.cells zL 24)
  have rZ := Row.new (w.alloc (.cells cs 24)) 24 zL
  rw [show (w.alloc (.cells cs 24)).heap.size = w.heap.size + 1 by simp] at rZ
  have rZ := Lib.hid rZ
  have HB := Lib.hid (((Below.refl w.heap.size w).alloc (Nat.le_refl _) (.cells cs 24)).alloc (by simp) (.cells zL 24))
  have HW := Lib.hid (show ((w.alloc (.cells cs 24)).alloc (.cells zL 24)).heap.size = w.heap.size + 2 by simp)
  generalize (w.alloc (.cells cs 24)).alloc (.cells zL 24) = W0 at *
  rw [HE.out] at rA
  have rA := Lib.hid rA
  have hltA := rA.out.lt
  have hltZ := rZ.out.lt
  obtain ⟨es, hes⟩ : ∃ es, es = (regsC g) := ⟨_, rfl⟩
  have HS := Lib.hid hes
  have hA := rA.out
  rw [← hes] at hA
  have hA := Lib.hid hA
  have iE : Hid ((Tryz.prog.info? 24).map (·.size) = some es.size) := Lib.hid (by rw [hes]; exact info24)
  have oE : Hid (es.toList.all (·.oneCell') = true) := Lib.hid (by rw [hes]; rfl)
  have sE : Hid (es.size = 20) := Lib.hid (by rw [hes]; rfl)
  clear hes rA
  go_upto_region 2 with (first
    | (refine wpList_load_row rfl 24 _ rfl _ _ _ rfl hA.out _ Tryz.underlying24 rfl iE.out ?_)
    | (refine wpList_store_top rfl 24 _ _ rfl _ _ _ _ es rfl rfl (by simp) (by rw [sE.out]; exact Eq.refl 20) iE.out oE.out ?_))
  have rS := Row.new W0 24 es
  have rA := hA.out.alloc (.cells es 24)
  have rZ' := Lib.hid (rZ.out.alloc (.cells es 24))
  have HB' := Lib.hid (HB.out.alloc HB.out.size (.cells es 24))
  rw [HW.out] at rS
  rw [HW.out]
  clear rZ HB HW hA
  have rZ := rZ'
  have HB := HB'
  clear rZ' HB'
  generalize W0.alloc (.cells es 24) = W1 at *
  rw [HS.out] at rS rA
  have rS := Lib.hid rS
  have rA := Lib.hid rA
  have hltS := rS.out.lt
  have lA5 : W1.cell? ⟨w.heap.size, 5, none⟩ = some (.int .u16 g.bc2) := rA.out.cell 5
  have lS1 : W1.cell? ⟨w.heap.size + 2, 1, none⟩ = some (.int .u16 g.bc) := rS.out.cell 1
  have fS1 := rS.out.frozen 1
  have qA0 : Row (W1.setCell ⟨w.heap.size + 2, 1, none⟩ (.int .u16 g.bc2)) (w.heap.size) 24 (regsC g) := rA.out.far (p := ⟨w.heap.size + 2, 1, none⟩) (by simp) (.int .u16 g.bc2)
  have qZ0 : Row (W1.setCell ⟨w.heap.size + 2, 1, none⟩ (.int .u16 g.bc2)) (w.heap.size + 1) 24 zL := rZ.out.far (p := ⟨w.heap.size + 2, 1, none⟩) (by simp) (.int .u16 g.bc2)
  have qS0 : Row (W1.setCell ⟨w.heap.size + 2, 1, none⟩ (.int .u16 g.bc2)) (w.heap.size + 2) 24 (regsC { g with bc := g.bc2 }) := rS.out.set 1 (.int .u16 g.bc2)
  have qA := qA0
  have qZ := qZ0
  have qS := qS0
  clear qA0 qZ0 qS0
  have HB' := Lib.hid (HB.out.setCell (p := ⟨w.heap.size + 2, 1, none⟩) (by first | exact Nat.le_refl _ | exact Nat.le_add_right _ _) (.int .u16 g.bc2))
  go_upto_region 3 with (fail)
  clear lA5 lS1 fS1 rA rZ rS HB
  have rA := Lib.hid qA
  have rZ := Lib.hid qZ
  have rS := Lib.hid qS
  clear qA qZ qS
  have HB := HB'
  clear HB'
  generalize W1.setCell ⟨w.heap.size + 2, 1, none⟩ (.int .u16 g.bc2) = W2 at *
  have lA6 : W2.cell? ⟨w.heap.size, 6, none⟩ = some (.int .u16 g.de2) := rA.out.cell 6
  have lS2 : W2.cell? ⟨w.heap.size + 2, 2, none⟩ = some (.int .u16 g.de) := rS.out.cell 2
  have fS2 := rS.out.frozen 2
  have qA0 : Row (W2.setCell ⟨w.heap.size + 2, 2, none⟩ (.int .u16 g.de2)) (w.heap.size) 24 (regsC g) := rA.out.far (p := ⟨w.heap.size + 2, 2, none⟩) (by simp) (.int .u16 g.de2)
  have qZ0 : Row (W2.setCell ⟨w.heap.size + 2, 2, none⟩ (.int .u16 g.de2)) (w.heap.size + 1) 24 zL := rZ.out.far (p := ⟨w.heap.size + 2, 2, none⟩) (by simp) (.int .u16 g.de2)
  have qS0 : Row (W2.setCell ⟨w.heap.size + 2, 2, none⟩ (.int .u16 g.de2)) (w.heap.size + 2) 24 (regsC { g with bc := g.bc2, de := g.de2 }) := rS.out.set 2 (.int .u16 g.de2)
  have qA := qA0
  have qZ := qZ0
  have qS := qS0
  clear qA0 qZ0 qS0
  have HB' := Lib.hid (HB.out.setCell (p := ⟨w.heap.size + 2, 2, none⟩) (by first | exact Nat.le_refl _ | exact Nat.le_add_right _ _) (.int .u16 g.de2))
  go_upto_region 4 with (fail)
  clear lA6 lS2 fS2 rA rZ rS HB
  have rA := Lib.hid qA
  have rZ := Lib.hid qZ
  have rS := Lib.hid qS
  clear qA qZ qS
  have HB := HB'
  clear HB'
  generalize W2.setCell ⟨w.heap.size + 2, 2, none⟩ (.int .u16 g.de2) = W3 at *
  have lA7 : W3.cell? ⟨w.heap.size, 7, none⟩ = some (.int .u16 g.hl2) := rA.out.cell 7
  have lS3 : W3.cell? ⟨w.heap.size + 2, 3, none⟩ = some (.int .u16 g.hl) := rS.out.cell 3
  have fS3 := rS.out.frozen 3
  have qA0 : Row (W3.setCell ⟨w.heap.size + 2, 3, none⟩ (.int .u16 g.hl2)) (w.heap.size) 24 (regsC g) := rA.out.far (p := ⟨w.heap.size + 2, 3, none⟩) (by simp) (.int .u16 g.hl2)
  have qZ0 : Row (W3.setCell ⟨w.heap.size + 2, 3, none⟩ (.int .u16 g.hl2)) (w.heap.size + 1) 24 zL := rZ.out.far (p := ⟨w.heap.size + 2, 3, none⟩) (by simp) (.int .u16 g.hl2)
  have qS0 : Row (W3.setCell ⟨w.heap.size + 2, 3, none⟩ (.int .u16 g.hl2)) (w.heap.size + 2) 24 (regsC { g with bc := g.bc2, de := g.de2, hl := g.hl2 }) := rS.out.set 3 (.int .u16 g.hl2)
  have qA := qA0
  have qZ := qZ0
  have qS := qS0
  clear qA0 qZ0 qS0
  have HB' := Lib.hid (HB.out.setCell (p := ⟨w.heap.size + 2, 3, none⟩) (by first | exact Nat.le_refl _ | exact Nat.le_add_right _ _) (.int .u16 g.hl2))
  go_upto_region 5 with (fail)
  clear lA7 lS3 fS3 rA rZ rS HB
  have rA := Lib.hid qA
  have rZ := Lib.hid qZ
  have rS := Lib.hid qS
  clear qA qZ qS
  have HB := HB'
  clear HB'
  generalize W3.setCell ⟨w.heap.size + 2, 3, none⟩ (.int .u16 g.hl2) = W4 at *
  have lA1 : W4.cell? ⟨w.heap.size, 1, none⟩ = some (.int .u16 g.bc) := rA.out.cell 1
  have lS5 : W4.cell? ⟨w.heap.size + 2, 5, none⟩ = some (.int .u16 g.bc2) := rS.out.cell 5
  have fS5 := rS.out.frozen 5
  have qA0 : Row (W4.setCell ⟨w.heap.size + 2, 5, none⟩ (.int .u16 g.bc)) (w.heap.size) 24 (regsC g) := rA.out.far (p := ⟨w.heap.size + 2, 5, none⟩) (by simp) (.int .u16 g.bc)
  have qZ0 : Row (W4.setCell ⟨w.heap.size + 2, 5, none⟩ (.int .u16 g.bc)) (w.heap.size + 1) 24 zL := rZ.out.far (p := ⟨w.heap.size + 2, 5, none⟩) (by simp) (.int .u16 g.bc)
  have qS0 : Row (W4.setCell ⟨w.heap.size + 2, 5, none⟩ (.int .u16 g.bc)) (w.heap.size + 2) 24 (regsC { g with bc := g.bc2, de := g.de2, hl := g.hl2, bc2 := g.bc }) := rS.out.set 5 (.int .u16 g.bc)
  have qA := qA0
  have qZ := qZ0
  have qS := qS0
  clear qA0 qZ0 qS0
  have HB' := Lib.hid (HB.out.setCell (p := ⟨w.heap.size + 2, 5, none⟩) (by first | exact Nat.le_refl _ | exact Nat.le_add_right _ _) (.int .u16 g.bc))
  go_upto_region 6 with (fail)
  clear lA1 lS5 fS5 rA rZ rS HB
  have rA := Lib.hid qA
  have rZ := Lib.hid qZ
  have rS := Lib.hid qS
  clear qA qZ qS
  have HB := HB'
  clear HB'
  generalize W4.setCell ⟨w.heap.size + 2, 5, none⟩ (.int .u16 g.bc) = W5 at *
  have lA2 : W5.cell? ⟨w.heap.size, 2, none⟩ = some (.int .u16 g.de) := rA.out.cell 2
  have lS6 : W5.cell? ⟨w.heap.size + 2, 6, none⟩ = some (.int .u16 g.de2) := rS.out.cell 6
  have fS6 := rS.out.frozen 6
  have qA0 : Row (W5.setCell ⟨w.heap.size + 2, 6, none⟩ (.int .u16 g.de)) (w.heap.size) 24 (regsC g) := rA.out.far (p := ⟨w.heap.size + 2, 6, none⟩) (by simp) (.int .u16 g.de)
  have qZ0 : Row (W5.setCell ⟨w.heap.size + 2, 6, none⟩ (.int .u16 g.de)) (w.heap.size + 1) 24 zL := rZ.out.far (p := ⟨w.heap.size + 2, 6, none⟩) (by simp) (.int .u16 g.de)
  have qS0 : Row (W5.setCell ⟨w.heap.size + 2, 6, none⟩ (.int .u16 g.de)) (w.heap.size + 2) 24 (regsC { g with bc := g.bc2, de := g.de2, hl := g.hl2, bc2 := g.bc, de2 := g.de }) := rS.out.set 6 (.int .u16 g.de)
  have qA := qA0
  have qZ := qZ0
  have qS := qS0
  clear qA0 qZ0 qS0
  have HB' := Lib.hid (HB.out.setCell (p := ⟨w.heap.size + 2, 6, none⟩) (by first | exact Nat.le_refl _ | exact Nat.le_add_right _ _) (.int .u16 g.de))
  go_upto_region 7 with (fail)
  clear lA2 lS6 fS6 rA rZ rS HB
  have rA := Lib.hid qA
  have rZ := Lib.hid qZ
  have rS := Lib.hid qS
  clear qA qZ qS
  have HB := HB'
  clear HB'
  generalize W5.setCell ⟨w.heap.size + 2, 6, none⟩ (.int .u16 g.de) = W6 at *
  have lA3 : W6.cell? ⟨w.heap.size, 3, none⟩ = some (.int .u16 g.hl) := rA.out.cell 3
  have lS7 : W6.cell? ⟨w.heap.size + 2, 7, none⟩ = some (.int .u16 g.hl2) := rS.out.cell 7
  have fS7 := rS.out.frozen 7
  have qA0 : Row (W6.setCell ⟨w.heap.size + 2, 7, none⟩ (.int .u16 g.hl)) (w.heap.size) 24 (regsC g) := rA.out.far (p := ⟨w.heap.size + 2, 7, none⟩) (by simp) (.int .u16 g.hl)
  have qZ0 : Row (W6.setCell ⟨w.heap.size + 2, 7, none⟩ (.int .u16 g.hl)) (w.heap.size + 1) 24 zL := rZ.out.far (p := ⟨w.heap.size + 2, 7, none⟩) (by simp) (.int .u16 g.hl)
  have qS0 : Row (W6.setCell ⟨w.heap.size + 2, 7, none⟩ (.int .u16 g.hl)) (w.heap.size + 2) 24 (regsC { g with bc := g.bc2, de := g.de2, hl := g.hl2, bc2 := g.bc, de2 := g.de, hl2 := g.hl }) := rS.out.set 7 (.int .u16 g.hl)
  have qA := qA0
  have qZ := qZ0
  have qS := qS0
  clear qA0 qZ0 qS0
  have HB' := Lib.hid (HB.out.setCell (p := ⟨w.heap.size + 2, 7, none⟩) (by first | exact Nat.le_refl _ | exact Nat.le_add_right _ _) (.int .u16 g.hl))
  go_upto_region 8 with (fail)
  clear lA3 lS7 fS7 rA rZ rS HB
  have rA := Lib.hid qA
  have rZ := Lib.hid qZ
  have rS := Lib.hid qS
  clear qA qZ qS
  have HB := HB'
  clear HB'
  generalize W6.setCell ⟨w.heap.size + 2, 7, none⟩ (.int .u16 g.hl) = W7 at *
  obtain ⟨ds, hds⟩ : ∃ ds, ds = (regsC { g with bc := g.bc2, de := g.de2, hl := g.hl2, bc2 := g.bc, de2 := g.de, hl2 := g.hl }) := ⟨_, rfl⟩
  have i24 : Hid ((Tryz.prog.info? 24).map (·.size) = some ds.size) := Lib.hid (by rw [hds]; exact info24)
  have one : Hid (ds.toList.all (·.oneCell') = true) := Lib.hid (by rw [hds]; rfl)
  have hsz : Hid (ds.size = 20) := Lib.hid (by rw [hds]; rfl)
  have HD := Lib.hid hds
  have hR := rS.out
  rw [← hds] at hR
  clear hds
  apply wp_region_lit
  refine wpList_load_row rfl 24 _ rfl _ _ _ rfl hR _ Tryz.underlying24 rfl i24.out ?_
  refine wpList_store_row rfl 24 _ _ rfl (w.heap.size + 1) _ _ ds rfl rfl rZ.out (by rw [hsz.out]; exact Eq.refl 20) i24.out one.out ?_
  have rE := rZ.out.setAll (vs := ds) (by rw [hsz.out]; exact Eq.refl 20)
  have HE9 := Lib.hid (Below.setCellsAll HB.out (b := w.heap.size + 1) (Nat.le_add_right _ _) ds.toList 0)
  generalize W7.setCells (w.heap.size + 1) 0 ds.toList = W9 at *
  apply wpList_nil
  rename_i hret
  refine hret _ _ (wp_ret ?_)
  try simp only [Exit.inBlock, Exit.then]
  refine bodyPost_ret (results_row rfl rfl rE _ Tryz.underlying24 rfl i24.out) rfl ?_
  exact ⟨(congrArg (fun q => Ending.returned (Value.agg q)) HD.out).trans rfl, HE9.out⟩
section
attribute [local go_sem ↓] ix8_0 ix8_1 ix8_2 ix8_3 ix8_4 ix8_5 ix8_6 ix8_7
theorem rone_any (c : Bool) (w : World) :
    Calls Tryz.prog 248 #[.bool c] w fun e w' => e = .returned (.int .i64 (one c)) ∧ w = w' := by
  cases c
  all_goals
    go_enter Tryz.func248, Tryz.ntmps248
    go_wp2
    go_ret
    exact ⟨rfl, rfl⟩
theorem rfar_any (n : Int) (w : World) :
    Calls Tryz.prog 249 #[.int .i64 n] w fun e w' => e = .returned (.bool (farM n)) ∧ w = w' := by
  by_cases h : n < -128
  · go_enter Tryz.func249, Tryz.ntmps249
    go_wp2
    go_ret
    exact ⟨ret_bool (by unfold farM; rw [decide_eq_true h]; rfl), rfl⟩
  · go_enter Tryz.func249, Tryz.ntmps249
    go_wp2
    go_ret
    exact ⟨ret_bool (by unfold farM; rw [decide_eq_false (show ¬ n < -128 by omega)]; rfl), rfl⟩
theorem resultM_bits (r : Int) : isM (resultM r) 7 = isM r 7 ∧ isM (resultM r) 6 = (r == 0) ∧ isM (resultM r) 5 = isM r 5 ∧ isM (resultM r) 4 = false ∧ isM (resultM r) 3 = isM r 3 ∧ isM (resultM r) 2 = false ∧ isM (resultM r) 1 = false ∧ isM (resultM r) 0 = false := of_mkM _ _ _ _ _ _ _ _
theorem signed_bounds (a : Int) (h0 : 0 ≤ a) (h1 : a ≤ 255) : -128 ≤ signedM a ∧ signedM a ≤ 127 := by unfold signedM; split <;> omega
theorem radd_any (a b : Int) (c : Bool) (ha : B8 a) (hb : B8 b) (w : World) :
    Calls Tryz.prog 182 #[.int .u8 a, .int .u8 b, .bool c] w fun e w' => e = .returned (two (addR a b c) (addF a b c)) ∧ Below w.heap.size w w' := by
  have a0 := ha.1
  have a1 := ha.2
  have b0 := hb.1
  have b1 := hb.2
  have hr := Lib.hid (addR_byte a b c)
  have ho := one_bounds c
  have hq := Lib.hid (resultM_byte (addR a b c))
  have s1 := signed_bounds a a0 a1
  have s2 := signed_bounds b b0 b1
  clear ha hb
  go_enter Tryz.func182, Tryz.ntmps182
  go_wp2_with (first
    | (go_at_call 248; refine (rone_any _ _).mono ?_; rintro e w' ⟨rfl, rfl⟩)
    | (go_at_call 173; refine (rresult_any _ (by omega) (by omega) _).mono ?_; rintro e w' ⟨rfl, hb⟩; have hsz := hb.size)
    | (go_at_call 159; refine (rof_any _ hq.out.1 hq.out.2 _).mono ?_; rintro e w' ⟨rfl, hb⟩; have hsz := hb.size)
    | (go_at_call 94; refine (rsigned_any _ (by omega) (by omega) _).mono ?_; rintro e w' ⟨rfl, rfl⟩)
    | (go_at_call 249; refine (rfar_any _ _).mono ?_; rintro e w' ⟨rfl, rfl⟩)
    | (go_at_call 161; refine (rmake_any _ _ _ _ _ _ _ _ _).mono ?_; rintro e w' ⟨rfl, hb⟩; have hsz := hb.size))
  go_ret2
  obtain ⟨e0, e1, e2, e3, e4, e5, e6, e7⟩ := resultM_bits (addR a b c)
  rw [e0, e1, e2, e4, e6]
  exact ⟨rfl, (by repeat (first | exact Below.refl _ _ | assumption | refine bstep ?_ (by assumption) | refine Below.drew ?_ | refine Below.alloc ?_ (by first | (simp; done) | (simp; omega) | omega) _ | refine Below.setCell ?_ (by first | (simp; done) | (simp; omega) | omega) _))⟩
theorem rsub_any (a b : Int) (c : Bool) (ha : B8 a) (hb : B8 b) (w : World) :
    Calls Tryz.prog 171 #[.int .u8 a, .int .u8 b, .bool c] w fun e w' => e = .returned (two (subR a b c) (subF a b c)) ∧ Below w.heap.size w w' := by
  have a0 := ha.1
  have a1 := ha.2
  have b0 := hb.1
  have b1 := hb.2
  have hr := Lib.hid (subR_byte a b c)
  have ho := one_bounds c
  have hq := Lib.hid (resultM_byte (subR a b c))
  have s1 := signed_bounds a a0 a1
  have s2 := signed_bounds b b0 b1
  have hs : (a - b - one c + 512) % 256 = subR a b c := by unfold subR; omega
  clear ha hb
  go_enter Tryz.func171, Tryz.ntmps171
  go_wp2_with (first
    | (go_at_call 248; refine (rone_any _ _).mono ?_; rintro e w' ⟨rfl, rfl⟩)
    | (go_at_call 173; refine (rresult_any _ hr.out.1 hr.out.2 _).mono ?_; rintro e w' ⟨rfl, hb⟩; have hsz := hb.size)
    | (go_at_call 159; refine (rof_any _ hq.out.1 hq.out.2 _).mono ?_; rintro e w' ⟨rfl, hb⟩; have hsz := hb.size)
    | (go_at_call 94; refine (rsigned_any _ (by omega) (by omega) _).mono ?_; rintro e w' ⟨rfl, rfl⟩)
    | (go_at_call 249; refine (rfar_any _ _).mono ?_; rintro e w' ⟨rfl, rfl⟩)
    | (go_at_call 161; refine (rmake_any _ _ _ _ _ _ _ _ _).mono ?_; rintro e w' ⟨rfl, hb⟩; have hsz := hb.size))
  go_ret2
  obtain ⟨e0, e1, e2, e3, e4, e5, e6, e7⟩ := resultM_bits (subR a b c)
  rw [e0, e1, e2, e4]
  exact ⟨rfl, (by repeat (first | exact Below.refl _ _ | assumption | refine bstep ?_ (by assumption) | refine Below.drew ?_ | refine Below.alloc ?_ (by first | (simp; done) | (simp; omega) | omega) _ | refine Below.setCell ?_ (by first | (simp; done) | (simp; omega) | omega) _))⟩
theorem rcmp_any (a b : Int) (ha : B8 a) (hb : B8 b) (w : World) :
    Calls Tryz.prog 186 #[.int .u8 a, .int .u8 b] w fun e w' => e = .returned (.int .u8 (cmpF a b)) ∧ Below w.heap.size w w' := by
  have hf := Lib.hid (subF_byte a b false)
  have ha := Lib.hid ha
  have hB := Lib.hid hb
  clear hb
  go_enter Tryz.func186, Tryz.ntmps186
  go_wp2_with (first
    | (go_at_call 171; refine (rsub_any _ _ _ ha.out hB.out _).mono ?_; rintro e w' ⟨rfl, hb⟩; have hsz := hb.size)
    | (go_at_call 159; refine (rof_any _ hf.out.1 hf.out.2 _).mono ?_; rintro e w' ⟨rfl, hb⟩; have hsz := hb.size)
    | (go_at_call 157; refine (ris_any _ _ hB.out.1 hB.out.2 _).mono ?_; rintro e w' ⟨rfl, rfl⟩)
    | (go_at_call 161; refine (rmake_any _ _ _ _ _ _ _ _ _).mono ?_; rintro e w' ⟨rfl, hb⟩; have hsz := hb.size))
  go_ret
  obtain ⟨e0, e1, e2, e3, e4, e5, e6, e7⟩ : isM (subF a b false) 7 = _ ∧ isM (subF a b false) 6 = _ ∧ isM (subF a b false) 5 = _ ∧ isM (subF a b false) 4 = _ ∧ isM (subF a b false) 3 = _ ∧ isM (subF a b false) 2 = _ ∧ isM (subF a b false) 1 = _ ∧ isM (subF a b false) 0 = _ := of_mkM _ _ _ _ _ _ _ _
  rw [e0, e1, e3, e5, e6, e7]
  exact ⟨rfl, (by repeat (first | exact Below.refl _ _ | assumption | refine bstep ?_ (by assumption) | refine Below.drew ?_ | refine Below.alloc ?_ (by first | (simp; done) | (simp; omega) | omega) _ | refine Below.setCell ?_ (by first | (simp; done) | (simp; omega) | omega) _))⟩
theorem rinc_any (a f : Int) (ha : B8 a) (hf : B8 f) (w : World) :
    Calls Tryz.prog 253 #[.int .u8 a, .int .u8 f] w fun e w' => e = .returned (two (addR a 1 false) (incF a f)) ∧ Below w.heap.size w w' := by
  have hg := Lib.hid (addF_byte a 1 false)
  have ha := Lib.hid ha
  have hf := Lib.hid hf
  go_enter Tryz.func253, Tryz.ntmps253
  go_wp2_with (first
    | (go_at_call 182; refine (radd_any _ _ _ ha.out ⟨by omega, by omega⟩ _).mono ?_; rintro e w' ⟨rfl, hb⟩; have hsz := hb.size)
    | (go_at_call 159; refine (rof_any _ hg.out.1 hg.out.2 _).mono ?_; rintro e w' ⟨rfl, hb⟩; have hsz := hb.size)
    | (go_at_call 157; refine (ris_any _ _ hf.out.1 hf.out.2 _).mono ?_; rintro e w' ⟨rfl, rfl⟩)
    | (go_at_call 161; refine (rmake_any _ _ _ _ _ _ _ _ _).mono ?_; rintro e w' ⟨rfl, hb⟩; have hsz := hb.size))
  go_ret2
  obtain ⟨e0, e1, e2, e3, e4, e5, e6, e7⟩ : isM (addF a 1 false) 7 = _ ∧ isM (addF a 1 false) 6 = _ ∧ isM (addF a 1 false) 5 = _ ∧ isM (addF a 1 false) 4 = _ ∧ isM (addF a 1 false) 3 = _ ∧ isM (addF a 1 false) 2 = _ ∧ isM (addF a 1 false) 1 = _ ∧ isM (addF a 1 false) 0 = _ := of_mkM _ _ _ _ _ _ _ _
  rw [e0, e1, e2, e3, e4, e5, e6]
  exact ⟨rfl, (by repeat (first | exact Below.refl _ _ | assumption | refine bstep ?_ (by assumption) | refine Below.drew ?_ | refine Below.alloc ?_ (by first | (simp; done) | (simp; omega) | omega) _ | refine Below.setCell ?_ (by first | (simp; done) | (simp; omega) | omega) _))⟩
theorem rdec_any (a f : Int) (ha : B8 a) (hf : B8 f) (w : World) :
    Calls Tryz.prog 254 #[.int .u8 a, .int .u8 f] w fun e w' => e = .returned (two (subR a 1 false) (decF a f)) ∧ Below w.heap.size w w' := by
  have hg := Lib.hid (subF_byte a 1 false)
  have ha := Lib.hid ha
  have hf := Lib.hid hf
  go_enter Tryz.func254, Tryz.ntmps254
  go_wp2_with (first
    | (go_at_call 171; refine (rsub_any _ _ _ ha.out ⟨by omega, by omega⟩ _).mono ?_; rintro e w' ⟨rfl, hb⟩; have hsz := hb.size)
    | (go_at_call 159; refine (rof_any _ hg.out.1 hg.out.2 _).mono ?_; rintro e w' ⟨rfl, hb⟩; have hsz := hb.size)
    | (go_at_call 157; refine (ris_any _ _ hf.out.1 hf.out.2 _).mono ?_; rintro e w' ⟨rfl, rfl⟩)
    | (go_at_call 161; refine (rmake_any _ _ _ _ _ _ _ _ _).mono ?_; rintro e w' ⟨rfl, hb⟩; have hsz := hb.size))
  go_ret2
  obtain ⟨e0, e1, e2, e3, e4, e5, e6, e7⟩ : isM (subF a 1 false) 7 = _ ∧ isM (subF a 1 false) 6 = _ ∧ isM (subF a 1 false) 5 = _ ∧ isM (subF a 1 false) 4 = _ ∧ isM (subF a 1 false) 3 = _ ∧ isM (subF a 1 false) 2 = _ ∧ isM (subF a 1 false) 1 = _ ∧ isM (subF a 1 false) 0 = _ := of_mkM _ _ _ _ _ _ _ _
  rw [e0, e1, e2, e3, e4, e5, e6]
  exact ⟨rfl, (by repeat (first | exact Below.refl _ _ | assumption | refine bstep ?_ (by assumption) | refine Below.drew ?_ | refine Below.alloc ?_ (by first | (simp; done) | (simp; omega) | omega) _ | refine Below.setCell ?_ (by first | (simp; done) | (simp; omega) | omega) _))⟩
theorem rneg_any (a : Int) (ha : B8 a) (w : World) :
    Calls Tryz.prog 86 #[.int .u8 a] w fun e w' => e = .returned (two (subR 0 a false) (subF 0 a false)) ∧ Below w.heap.size w w' := by
  have ha := Lib.hid ha
  go_enter Tryz.func86, Tryz.ntmps86
  go_wp2_with (first
    | (go_at_call 171; refine (rsub_any _ _ _ ⟨by omega, by omega⟩ ha.out _).mono ?_; rintro e w' ⟨rfl, hb⟩; have hsz := hb.size))
  go_ret2
  exact ⟨rfl, (by repeat (first | exact Below.refl _ _ | assumption | refine bstep ?_ (by assumption) | refine Below.drew ?_ | refine Below.alloc ?_ (by first | (simp; done) | (simp; omega) | omega) _ | refine Below.setCell ?_ (by first | (simp; done) | (simp; omega) | omega) _))⟩
end
end Go.Proofs.YtibmpaeaicpbcaaGreatDoor
