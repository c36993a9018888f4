/- A map that a call makes by a literal with whole numbers as keys: its entries laid one by one, and asked. Nothing of the program. -/
import Derived.WalkKit
import Derived.Laws.EntriesVeiled
import Derived.Maps.Own
namespace Go.Proofs.YtpiadeedgjmmkaaDoor
open Go.RowKit
set_option linter.unusedVariables false
set_option linter.unusedSimpArgs false

theorem setBlock_top (W : World) (o o' : Obj) : ({ W.alloc o with heap := (W.alloc o).heap.setIfInBounds W.heap.size o' } : World) = W.alloc o' := by
  have e : (W.heap.push o).setIfInBounds W.heap.size o' = W.heap.push o' := by
    apply Array.ext
    · simp
    · intro i h1 h2
      simp at h1 h2
      by_cases hi : i = W.heap.size
      · subst hi; simp
      · rw [Array.getElem_setIfInBounds, Array.getElem_push_lt (by omega), Array.getElem_push_lt (by omega), if_neg (by omega)]
        simpa using h1
  show ({ W with heap := (W.heap.push o).setIfInBounds W.heap.size o' } : World) = { W with heap := W.heap.push o' }
  rw [e]
/-- a literal's entry is laid into the map that is the newest block -/
theorem run_insert_top {P : Program} (W : World) (t kt et : TypeId) (ht : P.underlying t = some (.map kt et)) (hk : P.underlying kt = some (.int .i64)) (es : List MapEntry) (clock : Nat) (n : Int) (val : Value) (b : Nat)
    (hb : b = W.heap.size) (hnew : Instr.findNow (.int .i64) (.int .i64 n) es 0 = some none) :
    (Instr.mapUpdate t (.map (some b)) (.int .i64 n) val).run P (W.alloc (.map es.toArray clock)) = .ok () (W.alloc (.map (es ++ [({ key := .int .i64 n, val := val, born := clock } : MapEntry)]).toArray (clock + 1))) := by
  subst hb
  have hb := (MapKept.heap_alloc W (.map es.toArray clock)).1
  simp [Instr.mapUpdate, run_underlying ht, MapKept.run_getObj_map hb, MapKept.run_checkKey hk (k := .int .i64 n) (by simp [MapKept.IsKey]) false 9999, MapKept.run_findKey hk hnew, MapKept.run_setObj_map _ hb, Result.andThen]
  exact setBlock_top W _ _
/-- 'v, ok := m[k]' of whole numbers: a key that is there, and one that is not -/
theorem run_look {P : Program} {W : World} {t kt et : TypeId} (ht : P.underlying t = some (.map kt et)) (hk : P.underlying kt = some (.int .i64)) {es : Array MapEntry} {clock M : Nat} (hb : W.heap[M]? = some (.map es clock)) {n : Int} {j : Nat} {v : Value}
    (hf : Instr.findNow (.int .i64) (.int .i64 n) es.toList 0 = some (some (j, v))) : (Instr.lookup t (.map (some M)) (.int .i64 n) true).run P W = .ok (.tuple #[v, .bool true]) W := by
  simp [Instr.lookup, run_underlying ht, MapKept.run_getObj_map hb, MapKept.run_checkKey hk (k := .int .i64 n) (by simp [MapKept.IsKey]) _ 9999, MapKept.run_findKey hk hf, Result.andThen]
theorem run_look_no {P : Program} {W : World} {t kt et : TypeId} (ht : P.underlying t = some (.map kt et)) (hk : P.underlying kt = some (.int .i64)) {es : Array MapEntry} {clock M : Nat} (hb : W.heap[M]? = some (.map es clock)) {n : Int} {z : Value}
    (hf : Instr.findNow (.int .i64) (.int .i64 n) es.toList 0 = some none) (hz : (zeroValue et).run P W = .ok z W) : (Instr.lookup t (.map (some M)) (.int .i64 n) true).run P W = .ok (.tuple #[z, .bool false]) W := by
  simp [Instr.lookup, run_underlying ht, MapKept.run_getObj_map hb, MapKept.run_checkKey hk (k := .int .i64 n) (by simp [MapKept.IsKey]) _ 9999, MapKept.run_findKey hk hf, hz, Result.andThen]
/-- 'm[k]' of whole numbers: a key that is there, one that is not, and a map that is nil -/
theorem run_look1 {P : Program} {W : World} {t kt et : TypeId} (ht : P.underlying t = some (.map kt et)) (hk : P.underlying kt = some (.int .i64)) {es : Array MapEntry} {clock M : Nat} (hb : W.heap[M]? = some (.map es clock)) {n : Int} {j : Nat} {v : Value}
    (hf : Instr.findNow (.int .i64) (.int .i64 n) es.toList 0 = some (some (j, v))) : (Instr.lookup t (.map (some M)) (.int .i64 n) false).run P W = .ok v W := by
  simp [Instr.lookup, run_underlying ht, MapKept.run_getObj_map hb, MapKept.run_checkKey hk (k := .int .i64 n) (by simp [MapKept.IsKey]) _ 9999, MapKept.run_findKey hk hf, Result.andThen]
theorem run_look1_no {P : Program} {W : World} {t kt et : TypeId} (ht : P.underlying t = some (.map kt et)) (hk : P.underlying kt = some (.int .i64)) {es : Array MapEntry} {clock M : Nat} (hb : W.heap[M]? = some (.map es clock)) {n : Int} {z : Value}
    (hf : Instr.findNow (.int .i64) (.int .i64 n) es.toList 0 = some none) (hz : (zeroValue et).run P W = .ok z W) : (Instr.lookup t (.map (some M)) (.int .i64 n) false).run P W = .ok z W := by
  simp [Instr.lookup, run_underlying ht, MapKept.run_getObj_map hb, MapKept.run_checkKey hk (k := .int .i64 n) (by simp [MapKept.IsKey]) _ 9999, MapKept.run_findKey hk hf, hz, Result.andThen]
theorem run_look1_nil {P : Program} {W : World} {t kt et : TypeId} (ht : P.underlying t = some (.map kt et)) (hk : P.underlying kt = some (.int .i64)) {n : Int} {z : Value}
    (hz : (zeroValue et).run P W = .ok z W) : (Instr.lookup t (.map none) (.int .i64 n) false).run P W = .ok z W := by
  simp [Instr.lookup, run_underlying ht, MapKept.run_checkKey hk (k := .int .i64 n) (by simp [MapKept.IsKey]) _ 9999, MapKept.run_findKey hk (show Instr.findNow (.int .i64) (.int .i64 n) [] 0 = some none from rfl), hz, Result.andThen]
end Go.Proofs.YtpiadeedgjmmkaaDoor
