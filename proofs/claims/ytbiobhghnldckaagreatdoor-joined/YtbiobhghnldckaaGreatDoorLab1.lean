/- Proved: the parser's map of labels: what a look-up of a name finds, where no label is there and where one is; a name is put there. No condition but those told. -/
import Derived.Test.YtbiobhghnldckaaGreatDoorK10
namespace Go.Proofs.YtbiobhghnldckaaGreatDoor
open Go.RowKit
set_option linter.unusedVariables false

theorem checkKey_str' (w : World) (b : Bool) (s : ByteArray) (n : Nat) : (Instr.checkKey b (n + 1) 9 (.string s)).run Tryz.prog w = .ok () w := by
  simp [Instr.checkKey, run_underlying Tryz.underlying9]
theorem checkKey_str (w : World) (b : Bool) (s : ByteArray) : (Instr.checkKey b 10000 9 (.string s)).run Tryz.prog w = .ok () w := checkKey_str' w b s 9999
theorem findKey_str (w : World) (s : ByteArray) (es : List MapEntry) (x : Option (Nat × Value)) (h : Instr.findNow .string (.string s) es 0 = some x) : (Instr.findKey 9 (.string s) es).run Tryz.prog w = .ok x w := by
  simp [Instr.findKey, run_underlying Tryz.underlying9, h]

/-- The map lies in block lb: no label, or this one. -/
def LabAt (w : World) (lb : Nat) (labs : List Adz.Lab) : Prop := w.heap[lb]? = some (.map (labEntries 0 labs).toArray labs.length)
theorem lab_none (w : World) (lb : Nat) (s : ByteArray) (h : LabAt w lb []) :
    (Instr.lookup 117 (.map (some lb)) (.string s) true).run Tryz.prog w = .ok (.tuple #[.agg #[.int .i64 0, .int .i64 0], .bool false]) w := by
  unfold LabAt at h
  have hf := findKey_str w s (labEntries 0 []).toArray.toList none rfl
  simp only [Instr.lookup, Sem.run_bind, run_underlying Tryz.underlying117, MapKept.run_getObj_map h, checkKey_str, Result.andThen, Sem.run_pure, hf]
  simp [Tryz.zeroValue176]
theorem ba_self (s : ByteArray) : (s == s) = true := by
  show (s.data == s.data) = true
  simp
theorem find_one (x : Adz.Lab) : Instr.findNow .string (.string ⟨x.name.toArray⟩) (labEntries 0 [x]).toArray.toList 0 = some (some (0, .agg #[.int .i64 x.set, .int .i64 x.asked])) := by
  simp [labEntries, labEntry, Instr.findNow, Instr.sameNow, ba_self]
theorem lab_ok (w : World) (lb : Nat) (x : Adz.Lab) (h : LabAt w lb [x]) :
    (Instr.lookup 117 (.map (some lb)) (.string ⟨x.name.toArray⟩) true).run Tryz.prog w = .ok (.tuple #[.agg #[.int .i64 x.set, .int .i64 x.asked], .bool true]) w := by
  unfold LabAt at h
  have hf := findKey_str w _ _ _ (find_one x)
  simp only [Instr.lookup, Sem.run_bind, run_underlying Tryz.underlying117, MapKept.run_getObj_map h, checkKey_str, Result.andThen, Sem.run_pure, hf]
  simp
theorem lab_one (w : World) (lb : Nat) (x : Adz.Lab) (h : LabAt w lb [x]) :
    (Instr.lookup 117 (.map (some lb)) (.string ⟨x.name.toArray⟩) false).run Tryz.prog w = .ok (.agg #[.int .i64 x.set, .int .i64 x.asked]) w := by
  unfold LabAt at h
  have hf := findKey_str w _ _ _ (find_one x)
  simp only [Instr.lookup, Sem.run_bind, run_underlying Tryz.underlying117, MapKept.run_getObj_map h, checkKey_str, Result.andThen, Sem.run_pure, hf]
  simp
/-- One map is another: nothing else turns. -/
theorem setMap_only (w : World) (lb : Nat) (es es' : Array MapEntry) (n n' : Nat) (h : w.heap[lb]? = some (.map es n)) : Only (· = lb) w { w with heap := w.heap.setIfInBounds lb (.map es' n') } ∧ ({ w with heap := w.heap.setIfInBounds lb (.map es' n') } : World).heap[lb]? = some (.map es' n') := by
  have hlt := (Array.getElem?_eq_some_iff.1 h).1
  refine ⟨⟨rfl, rfl, rfl, by simp, fun k hk hs => ?_⟩, ?_⟩
  · show (w.heap.setIfInBounds lb (.map es' n'))[k]? = _
    rw [Array.getElem?_setIfInBounds, if_neg (fun e => hs e.symm)]
  · show (w.heap.setIfInBounds lb (.map es' n'))[lb]? = _
    rw [Array.getElem?_setIfInBounds_self_of_lt hlt]
theorem lab_put0 (w : World) (lb : Nat) (x : Adz.Lab) (h : LabAt w lb []) :
    ∃ w', (Instr.mapUpdate 117 (.map (some lb)) (.string ⟨x.name.toArray⟩) (.agg #[.int .i64 x.set, .int .i64 x.asked])).run Tryz.prog w = .ok () w' ∧ LabAt w' lb [x] ∧ Only (· = lb) w w' := by
  unfold LabAt at h ⊢
  have hf := findKey_str w ⟨x.name.toArray⟩ (labEntries 0 []).toArray.toList none rfl
  simp only [Instr.mapUpdate, Sem.run_bind, run_underlying Tryz.underlying117, MapKept.run_getObj_map h, checkKey_str, Result.andThen, hf]
  rw [MapKept.run_setObj_map _ h]
  have := setMap_only w lb _ (labEntries 0 [x]).toArray _ 1 h
  exact ⟨_, rfl, this.2, this.1⟩
theorem key_stays (w : World) (s : ByteArray) : (Instr.keyThatStays (.string s) (.string s)).run Tryz.prog w = .ok (.string s) w := by
  have hb : Instr.sameBits 10000 (.string s) (.string s) = true := by
    unfold Instr.sameBits
    exact ba_self s
  unfold Instr.keyThatStays
  rw [if_pos hb]
  rfl
theorem lab_put1 (w : World) (lb : Nat) (x y : Adz.Lab) (hn : y.name = x.name) (h : LabAt w lb [x]) :
    ∃ w', (Instr.mapUpdate 117 (.map (some lb)) (.string ⟨x.name.toArray⟩) (.agg #[.int .i64 y.set, .int .i64 y.asked])).run Tryz.prog w = .ok () w' ∧ LabAt w' lb [y] ∧ Only (· = lb) w w' := by
  unfold LabAt at h ⊢
  have hf := findKey_str w _ _ _ (find_one x)
  simp only [Instr.mapUpdate, Sem.run_bind, run_underlying Tryz.underlying117, MapKept.run_getObj_map h, checkKey_str, Result.andThen, hf]
  have e0 : ((Option.map (fun x => x.key) (labEntries 0 [x]).toArray[0]?).getD (Value.string ⟨x.name.toArray⟩)) = Value.string ⟨x.name.toArray⟩ := rfl
  rw [e0, key_stays]
  have e1 : ((labEntries 0 [x]).toArray.modify 0 fun e => { key := Value.string ⟨x.name.toArray⟩, val := Value.agg #[Value.int IntKind.i64 y.set, Value.int IntKind.i64 y.asked], born := e.born }) = (labEntries 0 [y]).toArray := by
    simp only [labEntries, labEntry, hn]
    rfl
  simp only [e1]
  rw [MapKept.run_setObj_map _ h]
  have := setMap_only w lb _ (labEntries 0 [y]).toArray _ 1 h
  exact ⟨_, rfl, this.2, this.1⟩
end Go.Proofs.YtbiobhghnldckaaGreatDoor
