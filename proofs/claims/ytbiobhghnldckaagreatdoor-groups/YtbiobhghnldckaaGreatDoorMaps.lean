/- Proved: the map by runes of what may stand behind each command: how it is made, what a look-up finds. No condition. -/
import Derived.Test.YtbiobhghnldckaaGreatDoorPat
namespace Go.Proofs.YtbiobhghnldckaaGreatDoor
open Go.RowKit
set_option linter.unusedVariables false

def behEntry (k v : Int) (n : Nat) : MapEntry := { key := .int .i32 k, val := .int .i64 v, born := n }
def behEntries : Nat → List (Int × Int) → List MapEntry
  | _, [] => []
  | n, (k, v) :: l => behEntry k v n :: behEntries (n + 1) l

theorem find_beh (r : Int) : ∀ (l : List (Int × Int)) (n i : Nat), ∃ j, Instr.findNow (.int .i32) (.int .i32 r) (behEntries n l) i = some ((l.find? (fun p => r == p.1)).map (fun p => (j, Value.int .i64 p.2)))
  | [], n, i => ⟨0, rfl⟩
  | (k, v) :: l, n, i => by
    by_cases h : r = k
    · subst h
      exact ⟨i, by simp [behEntries, behEntry, Instr.findNow, Instr.sameNow]⟩
    · obtain ⟨j, hj⟩ := find_beh r l (n + 1) (i + 1)
      have hb : (r == k) = false := by simpa using h
      exact ⟨j, by simp [behEntries, behEntry, Instr.findNow, Instr.sameNow, hb, hj]⟩

/-- The map lies in block mb. -/
def BehAt (w : World) (mb : Nat) : Prop := w.heap[mb]? = some (.map (behEntries 0 Adz.behTable).toArray 22)

theorem checkKey_int' (w : World) (b : Bool) (r : Int) (n : Nat) : (Instr.checkKey b (n + 1) 21 (.int .i32 r)).run Tryz.prog w = .ok () w := by
  simp [Instr.checkKey, run_underlying Tryz.underlying21]
theorem checkKey_int (w : World) (b : Bool) (r : Int) : (Instr.checkKey b 10000 21 (.int .i32 r)).run Tryz.prog w = .ok () w := checkKey_int' w b r 9999

theorem findKey_int (w : World) (r : Int) (es : List MapEntry) (x : Option (Nat × Value)) (h : Instr.findNow (.int .i32) (.int .i32 r) es 0 = some x) : (Instr.findKey 21 (.int .i32 r) es).run Tryz.prog w = .ok x w := by
  simp [Instr.findKey, run_underlying Tryz.underlying21, h]

theorem beh_lookup_ok (w : World) (mb : Nat) (r : Int) (h : BehAt w mb) :
    (Instr.lookup 115 (.map (some mb)) (.int .i32 r) true).run Tryz.prog w = .ok (.tuple #[.int .i64 ((Adz.behindKind r).getD 0), .bool (Adz.behindKind r).isSome]) w := by
  obtain ⟨j, hj⟩ := find_beh r Adz.behTable 0 0
  unfold BehAt at h
  have hf := findKey_int w r (behEntries 0 Adz.behTable).toArray.toList _ hj
  simp only [Instr.lookup, Sem.run_bind, run_underlying Tryz.underlying115, MapKept.run_getObj_map h, checkKey_int, Result.andThen, Sem.run_pure, hf, Adz.behindKind]
  cases Adz.behTable.find? (fun p => r == p.1) with
  | none => simp [Tryz.zeroValue145]
  | some p => simp

theorem beh_lookup (w : World) (mb : Nat) (r : Int) (h : BehAt w mb) :
    (Instr.lookup 115 (.map (some mb)) (.int .i32 r) false).run Tryz.prog w = .ok (.int .i64 ((Adz.behindKind r).getD 0)) w := by
  obtain ⟨j, hj⟩ := find_beh r Adz.behTable 0 0
  unfold BehAt at h
  have hf := findKey_int w r (behEntries 0 Adz.behTable).toArray.toList _ hj
  simp only [Instr.lookup, Sem.run_bind, run_underlying Tryz.underlying115, MapKept.run_getObj_map h, checkKey_int, Result.andThen, Sem.run_pure, hf, Adz.behindKind]
  cases Adz.behTable.find? (fun p => r == p.1) with
  | none => simp [Tryz.zeroValue145]
  | some p => simp

def behUpTo (i : Nat) : Array MapEntry := (behEntries 0 (Adz.behTable.take i)).toArray
theorem beh_up (w : World) (es es' : Array MapEntry) (n : Nat) (k v : Int) (h : Instr.findNow (.int .i32) (.int .i32 k) es.toList 0 = some none) (he : es' = es.push (behEntry k v n)) :
    (Instr.mapUpdate 115 (.map (some w.heap.size)) (.int .i32 k) (.int .i64 v)).run Tryz.prog (w.alloc (.map es n)) = .ok () (w.alloc (.map es' (n + 1))) := by
  have hb : (w.alloc (.map es n)).heap[w.heap.size]? = some (.map es n) := heap_alloc_new w _
  have hf := findKey_int (w.alloc (.map es n)) k es.toList _ h
  simp only [Instr.mapUpdate, Sem.run_bind, run_underlying Tryz.underlying115, MapKept.run_getObj_map hb, checkKey_int, Result.andThen, hf]
  rw [MapKept.run_setObj_map _ hb]
  subst he
  have e : (w.alloc (.map es n)).heap.setIfInBounds w.heap.size (.map (es.push (behEntry k v n)) (n + 1)) = (w.alloc (.map (es.push (behEntry k v n)) (n + 1))).heap := by
    show (w.heap.push _).setIfInBounds w.heap.size _ = w.heap.push _
    apply Array.ext_getElem?
    intro i
    rw [Array.getElem?_setIfInBounds, Array.getElem?_push, Array.getElem?_push]
    by_cases hi : w.heap.size = i
    · simp [hi]
    · rw [if_neg hi, if_neg (fun e => hi e.symm), if_neg (fun e => hi e.symm)]
  exact congrArg (Result.ok ()) (by
    show ({ w.alloc (.map es n) with heap := _ } : World) = w.alloc _
    rw [show ((w.alloc (.map es n)).heap.setIfInBounds w.heap.size (.map (es.push { key := .int .i32 k, val := .int .i64 v, born := n }) (n + 1))) = (w.alloc (.map (es.push (behEntry k v n)) (n + 1))).heap from e]
    rfl)

set_option maxRecDepth 100000 in
set_option maxHeartbeats 800000 in
theorem behinds_calls (w : World) : Calls Tryz.prog 50 #[] w fun e w' => e = .returned (.map (some w.heap.size)) ∧ w' = w.alloc (.map (behEntries 0 Adz.behTable).toArray 22) := by
  have hmm := @run_makeMap Tryz.prog
  have u0 := beh_up w #[] (behUpTo 1) 0 123 1 (by rfl) (by rfl)
  have u1 := beh_up w (behUpTo 1) (behUpTo 2) 1 61 0 (by rfl) (by rfl)
  have u2 := beh_up w (behUpTo 2) (behUpTo 3) 2 100 0 (by rfl) (by rfl)
  have u3 := beh_up w (behUpTo 3) (behUpTo 4) 3 68 0 (by rfl) (by rfl)
  have u4 := beh_up w (behUpTo 4) (behUpTo 5) 4 103 0 (by rfl) (by rfl)
  have u5 := beh_up w (behUpTo 5) (behUpTo 6) 5 71 0 (by rfl) (by rfl)
  have u6 := beh_up w (behUpTo 6) (behUpTo 7) 6 104 0 (by rfl) (by rfl)
  have u7 := beh_up w (behUpTo 7) (behUpTo 8) 7 72 0 (by rfl) (by rfl)
  have u8 := beh_up w (behUpTo 8) (behUpTo 9) 8 110 0 (by rfl) (by rfl)
  have u9 := beh_up w (behUpTo 9) (behUpTo 10) 9 78 0 (by rfl) (by rfl)
  have u10 := beh_up w (behUpTo 10) (behUpTo 11) 10 112 0 (by rfl) (by rfl)
  have u11 := beh_up w (behUpTo 11) (behUpTo 12) 11 80 0 (by rfl) (by rfl)
  have u12 := beh_up w (behUpTo 12) (behUpTo 13) 12 113 0 (by rfl) (by rfl)
  have u13 := beh_up w (behUpTo 13) (behUpTo 14) 13 120 0 (by rfl) (by rfl)
  have u14 := beh_up w (behUpTo 14) (behUpTo 15) 14 97 2 (by rfl) (by rfl)
  have u15 := beh_up w (behUpTo 15) (behUpTo 16) 15 99 2 (by rfl) (by rfl)
  have u16 := beh_up w (behUpTo 16) (behUpTo 17) 16 105 2 (by rfl) (by rfl)
  have u17 := beh_up w (behUpTo 17) (behUpTo 18) 17 58 3 (by rfl) (by rfl)
  have u18 := beh_up w (behUpTo 18) (behUpTo 19) 18 98 4 (by rfl) (by rfl)
  have u19 := beh_up w (behUpTo 19) (behUpTo 20) 19 116 4 (by rfl) (by rfl)
  have u20 := beh_up w (behUpTo 20) (behUpTo 21) 20 115 5 (by rfl) (by rfl)
  have u21 := beh_up w (behUpTo 21) (behUpTo 22) 21 121 6 (by rfl) (by rfl)
  go_enter Tryz.func50, Tryz.ntmps50
  go_wp2
  go_ret
  exact ⟨rfl, rfl⟩
end Go.Proofs.YtbiobhghnldckaaGreatDoor
