/- Proved: at a script's end, where one label is set and nothing else is asked for, nothing is missing. Conditions: the parser lies in memory as 'Par' says. -/
import Derived.Test.YtbiobhghnldckaaGreatDoorLab7
namespace Go.Proofs.YtbiobhghnldckaaGreatDoor
open Go.RowKit
set_option linter.unusedVariables false
attribute [local go_sem ↓] Go.wp_at_zero Go.wp_at_succ

theorem left_one (x : Adz.Lab) : leftOf (labEntries 0 [x]).toArray #[] = (labEntries 0 [x]).toArray := by
  simp [leftOf]
theorem left_none (x : Adz.Lab) : (leftOf (labEntries 0 [x]).toArray #[0]).size = 0 := by
  simp [leftOf, labEntries, labEntry]

theorem next_first (w : World) (ib lb : Nat) (x : Adz.Lab) (hr : w.heap[ib]? = some (.mapIter (some lb) 1 #[] 1)) (hb : LabAt w lb [x]) : ∃ F : TypeId → World, ∀ ty, (Instr.next (.pointer (some ⟨ib, 0, none⟩)) false ty).run Tryz.prog w = .ok (.tuple #[.bool true, .string ⟨x.name.toArray⟩, .agg #[.int .i64 x.set, .int .i64 x.asked]]) (F ty) ∧ (F ty).heap[ib]? = some (.mapIter (some lb) 1 #[0] 1) ∧ Only (· = ib) w (F ty) := by
  have key : ∀ ty, ∃ w', (Instr.next (.pointer (some ⟨ib, 0, none⟩)) false ty).run Tryz.prog w = .ok (.tuple #[.bool true, .string ⟨x.name.toArray⟩, .agg #[.int .i64 x.set, .int .i64 x.asked]]) w' ∧ w'.heap[ib]? = some (.mapIter (some lb) 1 #[0] 1) ∧ Only (· = ib) w w' := fun ty => by
    rcases run_next_at (P := Tryz.prog) w ty ib lb 1 1 #[] (labEntries 0 [x]).toArray 1 hr hb (by simp [labEntries, labEntry]) (Nat.le_refl _) with ⟨h0, _⟩ | ⟨e, he, w1, hw1, h⟩
    · rw [left_one] at h0
      simp [labEntries] at h0
    · rw [left_one] at he
      have : e = labEntry x 0 := by simpa [labEntries] using he
      subst this
      have hlt := (Array.getElem?_eq_some_iff.1 hr).1
      rcases hw1 with rfl | rfl
      · refine ⟨_, h, ?_, rfl, rfl, rfl, by simp [Go.ChangeMaps.setBlock], fun k hk hs => ?_⟩
        · show (w1.heap.setIfInBounds ib _)[ib]? = _
          rw [Array.getElem?_setIfInBounds_self_of_lt hlt]
          rfl
        · show (w1.heap.setIfInBounds ib _)[k]? = _
          rw [Array.getElem?_setIfInBounds, if_neg (fun e => hs e.symm)]
      · refine ⟨_, h, ?_, (((Only.refl (· = ib) w).drew).os), (((Only.refl (· = ib) w).drew).tape), (((Only.refl (· = ib) w).drew).output), by show w.heap.size ≤ (w.heap.setIfInBounds ib _).size; simp, fun k hk hs => ?_⟩
        · show (w.heap.setIfInBounds ib _)[ib]? = _
          rw [Array.getElem?_setIfInBounds_self_of_lt hlt]
          rfl
        · show (w.heap.setIfInBounds ib _)[k]? = _
          rw [Array.getElem?_setIfInBounds, if_neg (fun e => hs e.symm)]
  exact ⟨fun ty => Classical.choose (key ty), fun ty => Classical.choose_spec (key ty)⟩
theorem next_last (w : World) (ib lb : Nat) (x : Adz.Lab) (hr : w.heap[ib]? = some (.mapIter (some lb) 1 #[0] 1)) (hb : LabAt w lb [x]) (ty : TypeId) : (Instr.next (.pointer (some ⟨ib, 0, none⟩)) false ty).run Tryz.prog w = .ok (.tuple #[.bool false]) w := by
  rcases run_next_at (P := Tryz.prog) w ty ib lb 1 1 #[0] (labEntries 0 [x]).toArray 1 hr hb (by simp [labEntries, labEntry]) (Nat.le_refl _) with ⟨_, h⟩ | ⟨e, he, _⟩
  · exact h
  · have := left_none x
    rw [Array.eq_empty_of_size_eq_zero this] at he
    simp at he

theorem entry_run (w : World) (ib lb : Nat) (x : Adz.Lab) (hr : w.heap[ib]? = some (.mapIter (some lb) 1 #[0] 1)) (hb : LabAt w lb [x]) : (Instr.entry (.pointer (some ⟨ib, 0, none⟩))).run Tryz.prog w = .ok (.tuple #[.string ⟨x.name.toArray⟩, .agg #[.int .i64 x.set, .int .i64 x.asked]]) w := by
  have hb' : w.heap[lb]? = some (.map (labEntries 0 [x]).toArray 1) := hb
  have hf : (labEntries 0 [x]).toArray.find? (fun e => e.born == 0) = some (labEntry x 0) := by simp [labEntries, labEntry]
  have h1 : (getObj ib).run Tryz.prog w = .ok (.mapIter (some lb) 1 #[0] 1) w := by simp [getObj, Sem.run, hr]
  have h2 : (getObj lb).run Tryz.prog w = .ok (.map (labEntries 0 [x]).toArray 1) w := MapKept.run_getObj_map hb'
  have hbk : (#[0] : Array Nat).back? = some 0 := rfl
  simp only [Instr.entry, Sem.run_bind, h1, h2, Result.andThen, hbk, hf]
  rfl

set_option maxRecDepth 100000 in
set_option maxHeartbeats 1600000 in
theorem missing_set {g : CG} {pp base : Nat} {w : World} {s : Adz.Ps} (h : Par g pp base w s) (x : Adz.Lab) (hl0 : s.labs = [x]) (hx : x.set ≠ -1) :
    Calls Tryz.prog 79 #[.pointer (some ⟨pp, 0, none⟩)] w fun e w' => e = .returned (.pointer none) ∧ Only (fun _ => False) w w' := by
  obtain ⟨lb, l0, l1, l2⟩ := h.lab
  rw [hl0] at l2
  have hl : LabAt w lb [x] := l2
  have hrg : (Instr.range 117 (.map (some lb))).run Tryz.prog w = .ok (.pointer (some ⟨w.heap.size, 0, none⟩)) (w.alloc (.mapIter (some lb) 1 #[] 1)) := by
    rw [run_range_map w _ _ _ lb (labEntries 0 [x]).toArray 1 Tryz.underlying117 l2]
  have bx : (x.set == -1) = false := by simpa using hx
  have oa : Only (fun _ => False) w (w.alloc (.mapIter (some lb) 1 #[] 1)) := (Only.refl _ w).alloc _
  have hit : (w.alloc (.mapIter (some lb) 1 #[] 1)).heap[w.heap.size]? = some (.mapIter (some lb) 1 #[] 1) := heap_alloc_new w _
  have hl1 : LabAt (w.alloc (.mapIter (some lb) 1 #[] 1)) lb [x] := map_keeps hl oa id
  go_enter Tryz.func79, Tryz.ntmps79
  go_wp2_with fail
  obtain ⟨ib, hib⟩ : ∃ ib, w.heap.size = ib := ⟨_, rfl⟩
  rw [hib] at hit ⊢
  have hnl : lb ≠ ib := fun e => by
    have := (Array.getElem?_eq_some_iff.1 l2).1
    omega
  generalize w.alloc (.mapIter (some lb) 1 #[] 1) = wI at *
  clear hrg
  go_loopg [3] 1 (fun k v wr => v = .int .i64 (-1) ∧ ((k = 1 ∧ Hid (wr.heap[ib]? = some (.mapIter (some lb) 1 #[] 1))) ∨ (k = 0 ∧ Hid (wr.heap[ib]? = some (.mapIter (some lb) 1 #[0] 1)))) ∧ Hid (LabAt wr lb [x] ∧ Only (fun _ => False) w wr))
  case atStart => exact ⟨rfl, Or.inl ⟨rfl, hit⟩, ⟨hl1, oa⟩⟩
  case round =>
    obtain ⟨rfl, hk, H⟩ := hrel
    rcases hk with ⟨rfl, hI⟩ | ⟨rfl, hI⟩
    · obtain ⟨F, hF⟩ := next_first wr ib lb x hI.out H.out.1
      have hnx := fun ty => (hF ty).1
      have HF : Hid (∀ ty, (F ty).heap[ib]? = some (.mapIter (some lb) 1 #[0] 1) ∧ Only (· = ib) wr (F ty)) := fun ty => (hF ty).2
      have hen := fun ty => entry_run (F ty) ib lb x (hF ty).2.1 (map_keeps H.out.1 (hF ty).2.2 hnl)
      clear hF hit hl1 oa
      go_wp2
      go_roundg 0
      case measure => omega
      case rel =>
        refine ⟨rfl, Or.inr ⟨rfl, ?_⟩, ?_⟩
        · have h1 := (HF.out 0).1
          exact (Below.heap_alloc _ _ _ (Array.getElem?_eq_some_iff.1 h1).1).trans h1
        · have o1 : Only (· = ib) wr ((F 0).alloc (.cells #[.int .i64 x.set, .int .i64 x.asked] 176)) := (HF.out 0).2.alloc _
          exact ⟨map_keeps H.out.1 o1 hnl, H.out.2.trans o1 (fun _ e => e) (fun b hb e => by omega)⟩
    · have hnx := fun ty => next_last wr ib lb x hI.out H.out.1 ty
      go_wp2
      go_ret
      exact ⟨rfl, H.out.2⟩
end Go.Proofs.YtbiobhghnldckaaGreatDoor
