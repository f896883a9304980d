/- Proved: what the small functions of the reader of patterns do. Conditions: the reader lies in memory as told. -/
import Derived.Test.YtbiobhghnldckaaGreatDoorSrcJ
import Derived.Deep.RegionHeld3
import Derived.Deep.AppendLies
import Derived.Deep.RegionLaw
import Derived.Deep.DrawnRows
namespace Go.Proofs.YtbiobhghnldckaaGreatDoor
open Go.RowKit
set_option linter.unusedVariables false
attribute [local go_sem ↓] Go.wp_at_zero Go.wp_at_succ

theorem infoItem : (Tryz.prog.info? 270).map (fun i => (i.zero, i.size, i.bytes)) = some (some (.agg #[.int .i64 0, .int .i64 0, .slice none 0 0, .int .i64 0]), 4, 48) := by kernel_rfl
theorem infoInt : (Tryz.prog.info? 3).map (fun i => (i.zero, i.size, i.bytes)) = some (some (.int .i64 0), 1, 8) := by kernel_rfl

set_option maxRecDepth 100000 in
set_option maxHeartbeats 800000 in
theorem add_calls (rd base : Nat) (iv : Value) (n : Nat) (xs : List Value) (k gr t : Int) (sa : Option Addr) (sl sc : Nat) (w : World)
    (h1 : w.cell? ⟨rd, 1, none⟩ = some iv) (f1 : w.frozen? ⟨rd, 1, none⟩ = false) (hown : w.ownsRow base 270 4 iv n xs) (hbase : base ≤ w.heap.size) (hn : n ≤ 1000) (hne : iv.ownBlock ≠ some rd) :
    Calls Tryz.prog 210 #[.pointer (some ⟨rd, 0, none⟩), .agg #[.int .i64 k, .int .i64 gr, .slice sa sl sc, .int .i64 t]] w fun e w' =>
      e = .returned (.tuple #[]) ∧ ∃ g cap, w'.cell? ⟨rd, 1, none⟩ = some (.slice (some ⟨g, 0, none⟩) (n + 1) cap) ∧ w'.ownsRow base 270 4 (.slice (some ⟨g, 0, none⟩) (n + 1) cap) (n + 1) (xs ++ [.int .i64 k, .int .i64 gr, .slice sa sl sc, .int .i64 t]) ∧
        Only (fun b => b = rd ∨ iv.ownBlock = some b) w w' ∧ Field rd 1 w w' := by
  obtain ⟨i0, hi0, hz0, hz1, hz2⟩ := info_parts infoItem
  have lr := World.block_lt_of_cell? w _ h1
  have hsize : w.heap.size ≠ rd := by simp at lr; omega
  have h1b : ∀ o1 o2 : Obj, ((w.alloc o1).alloc o2).cell? ⟨rd, 1, none⟩ = some iv := fun o1 o2 => by rw [World.cell?_alloc_past _ _ _ (by simp at lr ⊢; omega), World.cell?_alloc_past _ _ _ lr]; exact h1
  have f1a : ∀ o : Obj, (w.alloc o).frozen? ⟨rd, 1, none⟩ = false := fun o => by rw [World.frozen?_alloc_past _ _ _ lr]; exact f1
  have f1b : ∀ o1 o2 : Obj, ((w.alloc o1).alloc o2).frozen? ⟨rd, 1, none⟩ = false := fun o1 o2 => by rw [World.frozen?_alloc_past _ _ _ (by simp at lr ⊢; omega)]; exact f1a _
  have hblk : ∀ o1 o2 : Obj, ((w.alloc o1).alloc o2).heap[w.heap.size + 1]? = some o2 := fun o1 o2 => by
    have := heap_alloc_new (w.alloc o1) o2
    simpa using this
  have hnew : iv.ownBlock ≠ some w.heap.size := fun e => by have := (hown.lt _ e).2; omega
  go_enter Tryz.func210, Tryz.ntmps210
  go_wp2_with fail
  go_region_law
    ((refine step_append_lies _ (by rfl) _ _ _ (by rfl) base 270 i0 _ 4 48 Tryz.underlying158 hi0 hz0 hz1 hz2 rfl (by omega) iv n xs (by rfl) (((hown.alloc _).alloc _).drew)
        ⟨w.heap.size + 1, 0, none⟩ 1 1 [.int .i64 k, .int .i64 gr, .slice sa sl sc, .int .i64 t] (by rfl) (by rfl) (World.news_of_block (cs := #[.int .i64 k, .int .i64 gr, .slice sa sl sc, .int .i64 t]) (t := 270) (fr := (0, 0)) (hblk _ _)) (by simp [Value.oneCell'])
        (by omega) (by unfold maxLen; omega) (by omega) (by simp; omega) (w.heap.size + 2) (by simp) ?_; intro g cap w1 hown1 hgrow hat hlt; have kc := (hgrow.cell_far ⟨rd, 1, none⟩ (by simp; omega) (Ne.symm hne)).trans (h1b _ _); have kf := (hgrow.frozen_far ⟨rd, 1, none⟩ (by simp; omega) (Ne.symm hne)).trans (f1b _ _)))
  all_goals
    have hv : (Value.slice (some ⟨g, 0, none⟩) (n + 1) cap).ownBlock ≠ some rd := by
      rcases hat with h | h
      · intro e
        simp [Value.ownBlock] at e
        exact hne (by rw [h, e])
      · intro e
        simp [Value.ownBlock] at e
        omega
    obtain ⟨q1, q2, q3, q4⟩ := field_end ((((Only.refl _ w).alloc _).alloc _).drew) hgrow kc hown1 hv lr hne
    go_wp2
    go_end0
    exact ⟨rfl, g, cap, q1, q2, q3, q4⟩
end Go.Proofs.YtbiobhghnldckaaGreatDoor
