/- Proved: a text of one line is parted; what was put out is told. Conditions: as told in each theorem. -/
import Derived.Test.YtbiobhghnldckaaGreatDoorEd5
import Derived.Test.YtbiobhghnldckaaGreatDoorValJ
namespace Go.Proofs.YtbiobhghnldckaaGreatDoor
open Go.RowKit
set_option linter.unusedVariables false

/-- What the library's variables hold, as far as it is asked. -/
structure Tabs (w : World) : Prop where
  f : w.cell? ⟨0, 195, none⟩ = some (.int .u8 2)
  r0 : w.cell? ⟨1, 0, none⟩ = some (.int .u8 128)
  r1 : w.cell? ⟨1, 1, none⟩ = some (.int .u8 191)
  m : ∃ m, w.cell? ⟨2, 0, none⟩ = some (.int .i64 m)
/-- A run turns nothing of what was there. -/
theorem Tabs.keeps {w w' : World} (h : Tabs w) (o : Only (fun _ => False) w w') : Tabs w' := by
  obtain ⟨m, hm⟩ := h.m
  exact ⟨o.keeps h.f id, o.keeps h.r0 id, o.keeps h.r1 id, ⟨m, o.keeps hm id⟩⟩

def lineOf (s : ByteArray) : ByteArray := ⟨(Lib.trimSuffix s.data.toList [10]).toArray⟩
set_option maxRecDepth 100000 in
set_option maxHeartbeats 1600000 in
theorem split_one (s : ByteArray) (w : World) (ht : Tabs w) (h0 : 0 < s.size) (hs : s.size ≤ 3000) (hl : (lineOf s).size ≤ 3000) (h1 : Lib.countB (lineOf s) ⟨#[10]⟩ = 0) (h2 : Lib.splitB ⟨#[10]⟩ 0 0 (lineOf s) = [lineOf s]) :
    Calls Tryz.prog 43 #[.string s] w fun e w' => e = .returned (.slice (some ⟨w.heap.size, 0, none⟩) 1 1) ∧ w' = w.alloc (.cells #[.string (lineOf s)] 9) := by
  obtain ⟨m, hm⟩ := ht.m
  have hne : s.toList.isEmpty = false := by
    rw [Lib.toList_data]
    cases hd : s.data.toList with
    | nil => have : s.data.toList.length = s.size := Array.length_toList; rw [hd] at this; simp at this; omega
    | cons b t => rfl
  have c1 := Tryz.strings_TrimSuffix s ⟨#[10]⟩ w (by omega)
  have c2 := Tryz.strings_Split (lineOf s) ⟨#[10]⟩ m w (by omega) hm (by decide)
  rw [h1, h2] at c2
  have e1 : (⟨(Lib.trimSuffix s.data.toList (⟨#[10]⟩ : ByteArray).data.toList).toArray⟩ : ByteArray) = lineOf s := rfl
  rw [e1] at c1
  generalize lineOf s = ln at *
  go_enter Tryz.func43, Tryz.ntmps43
  go_wp2_with fail
  refine c1.mono ?_
  rintro e w1 ⟨rfl, rfl⟩
  go_wp2_with fail
  refine c2.mono ?_
  rintro e w2 ⟨rfl, rfl⟩
  go_wp2
  go_ret
  exact ⟨rfl, rfl⟩

set_option maxRecDepth 100000 in
set_option maxHeartbeats 1600000 in
theorem builderString_calls (eb : Nat) (w : World) (l : List Value) (out : List UInt8) (h : Ed w eb l out) :
    Calls Tryz.prog 47 #[.pointer (some ⟨eb, 13, none⟩)] w fun e w' => e = .returned (.string ⟨out.toArray⟩) ∧ Only (fun b => eb ≤ b) w w' := by
  obtain ⟨p, a, c, g1, g2, g3⟩ := h.cells
  have hl := h.len
  have c14 := (g1 14 _ (by rw [List.getElem?_set_self (by rw [List.length_set]; omega)])).1
  by_cases h0 : out = []
  · subst h0
    simp only [List.length_nil] at c14
    have c14d : w.drew.cell? ⟨eb, 14, none⟩ = some (.slice a 0 c) := c14
    have hSD : ∃ q wq, (Builtin.unsafeSliceData_ #[64] 142 #[.slice a 0 c]).run Tryz.prog w.drew = .ok (.pointer q) wq ∧ wq.cell? ⟨eb, 14, none⟩ = some (.slice a 0 c) ∧ Only (fun _ => False) w wq := by
      rcases g3.2 with ⟨e, _⟩ | ⟨g, cap, cur, hv, _, hg, hcap, _, hsz, _⟩
      · injection e with e1 e2 e3; subst e1; subst e3
        exact ⟨none, _, Lib.run_unsafeSliceData_nil _ _ _ _ _, c14d, (Only.refl _ w).drew⟩
      · injection hv with e1 e2 e3; subst e1; subst e3
        by_cases hc0 : c = 0
        · subst hc0
          have hg' : w.drew.heap[g]? = some (.cells cur 5 (0, 0)) := hg
          have := Lib.run_unsafeSliceData_zero (P := Tryz.prog) w.drew #[64] 142 5 Tryz.underlying142 ⟨g, 0, none⟩ 0 (5, cur.size) (by simp [World.shape?, hg'])
          have oq : Only (fun _ => False) w (w.drew.alloc (.view ⟨g, 0, none⟩ 5)) := ((Only.refl _ w).drew).alloc _
          exact ⟨_, _, this, oq.keeps c14 id, oq⟩
        · exact ⟨some ⟨g, 0, none⟩, _, Lib.run_unsafeSliceData_row _ _ _ _ _ _ hc0, c14d, (Only.refl _ w).drew⟩
    obtain ⟨q, wq, hq, c14q, oq⟩ := hSD
    have hUS := Lib.run_unsafeString_none (P := Tryz.prog) wq 142 3 9 q
    go_enter Tryz.func47, Tryz.ntmps47
    go_wp2_with fail
    go_region
    all_goals
      go_wp2
      go_ret
      exact ⟨rfl, oq.mono (fun _ _ e => e.elim)⟩
  · have hl0 : out.length ≠ 0 := by simpa using h0
    obtain ⟨g, cap, cur, hv, tg, hg, hnc, hcm, hcs, htake⟩ : ∃ g cap cur, Value.slice a out.length c = .slice (some ⟨g, 0, none⟩) out.length cap ∧ eb ≤ g ∧ w.heap[g]? = some (.cells cur 5 (0, 0)) ∧ out.length ≤ cap ∧ cap ≤ maxLen ∧ cur.size = cap * 1 ∧ cur.toList.take (out.length * 1) = Lib.byteCells out := by
      rcases g3.2 with ⟨_, hz⟩ | r
      · exact absurd hz hl0
      · exact r
    injection hv with e1 e2 e3
    subst e1; subst e3
    have c14d : w.drew.cell? ⟨eb, 14, none⟩ = some (.slice (some ⟨g, 0, none⟩) out.length c) := c14
    have hSD : (Builtin.unsafeSliceData_ #[64] 142 #[.slice (some ⟨g, 0, none⟩) out.length c]).run Tryz.prog w.drew = .ok (.pointer (some ⟨g, 0, none⟩)) w.drew :=
      Lib.run_unsafeSliceData_row _ _ _ _ _ _ (by omega)
    have hUS : (Builtin.unsafeString_ #[142, 3] 9 #[.pointer (some ⟨g, 0, none⟩), .int .i64 out.length]).run Tryz.prog w.drew = .ok (.string ⟨out.toArray⟩) (w.drew.freeze ⟨g, 0, none⟩ out.length) := by
      refine Lib.run_unsafeString_row w.drew 142 3 9 5 Tryz.underlying142 (by kernel_rfl) g cur.size (by have hg' : w.drew.heap[g]? = some (.cells cur 5 (0, 0)) := hg; simp [World.shape?, hg']) out h0 (by omega) (by unfold maxLen at hcm; omega) ?_
      intro j x hx
      exact g3.cells (g := g) rfl j (.int .u8 x.toNat) (by simp [Lib.byteCells, hx])
    have ofr : Only (· = g) w (w.drew.freeze ⟨g, 0, none⟩ out.length) := by
      unfold World.freeze
      rw [if_neg hl0]
      exact ⟨rfl, rfl, rfl, by simp, fun k hk hne => by
        simp only [Array.getElem?_modify]
        rw [if_neg (fun e => hne e.symm)]; rfl⟩
    go_enter Tryz.func47, Tryz.ntmps47
    go_wp2_with fail
    go_region
    all_goals
      go_wp2
      go_ret
      exact ⟨rfl, ofr.mono (fun b _ e => by subst e; exact tg)⟩
end Go.Proofs.YtbiobhghnldckaaGreatDoor
