/- Proved: what the reader of patterns makes, item by item, where all may stand: its functions. Conditions: the reader lies in memory as 'Rdr' says. -/
import Derived.Test.YtbiobhghnldckaaGreatDoorRdr
import Derived.Test.YtbiobhghnldckaaGreatDoorMemJ
namespace Go.Proofs.YtbiobhghnldckaaGreatDoor
open Go.RowKit
set_option linter.unusedVariables false
attribute [local go_sem ↓] Go.wp_at_zero Go.wp_at_succ

/-- 'ended' where no '$' is the last. -/
theorem ended_calls {g : CG} {rd base : Nat} {w : World} {s : Adz.Rd} (h : Rdr g rd base w s) (he : Adz.ended s.items = false) :
    Calls Tryz.prog 208 #[.pointer (some ⟨rd, 0, none⟩)] w fun e w' => e = .returned (.bool false) ∧ ∃ n, w' = w.drewN n := by
  obtain ⟨iv, svs, i1, i2, i3⟩ := h.it
  have hsm := h.cur.small
  have hle := h.cur.le
  have hil := h.small
  by_cases hz : s.items.length = 0
  · have h1 : ∃ a c, w.cell? ⟨rd, 1, none⟩ = some (.slice a 0 c) := by
      rcases i2.2 with ⟨rfl, h0⟩ | ⟨gb, cap, cur, rfl, _⟩
      · exact ⟨none, 0, i1⟩
      · exact ⟨_, cap, by rw [i1, hz]⟩
    obtain ⟨a, c, h1⟩ := h1
    clear h i1 i2 i3
    go_enter Tryz.func208, Tryz.ntmps208
    go_wp2_with fail
    go_quiet (fail)
    go_wp2
    go_ret
    exact ⟨rfl, _, rfl⟩
  · obtain ⟨m, hm⟩ : ∃ m, s.items.length = m + 1 := ⟨s.items.length - 1, by omega⟩
    rw [hm] at i2
    have hlt : m < s.items.length := by omega
    obtain ⟨v, _, hc⟩ := itemsCells_get i3 m hlt
    have hk : s.items[m].kind ≠ 1 := by
      intro e
      unfold Adz.ended at he
      rw [List.getLast?_eq_getElem?, hm] at he
      simp [hlt, e] at he
    obtain ⟨gb, cap, rfl⟩ : ∃ gb cap, iv = .slice (some ⟨gb, 0, none⟩) (m + 1) cap := by
      rcases i2.2 with ⟨_, h0⟩ | ⟨gb, cap, cur, rfl, _⟩
      · omega
      · exact ⟨gb, cap, rfl⟩
    have hcell : w.cell? ⟨gb, m * 4, none⟩ = some (.int .i64 s.items[m].kind) := by
      rw [i2.cellAt (m * 4) (by omega)]
      have := hc 0 (by omega)
      simpa [itemCells] using this
    have hb : ((s.items[m].kind : Int) == 1) = false := by simpa using hk
    have hd : decide ((0 : Int) < (m : Int) + 1) = true := decide_eq_true (by omega)
    have hm5 : m ≤ 500 := by omega
    have hw : IntKind.i64.wrap ((m : Int) + 1 - 1) = (m : Int) := by rw [IntKind.wrap_i64]; omega
    generalize s.items[m].kind = kd at *
    clear h i2 i3 hc he hil
    go_enter Tryz.func208, Tryz.ntmps208
    go_wp2_with fail
    go_quiet (fail)
    go_wp2
    go_ret
    exact ⟨rfl, _, rfl⟩

theorem asc_escapable : Asc ⟨#[92, 46, 91, 93, 40, 41, 42, 43, 63, 94, 36, 47, 45]⟩ Adz.escapable := ⟨by decide, by decide, by decide⟩
theorem asc_notAPiece : Asc ⟨#[92, 46, 91, 40, 41, 42, 43, 63, 94, 36, 47]⟩ Adz.notAPiece := ⟨by decide, by decide, by decide⟩

theorem character_ok (g : CG) (rd : Nat) (w : World) (i : Nat) (st : ByteArray) (but : List Int) (hs : Asc st but) (h : Cur g w i) (r0 : w.cell? ⟨rd, 0, none⟩ = some (.pointer (some ⟨g.c, 0, none⟩))) (hne : rd ≠ g.c)
    (r : Int) (i' : Nat) (hr : Adz.character g.L g.pl but i = .ok (r, i')) :
    Calls Tryz.prog 232 #[.pointer (some ⟨rd, 0, none⟩), .string st] w fun e w' => e = .returned (.tuple #[.int .i32 r, .pointer none]) ∧ Cur g w' i' ∧ Only (· = g.c) w w' := by
  unfold Adz.character at hr
  by_cases hb : Adz.peek g.L i = 92
  · simp [hb] at hr
    go_enter Tryz.func232, Tryz.ntmps232
    go_wp2_with fail
    refine (take_yes g w i 92 h hb (by omega)).mono ?_
    rintro e w1 ⟨rfl, hc, ho⟩
    have r1 := ho.keeps r0 hne
    go_wp2_with fail
    refine (escaped_ok g w1 (i + 1) _ _ asc_escapable hc r i' hr).mono ?_
    rintro e w2 ⟨rfl, hc2, ho2⟩
    go_wp2
    go_ret2
    exact ⟨rfl, hc2, ho.trans ho2 (fun _ e => e) (fun _ _ e => e)⟩
  · have hbf : (Adz.peek g.L i == 92) = false := by simp [hb]
    rw [hbf] at hr
    simp only [Bool.false_eq_true, if_false] at hr
    clear hbf
    go_enter Tryz.func232, Tryz.ntmps232
    go_wp2_with fail
    refine (take_no g w i 92 h hb).mono ?_
    rintro e w1 ⟨rfl, n, rfl⟩
    go_wp2_with fail
    refine (plain_ok g _ i _ _ hs (h.drewN _) r i' hr).mono ?_
    rintro e w2 ⟨rfl, hc2, ho2⟩
    go_wp2
    go_ret2
    exact ⟨rfl, hc2, ((Only.refl _ w).drewN _).trans ho2 (fun _ e => e) (fun _ _ e => e)⟩

theorem times_calls (g : CG) (rd : Nat) (w : World) (i : Nat) (h : Cur g w i) (r0 : w.cell? ⟨rd, 0, none⟩ = some (.pointer (some ⟨g.c, 0, none⟩))) (hne : rd ≠ g.c) :
    Calls Tryz.prog 226 #[.pointer (some ⟨rd, 0, none⟩)] w fun e w' => e = .returned (.int .i64 (Adz.times g.L i).1) ∧ Cur g w' (Adz.times g.L i).2 ∧ Only (· = g.c) w w' := by
  unfold Adz.times
  by_cases h1 : Adz.peek g.L i = 42
  · simp only [h1, beq_self_eq_true, if_true]
    go_enter Tryz.func226, Tryz.ntmps226
    go_wp2_with fail
    refine (take_yes g w i 42 h h1 (by omega)).mono ?_
    rintro e w1 ⟨rfl, hc, ho⟩
    go_wp2
    go_ret
    exact ⟨rfl, hc, ho⟩
  · have b1 : (Adz.peek g.L i == 42) = false := by simp [h1]
    by_cases h2 : Adz.peek g.L i = 43
    · simp only [h2, beq_self_eq_true, if_true, show ((43 : Int) == 42) = false from rfl, Bool.false_eq_true, if_false]
      clear b1
      go_enter Tryz.func226, Tryz.ntmps226
      go_wp2_with fail
      refine (take_no g w i 42 h h1).mono ?_
      rintro e w1 ⟨rfl, n, rfl⟩
      go_wp2_with fail
      refine (take_yes g _ i 43 (h.drewN _) h2 (by omega)).mono ?_
      rintro e w1 ⟨rfl, hc, ho⟩
      go_wp2
      go_ret
      exact ⟨rfl, hc, ((Only.refl _ w).drewN _).trans ho (fun _ e => e) (fun _ _ e => e)⟩
    · have b2 : (Adz.peek g.L i == 43) = false := by simp [h2]
      by_cases h3 : Adz.peek g.L i = 63
      · simp only [h3, beq_self_eq_true, if_true, show ((63 : Int) == 42) = false from rfl, show ((63 : Int) == 43) = false from rfl, Bool.false_eq_true, if_false]
        clear b1 b2
        go_enter Tryz.func226, Tryz.ntmps226
        go_wp2_with fail
        refine (take_no g w i 42 h h1).mono ?_
        rintro e w1 ⟨rfl, n, rfl⟩
        go_wp2_with fail
        refine (take_no g _ i 43 (h.drewN _) h2).mono ?_
        rintro e w1 ⟨rfl, n, rfl⟩
        go_wp2_with fail
        refine (take_yes g _ i 63 (h.drewN _) h3 (by omega)).mono ?_
        rintro e w1 ⟨rfl, hc, ho⟩
        go_wp2
        go_ret
        exact ⟨rfl, hc, ((Only.refl _ w).drewN _).trans ho (fun _ e => e) (fun _ _ e => e)⟩
      · have b3 : (Adz.peek g.L i == 63) = false := by simp [h3]
        simp only [b1, b2, b3, Bool.false_eq_true, if_false]
        clear b1 b2 b3
        go_enter Tryz.func226, Tryz.ntmps226
        go_wp2_with fail
        refine (take_no g w i 42 h h1).mono ?_
        rintro e w1 ⟨rfl, n, rfl⟩
        go_wp2_with fail
        refine (take_no g _ i 43 (h.drewN _) h2).mono ?_
        rintro e w1 ⟨rfl, n, rfl⟩
        go_wp2_with fail
        refine (take_no g _ i 63 (h.drewN _) h3).mono ?_
        rintro e w1 ⟨rfl, n, rfl⟩
        go_wp2
        go_ret
        exact ⟨rfl, h.drewN _, (Only.refl _ w).drewN _⟩
end Go.Proofs.YtbiobhghnldckaaGreatDoor

/- Proved: a piece of a pattern is read, where it may stand. Conditions: the reader lies in memory as 'Rdr' says. -/
namespace Go.Proofs.YtbiobhghnldckaaGreatDoor
open Go.RowKit
set_option linter.unusedVariables false
attribute [local go_sem ↓] Go.wp_at_zero Go.wp_at_succ

set_option maxHeartbeats 800000 in
theorem single_ok (g : CG) (rd : Nat) (w : World) (i : Nat) (h : Cur g w i) (r0 : w.cell? ⟨rd, 0, none⟩ = some (.pointer (some ⟨g.c, 0, none⟩))) (hne : rd ≠ g.c)
    (x : Adz.Item) (i' : Nat) (hr : Adz.single g.L g.pl i = .ok (x, i')) :
    Calls Tryz.prog 225 #[.pointer (some ⟨rd, 0, none⟩)] w fun e w' => ∃ sa sc, e = .returned (.tuple #[.agg #[.int .i64 x.kind, .int .i64 x.group, .slice sa x.spans.length sc, .int .i64 x.times], .pointer none]) ∧
      SpansAt w' (.slice sa x.spans.length sc) x.spans ∧ Cur g w' i' ∧ Only (· = g.c) w w' := by
  unfold Adz.single at hr
  have hcl := h.lt
  have lr := World.block_lt_of_cell? w _ r0
  have hnew : w.heap.size ≠ g.c := by omega
  by_cases h1 : Adz.peek g.L i = 46
  · simp [h1] at hr
    obtain ⟨rfl, rfl⟩ := hr
    go_enter Tryz.func225, Tryz.ntmps225
    go_wp2_with fail
    refine (peek_calls g _ i (h.alloc _)).mono ?_
    rintro e w1 ⟨rfl, n, rfl⟩
    rw [h1]
    go_wp2_with fail
    refine (next_calls g _ i ((h.alloc _).drewN _) (Adz.lt_of_peek (by omega))).mono ?_
    rintro e w1 ⟨rfl, hc, ho⟩
    have hk : Cells w1 w.heap.size [.int .i64 0, .int .i64 0, .slice none 0 0, .int .i64 0] := ((Cells.new w _ _).drewN n).keeps ho hnew
    have k0 := hk 0 _ rfl
    have k1 := hk 1 _ rfl
    have k2 := hk 2 _ rfl
    have k3 := hk 3 _ rfl
    clear hk
    go_wp2
    have o4 := set4_only w1 w.heap.size (.int .i64 4) (.int .i64 0) (.slice none 0 0) (.int .i64 0)
    refine bodyPost_ret (v := .tuple #[.agg #[.int .i64 4, .int .i64 0, .slice none 0 0, .int .i64 0], .pointer none]) (by simp [results, Tryz.results225, go_sem, k0, k1, k2, k3]) rfl ⟨none, 0, rfl, spansAt_nil _, ?_, ?_⟩
    · exact hc.keeps o4 (Ne.symm hnew) (fun hn e => by have := (h.tr hn).lt; omega) (fun e => by have := h.tp.lt; omega)
    · exact (((Only.refl (· = g.c) w).alloc _).drewN n |>.trans ho (fun _ e => e) (fun _ _ e => e)).trans o4 (fun _ e => e) (fun x hx e => by omega)
  · have b1 : (Adz.peek g.L i == 46) = false := by simp [h1]
    rw [b1] at hr
    by_cases h2 : Adz.peek g.L i = 91
    · simp [h2, Adz.setOf] at hr
    · have b2 : (Adz.peek g.L i == 91) = false := by simp [h2]
      rw [b2] at hr
      simp only [Bool.false_eq_true, if_false] at hr
      cases hch : Adz.character g.L g.pl Adz.notAPiece i with
      | error f => rw [hch] at hr; cases hr
      | ok q =>
        obtain ⟨c, i1⟩ := q
        rw [hch] at hr
        simp only [Except.ok.injEq, Prod.mk.injEq] at hr
        obtain ⟨rfl, rfl⟩ := hr
        have HB : Hid ((Adz.peek g.L i == 46) = false ∧ (Adz.peek g.L i == 91) = false) := ⟨b1, b2⟩
        have HC : Hid (Adz.character g.L g.pl Adz.notAPiece i = .ok (c, i1)) := hch
        clear hch
        go_enter Tryz.func225, Tryz.ntmps225
        go_wp2_with fail
        refine (peek_calls g _ i (h.alloc _)).mono ?_
        rintro e w1 ⟨rfl, n, rfl⟩
        go_wp2_with fail
        refine (character_ok g rd _ i _ _ asc_notAPiece ((h.alloc _).drewN _) ?_ hne c i1 HC.out).mono ?_
        · simp [World.cell?_alloc_past _ _ _ lr, r0]
        rintro e w1 ⟨rfl, hc, ho⟩
        have hk : Cells w1 w.heap.size [.int .i64 0, .int .i64 0, .slice none 0 0, .int .i64 0] := ((Cells.new w _ _).drewN n).keeps ho hnew
        have k0 := hk 0 _ rfl
        have k1 := hk 1 _ rfl
        have k2 := hk 2 _ rfl
        have k3 := hk 3 _ rfl
        clear hk
        have hlt : w.heap.size < w1.heap.size := by have := ho.size; simp at this; omega
        go_wp2
        have o4 := set4_only w1 w.heap.size (.int .i64 5) (.int .i64 0) (.slice (some ⟨w1.heap.size, 0, none⟩) 1 1) (.int .i64 0)
        have hs4 := set4_size w1 w.heap.size (.int .i64 5) (.int .i64 0) (.slice (some ⟨w1.heap.size, 0, none⟩) 1 1) (.int .i64 0)
        refine bodyPost_ret (v := .tuple #[.agg #[.int .i64 5, .int .i64 0, .slice (some ⟨w1.heap.size, 0, none⟩) 1 1, .int .i64 0], .pointer none]) (by simp [results, Tryz.results225, go_sem, k0, k1, k2, k3, hlt]) rfl ?_
        change ∃ sa sc, _ ∧ SpansAt ((set4 w1 w.heap.size (.int .i64 5) (.int .i64 0) (.slice (some ⟨w1.heap.size, 0, none⟩) 1 1) (.int .i64 0)).alloc (.cells #[.int .i32 c, .int .i32 c] 284)) _ _ ∧ Cur g ((set4 w1 w.heap.size (.int .i64 5) (.int .i64 0) (.slice (some ⟨w1.heap.size, 0, none⟩) 1 1) (.int .i64 0)).alloc (.cells #[.int .i32 c, .int .i32 c] 284)) _ ∧ Only (· = g.c) w ((set4 w1 w.heap.size (.int .i64 5) (.int .i64 0) (.slice (some ⟨w1.heap.size, 0, none⟩) 1 1) (.int .i64 0)).alloc (.cells #[.int .i32 c, .int .i32 c] 284))
        generalize set4 w1 w.heap.size (.int .i64 5) (.int .i64 0) (.slice (some ⟨w1.heap.size, 0, none⟩) 1 1) (.int .i64 0) = w4 at *
        refine ⟨_, 1, rfl, ⟨_, 1, rfl, fun _ => ⟨w1.heap.size, rfl, ?_, ?_⟩⟩, ?_, ?_⟩
        · rw [← hs4]; exact Typ.new w4 _ _ _
        · intro j hj
          have hj0 : j = 0 := by simpa using hj
          subst hj0
          rw [← hs4]
          exact ⟨(Cells.new w4 #[.int .i32 c, .int .i32 c] 284).at 0 _ rfl, (Cells.new w4 #[.int .i32 c, .int .i32 c] 284).at 1 _ rfl⟩
        · exact (hc.keeps o4 (Ne.symm hnew) (fun hn e => by have := (h.tr hn).lt; omega) (fun e => by have := h.tp.lt; omega)).alloc _
        · exact ((((Only.refl (· = g.c) w).alloc _).drewN n |>.trans ho (fun _ e => e) (fun _ _ e => e)).trans o4 (fun _ e => e) (fun x hx e => by omega)).alloc _
end Go.Proofs.YtbiobhghnldckaaGreatDoor
