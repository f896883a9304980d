/- Proved: a group is closed; any item is read, where it may stand. Conditions: the reader lies in memory as 'Rdr' says. -/
import Derived.Test.YtbiobhghnldckaaGreatDoorRdr4J
namespace Go.Proofs.YtbiobhghnldckaaGreatDoor
open Go.RowKit
set_option linter.unusedVariables false
attribute [local go_sem ↓] Go.wp_at_zero Go.wp_at_succ

set_option maxRecDepth 100000 in
set_option maxHeartbeats 800000 in
theorem closeGroup_ok {g : CG} {rd base : Nat} {w : World} {s : Adz.Rd} (h : Rdr g rd base w s) (gl : Int) (os : List Int) (h0 : s.opens = os ++ [gl]) (hp : s.i < g.L.length) :
    Calls Tryz.prog 212 #[.pointer (some ⟨rd, 0, none⟩)] w fun e w' => e = .returned (.pointer none) ∧
      Rdr g rd base w' { s with i := s.i + 1, items := s.items ++ [⟨3, gl, [], 0⟩], opens := os } ∧ Only (SR g base) w w' := by
  have r0 := h.r0
  have hsm := h.small
  have hon := h.opens
  have hcs := h.cur.small
  have hcl := h.cur.le
  obtain ⟨ov, o1, o2⟩ := h.op
  rw [h0] at o2 hon
  simp only [List.length_append, List.length_singleton, List.map_append, List.map_cons, List.map_nil] at o2 hon
  have hm5 : os.length ≤ 500 := by omega
  obtain ⟨ob, cap, rfl⟩ : ∃ ob cap, ov = .slice (some ⟨ob, 0, none⟩) (os.length + 1) cap := by
    rcases o2.2 with ⟨_, h0⟩ | ⟨gb, cap, cur, rfl, _⟩
    · omega
    · exact ⟨gb, cap, rfl⟩
  have hb : (((os.length : Int) + 1) == 0) = false := by simp; omega
  go_enter Tryz.func212, Tryz.ntmps212
  go_wp2_with fail
  refine (next_calls g w s.i h.cur hp).mono ?_
  rintro e w1 ⟨rfl, hc, ho⟩
  have h1 := h.moved hc ho (by omega)
  have r10 := h1.r0
  have o1' := ho.keeps o1 h.ne
  have o2' := row_keeps o2 ho (fun b hb e => (Typ.of_row o2 hb).ne h.cur.tc (by decide) e)
  have hcap : os.length + 1 ≤ cap := by
    rcases o2'.2 with ⟨q, _⟩ | ⟨gb, cap', cur, q, _, _, hn, _⟩
    · cases q
    · cases q; exact hn
  have hlast : w1.cell? ⟨ob, os.length, none⟩ = some (.int .i64 gl) := by
    rw [o2'.cellAt os.length (by omega)]
    simp
  go_wp2_with fail
  refine (h1.add0 3 gl (by simp; omega)).mono ?_
  rintro e w2 ⟨rfl, h2, oo2⟩
  obtain ⟨ov2, p1, p2⟩ := h2.op
  simp only [h0, List.length_append, List.length_singleton, List.map_append, List.map_cons, List.map_nil] at p2
  obtain ⟨ob2, cap2, hv2⟩ : ∃ ob cap, ov2 = .slice (some ⟨ob, 0, none⟩) (os.length + 1) cap := by
    rcases p2.2 with ⟨_, h0⟩ | ⟨gb, cap, cur, q, _⟩
    · omega
    · exact ⟨gb, cap, q⟩
  rw [hv2] at p1 p2
  have hcap2 : os.length + 1 ≤ cap2 := by
    rcases p2.2 with ⟨q, _⟩ | ⟨gb, cap', cur, q, _, _, hn, _⟩
    · cases q
    · cases q; exact hn
  have p3 := ownsRow_pop (by simp) p2
  have f3 := h2.f3
  have fld := Field.setCell w2 rd 3 (.slice (some ⟨ob2, 0, none⟩) os.length cap2)
  have o3 : Only (· = rd) w2 (w2.setCell ⟨rd, 3, none⟩ (.slice (some ⟨ob2, 0, none⟩) os.length cap2)) := Only.setCell (S := (· = rd)) (p := ⟨rd, 3, none⟩) (Only.refl _ w2) (fun _ => rfl) _
  obtain ⟨h3, oo3⟩ := h2.setOpens os p1 (World.cell?_setCell_same _ _ _ p1) (by simpa using row_keeps p3 o3 (fun b hb e => (Typ.of_row p3 hb).ne h2.trd (by decide) e)) (o3.mono (fun _ _ e => Or.inl e)) fld (by simp; omega)
  clear o1 o2 o1' o2' hlast
  go_wp2
  go_ret
  exact ⟨rfl, h3, SR_trans (SR_trans (SR_c ho) oo2) oo3⟩

/-- Any item, where it may stand. -/
theorem item_ok {g : CG} {rd base : Nat} {w : World} {s s' : Adz.Rd} (h : Rdr g rd base w s) (hr : Adz.item g.L g.pl s = .ok s') :
    Calls Tryz.prog 195 #[.pointer (some ⟨rd, 0, none⟩)] w fun e w' => e = .returned (.pointer none) ∧ Rdr g rd base w' s' ∧ Only (SR g base) w w' := by
  have r0 := h.r0
  unfold Adz.item at hr
  by_cases he : Adz.ended s.items = true
  · simp [he] at hr
  · have he' : Adz.ended s.items = false := by simpa using he
    simp only [he', Bool.false_eq_true, if_false] at hr
    have HE : Hid (Adz.ended s.items = false) := he'
    clear he he'
    by_cases c1 : Adz.peek g.L s.i = 94
    · simp only [c1, beq_self_eq_true, if_true] at hr
      by_cases hi : s.items = []
      · simp only [hi, List.isEmpty_nil, if_true, Except.ok.injEq] at hr
        have hp : s.i < g.L.length := Adz.lt_of_peek (by omega)
        go_enter Tryz.func195, Tryz.ntmps195
        go_wp2_with fail
        refine (ended_calls h HE.out).mono ?_
        rintro e w1 ⟨rfl, n, rfl⟩
        go_wp2_with fail
        refine (peek_calls g _ s.i (h.cur.drewN _)).mono ?_
        rintro e w1 ⟨rfl, n2, rfl⟩
        rw [c1]
        go_wp2_with fail
        refine (begin_ok (h.drewN _) hi hp).mono ?_
        rintro e w2 ⟨rfl, h2, o2⟩
        rw [hi] at h2
        rw [hr] at h2
        go_wp2
        go_ret
        exact ⟨rfl, h2, SR_trans ((Only.refl _ w).drewN _) o2⟩
      · simp [hi] at hr
    · have b1 : (Adz.peek g.L s.i == 94) = false := by simpa using c1
      by_cases c2 : Adz.peek g.L s.i = 36
      · simp only [c2, beq_self_eq_true, if_true, show ((36 : Int) == 94) = false from rfl, Bool.false_eq_true, if_false, Except.ok.injEq] at hr
        have hp : s.i < g.L.length := Adz.lt_of_peek (by omega)
        have hsm := h.small
        clear b1
        go_enter Tryz.func195, Tryz.ntmps195
        go_wp2_with fail
        refine (ended_calls h HE.out).mono ?_
        rintro e w1 ⟨rfl, n, rfl⟩
        go_wp2_with fail
        refine (peek_calls g _ s.i (h.cur.drewN _)).mono ?_
        rintro e w1 ⟨rfl, n2, rfl⟩
        rw [c2]
        go_wp2_with fail
        refine (next_calls g _ s.i (h.cur.drewN _) hp).mono ?_
        rintro e w2 ⟨rfl, hc, ho⟩
        have h2 := (h.drewN (n + n2)).moved hc ho (by omega)
        have r2 := h2.r0
        go_wp2_with fail
        refine (h2.add0 1 0 (by simp; omega)).mono ?_
        rintro e w3 ⟨rfl, h3, o3⟩
        go_wp2
        go_ret
        exact ⟨rfl, hr ▸ h3, SR_trans (((Only.refl (SR g base) w).drewN _).trans (SR_c ho) (fun _ e => e) (fun _ _ e => e)) o3⟩
      · have b2 : (Adz.peek g.L s.i == 36) = false := by simpa using c2
        by_cases c3 : Adz.peek g.L s.i = 40
        · simp only [c3, beq_self_eq_true, if_true, show ((40 : Int) == 94) = false from rfl, show ((40 : Int) == 36) = false from rfl, Bool.false_eq_true, if_false] at hr
          by_cases h9 : s.groups = 9
          · simp [h9] at hr
          · have b9 : (s.groups == 9) = false := by simpa using h9
            simp only [b9, Bool.false_eq_true, if_false, Except.ok.injEq] at hr
            have hp : s.i < g.L.length := Adz.lt_of_peek (by omega)
            clear b1 b2 b9
            go_enter Tryz.func195, Tryz.ntmps195
            go_wp2_with fail
            refine (ended_calls h HE.out).mono ?_
            rintro e w1 ⟨rfl, n, rfl⟩
            go_wp2_with fail
            refine (peek_calls g _ s.i (h.cur.drewN _)).mono ?_
            rintro e w1 ⟨rfl, n2, rfl⟩
            rw [c3]
            go_wp2_with fail
            refine (openGroup_ok (h.drewN _) h9 hp).mono ?_
            rintro e w2 ⟨rfl, h2, o2⟩
            go_wp2
            go_ret
            exact ⟨rfl, hr ▸ h2, SR_trans ((Only.refl _ w).drewN _) o2⟩
        · have b3 : (Adz.peek g.L s.i == 40) = false := by simpa using c3
          by_cases c4 : Adz.peek g.L s.i = 41
          · simp only [c4, beq_self_eq_true, if_true, show ((41 : Int) == 94) = false from rfl, show ((41 : Int) == 36) = false from rfl, show ((41 : Int) == 40) = false from rfl, Bool.false_eq_true, if_false] at hr
            cases hl : s.opens.getLast? with
            | none => rw [hl] at hr; cases hr
            | some gl =>
              rw [hl] at hr
              simp only [Except.ok.injEq] at hr
              have h0 : s.opens = s.opens.dropLast ++ [gl] := by
                obtain ⟨ys, hy⟩ := List.getLast?_eq_some_iff.1 hl
                rw [hy]
                simp
              have H0 : Hid (s.opens = s.opens.dropLast ++ [gl]) := h0
              have hp : s.i < g.L.length := Adz.lt_of_peek (by omega)
              clear b1 b2 b3 h0 hl
              go_enter Tryz.func195, Tryz.ntmps195
              go_wp2_with fail
              refine (ended_calls h HE.out).mono ?_
              rintro e w1 ⟨rfl, n, rfl⟩
              go_wp2_with fail
              refine (peek_calls g _ s.i (h.cur.drewN _)).mono ?_
              rintro e w1 ⟨rfl, n2, rfl⟩
              rw [c4]
              go_wp2_with fail
              refine (closeGroup_ok (h.drewN _) gl s.opens.dropLast H0.out hp).mono ?_
              rintro e w2 ⟨rfl, h2, o2⟩
              go_wp2
              go_ret
              exact ⟨rfl, hr ▸ h2, SR_trans ((Only.refl _ w).drewN _) o2⟩
          · have b4 : (Adz.peek g.L s.i == 41) = false := by simpa using c4
            simp only [b1, b2, b3, b4, Bool.false_eq_true, if_false] at hr
            cases hs : Adz.single g.L g.pl s.i with
            | error f => rw [hs] at hr; cases hr
            | ok q =>
              obtain ⟨x, i1⟩ := q
              rw [hs] at hr
              simp only [Except.ok.injEq] at hr
              have HS : Hid (Adz.single g.L g.pl s.i = .ok (x, i1)) := hs
              clear hs
              go_enter Tryz.func195, Tryz.ntmps195
              go_wp2_with fail
              refine (ended_calls h HE.out).mono ?_
              rintro e w1 ⟨rfl, n, rfl⟩
              go_wp2_with fail
              refine (peek_calls g _ s.i (h.cur.drewN _)).mono ?_
              rintro e w1 ⟨rfl, n2, rfl⟩
              go_wp2_with fail
              refine (piece_ok (h.drewN _) x i1 HS.out).mono ?_
              rintro e w2 ⟨rfl, h2, o2⟩
              go_wp2
              go_ret
              exact ⟨rfl, hr ▸ h2, SR_trans ((Only.refl _ w).drewN _) o2⟩
end Go.Proofs.YtbiobhghnldckaaGreatDoor
