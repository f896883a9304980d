/- Proved: a block is opened and closed. Conditions: the parser lies in memory as 'Par' says. -/
import Derived.Test.YtbiobhghnldckaaGreatDoorLab5
namespace Go.Proofs.YtbiobhghnldckaaGreatDoor
open Go.RowKit
set_option linter.unusedVariables false
attribute [local go_sem ↓] Go.wp_at_zero Go.wp_at_succ

/-- The open blocks alone have turned. -/
theorem Par.opens' {g : CG} {pp base : Nat} {w w' : World} {s : Adz.Ps} (h : Par g pp base w s) {ov v' : Value} {os : List Int}
    (hown : w.ownsRow base 3 1 ov s.opens.length (s.opens.map (Value.int .i64)))
    (q1 : w'.cell? ⟨pp, 3, none⟩ = some v') (q2 : w'.ownsRow base 3 1 v' os.length (os.map (Value.int .i64))) (q3 : Only (fun b => b = pp ∨ ov.ownBlock = some b) w w') (q4 : Field pp 3 w w') :
    Par g pp base w' { s with opens := os } := by
  obtain ⟨mb, m1, m2⟩ := h.map
  obtain ⟨qv, xs, c1, c2, c3⟩ := h.cmds
  obtain ⟨lb, l0, l1, l2⟩ := h.lab
  have tp := h.lead.typ
  have key : ∀ {b : Nat} {T : TypeId}, Typ w b T → T ≠ 119 → T ≠ 3 → ¬ (b = pp ∨ ov.ownBlock = some b) := by
    rintro b T t n1 n2 (e | e)
    · exact t.ne tp n1 e
    · exact row_ne hown t n2 e
  have sp : Spares w (fun b => b = pp ∨ ov.ownBlock = some b) := ⟨fun b t => key t (by decide) (by decide), fun b t => key t (by decide) (by decide), fun b t => key t (by decide) (by decide), fun b t => key t (by decide) (by decide), fun b t => key t (by decide) (by decide)⟩
  have mk : ∀ {m : Nat} {es : Array MapEntry} {n : Nat}, w.heap[m]? = some (.map es n) → ¬ (m = pp ∨ ov.ownBlock = some m) := by
    rintro m es n hm (e | e)
    · exact map_ne tp hm e
    · exact map_ne (Typ.of_row hown e) hm rfl
  refine ⟨h.cur.keeps q3 (key h.cur.tc (by decide) (by decide)) (fun hn => key (h.cur.tr hn) (by decide) (by decide)) (by
      rintro (e | e)
      · exact h.cur.tp.ne tp (by decide) e
      · have := (hown.lt _ e).1
        have := h.pb
        omega), ⟨(q4.others 0 (by decide)).trans h.lead.at0, h.lead.ne, q4.typ _ tp⟩,
    ⟨mb, (q4.others 1 (by decide)).trans m1, map_keeps m2 q3 (mk m2)⟩, ⟨qv, xs, (q4.others 2 (by decide)).trans c1, row_keeps c2 q3 (fun b hb => key (Typ.of_row c2 hb) (by decide) (by decide)), c3.keeps q3 sp⟩, ⟨v', q1, q2⟩,
    ⟨lb, l0, (q4.others 4 (by decide)).trans l1, map_keeps l2 q3 (mk l2)⟩, (q4.frozen 2).trans h.f2, (q4.frozen 3).trans h.f3, Nat.le_trans h.bs q3.size, h.pb, h.few⟩

theorem row_cut {w : World} {B g c N M : Nat} {T : TypeId} {xs : List Value} (h : w.ownsRow B T 1 (.slice (some ⟨g, 0, none⟩) N c) N xs) (hM : M ≤ N) : w.ownsRow B T 1 (.slice (some ⟨g, 0, none⟩) M c) M (xs.take M) := by
  have hl := h.1
  rcases h.2 with ⟨e, h0⟩ | ⟨g', cap, cur, hv, hb, hg, hcap, hmx, hsz, htake⟩
  · cases e
  · injection hv with e1 e2 e3
    injection e1 with e1
    injection e1 with e1
    subst e1; subst e3
    refine ⟨by rw [List.length_take]; omega, Or.inr ⟨g, c, cur, rfl, hb, hg, by omega, hmx, hsz, ?_⟩⟩
    rw [← htake, List.take_take]
    congr 1
    omega
theorem rowPut14 {w : World} {B g c N : Nat} {T : TypeId} {xs : List Value} (h : w.ownsRow B T 14 (.slice (some ⟨g, 0, none⟩) N c) N xs) (j : Nat) (hj : j < N * 14) (r : Value) : (w.setCell ⟨g, j, none⟩ r).ownsRow B T 14 (.slice (some ⟨g, 0, none⟩) N c) N (xs.set j r) := by
  have hl := h.1
  rcases h.2 with ⟨e, h0⟩ | ⟨g', cap, cur, hv, hb, hg, hcap, hmx, hsz, htake⟩
  · cases e
  · injection hv with e1 e2 e3
    injection e1 with e1
    injection e1 with e1
    subst e1; subst e3
    refine ⟨by rw [List.length_set]; exact hl, Or.inr ⟨g, c, cur.setIfInBounds j r, rfl, hb, heap_setCell_same w g j cur _ _ hg, hcap, hmx, by simpa using hsz, ?_⟩⟩
    rw [Array.toList_setIfInBounds, ← htake]
    apply List.ext_getElem?
    intro k
    by_cases hk : k < N * 14
    · rw [List.getElem?_take, if_pos hk, List.getElem?_set, List.getElem?_set, List.getElem?_take, if_pos hk, List.length_take]
      by_cases e : j = k
      · subst e
        rw [if_pos rfl, if_pos rfl, if_pos (by simp; omega), if_pos (by simp; omega)]
      · rw [if_neg e, if_neg e]
    · rw [List.getElem?_take, if_neg hk, List.getElem?_set, List.getElem?_take, if_neg hk, List.length_take]
      by_cases e : j = k
      · omega
      · rw [if_neg e]
/-- A goal is set in a row of commands. -/
theorem cmdsIn_goal {w : World} (v : Int) : ∀ {cs : List Adz.Cmd} {xs : List Value}, CmdsIn w cs xs → ∀ j (hj : j < cs.length), CmdsIn w (cs.set j { cs[j] with goal := v }) (xs.set (j * 14 + 5) (.int .i64 v))
  | [], [], _, j, hj => by simp at hj
  | c :: cs, x0 :: x1 :: x2 :: x3 :: x4 :: x5 :: x6 :: x7 :: x8 :: x9 :: x10 :: x11 :: x12 :: x13 :: xs, h, 0, _ => by
    obtain ⟨⟨av, iv, rv, fv, tv, e, d⟩, r⟩ := h
    refine ⟨⟨av, iv, rv, fv, tv, ?_, ⟨d.a, d.i, d.r, d.f, d.t⟩⟩, r⟩
    have e2 := congrArg (fun l => l.set 5 (Value.int .i64 v)) e
    exact e2
  | c :: cs, x0 :: x1 :: x2 :: x3 :: x4 :: x5 :: x6 :: x7 :: x8 :: x9 :: x10 :: x11 :: x12 :: x13 :: xs, h, j + 1, hj => by
    have ih := cmdsIn_goal v h.2 j (by simpa using hj)
    have e : (j + 1) * 14 + 5 = j * 14 + 5 + 1 + 1 + 1 + 1 + 1 + 1 + 1 + 1 + 1 + 1 + 1 + 1 + 1 + 1 := by omega
    rw [e]
    exact ⟨h.1, ih⟩

set_option maxRecDepth 100000 in
set_option maxHeartbeats 3200000 in
theorem behP_open (g : CG) (pp i1 : Nat) (s : Adz.Ps) (c : Adz.Cmd) (hw : c.what = 123) (ho5 : s.opens.length ≤ 5) :
    BehP g pp i1 s { s with i := i1 + 1, opens := s.opens ++ [(s.cmds.length : Int)] } c c := fun base u w cb h o hC hi hc hcb => by
  have hP := h.moved hC o hi
  obtain ⟨mb, m1, m2⟩ := hP.map
  obtain ⟨av, iv, rv, fv, tv, kk, dd⟩ := hc.deep
  have k0 := (kk 0 _ rfl).1
  rw [hw] at k0
  have q0 := hP.lead.at0
  have hlk : ∀ m, (Instr.lookup 115 (.map (some mb)) (.int .i32 123) false).run Tryz.prog (w.drewN m) = .ok (.int .i64 1) (w.drewN m) := fun m => beh_lookup (w.drewN m) mb 123 m2
  clear kk dd
  go_enter Tryz.func103, Tryz.ntmps103
  go_wp2_with fail
  go_quiet (fail)
  have oq : Only (· = g.c) w (w.drewN nq) := (Only.refl _ w).drewN nq
  have hP := hP.moved (hC.drewN nq) oq (Nat.le_refl _)
  have hc := hc.keeps oq hC.spares (hc.typ.ne hC.tc (by decide))
  have o := o.drewN nq
  have q0 := hP.lead.at0
  clear oq hlk m1 m2 k0 hC
  generalize w.drewN nq = wq at *
  obtain ⟨qv, xs, c1, c2, c3⟩ := hP.cmds
  obtain ⟨qa, qc, rfl⟩ := row_shape c2
  obtain ⟨ov, p1, p2⟩ := hP.op
  obtain ⟨i0, hi0, hz0, hz1, hz2⟩ := info_parts infoInt
  have lr := hP.lead.lt
  have f3 := hP.f3
  have hbs := hP.bs
  have hfew := hP.few
  have hle := hP.cur.le
  have hsm := hP.cur.small
  have hne : ov.ownBlock ≠ some pp := row_ne p2 hP.lead.typ (by decide)
  have hclt := hc.typ.lt
  simp only at c1 p1 p2 hfew hle
  have h1b : ∀ o : Obj, (wq.drew.alloc o).cell? ⟨pp, 3, none⟩ = some ov := fun o => (World.cell?_alloc_past (w := wq.drew) _ _ _ (show pp < wq.drew.heap.size from lr)).trans p1
  have f1b : ∀ o : Obj, (wq.drew.alloc o).frozen? ⟨pp, 3, none⟩ = false := fun o => (World.frozen?_alloc_past (w := wq.drew) _ _ _ (show pp < wq.drew.heap.size from lr)).trans f3
  go_wp2_with fail
  go_region_law
    ((refine step_append_lies _ (by rfl) _ _ _ (by rfl) base 3 i0 _ 1 8 Tryz.underlying35 hi0 hz0 hz1 hz2 rfl (by omega) ov s.opens.length (s.opens.map (Value.int .i64)) (by rfl) ((p2.drew).alloc _)
        ⟨wq.heap.size, 0, none⟩ 1 1 [.int .i64 s.cmds.length] (by rfl) (by rfl) (World.news_of_block (cs := #[.int .i64 s.cmds.length]) (t := 3) (fr := (0, 0)) (heap_alloc_new wq.drew _)) (by simp [Value.oneCell'])
        (by omega) (by unfold maxLen; omega) (by omega) (by simp; omega) (wq.heap.size + 1) (by simp) ?_; intro g1 cap w6 hown1 hgrow hat hlt1; have kc := (hgrow.cell_far ⟨pp, 3, none⟩ (by simp; omega) (Ne.symm hne)).trans (h1b _); have kf := (hgrow.frozen_far ⟨pp, 3, none⟩ (by simp; omega) (Ne.symm hne)).trans (f1b _)))
  all_goals
    have hv : (Value.slice (some ⟨g1, 0, none⟩) (s.opens.length + 1) cap).ownBlock ≠ some pp := by
      rcases hat with h | h
      · intro e
        simp [Value.ownBlock] at e
        exact hne (by rw [h, e])
      · intro e
        simp [Value.ownBlock] at e
        omega
    obtain ⟨u1, u2, u3, u4⟩ := field_end (((Only.refl _ wq).drew).alloc _) hgrow kc hown1 hv lr hne
    have h6 := hP.opens' (os := s.opens ++ [(s.cmds.length : Int)]) p2 u1 (by rw [List.length_append, List.map_append]; exact u2) u3 u4
    have sp : Spares wq (fun b => b = pp ∨ ov.ownBlock = some b) := by
      have key : ∀ {b : Nat} {T : TypeId}, Typ wq b T → T ≠ 119 → T ≠ 3 → ¬ (b = pp ∨ ov.ownBlock = some b) := by
        rintro b T t n1 n2 (e | e)
        · exact t.ne hP.lead.typ n1 e
        · exact row_ne p2 t n2 e
      exact ⟨fun b t => key t (by decide) (by decide), fun b t => key t (by decide) (by decide), fun b t => key t (by decide) (by decide), fun b t => key t (by decide) (by decide), fun b t => key t (by decide) (by decide)⟩
    have kc6 := hc.keeps u3 sp (by
      rintro (e | e)
      · exact hc.typ.ne hP.lead.typ (by decide) e
      · exact row_ne p2 hc.typ (by decide) e)
    have hq6 := (u4.others 2 (by decide)).trans (o.cell (p := ⟨pp, 2, none⟩) h.lead.lt h.lead.ne)
    have ou6 : Only (fun b => b = g.c ∨ b = pp ∨ base ≤ b + 1) u _ := o.trans u3 (fun _ e => Or.inl e) (fun b hb e => by
      rcases e with e | e
      · exact Or.inr (Or.inl e)
      · have := (p2.lt b e).1
        exact Or.inr (Or.inr (by omega)))
    have HQ6 : Hid _ := hq6
    clear hq6
    go_wp2
    go_ret
    exact ⟨rfl, kc6, h6, HQ6.out, ou6⟩
end Go.Proofs.YtbiobhghnldckaaGreatDoor
