/- Proved: a command that is a label, asks for one or opens a block is read. Conditions: the parser lies in memory as 'Par' says; contracts of the head and of what stands behind. -/
import Derived.Test.YtbiobhghnldckaaGreatDoorLab3
namespace Go.Proofs.YtbiobhghnldckaaGreatDoor
open Go.RowKit
set_option linter.unusedVariables false
attribute [local go_sem ↓] Go.wp_at_zero Go.wp_at_succ

/-- What is read behind a what that stands at i1, and what turns in the parser. -/
def BehP (g : CG) (pp i1 : Nat) (s s' : Adz.Ps) (c c' : Adz.Cmd) : Prop :=
  ∀ (base : Nat) (u w : World) (cb : Nat), Par g pp base u s → Only (· = g.c) u w → Cur g w (i1 + 1) → s.i ≤ i1 + 1 → CmdAt w cb c → u.heap.size ≤ cb →
    Calls Tryz.prog 103 #[.pointer (some ⟨pp, 0, none⟩), .pointer (some ⟨cb, 0, none⟩), .int .i64 (Adz.place g.pl i1)] w fun e w' => e = .returned (.pointer none) ∧ CmdAt w' cb c' ∧ Par g pp base w' s' ∧ w'.cell? ⟨pp, 2, none⟩ = u.cell? ⟨pp, 2, none⟩ ∧ Only (fun b => b = g.c ∨ b = pp ∨ base ≤ b + 1) u w'
/-- A what is read. -/
def WhatP (g : CG) (pp base : Nat) (s : Adz.Ps) (c : Adz.Cmd) : Prop :=
  ∀ (w : World) (cb : Nat), Par g pp base w s → CmdAt w cb c →
    Calls Tryz.prog 102 #[.pointer (some ⟨pp, 0, none⟩), .pointer (some ⟨cb, 0, none⟩)] w fun e w' => e = .returned (.pointer none) ∧ CmdAt w' cb { c with what := Adz.peek g.L s.i } ∧ Cur g w' (s.i + 1) ∧ Only (fun b => b = g.c ∨ b = cb) w w'

set_option maxRecDepth 100000 in
set_option maxHeartbeats 3200000 in
theorem command_okW {g : CG} {pp base : Nat} {w : World} {s : Adz.Ps} (h : Par g pp base w s) (c0 : Adz.Cmd) (i1 : Nat) (hH : HeadOk g pp s.i c0 i1) (h1i : s.i ≤ i1) (hW : WhatP g pp base { s with i := i1 } c0)
    (s3 : Adz.Ps) (c : Adz.Cmd) (hB : BehP g pp i1 s s3 { c0 with what := Adz.peek g.L i1 } c) (hl3 : s3.cmds.length < s3.i) (i4 : Nat) (ht : Adz.tail g.L g.pl s3.i = .ok i4) (hw123 : c.what ≠ 123) :
    Calls Tryz.prog 77 #[.pointer (some ⟨pp, 0, none⟩)] w fun e w' => e = .returned (.pointer none) ∧ Par g pp base w' { s3 with i := i4, cmds := s3.cmds ++ [c] } ∧ Only (fun b => b = g.c ∨ b = pp ∨ base ≤ b + 1) w w' := by
  have HT : Hid (Adz.tail g.L g.pl s3.i = .ok i4) := ht
  have hfew := h.few
  have hsm := h.cur.small
  have q0 := h.lead.at0
  have hcl := h.cur.lt
  obtain ⟨i0, hi0, hz0, hz1, hz2⟩ := info_parts infoCmd
  clear ht
  go_enter Tryz.func77, Tryz.ntmps77
  go_wp2_with fail
  refine (hH w h.cur h.lead).mono ?_
  rintro e w1 ⟨av0, iv0, rv0, fv0, tv0, rfl, dd0, hc1, ho1⟩
  obtain ⟨⟨aa0, an0, ac0, rfl⟩, ⟨ia0, in0, ic0, rfl⟩, ⟨ra0, rn0, rc0, rfl⟩, ⟨fa0, fn0, fc0, rfl⟩, ⟨ta0, tn0, tc0, rfl⟩⟩ := deep_shapes dd0
  have h1 := h.moved hc1 ho1 h1i
  have q1 := h1.lead.at0
  have hpl1 : pp < w1.heap.size := h1.lead.lt
  go_wp2_with fail
  have h1a := h1.moved (hc1.alloc (.cells #[.int .i32 c0.what, .slice aa0 an0 ac0, .bool c0.neg, .string ⟨c0.text.toArray⟩, .string ⟨c0.name.toArray⟩, .int .i64 c0.goal, .slice ia0 in0 ic0, .int .i64 c0.pat.groups, .slice ra0 rn0 rc0, .bool c0.all, .bool c0.print, .int .i64 c0.nth, .slice fa0 fn0 fc0, .slice ta0 tn0 tc0] 167)) ((Only.refl _ w1).alloc _) (Nat.le_refl _)
  have kc : CmdAt (w1.alloc (.cells #[.int .i32 c0.what, .slice aa0 an0 ac0, .bool c0.neg, .string ⟨c0.text.toArray⟩, .string ⟨c0.name.toArray⟩, .int .i64 c0.goal, .slice ia0 in0 ic0, .int .i64 c0.pat.groups, .slice ra0 rn0 rc0, .bool c0.all, .bool c0.print, .int .i64 c0.nth, .slice fa0 fn0 fc0, .slice ta0 tn0 tc0] 167)) w1.heap.size c0 := ⟨Typ.new _ _ _ _, _, _, _, _, _, Cells.new w1 _ _, dd0.keeps ((Only.refl (fun _ => False) w1).alloc _) ⟨fun _ _ => id, fun _ _ => id, fun _ _ => id, fun _ _ => id, fun _ _ => id⟩⟩
  have oa : Only (· = g.c) w (w1.alloc (.cells #[.int .i32 c0.what, .slice aa0 an0 ac0, .bool c0.neg, .string ⟨c0.text.toArray⟩, .string ⟨c0.name.toArray⟩, .int .i64 c0.goal, .slice ia0 in0 ic0, .int .i64 c0.pat.groups, .slice ra0 rn0 rc0, .bool c0.all, .bool c0.print, .int .i64 c0.nth, .slice fa0 fn0 fc0, .slice ta0 tn0 tc0] 167)) := ho1.alloc _
  have hsz : w.heap.size ≤ w1.heap.size := ho1.size
  generalize hcb : w1.heap.size = cb at *
  generalize w1.alloc (.cells #[.int .i32 c0.what, .slice aa0 an0 ac0, .bool c0.neg, .string ⟨c0.text.toArray⟩, .string ⟨c0.name.toArray⟩, .int .i64 c0.goal, .slice ia0 in0 ic0, .int .i64 c0.pat.groups, .slice ra0 rn0 rc0, .bool c0.all, .bool c0.print, .int .i64 c0.nth, .slice fa0 fn0 fc0, .slice ta0 tn0 tc0] 167) = w2 at *
  refine (place_calls g w2 i1 h1a.cur).mono ?_
  rintro e w3 ⟨rfl, n3, rfl⟩
  have q2 := h1a.lead.at0
  have h3 := h1a.moved (h1a.cur.drewN n3) ((Only.refl _ w2).drewN n3) (Nat.le_refl _)
  have kc3 := kc.keeps ((Only.refl (· = g.c) w2).drewN n3) h1a.cur.spares (kc.typ.ne h1a.cur.tc (by decide))
  go_wp2_with fail
  refine (hW _ cb h3 kc3).mono ?_
  rintro e w4 ⟨rfl, kc4, hc4, ho4⟩
  have ncb : cb ≠ g.c := kc.typ.ne h1a.cur.tc (by decide)
  have npp : pp ≠ cb := h3.lead.typ.ne kc3.typ (by decide)
  have o4 : Only (· = g.c) w w4 := (oa.drewN n3).trans ho4 (fun _ e => e) (fun b hb e => by rcases e with e | e; exact e; omega)
  go_wp2_with fail
  refine (hB base w w4 cb h o4 hc4 (by omega) kc4 hsz).mono ?_
  rintro e w5 ⟨rfl, kc5, h5, hq5, o5⟩
  have hi4 := Adz.tail_le HT.out
  obtain ⟨qv, xs, c1, c2, c3⟩ := h5.cmds
  obtain ⟨av, iv, rv, fv, tv, kk, dd⟩ := kc5.deep
  obtain ⟨⟨aa, an, ac, rfl⟩, ⟨ia, in_, ic, rfl⟩, ⟨ra, rn, rc, rfl⟩, ⟨fa, fn, fc, rfl⟩, ⟨ta, tn, tc, rfl⟩⟩ := deep_shapes dd
  have k0 := (kk 0 _ rfl).1
  have k1 := (kk 1 _ rfl).1
  have k2 := (kk 2 _ rfl).1
  have k3 := (kk 3 _ rfl).1
  have k4 := (kk 4 _ rfl).1
  have k5 := (kk 5 _ rfl).1
  have k6 := (kk 6 _ rfl).1
  have k7 := (kk 7 _ rfl).1
  have k8 := (kk 8 _ rfl).1
  have k9 := (kk 9 _ rfl).1
  have k10 := (kk 10 _ rfl).1
  have k11 := (kk 11 _ rfl).1
  have k12 := (kk 12 _ rfl).1
  have k13 := (kk 13 _ rfl).1
  have lr : pp < w5.heap.size := h5.lead.lt
  have f2' := h5.f2
  have hne : qv.ownBlock ≠ some pp := row_ne c2 h5.lead.typ (by decide)
  have hbs := h5.bs
  have hi3l := h5.cur.le
  have hfew3 := h5.few
  have q5 := h5.lead.at0
  have h1b : ∀ o : Obj, (w5.alloc o).cell? ⟨pp, 2, none⟩ = some qv := fun o => by rw [World.cell?_alloc_past _ _ _ lr]; exact c1
  have f1b : ∀ o : Obj, (w5.alloc o).frozen? ⟨pp, 2, none⟩ = false := fun o => by rw [World.frozen?_alloc_past _ _ _ lr]; exact f2'
  have bw : (c.what == 123) = false := by simpa using hw123
  have hcq : qv.ownBlock ≠ some cb := fun e => by
    obtain ⟨qv0, xs0, e1, e2, _⟩ := h.cmds
    have e3 := hq5.trans e1
    rw [c1] at e3
    cases e3
    have := (e2.lt cb e).2
    omega
  clear hw123 q0 q1 q2 hq5
  go_wp2_with fail
  go_region_law
    ((refine step_append_lies _ (by rfl) _ _ _ (by rfl) base 167 i0 _ 14 200 Tryz.underlying99 hi0 hz0 hz1 hz2 rfl (by omega) qv s3.cmds.length xs (by rfl) ((c2.alloc _).drew)
        ⟨w5.heap.size, 0, none⟩ 1 1 [.int .i32 c.what, .slice aa an ac, .bool c.neg, .string ⟨c.text.toArray⟩, .string ⟨c.name.toArray⟩, .int .i64 c.goal, .slice ia in_ ic, .int .i64 c.pat.groups, .slice ra rn rc, .bool c.all, .bool c.print, .int .i64 c.nth, .slice fa fn fc, .slice ta tn tc] (by rfl) (by rfl) (World.news_of_block (cs := #[.int .i32 c.what, .slice aa an ac, .bool c.neg, .string ⟨c.text.toArray⟩, .string ⟨c.name.toArray⟩, .int .i64 c.goal, .slice ia in_ ic, .int .i64 c.pat.groups, .slice ra rn rc, .bool c.all, .bool c.print, .int .i64 c.nth, .slice fa fn fc, .slice ta tn tc]) (t := 167) (fr := (0, 0)) (heap_alloc_new w5 _)) (by simp [Value.oneCell'])
        (by omega) (by unfold maxLen; omega) (by omega) (by simp; omega) (w5.heap.size + 1) (by simp) ?_; intro g1 cap w6 hown1 hgrow hat hlt1; have kc := (hgrow.cell_far ⟨pp, 2, none⟩ (by simp; omega) (Ne.symm hne)).trans (h1b _); have kf := (hgrow.frozen_far ⟨pp, 2, none⟩ (by simp; omega) (Ne.symm hne)).trans (f1b _)))
  all_goals
    have hv : (Value.slice (some ⟨g1, 0, none⟩) (s3.cmds.length + 1) cap).ownBlock ≠ some pp := by
      rcases hat with h | h
      · intro e
        simp [Value.ownBlock] at e
        exact hne (by rw [h, e])
      · intro e
        simp [Value.ownBlock] at e
        omega
    obtain ⟨u1, u2, u3, u4⟩ := field_end (((Only.refl _ w5).alloc _).drew) hgrow kc hown1 hv lr hne
    have h6 := h5.more c1 c2 c3 dd u1 u2 u3 u4 hl3
    have ncq : ¬ (cb = pp ∨ qv.ownBlock = some cb) := by
      rintro (e | e)
      · exact npp e.symm
      · exact hcq e
    have k0' := u3.keeps k0 ncq
    have q6 := h6.lead.at0
    go_wp2_with fail
    refine (tail_ok g pp _ s3.i h6.cur h6.lead i4 HT.out).mono ?_
    rintro e w8 ⟨rfl, hc8, ho8⟩
    have h8 := h6.moved hc8 ho8 hi4
    go_wp2
    go_ret
    refine ⟨rfl, h8, ?_⟩
    have o6 : Only (fun b => b = g.c ∨ b = pp ∨ base ≤ b + 1) w _ := o5.trans u3 (fun _ e => e) (fun b hb e => by
      rcases e with e | e
      · exact Or.inr (Or.inl e)
      · have := (c2.lt b e).1
        exact Or.inr (Or.inr (by omega)))
    exact o6.trans ho8 (fun _ e => e) (fun _ _ e => Or.inl e)

set_option maxRecDepth 100000 in
set_option maxHeartbeats 3200000 in
theorem command_ok1 {g : CG} {pp base : Nat} {w : World} {s : Adz.Ps} (h : Par g pp base w s) (c0 : Adz.Cmd) (i1 : Nat) (hH : HeadOk g pp s.i c0 i1) (h1i : s.i ≤ i1) (hW : WhatP g pp base { s with i := i1 } c0)
    (s3 : Adz.Ps) (c : Adz.Cmd) (hB : BehP g pp i1 s s3 { c0 with what := Adz.peek g.L i1 } c) (hl3 : s3.cmds.length < s3.i) (hw123 : c.what = 123) :
    Calls Tryz.prog 77 #[.pointer (some ⟨pp, 0, none⟩)] w fun e w' => e = .returned (.pointer none) ∧ Par g pp base w' { s3 with cmds := s3.cmds ++ [c] } ∧ Only (fun b => b = g.c ∨ b = pp ∨ base ≤ b + 1) w w' := by
  have hfew := h.few
  have hsm := h.cur.small
  have q0 := h.lead.at0
  have hcl := h.cur.lt
  obtain ⟨i0, hi0, hz0, hz1, hz2⟩ := info_parts infoCmd
  go_enter Tryz.func77, Tryz.ntmps77
  go_wp2_with fail
  refine (hH w h.cur h.lead).mono ?_
  rintro e w1 ⟨av0, iv0, rv0, fv0, tv0, rfl, dd0, hc1, ho1⟩
  obtain ⟨⟨aa0, an0, ac0, rfl⟩, ⟨ia0, in0, ic0, rfl⟩, ⟨ra0, rn0, rc0, rfl⟩, ⟨fa0, fn0, fc0, rfl⟩, ⟨ta0, tn0, tc0, rfl⟩⟩ := deep_shapes dd0
  have h1 := h.moved hc1 ho1 h1i
  have q1 := h1.lead.at0
  have hpl1 : pp < w1.heap.size := h1.lead.lt
  go_wp2_with fail
  have h1a := h1.moved (hc1.alloc (.cells #[.int .i32 c0.what, .slice aa0 an0 ac0, .bool c0.neg, .string ⟨c0.text.toArray⟩, .string ⟨c0.name.toArray⟩, .int .i64 c0.goal, .slice ia0 in0 ic0, .int .i64 c0.pat.groups, .slice ra0 rn0 rc0, .bool c0.all, .bool c0.print, .int .i64 c0.nth, .slice fa0 fn0 fc0, .slice ta0 tn0 tc0] 167)) ((Only.refl _ w1).alloc _) (Nat.le_refl _)
  have kc : CmdAt (w1.alloc (.cells #[.int .i32 c0.what, .slice aa0 an0 ac0, .bool c0.neg, .string ⟨c0.text.toArray⟩, .string ⟨c0.name.toArray⟩, .int .i64 c0.goal, .slice ia0 in0 ic0, .int .i64 c0.pat.groups, .slice ra0 rn0 rc0, .bool c0.all, .bool c0.print, .int .i64 c0.nth, .slice fa0 fn0 fc0, .slice ta0 tn0 tc0] 167)) w1.heap.size c0 := ⟨Typ.new _ _ _ _, _, _, _, _, _, Cells.new w1 _ _, dd0.keeps ((Only.refl (fun _ => False) w1).alloc _) ⟨fun _ _ => id, fun _ _ => id, fun _ _ => id, fun _ _ => id, fun _ _ => id⟩⟩
  have oa : Only (· = g.c) w (w1.alloc (.cells #[.int .i32 c0.what, .slice aa0 an0 ac0, .bool c0.neg, .string ⟨c0.text.toArray⟩, .string ⟨c0.name.toArray⟩, .int .i64 c0.goal, .slice ia0 in0 ic0, .int .i64 c0.pat.groups, .slice ra0 rn0 rc0, .bool c0.all, .bool c0.print, .int .i64 c0.nth, .slice fa0 fn0 fc0, .slice ta0 tn0 tc0] 167)) := ho1.alloc _
  have hsz : w.heap.size ≤ w1.heap.size := ho1.size
  generalize hcb : w1.heap.size = cb at *
  generalize w1.alloc (.cells #[.int .i32 c0.what, .slice aa0 an0 ac0, .bool c0.neg, .string ⟨c0.text.toArray⟩, .string ⟨c0.name.toArray⟩, .int .i64 c0.goal, .slice ia0 in0 ic0, .int .i64 c0.pat.groups, .slice ra0 rn0 rc0, .bool c0.all, .bool c0.print, .int .i64 c0.nth, .slice fa0 fn0 fc0, .slice ta0 tn0 tc0] 167) = w2 at *
  refine (place_calls g w2 i1 h1a.cur).mono ?_
  rintro e w3 ⟨rfl, n3, rfl⟩
  have q2 := h1a.lead.at0
  have h3 := h1a.moved (h1a.cur.drewN n3) ((Only.refl _ w2).drewN n3) (Nat.le_refl _)
  have kc3 := kc.keeps ((Only.refl (· = g.c) w2).drewN n3) h1a.cur.spares (kc.typ.ne h1a.cur.tc (by decide))
  go_wp2_with fail
  refine (hW _ cb h3 kc3).mono ?_
  rintro e w4 ⟨rfl, kc4, hc4, ho4⟩
  have ncb : cb ≠ g.c := kc.typ.ne h1a.cur.tc (by decide)
  have npp : pp ≠ cb := h3.lead.typ.ne kc3.typ (by decide)
  have o4 : Only (· = g.c) w w4 := (oa.drewN n3).trans ho4 (fun _ e => e) (fun b hb e => by rcases e with e | e; exact e; omega)
  go_wp2_with fail
  refine (hB base w w4 cb h o4 hc4 (by omega) kc4 hsz).mono ?_
  rintro e w5 ⟨rfl, kc5, h5, hq5, o5⟩
  obtain ⟨qv, xs, c1, c2, c3⟩ := h5.cmds
  obtain ⟨av, iv, rv, fv, tv, kk, dd⟩ := kc5.deep
  obtain ⟨⟨aa, an, ac, rfl⟩, ⟨ia, in_, ic, rfl⟩, ⟨ra, rn, rc, rfl⟩, ⟨fa, fn, fc, rfl⟩, ⟨ta, tn, tc, rfl⟩⟩ := deep_shapes dd
  have k0 := (kk 0 _ rfl).1
  have k1 := (kk 1 _ rfl).1
  have k2 := (kk 2 _ rfl).1
  have k3 := (kk 3 _ rfl).1
  have k4 := (kk 4 _ rfl).1
  have k5 := (kk 5 _ rfl).1
  have k6 := (kk 6 _ rfl).1
  have k7 := (kk 7 _ rfl).1
  have k8 := (kk 8 _ rfl).1
  have k9 := (kk 9 _ rfl).1
  have k10 := (kk 10 _ rfl).1
  have k11 := (kk 11 _ rfl).1
  have k12 := (kk 12 _ rfl).1
  have k13 := (kk 13 _ rfl).1
  have lr : pp < w5.heap.size := h5.lead.lt
  have f2' := h5.f2
  have hne : qv.ownBlock ≠ some pp := row_ne c2 h5.lead.typ (by decide)
  have hbs := h5.bs
  have hi3l := h5.cur.le
  have hfew3 := h5.few
  have q5 := h5.lead.at0
  have h1b : ∀ o : Obj, (w5.alloc o).cell? ⟨pp, 2, none⟩ = some qv := fun o => by rw [World.cell?_alloc_past _ _ _ lr]; exact c1
  have f1b : ∀ o : Obj, (w5.alloc o).frozen? ⟨pp, 2, none⟩ = false := fun o => by rw [World.frozen?_alloc_past _ _ _ lr]; exact f2'
  have bw : (c.what == 123) = true := by simpa using hw123
  have hcq : qv.ownBlock ≠ some cb := fun e => by
    obtain ⟨qv0, xs0, e1, e2, _⟩ := h.cmds
    have e3 := hq5.trans e1
    rw [c1] at e3
    cases e3
    have := (e2.lt cb e).2
    omega
  clear hw123 q0 q1 q2 hq5
  go_wp2_with fail
  go_region_law
    ((refine step_append_lies _ (by rfl) _ _ _ (by rfl) base 167 i0 _ 14 200 Tryz.underlying99 hi0 hz0 hz1 hz2 rfl (by omega) qv s3.cmds.length xs (by rfl) ((c2.alloc _).drew)
        ⟨w5.heap.size, 0, none⟩ 1 1 [.int .i32 c.what, .slice aa an ac, .bool c.neg, .string ⟨c.text.toArray⟩, .string ⟨c.name.toArray⟩, .int .i64 c.goal, .slice ia in_ ic, .int .i64 c.pat.groups, .slice ra rn rc, .bool c.all, .bool c.print, .int .i64 c.nth, .slice fa fn fc, .slice ta tn tc] (by rfl) (by rfl) (World.news_of_block (cs := #[.int .i32 c.what, .slice aa an ac, .bool c.neg, .string ⟨c.text.toArray⟩, .string ⟨c.name.toArray⟩, .int .i64 c.goal, .slice ia in_ ic, .int .i64 c.pat.groups, .slice ra rn rc, .bool c.all, .bool c.print, .int .i64 c.nth, .slice fa fn fc, .slice ta tn tc]) (t := 167) (fr := (0, 0)) (heap_alloc_new w5 _)) (by simp [Value.oneCell'])
        (by omega) (by unfold maxLen; omega) (by omega) (by simp; omega) (w5.heap.size + 1) (by simp) ?_; intro g1 cap w6 hown1 hgrow hat hlt1; have kc := (hgrow.cell_far ⟨pp, 2, none⟩ (by simp; omega) (Ne.symm hne)).trans (h1b _); have kf := (hgrow.frozen_far ⟨pp, 2, none⟩ (by simp; omega) (Ne.symm hne)).trans (f1b _)))
  all_goals
    have hv : (Value.slice (some ⟨g1, 0, none⟩) (s3.cmds.length + 1) cap).ownBlock ≠ some pp := by
      rcases hat with h | h
      · intro e
        simp [Value.ownBlock] at e
        exact hne (by rw [h, e])
      · intro e
        simp [Value.ownBlock] at e
        omega
    obtain ⟨u1, u2, u3, u4⟩ := field_end (((Only.refl _ w5).alloc _).drew) hgrow kc hown1 hv lr hne
    have h6 := h5.more c1 c2 c3 dd u1 u2 u3 u4 hl3
    have ncq : ¬ (cb = pp ∨ qv.ownBlock = some cb) := by
      rintro (e | e)
      · exact npp e.symm
      · exact hcq e
    have k0' := u3.keeps k0 ncq
    go_wp2
    go_ret
    refine ⟨rfl, h6, ?_⟩
    exact o5.trans u3 (fun _ e => e) (fun b hb e => by
      rcases e with e | e
      · exact Or.inr (Or.inl e)
      · have := (c2.lt b e).1
        exact Or.inr (Or.inr (by omega)))
end Go.Proofs.YtbiobhghnldckaaGreatDoor
