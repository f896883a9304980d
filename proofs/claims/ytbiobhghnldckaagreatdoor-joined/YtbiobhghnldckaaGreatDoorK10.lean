/- Proved: a command is read, whatever stands ahead of its what and behind it, where it opens no block and asks for no label. Conditions: the parser lies in memory as 'Par' says; contracts of the head and of what stands behind. -/
import Derived.Test.YtbiobhghnldckaaGreatDoorK4
import Derived.Test.YtbiobhghnldckaaGreatDoorK5
namespace Go.Proofs.YtbiobhghnldckaaGreatDoor
open Go.RowKit
set_option linter.unusedVariables false
attribute [local go_sem ↓] Go.wp_at_zero Go.wp_at_succ

/-- What is read behind a what. -/
def BehOk (g : CG) (pp n : Nat) (c : Adz.Cmd) (i : Nat) (c' : Adz.Cmd) (i' : Nat) : Prop :=
  ∀ (w : World) (cb : Nat) (at_ : Int), Cur g w i → Lead g pp w → Table pp w n → CmdAt w cb c →
    Calls Tryz.prog 103 #[.pointer (some ⟨pp, 0, none⟩), .pointer (some ⟨cb, 0, none⟩), .int .i64 at_] w fun e w' => e = .returned (.pointer none) ∧ CmdAt w' cb c' ∧ Cur g w' i' ∧ Only (fun b => b = g.c ∨ b = cb) w w'
/-- What is read ahead of a what. -/
def HeadOk (g : CG) (pp : Nat) (i : Nat) (c : Adz.Cmd) (i' : Nat) : Prop :=
  ∀ (w : World), Cur g w i → Lead g pp w →
    Calls Tryz.prog 100 #[.pointer (some ⟨pp, 0, none⟩)] w fun e w' => ∃ av iv rv fv tv, e = .returned (.tuple #[.agg #[.int .i32 c.what, av, .bool c.neg, .string ⟨c.text.toArray⟩, .string ⟨c.name.toArray⟩, .int .i64 c.goal, iv, .int .i64 c.pat.groups, rv, .bool c.all, .bool c.print, .int .i64 c.nth, fv, tv], .pointer none]) ∧ Deep w' c av iv rv fv tv ∧ Cur g w' i' ∧ Only (· = g.c) w w'

theorem headOk_plain (g : CG) (pp i : Nat) (ha : Adz.atAddress g.L i = false) (hn : Adz.peek g.L i ≠ 33) : HeadOk g pp i {} i := fun w h hp =>
  (head_plain g pp w i h hp ha hn).mono fun e w' ⟨he, hc, ho⟩ => ⟨_, _, _, _, _, he, deep_zero w', hc, ho⟩

theorem behOk_s (g : CG) (pp n i : Nat) (c : Adz.Cmd) (h115 : c.what = 115) (c' : Adz.Cmd) (i' : Nat) (hr : Adz.substitution g.L g.pl c i = .ok (c', i')) : BehOk g pp n c i c' i' := fun w cb at_ h hp ht hc =>
  behind_s g pp cb n w i at_ h hp ht c hc h115 c' i' hr

set_option maxRecDepth 100000 in
set_option maxHeartbeats 1600000 in
/-- Behind a what behind which nothing stands. -/
theorem behOk_0 (g : CG) (pp n i : Nat) (c : Adz.Cmd) (hk : Adz.behindKind c.what = some 0) : BehOk g pp n c i c i := fun w cb at_ h hp ht hc => by
  obtain ⟨mb, m1, m2⟩ := ht.map
  obtain ⟨av, iv, rv, fv, tv, kk, dd⟩ := hc.deep
  have k0 := (kk 0 _ rfl).1
  have q0 := hp.at0
  have hlk : ∀ m, (Instr.lookup 115 (.map (some mb)) (.int .i32 c.what) false).run Tryz.prog (w.drewN m) = .ok (.int .i64 0) (w.drewN m) := fun m => by
    have := beh_lookup (w.drewN m) mb c.what m2
    rw [hk] at this
    exact this
  clear kk dd
  generalize c.what = wh at *
  go_enter Tryz.func103, Tryz.ntmps103
  go_wp2_with fail
  go_quiet (fail)
  go_wp2
  go_ret
  have o1 : Only (· = g.c) w (w.drewN nq) := (Only.refl _ w).drewN nq
  exact ⟨rfl, hc.keeps o1 h.spares (hc.typ.ne h.tc (by decide)), h.drewN nq, o1.mono (fun _ _ e => Or.inl e)⟩

set_option maxRecDepth 100000 in
set_option maxHeartbeats 3200000 in
theorem command_ok {g : CG} {pp base : Nat} {w : World} {s : Adz.Ps} (h : Par g pp base w s) (c0 : Adz.Cmd) (i1 : Nat) (hH : HeadOk g pp s.i c0 i1) (k : Int) (hk : Adz.behindKind (Adz.peek g.L i1) = some k) (hk3 : k ≠ 3) (hk1 : k ≠ 1) (h40 : s.cmds.length ≠ 40) (hlt : i1 < g.L.length) (h1i : s.i ≤ i1)
    (c : Adz.Cmd) (i3 i4 : Nat) (hB : BehOk g pp s.cmds.length { c0 with what := Adz.peek g.L i1 } (i1 + 1) c i3) (hi3 : i1 + 1 ≤ i3) (ht : Adz.tail g.L g.pl i3 = .ok i4) (hw123 : c.what ≠ 123) :
    Calls Tryz.prog 77 #[.pointer (some ⟨pp, 0, none⟩)] w fun e w' => e = .returned (.pointer none) ∧ Par g pp base w' { i := i4, cmds := s.cmds ++ [c], opens := s.opens, labs := s.labs } ∧ Only (fun b => b = g.c ∨ b = pp ∨ base ≤ b) w w' := by
  have HT : Hid (Adz.tail g.L g.pl i3 = .ok i4) := ht
  have hfew := h.few
  have hsm := h.cur.small
  have q0 := h.lead.at0
  have hcl := h.cur.lt
  obtain ⟨i0, hi0, hz0, hz1, hz2⟩ := info_parts infoCmd
  clear ht
  go_enter Tryz.func77, Tryz.ntmps77
  go_wp2_with fail
  refine (hH w h.cur h.lead).mono ?_
  rintro e w1 ⟨av0, iv0, rv0, fv0, tv0, rfl, dd0, hc1, ho1⟩
  obtain ⟨⟨aa0, an0, ac0, rfl⟩, ⟨ia0, in0, ic0, rfl⟩, ⟨ra0, rn0, rc0, rfl⟩, ⟨fa0, fn0, fc0, rfl⟩, ⟨ta0, tn0, tc0, rfl⟩⟩ := deep_shapes dd0
  have h1 := h.moved hc1 ho1 h1i
  have q1 := h1.lead.at0
  have hpl1 : pp < w1.heap.size := h1.lead.lt
  go_wp2_with fail
  have h1a := h1.moved (hc1.alloc (.cells #[.int .i32 c0.what, .slice aa0 an0 ac0, .bool c0.neg, .string ⟨c0.text.toArray⟩, .string ⟨c0.name.toArray⟩, .int .i64 c0.goal, .slice ia0 in0 ic0, .int .i64 c0.pat.groups, .slice ra0 rn0 rc0, .bool c0.all, .bool c0.print, .int .i64 c0.nth, .slice fa0 fn0 fc0, .slice ta0 tn0 tc0] 167)) ((Only.refl _ w1).alloc _) (Nat.le_refl _)
  have kc : CmdAt (w1.alloc (.cells #[.int .i32 c0.what, .slice aa0 an0 ac0, .bool c0.neg, .string ⟨c0.text.toArray⟩, .string ⟨c0.name.toArray⟩, .int .i64 c0.goal, .slice ia0 in0 ic0, .int .i64 c0.pat.groups, .slice ra0 rn0 rc0, .bool c0.all, .bool c0.print, .int .i64 c0.nth, .slice fa0 fn0 fc0, .slice ta0 tn0 tc0] 167)) w1.heap.size c0 := ⟨Typ.new _ _ _ _, _, _, _, _, _, Cells.new w1 _ _, dd0.keeps ((Only.refl (fun _ => False) w1).alloc _) ⟨fun _ _ => id, fun _ _ => id, fun _ _ => id, fun _ _ => id, fun _ _ => id⟩⟩
  have oa : Only (· = g.c) w (w1.alloc (.cells #[.int .i32 c0.what, .slice aa0 an0 ac0, .bool c0.neg, .string ⟨c0.text.toArray⟩, .string ⟨c0.name.toArray⟩, .int .i64 c0.goal, .slice ia0 in0 ic0, .int .i64 c0.pat.groups, .slice ra0 rn0 rc0, .bool c0.all, .bool c0.print, .int .i64 c0.nth, .slice fa0 fn0 fc0, .slice ta0 tn0 tc0] 167)) := ho1.alloc _
  have hsz : w.heap.size ≤ w1.heap.size := ho1.size
  generalize hcb : w1.heap.size = cb at *
  generalize w1.alloc (.cells #[.int .i32 c0.what, .slice aa0 an0 ac0, .bool c0.neg, .string ⟨c0.text.toArray⟩, .string ⟨c0.name.toArray⟩, .int .i64 c0.goal, .slice ia0 in0 ic0, .int .i64 c0.pat.groups, .slice ra0 rn0 rc0, .bool c0.all, .bool c0.print, .int .i64 c0.nth, .slice fa0 fn0 fc0, .slice ta0 tn0 tc0] 167) = w2 at *
  refine (place_calls g w2 i1 h1a.cur).mono ?_
  rintro e w3 ⟨rfl, n3, rfl⟩
  have q2 := h1a.lead.at0
  have h3 := h1a.moved (h1a.cur.drewN n3) ((Only.refl _ w2).drewN n3) (Nat.le_refl _)
  have kc3 := kc.keeps ((Only.refl (· = g.c) w2).drewN n3) h1a.cur.spares (kc.typ.ne h1a.cur.tc (by decide))
  go_wp2_with fail
  refine (what_ok g pp cb s.cmds.length _ i1 h3.cur h3.lead h3.table c0 kc3 k hk hk3 hk1 h40 (by omega) hlt).mono ?_
  rintro e w4 ⟨rfl, kc4, hc4, ho4⟩
  have ncb : cb ≠ g.c := kc.typ.ne h1a.cur.tc (by decide)
  have npp : pp ≠ cb := h3.lead.typ.ne kc3.typ (by decide)
  have o4 : Only (· = g.c) w w4 := (oa.drewN n3).trans ho4 (fun _ e => e) (fun b hb e => by rcases e with e | e; exact e; omega)
  have h4 := h.moved hc4 o4 (by omega)
  go_wp2_with fail
  refine (hB w4 cb _ hc4 h4.lead h4.table kc4).mono ?_
  rintro e w5 ⟨rfl, kc5, hc5, ho5⟩
  have o5 : Only (· = g.c) w w5 := o4.trans ho5 (fun _ e => e) (fun b hb e => by rcases e with e | e; exact e; omega)
  have hi4 := Adz.tail_le HT.out
  have h5 := h.moved hc5 o5 (by omega)
  obtain ⟨qv, xs, c1, c2, c3⟩ := h5.cmds
  obtain ⟨av, iv, rv, fv, tv, kk, dd⟩ := kc5.deep
  obtain ⟨⟨aa, an, ac, rfl⟩, ⟨ia, in_, ic, rfl⟩, ⟨ra, rn, rc, rfl⟩, ⟨fa, fn, fc, rfl⟩, ⟨ta, tn, tc, rfl⟩⟩ := deep_shapes dd
  have k0 := (kk 0 _ rfl).1
  have k1 := (kk 1 _ rfl).1
  have k2 := (kk 2 _ rfl).1
  have k3 := (kk 3 _ rfl).1
  have k4 := (kk 4 _ rfl).1
  have k5 := (kk 5 _ rfl).1
  have k6 := (kk 6 _ rfl).1
  have k7 := (kk 7 _ rfl).1
  have k8 := (kk 8 _ rfl).1
  have k9 := (kk 9 _ rfl).1
  have k10 := (kk 10 _ rfl).1
  have k11 := (kk 11 _ rfl).1
  have k12 := (kk 12 _ rfl).1
  have k13 := (kk 13 _ rfl).1
  simp only at c1 c2 c3
  have lr : pp < w5.heap.size := h5.lead.lt
  have f2' := h5.f2
  have hne : qv.ownBlock ≠ some pp := row_ne c2 h5.lead.typ (by decide)
  have hbs := h5.bs
  have hi3l := hc5.le
  have q5 := h5.lead.at0
  have h1b : ∀ o : Obj, (w5.alloc o).cell? ⟨pp, 2, none⟩ = some qv := fun o => by rw [World.cell?_alloc_past _ _ _ lr]; exact c1
  have f1b : ∀ o : Obj, (w5.alloc o).frozen? ⟨pp, 2, none⟩ = false := fun o => by rw [World.frozen?_alloc_past _ _ _ lr]; exact f2'
  have bw : (c.what == 123) = false := by simpa using hw123
  have hcq : qv.ownBlock ≠ some cb := fun e => by
    obtain ⟨qv0, xs0, e1, e2, _⟩ := h.cmds
    have e3 := o5.keeps e1 h.lead.ne
    rw [c1] at e3
    cases e3
    have := (e2.lt cb e).2
    omega
  clear hw123 q0 q1 q2
  go_wp2_with fail
  go_region_law
    ((refine step_append_lies _ (by rfl) _ _ _ (by rfl) base 167 i0 _ 14 200 Tryz.underlying99 hi0 hz0 hz1 hz2 rfl (by omega) qv s.cmds.length xs (by rfl) ((c2.alloc _).drew)
        ⟨w5.heap.size, 0, none⟩ 1 1 [.int .i32 c.what, .slice aa an ac, .bool c.neg, .string ⟨c.text.toArray⟩, .string ⟨c.name.toArray⟩, .int .i64 c.goal, .slice ia in_ ic, .int .i64 c.pat.groups, .slice ra rn rc, .bool c.all, .bool c.print, .int .i64 c.nth, .slice fa fn fc, .slice ta tn tc] (by rfl) (by rfl) (World.news_of_block (cs := #[.int .i32 c.what, .slice aa an ac, .bool c.neg, .string ⟨c.text.toArray⟩, .string ⟨c.name.toArray⟩, .int .i64 c.goal, .slice ia in_ ic, .int .i64 c.pat.groups, .slice ra rn rc, .bool c.all, .bool c.print, .int .i64 c.nth, .slice fa fn fc, .slice ta tn tc]) (t := 167) (fr := (0, 0)) (heap_alloc_new w5 _)) (by simp [Value.oneCell'])
        (by omega) (by unfold maxLen; omega) (by omega) (by simp; omega) (w5.heap.size + 1) (by simp) ?_; intro g1 cap w6 hown1 hgrow hat hlt1; have kc := (hgrow.cell_far ⟨pp, 2, none⟩ (by simp; omega) (Ne.symm hne)).trans (h1b _); have kf := (hgrow.frozen_far ⟨pp, 2, none⟩ (by simp; omega) (Ne.symm hne)).trans (f1b _)))
  all_goals
    have hv : (Value.slice (some ⟨g1, 0, none⟩) (s.cmds.length + 1) cap).ownBlock ≠ some pp := by
      rcases hat with h | h
      · intro e
        simp [Value.ownBlock] at e
        exact hne (by rw [h, e])
      · intro e
        simp [Value.ownBlock] at e
        omega
    obtain ⟨u1, u2, u3, u4⟩ := field_end (((Only.refl _ w5).alloc _).drew) hgrow kc hown1 hv lr hne
    have h6 := h5.more c1 c2 c3 dd u1 u2 u3 u4 (by simp; omega)
    have ncq : ¬ (cb = pp ∨ qv.ownBlock = some cb) := by
      rintro (e | e)
      · exact npp e.symm
      · exact hcq e
    have k0' := u3.keeps k0 ncq
    have q6 := h6.lead.at0
    go_wp2_with fail
    refine (tail_ok g pp _ i3 h6.cur h6.lead i4 HT.out).mono ?_
    rintro e w8 ⟨rfl, hc8, ho8⟩
    have h8 := h6.moved hc8 ho8 hi4
    go_wp2
    go_ret
    refine ⟨rfl, h8, ?_⟩
    have o6 : Only (fun b => b = g.c ∨ b = pp ∨ base ≤ b) w _ := o5.trans u3 (fun _ e => Or.inl e) (fun b hb e => by
      rcases e with e | e
      · exact Or.inr (Or.inl e)
      · exact Or.inr (Or.inr (c2.lt b e).1))
    exact o6.trans ho8 (fun _ e => e) (fun _ _ e => Or.inl e)
end Go.Proofs.YtbiobhghnldckaaGreatDoor

/- Proved: a script of commands that open no block and ask for no label is read, command by command. Conditions: 'Dec': what the script's runes and places are; contracts of its commands. -/
namespace Go.Proofs.YtbiobhghnldckaaGreatDoor
open Go.RowKit
set_option linter.unusedVariables false

/-- One turn of the reader's loop leads from a state to another. -/
def GapOk (g : CG) (pp : Nat) (s s1 : Adz.Ps) : Prop := Adz.peek g.L s.i ≠ -1 ∧
  ∀ base w, Par g pp base w s → Calls Tryz.prog 52 #[.pointer (some ⟨pp, 0, none⟩)] w fun e w' => e = .returned (.pointer none) ∧ Par g pp base w' s1 ∧ Only (fun b => b = g.c ∨ b = pp ∨ base ≤ b + 1) w w'

set_option maxRecDepth 100000 in
set_option maxHeartbeats 800000 in
theorem gap_skip (g : CG) (pp : Nat) (s : Adz.Ps) (r : Int) (hr : Adz.peek g.L s.i = r) (h : Adz.isBlank r = true ∨ (Adz.isBlank r = false ∧ (r = 10 ∨ r = 59))) : GapOk g pp s { s with i := s.i + 1 } := by
  have hr1 : r ≠ -1 := by
    rcases h with h | ⟨_, h⟩
    · intro e; subst e; simp [Adz.isBlank] at h
    · omega
  have hlt : s.i < g.L.length := Adz.lt_of_peek (by omega)
  refine ⟨by omega, fun base w hp => ?_⟩
  have q0 := hp.lead.at0
  have HR : Hid (Adz.peek g.L s.i = r) := hr
  clear hr
  rcases h with h | ⟨h, h1⟩
  · have HB : Hid (Adz.isBlank r = true) := h
    clear h
    go_enter Tryz.func52, Tryz.ntmps52
    go_wp2_with fail
    refine (peek_calls g w s.i hp.cur).mono ?_
    rintro e w1 ⟨rfl, n, rfl⟩
    rw [HR.out]
    go_wp2_with fail
    refine (isBlank_calls _ _).mono ?_
    rintro e w1 ⟨rfl, rfl⟩
    rw [HB.out]
    go_wp2_with fail
    refine (next_calls g _ s.i (hp.cur.drewN n) hlt).mono ?_
    rintro e w2 ⟨rfl, hc2, ho2⟩
    have o2 : Only (· = g.c) w w2 := ((Only.refl (· = g.c) w).drewN n).trans ho2 (fun _ e => e) (fun _ _ e => e)
    go_wp2
    go_ret
    exact ⟨rfl, hp.moved hc2 o2 (by omega), o2.mono (fun _ _ e => Or.inl e)⟩
  · have HB : Hid (Adz.isBlank r = false) := h
    clear h
    have hb : ((r == 10) = true) ∨ ((r == 10) = false ∧ (r == 59) = true) := by
      rcases h1 with e | e
      · exact Or.inl (by simp [e])
      · exact Or.inr ⟨by simp [e], by simp [e]⟩
    have hr10 : r = 10 ∨ r = 59 := h1
    clear h1
    rcases hr10 with e | e
    all_goals
      subst e
      go_enter Tryz.func52, Tryz.ntmps52
      go_wp2_with fail
      refine (peek_calls g w s.i hp.cur).mono ?_
      rintro e w1 ⟨rfl, n, rfl⟩
      rw [HR.out]
      go_wp2_with fail
      refine (isBlank_calls _ _).mono ?_
      rintro e w1 ⟨rfl, rfl⟩
      rw [HB.out]
      go_wp2_with fail
      refine (next_calls g _ s.i (hp.cur.drewN n) hlt).mono ?_
      rintro e w2 ⟨rfl, hc2, ho2⟩
      have o2 : Only (· = g.c) w w2 := ((Only.refl (· = g.c) w).drewN n).trans ho2 (fun _ e => e) (fun _ _ e => e)
      go_wp2
      go_ret
      exact ⟨rfl, hp.moved hc2 o2 (by omega), o2.mono (fun _ _ e => Or.inl e)⟩

set_option maxRecDepth 100000 in
set_option maxHeartbeats 800000 in
theorem gap_cmdW (g : CG) (pp : Nat) (s s1 : Adz.Ps) (r : Int) (hr : Adz.peek g.L s.i = r) (hb : Adz.isBlank r = false) (h10 : r ≠ 10) (h59 : r ≠ 59) (h125 : r ≠ 125) (hm : r ≠ -1)
    (hcmd : ∀ base w, Par g pp base w s → Calls Tryz.prog 77 #[.pointer (some ⟨pp, 0, none⟩)] w fun e w' => e = .returned (.pointer none) ∧ Par g pp base w' s1 ∧ Only (fun b => b = g.c ∨ b = pp ∨ base ≤ b + 1) w w') : GapOk g pp s s1 := by
  refine ⟨by omega, fun base w hp => ?_⟩
  have q0 := hp.lead.at0
  have HR : Hid (Adz.peek g.L s.i = r) := hr
  have HB : Hid (Adz.isBlank r = false) := hb
  have b1 : (r == 10) = false := by simpa using h10
  have b2 : (r == 59) = false := by simpa using h59
  have b3 : (r == 125) = false := by simpa using h125
  clear hr hb
  go_enter Tryz.func52, Tryz.ntmps52
  go_wp2_with fail
  refine (peek_calls g w s.i hp.cur).mono ?_
  rintro e w1 ⟨rfl, n, rfl⟩
  rw [HR.out]
  go_wp2_with fail
  refine (isBlank_calls _ _).mono ?_
  rintro e w1 ⟨rfl, rfl⟩
  rw [HB.out]
  go_wp2_with fail
  have o1 : Only (· = g.c) w (w.drewN n) := (Only.refl _ w).drewN n
  refine (hcmd base _ (hp.moved (hp.cur.drewN n) o1 (Nat.le_refl _))).mono ?_
  rintro e w2 ⟨rfl, h2, o2⟩
  go_wp2
  go_ret
  exact ⟨rfl, h2, o1.trans o2 (fun _ e => Or.inl e) (fun _ _ e => e)⟩

theorem gap_cmd (g : CG) (pp : Nat) (s s1 : Adz.Ps) (r : Int) (hr : Adz.peek g.L s.i = r) (hb : Adz.isBlank r = false) (h10 : r ≠ 10) (h59 : r ≠ 59) (h125 : r ≠ 125) (hm : r ≠ -1)
    (hcmd : ∀ base w, Par g pp base w s → Calls Tryz.prog 77 #[.pointer (some ⟨pp, 0, none⟩)] w fun e w' => e = .returned (.pointer none) ∧ Par g pp base w' s1 ∧ Only (fun b => b = g.c ∨ b = pp ∨ base ≤ b) w w') : GapOk g pp s s1 :=
  gap_cmdW g pp s s1 r hr hb h10 h59 h125 hm (fun base w hp => (hcmd base w hp).mono fun e w' ⟨h1, h2, h3⟩ => ⟨h1, h2, h3.mono (fun b _ e => by
    rcases e with e | e | e
    · exact Or.inl e
    · exact Or.inr (Or.inl e)
    · exact Or.inr (Or.inr (by omega)))⟩)

/-- So many turns of the loop lead from a state to another. -/
def Walks (L pl : List Int) : Nat → Adz.Ps → Adz.Ps → Prop
  | 0, s, s' => s = s'
  | n + 1, s, s' => ∃ s1, (∀ (g : CG) (pp : Nat), g.L = L → g.pl = pl → g.L.length ≤ g.rcap → GapOk g pp s s1) ∧ Walks L pl n s1 s'
end Go.Proofs.YtbiobhghnldckaaGreatDoor

/- Proved: source.New of a text whose runes are known; the cursor's row has room for its runes. Condition: 'Dec': what the text's runes and places are. -/
namespace Go.Proofs.YtbiobhghnldckaaGreatDoor
open Go.RowKit
set_option linter.unusedVariables false

theorem NewSt.cur2 {s : ByteArray} {L pl : List Int} {c ib base : Nat} {w : World} {k : Nat} (h : NewSt s L pl c ib base w k L.length (L.length + 1)) (hd : Dec s L pl) : ∃ g : CG, g.L = L ∧ g.pl = pl ∧ g.c = c ∧ Cur g w 0 ∧ g.L.length ≤ g.rcap := by
  obtain ⟨rv, r1, r2⟩ := h.r
  obtain ⟨pv, p1, p2⟩ := h.p
  obtain ⟨pb, pc, rfl⟩ : ∃ pb pc, pv = .slice (some ⟨pb, 0, none⟩) (L.length + 1) pc := by
    rcases p2.2 with ⟨_, h0⟩ | ⟨gb, cap, cur, q, _⟩
    · omega
    · exact ⟨gb, cap, q⟩
  have tp := Typ.of_row p2 (b := pb) rfl
  have pcell : ∀ j, j ≤ L.length → w.cell? ⟨pb, j, none⟩ = some (.int .i64 (Adz.place pl j)) := by
    intro j hj
    rw [p2.cellAt j (by omega)]
    have hlen := hd.len
    simp [Adz.place, show j < L.length + 1 by omega, show j < pl.length by omega]
  by_cases hL : L.length = 0
  · obtain ⟨ra, rc, rfl⟩ := row_shape r2
    exact ⟨⟨c, c + 1, rc, pb, pc, L, pl⟩, rfl, rfl, rfl, ⟨⟨ra, r1, fun e => absurd hL e⟩, p1, h.c2, h.f2, fun j hj => by simp only at hj; omega, pcell, h.tc, fun e => absurd hL e, tp, by simp, tp.ne h.tc (by decide), by simp, hd.few, hd.good⟩, by show L.length ≤ rc; omega⟩
  · obtain ⟨rb, rc, rfl, hcap⟩ : ∃ pb pc, rv = .slice (some ⟨pb, 0, none⟩) L.length pc ∧ L.length ≤ pc := by
      rcases r2.2 with ⟨_, h0⟩ | ⟨gb, cap, cur, q, _, _, hc, _⟩
      · omega
      · exact ⟨gb, cap, q, hc⟩
    have tr := Typ.of_row r2 (b := rb) rfl
    refine ⟨⟨c, rb, rc, pb, pc, L, pl⟩, rfl, rfl, rfl, ⟨⟨some ⟨rb, 0, none⟩, r1, fun _ => rfl⟩, p1, h.c2, h.f2, fun j hj => ?_, pcell, h.tc, fun _ => tr, tp, tr.ne h.tc (by decide), tp.ne h.tc (by decide), by simp, hd.few, hd.good⟩, hcap⟩
    simp only at hj
    rw [r2.cellAt j (by omega)]
    simp [Adz.peek, hj]

set_option maxRecDepth 100000 in
set_option maxHeartbeats 1600000 in
theorem new_ok2 (s : ByteArray) (L pl : List Int) (hd : Dec s L pl) (w : World) :
    Calls Tryz.prog 49 #[.string s] w fun e w' => ∃ g : CG, g.L = L ∧ g.pl = pl ∧ e = .returned (.tuple #[.pointer (some ⟨g.c, 0, none⟩), .pointer none]) ∧ Cur g w' 0 ∧ Only (fun _ => False) w w' ∧ w.heap.size ≤ g.c ∧ g.L.length ≤ g.rcap := by
  have hsm := hd.small
  have hfw := hd.few
  obtain ⟨i0, hi0, hz0, hz1, hz2⟩ := info_parts infoRune
  obtain ⟨j0, hj0, jz0, jz1, jz2⟩ := info_parts infoInt
  go_enter Tryz.func49, Tryz.ntmps49
  go_wp2_with fail
  have hst : NewSt s L pl w.heap.size (w.heap.size + 1) (w.heap.size + 2) ((w.alloc (.cells #[.slice none 0 0, .slice none 0 0, .int .i64 0] 144)).iter s 0) 0 0 0 := by
    have hk := (Cells.new w #[.slice none 0 0, .slice none 0 0, .int .i64 0] 144).alloc (.stringIter s 0)
    refine ⟨?_, ⟨_, (hk 0 _ rfl).1, World.ownsRow_nil _ _ _ _⟩, ⟨_, (hk 1 _ rfl).1, World.ownsRow_nil _ _ _ _⟩, (hk 2 _ rfl).1, (hk 0 _ rfl).2, (hk 1 _ rfl).2, (hk 2 _ rfl).2, (Typ.new _ _ _ _).alloc _, ?_, by omega, by omega⟩
    · rw [hd.zero]
      have := World.iter_heap (w.alloc (.cells #[.slice none 0 0, .slice none 0 0, .int .i64 0] 144)) s 0
      simpa using this
    · simp [World.iter]
  have oo : Only (fun _ => False) w ((w.alloc (.cells #[.slice none 0 0, .slice none 0 0, .int .i64 0] 144)).iter s 0) := ((Only.refl _ w).alloc _).alloc _
  generalize (w.alloc (.cells #[.slice none 0 0, .slice none 0 0, .int .i64 0] 144)).iter s 0 = w0 at *
  go_loopg [] L.length (fun k wr => ∃ j, j + k = L.length ∧ Hid (NewSt s L pl w.heap.size (w.heap.size + 1) (w.heap.size + 2) wr j j j) ∧ Hid (Only (fun b => w.heap.size ≤ b) w wr))
  case atStart => exact ⟨0, by omega, hst, oo.mono (fun _ _ e => e.elim)⟩
  case round =>
    obtain ⟨j, hjk, hS, hO⟩ := hrel
    have hS' : NewSt s L pl w.heap.size (w.heap.size + 1) (w.heap.size + 2) wr j j j := hS
    have hO' : Only (fun b => w.heap.size ≤ b) w wr := hO
    have HJ : Hid (j + gk = L.length) := hjk
    clear hS hO hst
    by_cases hlt : j < L.length
    · obtain ⟨p, q, e1, e2, e3, e4, e5⟩ := hd.step j hlt
      obtain ⟨d0, d1, d2, d3⟩ := hd.good j hlt
      have b65 : (Adz.peek L j == 65533) = false := by simpa using d2
      have hnx : ∀ ty, (Instr.next (.pointer (some ⟨w.heap.size + 1, 0, none⟩)) true ty).run Tryz.prog wr = .ok (.tuple #[.bool true, .int .i64 (Adz.place pl j), .int .i32 (Adz.peek L j)]) (wr.iterAt (w.heap.size + 1) s (Adz.place pl (j + 1)).toNat) := fun ty => by
        have hit := hS'.it
        rw [e1] at hit
        have := Lib.run_next_any_at (P := Tryz.prog) wr (w.heap.size + 1) s p ty hit e3
        rw [e4, e5] at this
        rw [e1, e2]
        simpa using this
      have h1 := hS'.next (j + 1)
      have o1 := iterAt_only wr (w.heap.size + 1) s (Adz.place pl (j + 1)).toNat
      generalize wr.iterAt (w.heap.size + 1) s (Adz.place pl (j + 1)).toNat = w1 at *
      obtain ⟨rv, r1, r2⟩ := h1.r
      have f0 := h1.f0
      have lr : w.heap.size < w1.heap.size := h1.tc.lt
      have hne : rv.ownBlock ≠ some w.heap.size := row_ne r2 h1.tc (by decide)
      have hbs := h1.bs
      have hlen : ((L.take j).map (Value.int .i32)).length = j * 1 := by simp; omega
      have HD : Hid (Dec s L pl) := hd
      clear hd e1 e2 e3 e4 e5
      go_upto_region 8 with (at_builtin; refine wpList_append_lies _ (by rfl) _ _ _ (by rfl) (w.heap.size + 2) 21 i0 _ 1 4 Tryz.underlying103 hi0 hz0 hz1 hz2 rfl (by omega) rv j ((L.take j).map (Value.int .i32)) (by rfl) (r2.alloc _) ⟨w1.heap.size, 0, none⟩ 1 1 [.int .i32 (Adz.peek L j)] (by rfl) (by rfl) (World.news_of_block (cs := #[.int .i32 (Adz.peek L j)]) (t := 21) (fr := (0, 0)) (heap_alloc_new w1 _)) (by simp [Value.oneCell']) (by omega) (by unfold maxLen; omega) (by omega) (by simp; omega) (w1.heap.size + 1) (by simp) ?_; intro g1 cap w2 hown1 hgrow hat hlt1; have kc := (hgrow.cell_far ⟨w.heap.size, 0, none⟩ (by simp; omega) (Ne.symm hne)).trans ((World.cell?_alloc_past _ _ _ lr).trans r1); have kf := (hgrow.frozen_far ⟨w.heap.size, 0, none⟩ (by simp; omega) (Ne.symm hne)).trans ((World.frozen?_alloc_past _ _ _ lr).trans f0))
      have hv : (Value.slice (some ⟨g1, 0, none⟩) (j + 1) cap).ownBlock ≠ some w.heap.size := by
        rcases hat with h | h
        · intro e
          simp [Value.ownBlock] at e
          exact hne (by rw [h, e])
        · intro e
          simp [Value.ownBlock] at e
          omega
      obtain ⟨u1, u2, u3, u4⟩ := field_end ((Only.refl _ w1).alloc _) hgrow kc hown1 hv lr hne
      have h2 := h1.rune (kr' := j + 1) r1 u1 (by rw [take_peek hlt]; simpa using u2) u3 u4
      have o2 : Only (fun b => w.heap.size ≤ b) w (w2.setCell ⟨w.heap.size, 0, none⟩ (.slice (some ⟨g1, 0, none⟩) (j + 1) cap)) := (hO'.trans o1 (fun _ e => e) (fun b _ e => by omega) : Only (fun b => w.heap.size ≤ b) w w1).trans u3 (fun _ e => e) (fun b _ e => by
        rcases e with e | e
        · omega
        · have := (r2.lt b e).1; omega)
      generalize w2.setCell ⟨w.heap.size, 0, none⟩ (.slice (some ⟨g1, 0, none⟩) (j + 1) cap) = w3 at *
      obtain ⟨pv, p1, p2⟩ := h2.p
      have f1 := h2.f1
      have lr2 : w.heap.size < w3.heap.size := h2.tc.lt
      have hne2 : pv.ownBlock ≠ some w.heap.size := row_ne p2 h2.tc (by decide)
      have hbs2 := h2.bs
      clear u1 u2 u3 u4 hown1 hgrow hat hlt1 kc kf r1 r2 f0
      go_wp2_with (at_builtin; refine wpList_append_lies _ (by rfl) _ _ _ (by rfl) (w.heap.size + 2) 3 j0 _ 1 8 Tryz.underlying35 hj0 jz0 jz1 jz2 rfl (by omega) pv j ((pl.take j).map (Value.int .i64)) (by rfl) (p2.alloc _) ⟨w3.heap.size, 0, none⟩ 1 1 [.int .i64 (Adz.place pl j)] (by rfl) (by rfl) (World.news_of_block (cs := #[.int .i64 (Adz.place pl j)]) (t := 3) (fr := (0, 0)) (heap_alloc_new w3 _)) (by simp [Value.oneCell']) (by omega) (by unfold maxLen; omega) (by omega) (by simp; omega) (w3.heap.size + 1) (by simp) ?_; intro g2 cap2 w4 hown2 hgrow2 hat2 hlt2; have kc2 := (hgrow2.cell_far ⟨w.heap.size, 1, none⟩ (by simp; omega) (Ne.symm hne2)).trans ((World.cell?_alloc_past _ _ _ lr2).trans p1); have kf2 := (hgrow2.frozen_far ⟨w.heap.size, 1, none⟩ (by simp; omega) (Ne.symm hne2)).trans ((World.frozen?_alloc_past _ _ _ lr2).trans f1))
      have hv2 : (Value.slice (some ⟨g2, 0, none⟩) (j + 1) cap2).ownBlock ≠ some w.heap.size := by
        rcases hat2 with h | h
        · intro e
          simp [Value.ownBlock] at e
          exact hne2 (by rw [h, e])
        · intro e
          simp [Value.ownBlock] at e
          omega
      obtain ⟨v1, v2, v3, v4⟩ := field_end ((Only.refl _ w3).alloc _) hgrow2 kc2 hown2 hv2 lr2 hne2
      have hpl := HD.out.len
      have h3 := h2.place (kp' := j + 1) p1 v1 (by rw [take_place (by omega)]; simpa using v2) v3 v4
      have o3 := o2.trans v3 (fun _ e => e) (fun b _ e => by
        rcases e with e | e
        · omega
        · have := (p2.lt b e).1; omega)
      go_roundg (gk - 1)
      case measure => have := HJ.out; omega
      case rel => exact ⟨j + 1, by have := HJ.out; omega, h3, o3⟩
    · have hjn : j = L.length := by have := HJ.out; omega
      subst hjn
      have hend : ∀ ty, (Instr.next (.pointer (some ⟨w.heap.size + 1, 0, none⟩)) true ty).run Tryz.prog wr = .ok (.tuple #[.bool false]) wr := fun ty =>
        Lib.run_next_end_at (P := Tryz.prog) wr (w.heap.size + 1) s _ ty hS'.it (by rw [hd.last]; simp)
      obtain ⟨pv, p1, p2⟩ := hS'.p
      have f1 := hS'.f1
      have lr2 : w.heap.size < wr.heap.size := hS'.tc.lt
      have hne2 : pv.ownBlock ≠ some w.heap.size := row_ne p2 hS'.tc (by decide)
      have hbs2 := hS'.bs
      have HD : Hid (Dec s L pl) := hd
      clear hd hlt hjk
      go_wp2_with (at_builtin; refine wpList_append_lies _ (by rfl) _ _ _ (by rfl) (w.heap.size + 2) 3 j0 _ 1 8 Tryz.underlying35 hj0 jz0 jz1 jz2 rfl (by omega) pv L.length ((pl.take L.length).map (Value.int .i64)) (by rfl) (p2.alloc _) ⟨wr.heap.size, 0, none⟩ 1 1 [.int .i64 (s.size : Int)] (by rfl) (by rfl) (World.news_of_block (cs := #[.int .i64 (s.size : Int)]) (t := 3) (fr := (0, 0)) (heap_alloc_new wr _)) (by simp [Value.oneCell']) (by omega) (by unfold maxLen; omega) (by omega) (by simp; omega) (wr.heap.size + 1) (by simp) ?_; intro g2 cap2 w4 hown2 hgrow2 hat2 hlt2; have kc2 := (hgrow2.cell_far ⟨w.heap.size, 1, none⟩ (by simp; omega) (Ne.symm hne2)).trans ((World.cell?_alloc_past _ _ _ lr2).trans p1); have kf2 := (hgrow2.frozen_far ⟨w.heap.size, 1, none⟩ (by simp; omega) (Ne.symm hne2)).trans ((World.frozen?_alloc_past _ _ _ lr2).trans f1))
      have hv2 : (Value.slice (some ⟨g2, 0, none⟩) (L.length + 1) cap2).ownBlock ≠ some w.heap.size := by
        rcases hat2 with h | h
        · intro e
          simp [Value.ownBlock] at e
          exact hne2 (by rw [h, e])
        · intro e
          simp [Value.ownBlock] at e
          omega
      obtain ⟨v1, v2, v3, v4⟩ := field_end ((Only.refl _ wr).alloc _) hgrow2 kc2 hown2 hv2 lr2 hne2
      have hpl := HD.out.len
      have hla := HD.out.last
      have h3 := hS'.place (kp' := L.length + 1) p1 v1 (by rw [take_place (by omega), hla]; simpa using v2) v3 v4
      have o3 := hO'.trans v3 (fun _ e => e) (fun b _ e => by
        rcases e with e | e
        · omega
        · have := (p2.lt b e).1; omega)
      obtain ⟨g, g1, g2', g3, g4, g5⟩ := h3.cur2 HD.out
      go_ret2
      refine ⟨g, g1, g2', by rw [g3]; rfl, g4, o3.mono (fun b hb e => by omega), by omega, g5⟩
end Go.Proofs.YtbiobhghnldckaaGreatDoor

/- Proved: program.Read and adze.Parse of a script of commands that open no block and ask for no label. Conditions: 'Dec': what the script's runes and places are; 'Walks': the script's commands, turn by turn. -/
namespace Go.Proofs.YtbiobhghnldckaaGreatDoor
open Go.RowKit
set_option linter.unusedVariables false

/-- What the end of a script makes of what was read: these commands. -/
def FinOk (sf : Adz.Ps) (cs : List Adz.Cmd) : Prop := ∀ (g : CG) (pp base : Nat) (w : World), Par g pp base w sf →
  Calls Tryz.prog 53 #[.pointer (some ⟨pp, 0, none⟩)] w fun e w' => e = .returned (.pointer none) ∧ Only (fun b => base ≤ b) w w' ∧ ∃ qv xs, w'.cell? ⟨pp, 2, none⟩ = some qv ∧ w'.ownsRow base 167 14 qv cs.length xs ∧ CmdsIn w' cs xs
theorem finOk_plain (sf : Adz.Ps) (hop : sf.opens = []) (hlab : sf.labs = []) (hkd : ∀ j (hj : j < sf.cmds.length), (Adz.behindKind (sf.cmds[j]).what).getD 0 ≠ 4) : FinOk sf sf.cmds := fun g pp base w h => by
  refine (finish_ok h hop hlab hkd).mono ?_
  rintro e w5 ⟨rfl, o5⟩
  have h5 := h.moved (h.cur.keeps o5 id (fun _ => id) id) (o5.mono (fun _ _ e => e.elim)) (Nat.le_refl _)
  obtain ⟨qv, xs, q1, q2, q3⟩ := h5.cmds
  exact ⟨rfl, o5.mono (fun _ _ e => e.elim), qv, xs, q1, q2, q3⟩

set_option maxRecDepth 100000 in
set_option maxHeartbeats 1600000 in
theorem readProg_fin (s : ByteArray) (L pl : List Int) (hd : Dec s L pl) (N : Nat) (sf : Adz.Ps) (hwk : Walks L pl N ⟨0, [], [], []⟩ sf) (hend : Adz.peek L sf.i = -1) (cs : List Adz.Cmd) (hfin : FinOk sf cs) (w : World) :
    Calls Tryz.prog 32 #[.string s] w fun e w' => ∃ pb, e = .returned (.tuple #[.pointer (some ⟨pb, 0, none⟩), .pointer none]) ∧ ProgAt w' pb cs ∧ Only (fun _ => False) w w' ∧ w.heap.size ≤ pb := by
  have hsm := hd.small
  have hmm := @run_makeMap Tryz.prog
  have hb500 : decide ((500 : Int) < (s.size : Int)) = false := decide_eq_false (by omega)
  have hfew := hd.few
  go_enter Tryz.func32, Tryz.ntmps32
  go_wp2_with fail
  refine (new_ok2 s L pl hd w).mono ?_
  rintro e w1 ⟨g, rfl, rfl, rfl, hc1, ho1, hgc, hcap⟩
  go_wp2_with fail
  refine (behinds_calls w1).mono ?_
  rintro e w2 ⟨rfl, rfl⟩
  go_wp2_with fail
  have hpar : Par g (w1.heap.size + 2) (w1.heap.size + 2) (((w1.alloc (.map (behEntries 0 Adz.behTable).toArray 22)).alloc (.map #[] 0)).alloc (.cells #[.pointer (some ⟨g.c, 0, none⟩), .map (some w1.heap.size), .slice none 0 0, .slice none 0 0, .map (some (w1.heap.size + 1))] 119)) ⟨0, [], [], []⟩ := by
    have hm : BehAt ((w1.alloc (.map (behEntries 0 Adz.behTable).toArray 22)).alloc (.map #[] 0)) w1.heap.size := map_keeps (heap_alloc_new w1 _) ((Only.refl (fun _ => False) _).alloc _) id
    have hl : ((w1.alloc (.map (behEntries 0 Adz.behTable).toArray 22)).alloc (.map #[] 0)).heap[w1.heap.size + 1]? = some (.map #[] 0) := by
      have := heap_alloc_new (w1.alloc (.map (behEntries 0 Adz.behTable).toArray 22)) (.map #[] 0)
      simpa using this
    have := Par.start ((hc1.alloc (.map (behEntries 0 Adz.behTable).toArray 22)).alloc (.map #[] 0)) w1.heap.size (w1.heap.size + 1) hm hl (by simp)
    simpa using this
  have oo : Only (fun _ => False) w (((w1.alloc (.map (behEntries 0 Adz.behTable).toArray 22)).alloc (.map #[] 0)).alloc (.cells #[.pointer (some ⟨g.c, 0, none⟩), .map (some w1.heap.size), .slice none 0 0, .slice none 0 0, .map (some (w1.heap.size + 1))] 119)) := ((ho1.alloc _).alloc _).alloc _
  have hsz1 := ho1.size
  generalize ((w1.alloc (.map (behEntries 0 Adz.behTable).toArray 22)).alloc (.map #[] 0)).alloc (.cells #[.pointer (some ⟨g.c, 0, none⟩), .map (some w1.heap.size), .slice none 0 0, .slice none 0 0, .map (some (w1.heap.size + 1))] 119) = w3 at *
  have HW : Hid (Walks g.L g.pl N ⟨0, [], [], []⟩ sf) := hwk
  have HE : Hid (Adz.peek g.L sf.i = -1) := hend
  clear hwk hend hd hc1
  go_loopg [] N (fun k wr => (∃ sj, Hid (Walks g.L g.pl k sj sf) ∧ Hid (Par g (w1.heap.size + 2) (w1.heap.size + 2) wr sj)) ∧ Hid (Only (fun b => w.heap.size ≤ b) w wr))
  case atStart => exact ⟨⟨_, HW, hpar⟩, oo.mono (fun _ _ e => e.elim)⟩
  case round =>
    obtain ⟨⟨sj, hk, hP⟩, hO⟩ := hrel
    have hO' : Only (fun b => w.heap.size ≤ b) w wr := hO
    have hP' : Par g (w1.heap.size + 2) (w1.heap.size + 2) wr sj := hP
    clear hO hP hpar
    cases gk with
    | succ gk =>
      obtain ⟨s1, hst, hrest⟩ := hk.out
      obtain ⟨hne, hgap⟩ := hst g (w1.heap.size + 2) rfl rfl hcap
      have HR : Hid (Walks g.L g.pl gk s1 sf) := hrest
      clear hrest hst hk
      have ho2 : Only (· = g.c) wr wr := Only.refl _ _
      have hbn : (Adz.peek g.L sj.i == -1) = false := by simpa using hne
      have hbn2 : (Adz.peek g.L sj.i != -1) = true := by simpa using hne
      have hpk := peek_calls g wr sj.i hP'.cur
      generalize Adz.peek g.L sj.i = pk at *
      go_wp2_with fail
      refine hpk.mono ?_
      clear hpk
      rintro e w4 ⟨rfl, n4, rfl⟩
      go_wp2_with fail
      have o4 : Only (· = g.c) wr (wr.drewN n4) := (Only.refl _ wr).drewN n4
      refine (hgap _ _ (hP'.moved (hP'.cur.drewN n4) o4 (Nat.le_refl _))).mono ?_
      rintro e w5 ⟨rfl, h5, o5⟩
      go_wp2
      go_roundg gk
      case measure => omega
      case rel =>
        refine ⟨⟨s1, HR, h5⟩, ?_⟩
        exact (hO'.drewN n4).trans o5 (fun _ e => e) (fun b _ e => by
          rcases e with e | e | e
          · omega
          · omega
          · omega)
    | zero =>
      obtain rfl : sj = sf := hk.out
      clear hk
      go_wp2_with fail
      refine (peek_calls g wr _ hP'.cur).mono ?_
      rintro e w4 ⟨rfl, n4, rfl⟩
      rw [HE.out]
      go_wp2_with fail
      have o4 : Only (· = g.c) wr (wr.drewN n4) := (Only.refl _ wr).drewN n4
      have h4 := hP'.moved (hP'.cur.drewN n4) o4 (Nat.le_refl _)
      refine (hfin g _ _ _ h4).mono ?_
      rintro e w5 ⟨rfl, o5, qv, xs, q1, q2, q3⟩
      obtain ⟨qa, qc, rfl⟩ := row_shape q2
      go_wp2
      go_ret2
      have o6 : Only (fun _ => False) w w5 := ((hO'.drewN n4).trans o5 (fun _ e => e) (fun b _ e => by omega) : Only (fun b => w.heap.size ≤ b) w w5).mono (fun b hb e => by omega)
      have oa : Only (fun _ => False) w5 (w5.alloc (.cells #[.slice qa cs.length qc] 101)) := (Only.refl _ w5).alloc _
      refine ⟨w5.heap.size, rfl, ⟨_, xs, (Cells.new w5 #[.slice qa cs.length qc] 101).at 0 _ rfl, row_base (row_keeps q2 oa (fun _ _ => id)) (Nat.zero_le _), q3.keeps oa ⟨fun _ _ => id, fun _ _ => id, fun _ _ => id, fun _ _ => id, fun _ _ => id⟩, Typ.new _ _ _ _⟩, o6.alloc _, o6.size⟩
set_option maxHeartbeats 800000 in
theorem parse_fin (s : ByteArray) (L pl : List Int) (hd : Dec s L pl) (N : Nat) (sf : Adz.Ps) (hwk : Walks L pl N ⟨0, [], [], []⟩ sf) (hend : Adz.peek L sf.i = -1) (cs : List Adz.Cmd) (hfin : FinOk sf cs) (w : World) :
    Calls Tryz.prog 28 #[.string s] w fun e w' => ∃ sb, e = .returned (.tuple #[.pointer (some ⟨sb, 0, none⟩), .int .i64 0, .int .i64 0]) ∧ ScriptAt w' sb cs ∧ Only (fun _ => False) w w' ∧ w.heap.size ≤ sb := by
  go_enter Tryz.func28, Tryz.ntmps28
  go_wp2_with fail
  refine (readProg_fin s L pl hd N sf hwk hend cs hfin w).mono ?_
  rintro e w1 ⟨pb, rfl, ⟨qv, xs, p1, p2, p3, p4⟩, ho, hpb⟩
  go_wp2
  go_ret3
  have oa : ∀ o : Obj, Only (fun _ => False) w1 (w1.alloc o) := fun o => (Only.refl _ w1).alloc o
  exact ⟨w1.heap.size, rfl, ⟨Typ.new _ _ _ _, pb, (Cells.new w1 _ _).at 0 _ rfl, qv, xs, (oa _).keeps p1 id, row_keeps p2 (oa _) (fun _ _ => id), p3.keeps (oa _) ⟨fun _ _ => id, fun _ _ => id, fun _ _ => id, fun _ _ => id, fun _ _ => id⟩, p4.alloc _⟩, ho.alloc _, ho.size⟩
end Go.Proofs.YtbiobhghnldckaaGreatDoor
