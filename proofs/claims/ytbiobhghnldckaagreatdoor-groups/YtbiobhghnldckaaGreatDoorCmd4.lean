/- Proved: a command that is an s, without an address, is read. Conditions: the parser lies in memory as 'Par' says. -/
import Derived.Test.YtbiobhghnldckaaGreatDoorCmd1J
import Derived.Test.YtbiobhghnldckaaGreatDoorSpecJ
namespace Go.Proofs.YtbiobhghnldckaaGreatDoor
open Go.RowKit
set_option linter.unusedVariables false
attribute [local go_sem ↓] Go.wp_at_zero Go.wp_at_succ

theorem map_ne {w : World} {b m : Nat} {T : TypeId} {es : Array MapEntry} {n : Nat} (t : Typ w b T) (h : w.heap[m]? = some (.map es n)) : m ≠ b := fun e => by
  obtain ⟨c, f, t⟩ := t
  rw [← e, h] at t
  cases t
theorem map_keeps {S : Nat → Prop} {w w' : World} {m : Nat} {es : Array MapEntry} {n : Nat} (h : w.heap[m]? = some (.map es n)) (o : Only S w w') (hs : ¬ S m) : w'.heap[m]? = some (.map es n) :=
  (o.block m (Array.getElem?_eq_some_iff.1 h).1 hs).trans h

/-- The cursor alone has gone on. -/
theorem Par.moved {g : CG} {pp base : Nat} {w w' : World} {s : Adz.Ps} (h : Par g pp base w s) {i : Nat} (hc : Cur g w' i) (o : Only (· = g.c) w w') (hi : s.i ≤ i) : Par g pp base w' { s with i := i } := by
  obtain ⟨mb, m1, m2⟩ := h.map
  obtain ⟨qv, xs, c1, c2, c3⟩ := h.cmds
  obtain ⟨ov, o1, o2⟩ := h.op
  obtain ⟨l0, lb, l1, l2⟩ := h.lab
  have tc := h.cur.tc
  have n0 : ¬ pp = g.c := h.lead.ne
  exact ⟨hc, h.lead.moved o, ⟨mb, o.keeps m1 n0, map_keeps m2 o (map_ne tc m2)⟩, ⟨qv, xs, o.keeps c1 n0, row_keeps c2 o (fun b hb e => (Typ.of_row c2 hb).ne tc (by decide) e), c3.keeps o h.cur.spares⟩,
    ⟨ov, o.keeps o1 n0, row_keeps o2 o (fun b hb e => (Typ.of_row o2 hb).ne tc (by decide) e)⟩, ⟨l0, lb, o.keeps l1 n0, map_keeps l2 o (map_ne tc l2)⟩, o.keepsFrozen c1 h.f2 n0, o.keepsFrozen o1 h.f3 n0, Nat.le_trans h.bs o.size, h.pb, Nat.le_trans h.few hi⟩

/-- A command more, behind the append. -/
theorem Par.more {g : CG} {pp base : Nat} {w w' : World} {s : Adz.Ps} (h : Par g pp base w s) {qv v' : Value} {xs : List Value} {c : Adz.Cmd} {av iv rv fv tv : Value} (hq : w.cell? ⟨pp, 2, none⟩ = some qv)
    (hown : w.ownsRow base 167 14 qv s.cmds.length xs) (hin : CmdsIn w s.cmds xs) (d : Deep w c av iv rv fv tv)
    (q1 : w'.cell? ⟨pp, 2, none⟩ = some v') (q2 : w'.ownsRow base 167 14 v' (s.cmds.length + 1) (xs ++ cmdCells c av iv rv fv tv)) (q3 : Only (fun b => b = pp ∨ qv.ownBlock = some b) w w') (q4 : Field pp 2 w w') (hl : s.cmds.length < s.i) :
    Par g pp base w' { s with cmds := s.cmds ++ [c] } := by
  obtain ⟨mb, m1, m2⟩ := h.map
  obtain ⟨ov, o1, o2⟩ := h.op
  obtain ⟨l0, lb, l1, l2⟩ := h.lab
  have tp := h.lead.typ
  have key : ∀ {b : Nat} {T : TypeId}, Typ w b T → T ≠ 119 → T ≠ 167 → ¬ (b = pp ∨ qv.ownBlock = some b) := by
    rintro b T t n1 n2 (e | e)
    · exact t.ne tp n1 e
    · exact row_ne hown t n2 e
  have sp : Spares w (fun b => b = pp ∨ qv.ownBlock = some b) := ⟨fun b t => key t (by decide) (by decide), fun b t => key t (by decide) (by decide), fun b t => key t (by decide) (by decide), fun b t => key t (by decide) (by decide), fun b t => key t (by decide) (by decide)⟩
  have mk : ∀ {m : Nat} {es : Array MapEntry} {n : Nat}, w.heap[m]? = some (.map es n) → ¬ (m = pp ∨ qv.ownBlock = some m) := by
    rintro m es n hm (e | e)
    · exact map_ne tp hm e
    · exact map_ne (Typ.of_row hown e) hm rfl
  refine ⟨h.cur.keeps q3 (key h.cur.tc (by decide) (by decide)) (fun hn => key (h.cur.tr hn) (by decide) (by decide)) (key h.cur.tp (by decide) (by decide)), ⟨(q4.others 0 (by decide)).trans h.lead.at0, h.lead.ne, q4.typ _ tp⟩,
    ⟨mb, (q4.others 1 (by decide)).trans m1, map_keeps m2 q3 (mk m2)⟩, ⟨v', _, q1, by simpa using q2, CmdsIn.snoc (d.keeps q3 sp) (hin.keeps q3 sp)⟩, ⟨ov, (q4.others 3 (by decide)).trans o1, row_keeps o2 q3 (fun b hb => key (Typ.of_row o2 hb) (by decide) (by decide))⟩,
    ⟨l0, lb, (q4.others 4 (by decide)).trans l1, map_keeps l2 q3 (mk l2)⟩, (q4.frozen 2).trans h.f2, (q4.frozen 3).trans h.f3, Nat.le_trans h.bs q3.size, h.pb, by simp; omega⟩

theorem deep_shapes {w : World} {c : Adz.Cmd} {av iv rv fv tv : Value} (d : Deep w c av iv rv fv tv) : (∃ a n k, av = .slice a n k) ∧ (∃ a n k, iv = .slice a n k) ∧ (∃ a n k, rv = .slice a n k) ∧ (∃ a n k, fv = .slice a n k) ∧ (∃ a n k, tv = .slice a n k) := by
  obtain ⟨ivs, a1, _⟩ := d.a
  obtain ⟨svs, i1, _⟩ := d.i
  obtain ⟨x0, y0, e0⟩ := row_shape a1
  obtain ⟨x1, y1, e1⟩ := row_shape i1
  obtain ⟨x2, y2, e2⟩ := row_shape d.r
  obtain ⟨x3, y3, e3⟩ := row_shape d.f
  obtain ⟨x4, y4, e4⟩ := row_shape d.t
  exact ⟨⟨_, _, _, e0⟩, ⟨_, _, _, e1⟩, ⟨_, _, _, e2⟩, ⟨_, _, _, e3⟩, ⟨_, _, _, e4⟩⟩

theorem deep_zero (w : World) : Deep w {} (.slice none 0 0) (.slice none 0 0) (.slice none 0 0) (.slice none 0 0) (.slice none 0 0) :=
  ⟨⟨[], World.ownsRow_nil _ _ _ _, trivial⟩, ⟨[], World.ownsRow_nil _ _ _ _, trivial⟩, World.ownsRow_nil _ _ _ _, World.ownsRow_nil _ _ _ _, World.ownsRow_nil _ _ _ _⟩

set_option maxRecDepth 100000 in
set_option maxHeartbeats 3200000 in
theorem command_ok_s {g : CG} {pp base : Nat} {w : World} {s s' : Adz.Ps} (h : Par g pp base w s) (ha : Adz.atAddress g.L s.i = false) (hn : Adz.peek g.L s.i = 115) (hr : Adz.command g.L g.pl s = .ok s') :
    Calls Tryz.prog 77 #[.pointer (some ⟨pp, 0, none⟩)] w fun e w' => e = .returned (.pointer none) ∧ Par g pp base w' s' ∧ Only (fun b => b = g.c ∨ b = pp ∨ base ≤ b) w w' := by
  obtain ⟨h40, c, i3, i4, hs, ht, hw115, rfl⟩ := command_s hr ha hn
  have HS : Hid (Adz.substitution g.L g.pl { what := 115 } (s.i + 1) = .ok (c, i3)) := hs
  have HT : Hid (Adz.tail g.L g.pl i3 = .ok i4) := ht
  have HA : Hid (Adz.atAddress g.L s.i = false) := ha
  have hlt : s.i < g.L.length := Adz.lt_of_peek (by omega)
  have hfew := h.few
  have hsm := h.cur.small
  have q0 := h.lead.at0
  have hcl := h.cur.lt
  obtain ⟨i0, hi0, hz0, hz1, hz2⟩ := info_parts infoCmd
  clear hr hs ht ha
  go_enter Tryz.func77, Tryz.ntmps77
  go_wp2_with fail
  refine (head_plain g pp w s.i h.cur h.lead HA.out (by omega)).mono ?_
  rintro e w1 ⟨rfl, hc1, ho1⟩
  have h1 := h.moved hc1 ho1 (Nat.le_refl _)
  have q1 := h1.lead.at0
  have hpl1 : pp < w1.heap.size := h1.lead.lt
  go_wp2_with fail
  have h1a := h1.moved (hc1.alloc (.cells #[.int .i32 0, .slice none 0 0, .bool false, .string ⟨#[]⟩, .string ⟨#[]⟩, .int .i64 0, .slice none 0 0, .int .i64 0, .slice none 0 0, .bool false, .bool false, .int .i64 0, .slice none 0 0, .slice none 0 0] 167)) ((Only.refl _ w1).alloc _) (Nat.le_refl _)
  have kc : CmdAt (w1.alloc (.cells #[.int .i32 0, .slice none 0 0, .bool false, .string ⟨#[]⟩, .string ⟨#[]⟩, .int .i64 0, .slice none 0 0, .int .i64 0, .slice none 0 0, .bool false, .bool false, .int .i64 0, .slice none 0 0, .slice none 0 0] 167)) w1.heap.size {} := ⟨Typ.new _ _ _ _, _, _, _, _, _, Cells.new w1 _ _, deep_zero _⟩
  have oa : Only (· = g.c) w (w1.alloc (.cells #[.int .i32 0, .slice none 0 0, .bool false, .string ⟨#[]⟩, .string ⟨#[]⟩, .int .i64 0, .slice none 0 0, .int .i64 0, .slice none 0 0, .bool false, .bool false, .int .i64 0, .slice none 0 0, .slice none 0 0] 167)) := ho1.alloc _
  have hsz : w.heap.size ≤ w1.heap.size := ho1.size
  generalize hcb : w1.heap.size = cb at *
  generalize w1.alloc (.cells #[.int .i32 0, .slice none 0 0, .bool false, .string ⟨#[]⟩, .string ⟨#[]⟩, .int .i64 0, .slice none 0 0, .int .i64 0, .slice none 0 0, .bool false, .bool false, .int .i64 0, .slice none 0 0, .slice none 0 0] 167) = w2 at *
  refine (place_calls g w2 s.i h1a.cur).mono ?_
  rintro e w3 ⟨rfl, n3, rfl⟩
  have q2 := h1a.lead.at0
  have h3 := h1a.moved (h1a.cur.drewN n3) ((Only.refl _ w2).drewN n3) (Nat.le_refl _)
  have kc3 := kc.keeps ((Only.refl (· = g.c) w2).drewN n3) h1a.cur.spares (kc.typ.ne h1a.cur.tc (by decide))
  go_wp2_with fail
  refine (what_ok g pp cb s.cmds.length _ s.i h3.cur h3.lead h3.table {} kc3 5 (by rw [hn]; decide) (by decide) (by decide) h40 (by omega) hlt).mono ?_
  rintro e w4 ⟨rfl, kc4, hc4, ho4⟩
  rw [hn] at kc4
  have ncb : cb ≠ g.c := kc.typ.ne h1a.cur.tc (by decide)
  have npp : pp ≠ cb := h3.lead.typ.ne kc3.typ (by decide)
  have o4 : Only (· = g.c) w w4 := (oa.drewN n3).trans ho4 (fun _ e => e) (fun b hb e => by rcases e with e | e; exact e; omega)
  have h4 := h.moved hc4 o4 (by omega)
  go_wp2_with fail
  refine (behind_s g pp cb s.cmds.length w4 (s.i + 1) _ hc4 h4.lead h4.table { what := 115 } kc4 rfl c i3 HS.out).mono ?_
  rintro e w5 ⟨rfl, kc5, hc5, ho5⟩
  have o5 : Only (· = g.c) w w5 := o4.trans ho5 (fun _ e => e) (fun b hb e => by rcases e with e | e; exact e; omega)
  have hi3 := Adz.substitution_lt HS.out
  have hi4 := Adz.tail_le HT.out
  have h5 := h.moved hc5 o5 (by omega)
  obtain ⟨qv, xs, c1, c2, c3⟩ := h5.cmds
  obtain ⟨av, iv, rv, fv, tv, kk, dd⟩ := kc5.deep
  obtain ⟨⟨aa, an, ac, rfl⟩, ⟨ia, in_, ic, rfl⟩, ⟨ra, rn, rc, rfl⟩, ⟨fa, fn, fc, rfl⟩, ⟨ta, tn, tc, rfl⟩⟩ := deep_shapes dd
  have k0 := (kk 0 _ rfl).1
  have k1 := (kk 1 _ rfl).1
  have k2 := (kk 2 _ rfl).1
  have k3 := (kk 3 _ rfl).1
  have k4 := (kk 4 _ rfl).1
  have k5 := (kk 5 _ rfl).1
  have k6 := (kk 6 _ rfl).1
  have k7 := (kk 7 _ rfl).1
  have k8 := (kk 8 _ rfl).1
  have k9 := (kk 9 _ rfl).1
  have k10 := (kk 10 _ rfl).1
  have k11 := (kk 11 _ rfl).1
  have k12 := (kk 12 _ rfl).1
  have k13 := (kk 13 _ rfl).1
  simp only at c1 c2 c3
  have lr : pp < w5.heap.size := h5.lead.lt
  have f2' := h5.f2
  have hne : qv.ownBlock ≠ some pp := row_ne c2 h5.lead.typ (by decide)
  have hbs := h5.bs
  have hi3l := hc5.le
  have q5 := h5.lead.at0
  have h1b : ∀ o : Obj, (w5.alloc o).cell? ⟨pp, 2, none⟩ = some qv := fun o => by rw [World.cell?_alloc_past _ _ _ lr]; exact c1
  have f1b : ∀ o : Obj, (w5.alloc o).frozen? ⟨pp, 2, none⟩ = false := fun o => by rw [World.frozen?_alloc_past _ _ _ lr]; exact f2'
  have bw : (c.what == 123) = false := by rw [hw115]; rfl
  have hcq : qv.ownBlock ≠ some cb := fun e => by
    obtain ⟨qv0, xs0, e1, e2, _⟩ := h.cmds
    have e3 := o5.keeps e1 h.lead.ne
    rw [c1] at e3
    cases e3
    have := (e2.lt cb e).2
    omega
  clear hw115 q0 q1 q2 hn
  go_wp2_with fail
  go_region_law
    ((refine step_append_lies _ (by rfl) _ _ _ (by rfl) base 167 i0 _ 14 200 Tryz.underlying99 hi0 hz0 hz1 hz2 rfl (by omega) qv s.cmds.length xs (by rfl) ((c2.alloc _).drew)
        ⟨w5.heap.size, 0, none⟩ 1 1 [.int .i32 c.what, .slice aa an ac, .bool c.neg, .string ⟨c.text.toArray⟩, .string ⟨c.name.toArray⟩, .int .i64 c.goal, .slice ia in_ ic, .int .i64 c.pat.groups, .slice ra rn rc, .bool c.all, .bool c.print, .int .i64 c.nth, .slice fa fn fc, .slice ta tn tc] (by rfl) (by rfl) (World.news_of_block (cs := #[.int .i32 c.what, .slice aa an ac, .bool c.neg, .string ⟨c.text.toArray⟩, .string ⟨c.name.toArray⟩, .int .i64 c.goal, .slice ia in_ ic, .int .i64 c.pat.groups, .slice ra rn rc, .bool c.all, .bool c.print, .int .i64 c.nth, .slice fa fn fc, .slice ta tn tc]) (t := 167) (fr := (0, 0)) (heap_alloc_new w5 _)) (by simp [Value.oneCell'])
        (by omega) (by unfold maxLen; omega) (by omega) (by simp; omega) (w5.heap.size + 1) (by simp) ?_; intro g1 cap w6 hown1 hgrow hat hlt1; have kc := (hgrow.cell_far ⟨pp, 2, none⟩ (by simp; omega) (Ne.symm hne)).trans (h1b _); have kf := (hgrow.frozen_far ⟨pp, 2, none⟩ (by simp; omega) (Ne.symm hne)).trans (f1b _)))
  all_goals
    have hv : (Value.slice (some ⟨g1, 0, none⟩) (s.cmds.length + 1) cap).ownBlock ≠ some pp := by
      rcases hat with h | h
      · intro e
        simp [Value.ownBlock] at e
        exact hne (by rw [h, e])
      · intro e
        simp [Value.ownBlock] at e
        omega
    obtain ⟨u1, u2, u3, u4⟩ := field_end (((Only.refl _ w5).alloc _).drew) hgrow kc hown1 hv lr hne
    have h6 := h5.more c1 c2 c3 dd u1 u2 u3 u4 (by simp; omega)
    have ncq : ¬ (cb = pp ∨ qv.ownBlock = some cb) := by
      rintro (e | e)
      · exact npp e.symm
      · exact hcq e
    have k0' := u3.keeps k0 ncq
    have q6 := h6.lead.at0
    go_wp2_with fail
    refine (tail_ok g pp _ i3 h6.cur h6.lead i4 HT.out).mono ?_
    rintro e w8 ⟨rfl, hc8, ho8⟩
    have h8 := h6.moved hc8 ho8 hi4
    go_wp2
    go_ret
    refine ⟨rfl, h8, ?_⟩
    have o6 : Only (fun b => b = g.c ∨ b = pp ∨ base ≤ b) w _ := o5.trans u3 (fun _ e => Or.inl e) (fun b hb e => by
      rcases e with e | e
      · exact Or.inr (Or.inl e)
      · exact Or.inr (Or.inr (c2.lt b e).1))
    exact o6.trans ho8 (fun _ e => e) (fun _ _ e => Or.inl e)
end Go.Proofs.YtbiobhghnldckaaGreatDoor
