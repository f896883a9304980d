/- Proved: what is read of a label, of what asks for one, and of a block's beginning. Conditions: the parser lies in memory as 'Par' says. -/
import Derived.Test.YtbiobhghnldckaaGreatDoorLab4
namespace Go.Proofs.YtbiobhghnldckaaGreatDoor
open Go.RowKit
set_option linter.unusedVariables false
attribute [local go_sem ↓] Go.wp_at_zero Go.wp_at_succ

set_option maxRecDepth 100000 in
set_option maxHeartbeats 800000 in
theorem bare_yes (cb : Nat) (w : World) (c : Adz.Cmd) (hc : CmdAt w cb c) (ha : c.addrs = []) (hn : c.neg = false) :
    Calls Tryz.prog 146 #[.pointer (some ⟨cb, 0, none⟩)] w fun e w' => e = .returned (.bool true) ∧ ∃ n, w' = w.drewN n := by
  obtain ⟨av, iv, rv, fv, tv, kk, dd⟩ := hc.deep
  obtain ⟨⟨aa, an, ac, rfl⟩, _⟩ := deep_shapes dd
  have k1 := (kk 1 _ rfl).1
  have k2 := (kk 2 _ rfl).1
  have h0 : an = 0 := by
    obtain ⟨svs, s1, _⟩ := dd.a
    have := row_shape s1
    obtain ⟨x, y, e⟩ := this
    injection e with e1 e2 e3
    rw [e2, ha]; rfl
  subst h0
  rw [hn] at k2
  clear kk dd
  go_enter Tryz.func146, Tryz.ntmps146
  go_wp2
  go_ret
  exact ⟨rfl, 0, rfl⟩

set_option maxRecDepth 100000 in
set_option maxHeartbeats 1600000 in
/-- The what of a label. -/
theorem whatP_label (g : CG) (pp base : Nat) (s : Adz.Ps) (c : Adz.Cmd) (hk : Adz.behindKind (Adz.peek g.L s.i) = some 3) (ha : c.addrs = []) (hneg : c.neg = false) (hn : s.cmds.length ≠ 40) (hl : s.i < g.L.length) : WhatP g pp base s c := fun w cb hP hc => by
  have h := hP.cur
  have hp := hP.lead
  have ht := hP.table
  obtain ⟨mb, m1, m2⟩ := ht.map
  obtain ⟨qa, qc, q2⟩ := ht.cmds
  have q0 := hp.at0
  have hfew := hP.few
  have hle := h.le
  have hsm := h.small
  have hlk : ∀ m, (Instr.lookup 115 (.map (some mb)) (.int .i32 (Adz.peek g.L s.i)) true).run Tryz.prog (w.drewN m) = .ok (.tuple #[.int .i64 3, .bool true]) (w.drewN m) := fun m => by
    have := beh_lookup_ok (w.drewN m) mb (Adz.peek g.L s.i) m2
    rw [hk] at this
    exact this
  have b40 : ((s.cmds.length : Int) == 40) = false := by simp; omega
  have ncb : cb ≠ g.c := hc.typ.ne h.tc (by decide)
  have npp : pp ≠ cb := hp.typ.ne hc.typ (by decide)
  have hbare := fun n => bare_yes cb (w.drewN n) c (hc.keeps ((Only.refl (· = g.c) w).drewN n) h.spares ncb) ha hneg
  clear hk
  go_enter Tryz.func102, Tryz.ntmps102
  go_wp2_with fail
  refine (place_calls g w s.i h).mono ?_
  rintro e w1 ⟨rfl, n1, rfl⟩
  go_wp2_with fail
  go_quiet ((go_at_call 51; exact (peek_calls g _ s.i (h.drewN _)).mono (fun e w1 ⟨he, m, hw1⟩ => ⟨he, quiet_more hw1⟩)))
  go_wp2_with fail
  refine (hbare _).mono ?_
  clear hbare
  rintro e w1 ⟨rfl, n2, rfl⟩
  go_wp2_with fail
  refine (next_calls g _ s.i (by first | exact h.drewN _ | exact (h.drewN _).drewN _) hl).mono ?_
  rintro e w2 ⟨rfl, hc2, ho2⟩
  have o2 : Only (· = g.c) w w2 := (by first | exact (Only.refl (· = g.c) w).drewN _ | exact ((Only.refl (· = g.c) w).drewN _).drewN _ : Only (· = g.c) w _).trans ho2 (fun _ e => e) (fun _ _ e => e)
  have m2' := hc.keeps o2 h.spares ncb
  obtain ⟨av, iv, rv, fv, tv, kk, dd⟩ := m2'.deep
  have k0 := kk 0 _ rfl
  go_wp2
  go_ret
  have o3 := only_set w2 cb 0 (.int .i32 (Adz.peek g.L s.i))
  have d3 := dd.keeps o3 (spares_one m2'.typ (by decide))
  exact ⟨rfl, ⟨m2'.typ.set, av, iv, rv, fv, tv, kk.set 0 _, ⟨d3.a, d3.i, d3.r, d3.f, d3.t⟩⟩, hc2.aside o3 m2'.typ, o2.trans o3 (fun _ e => Or.inl e) (fun _ _ e => Or.inr e)⟩

set_option maxRecDepth 100000 in
set_option maxHeartbeats 1600000 in
/-- The what of a block. -/
theorem whatP_block (g : CG) (pp base : Nat) (s : Adz.Ps) (c : Adz.Cmd) (hk : Adz.behindKind (Adz.peek g.L s.i) = some 1) (ho : s.opens.length ≠ 5) (hn : s.cmds.length ≠ 40) (hl : s.i < g.L.length) (hol : s.opens.length ≤ 500) : WhatP g pp base s c := fun w cb hP hc => by
  have h := hP.cur
  have hp := hP.lead
  have ht := hP.table
  obtain ⟨mb, m1, m2⟩ := ht.map
  obtain ⟨qa, qc, q2⟩ := ht.cmds
  obtain ⟨ov, o1, o2⟩ := hP.op
  obtain ⟨oa, oc, rfl⟩ := row_shape o2
  have q0 := hp.at0
  have hfew := hP.few
  have hle := h.le
  have hsm := h.small
  have hlk : ∀ m, (Instr.lookup 115 (.map (some mb)) (.int .i32 (Adz.peek g.L s.i)) true).run Tryz.prog (w.drewN m) = .ok (.tuple #[.int .i64 1, .bool true]) (w.drewN m) := fun m => by
    have := beh_lookup_ok (w.drewN m) mb (Adz.peek g.L s.i) m2
    rw [hk] at this
    exact this
  have b40 : ((s.cmds.length : Int) == 40) = false := by simp; omega
  have b5 : ((s.opens.length : Int) == 5) = false := by simp; omega
  have ncb : cb ≠ g.c := hc.typ.ne h.tc (by decide)
  have npp : pp ≠ cb := hp.typ.ne hc.typ (by decide)
  clear hk o2
  go_enter Tryz.func102, Tryz.ntmps102
  go_wp2_with fail
  refine (place_calls g w s.i h).mono ?_
  rintro e w1 ⟨rfl, n1, rfl⟩
  go_wp2_with fail
  go_quiet ((go_at_call 51; exact (peek_calls g _ s.i (h.drewN _)).mono (fun e w1 ⟨he, m, hw1⟩ => ⟨he, quiet_more hw1⟩)))
  go_wp2_with fail
  refine (next_calls g _ s.i (h.drewN _) hl).mono ?_
  rintro e w2 ⟨rfl, hc2, ho2⟩
  have o2 : Only (· = g.c) w w2 := ((Only.refl (· = g.c) w).drewN _).trans ho2 (fun _ e => e) (fun _ _ e => e)
  have m2' := hc.keeps o2 h.spares ncb
  obtain ⟨av, iv, rv, fv, tv, kk, dd⟩ := m2'.deep
  have k0 := kk 0 _ rfl
  go_wp2
  go_ret
  have o3 := only_set w2 cb 0 (.int .i32 (Adz.peek g.L s.i))
  have d3 := dd.keeps o3 (spares_one m2'.typ (by decide))
  exact ⟨rfl, ⟨m2'.typ.set, av, iv, rv, fv, tv, kk.set 0 _, ⟨d3.a, d3.i, d3.r, d3.f, d3.t⟩⟩, hc2.aside o3 m2'.typ, o2.trans o3 (fun _ e => Or.inl e) (fun _ _ e => Or.inr e)⟩
theorem whatP_plain (g : CG) (pp base : Nat) (s : Adz.Ps) (c : Adz.Cmd) (k : Int) (hk : Adz.behindKind (Adz.peek g.L s.i) = some k) (h3 : k ≠ 3) (h1 : k ≠ 1) (hn : s.cmds.length ≠ 40) (hl : s.i < g.L.length) : WhatP g pp base s c := fun w cb hP hc =>
  what_ok g pp cb s.cmds.length w s.i hP.cur hP.lead hP.table c hc k hk h3 h1 hn (by have := hP.few; have := hP.cur.le; have := hP.cur.small; omega) hl

set_option maxRecDepth 100000 in
set_option maxHeartbeats 1600000 in
theorem behP_set (g : CG) (pp i1 : Nat) (s : Adz.Ps) (c : Adz.Cmd) (hw : c.what = 58) (hlabs : s.labs = []) (a : Int) (ha : Adz.peek g.L (i1 + 1) = a) (hl : Adz.isLetter a = true) (hl2 : Adz.isLetter (Adz.peek g.L (i1 + 2)) = false) :
    BehP g pp i1 s { s with i := i1 + 2, labs := [⟨Adz.enc [a], s.cmds.length, -1⟩] } c { c with name := Adz.enc [a] } := fun base u w cb h o hC hi hc hcb => by
  have hP := h.moved hC o hi
  obtain ⟨mb, m1, m2⟩ := hP.map
  obtain ⟨av, iv, rv, fv, tv, kk, dd⟩ := hc.deep
  have k0 := (kk 0 _ rfl).1
  rw [hw] at k0
  have q0 := hP.lead.at0
  have hlk : ∀ m, (Instr.lookup 115 (.map (some mb)) (.int .i32 58) false).run Tryz.prog (w.drewN m) = .ok (.int .i64 3) (w.drewN m) := fun m => beh_lookup (w.drewN m) mb 58 m2
  have hset := fun m => setLabel_ok h (o.drewN m) (hC.drewN m) hi c (hc.keeps ((Only.refl (· = g.c) w).drewN m) hC.spares (hc.typ.ne hC.tc (by decide))) hcb hlabs a ha hl hl2 (Adz.place g.pl i1)
  clear kk dd
  go_enter Tryz.func103, Tryz.ntmps103
  go_wp2_with fail
  go_quiet (fail)
  go_wp2_with fail
  refine (hset _).mono ?_
  clear hset
  rintro e w5 ⟨rfl, kc, hP5, hq, o5⟩
  go_wp2
  go_ret
  exact ⟨rfl, kc, hP5, hq, o5.mono (fun b _ e => by rcases e with e | e; exact Or.inl e; exact Or.inr (Or.inr e))⟩

set_option maxRecDepth 100000 in
set_option maxHeartbeats 1600000 in
theorem behP_ask (g : CG) (pp i1 : Nat) (s : Adz.Ps) (c : Adz.Cmd) (hw : c.what = 98) (a : Int) (st : Int) (hlabs : s.labs = [⟨Adz.enc [a], st, -1⟩]) (i0 : Nat) (hb : Adz.blanks g.L (i1 + 1) = i0) (ha : Adz.peek g.L i0 = a) (hl : Adz.isLetter a = true) (hl2 : Adz.isLetter (Adz.peek g.L (i0 + 1)) = false) :
    BehP g pp i1 s { s with i := i0 + 1, labs := [⟨Adz.enc [a], st, Adz.place g.pl i1⟩] } c { c with name := Adz.enc [a] } := fun base u w cb h o hC hi hc hcb => by
  have hP := h.moved hC o hi
  obtain ⟨mb, m1, m2⟩ := hP.map
  obtain ⟨av, iv, rv, fv, tv, kk, dd⟩ := hc.deep
  have k0 := (kk 0 _ rfl).1
  rw [hw] at k0
  have q0 := hP.lead.at0
  have hlk : ∀ m, (Instr.lookup 115 (.map (some mb)) (.int .i32 98) false).run Tryz.prog (w.drewN m) = .ok (.int .i64 4) (w.drewN m) := fun m => beh_lookup (w.drewN m) mb 98 m2
  have hset := fun m => askLabel_ok h (o.drewN m) (hC.drewN m) hi c (hc.keeps ((Only.refl (· = g.c) w).drewN m) hC.spares (hc.typ.ne hC.tc (by decide))) hcb a st hlabs i0 hb ha hl hl2 (Adz.place g.pl i1)
  clear kk dd
  go_enter Tryz.func103, Tryz.ntmps103
  go_wp2_with fail
  go_quiet (fail)
  go_wp2_with fail
  refine (hset _).mono ?_
  clear hset
  rintro e w5 ⟨rfl, kc, hP5, hq, o5⟩
  go_wp2
  go_ret
  exact ⟨rfl, kc, hP5, hq, o5.mono (fun b _ e => by rcases e with e | e; exact Or.inl e; exact Or.inr (Or.inr e))⟩
end Go.Proofs.YtbiobhghnldckaaGreatDoor
