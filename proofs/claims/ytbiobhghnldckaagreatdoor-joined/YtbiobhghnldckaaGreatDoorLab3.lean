/- Proved: a label is set, and asked for, where it is the only one; a block is opened and closed; what is ahead of these. Conditions: the parser lies in memory as 'Par' says. -/
import Derived.Test.YtbiobhghnldckaaGreatDoorLab2
namespace Go.Proofs.YtbiobhghnldckaaGreatDoor
open Go.RowKit
set_option linter.unusedVariables false
attribute [local go_sem ↓] Go.wp_at_zero Go.wp_at_succ

/-- The labels alone have turned. -/
theorem Par.labeled {g : CG} {pp base : Nat} {w w' : World} {s : Adz.Ps} (h : Par g pp base w s) {lb : Nat} (hlb : base ≤ lb + 1) (hcl : w.cell? ⟨pp, 4, none⟩ = some (.map (some lb))) (hl : LabAt w lb s.labs) (hfew : s.labs.length ≤ 1) {labs : List Adz.Lab} (hl' : LabAt w' lb labs) (o : Only (· = lb) w w') : Par g pp base w' { s with labs := labs } := by
  obtain ⟨mb, m1, m2⟩ := h.map
  obtain ⟨qv, xs, c1, c2, c3⟩ := h.cmds
  obtain ⟨ov, o1, o2⟩ := h.op
  have key : ∀ {b : Nat} {T : TypeId}, Typ w b T → ¬ b = lb := fun t e => map_ne t hl e.symm
  have sp : Spares w (· = lb) := ⟨fun b t => key t, fun b t => key t, fun b t => key t, fun b t => key t, fun b t => key t⟩
  have n0 := key h.lead.typ
  have hmb : ¬ mb = lb := fun e => by
    subst e
    have e2 := m2.symm.trans hl
    injection e2 with e3
    injection e3 with e4 e5
    omega
  exact ⟨h.cur.keeps o (key h.cur.tc) (fun hn => key (h.cur.tr hn)) (key h.cur.tp), h.lead.keeps o n0, ⟨mb, o.keeps m1 n0, map_keeps m2 o hmb⟩, ⟨qv, xs, o.keeps c1 n0, row_keeps c2 o (fun b hb => key (Typ.of_row c2 hb)), c3.keeps o sp⟩,
    ⟨ov, o.keeps o1 n0, row_keeps o2 o (fun b hb => key (Typ.of_row o2 hb))⟩, ⟨lb, hlb, o.keeps hcl n0, hl'⟩, o.keepsFrozen c1 h.f2 n0, o.keepsFrozen o1 h.f3 n0, Nat.le_trans h.bs o.size, h.pb, h.few⟩

theorem use_results {W : World} {R : Nat} {x0 x1 : Value} {tmps : Array Value} (h : tmps[4]? = some (.pointer (some ⟨R, 0, none⟩))) (hR : Cells W R [x0, x1]) :
    (results Tryz.f173 tmps).run Tryz.prog W = .ok (.agg #[x0, x1]) W := by
  simp [results, Tryz.results173, go_sem, h, (hR 0 _ rfl).1, (hR 1 _ rfl).1]
set_option maxHeartbeats 800000 in
theorem use_none (pp lb : Nat) (w : World) (hpl : pp < w.heap.size) (hcl : w.cell? ⟨pp, 4, none⟩ = some (.map (some lb))) (hl : LabAt w lb []) (nm : ByteArray) :
    Calls Tryz.prog 173 #[.pointer (some ⟨pp, 0, none⟩), .string nm] w fun e w' => e = .returned (.agg #[.int .i64 (-1), .int .i64 (-1)]) ∧ Only (fun _ => False) w w' := by
  have hl1 : LabAt (w.alloc (.cells #[.int .i64 0, .int .i64 0] 176)) lb [] := map_keeps hl ((Only.refl (fun _ => False) w).alloc _) id
  have hlk := lab_none _ lb nm hl1
  have hc1 : (w.alloc (.cells #[.int .i64 0, .int .i64 0] 176)).cell? ⟨pp, 4, none⟩ = some (.map (some lb)) := by rw [World.cell?_alloc_past _ _ _ hpl]; exact hcl
  clear hl hl1 hcl
  go_enter Tryz.func173, Tryz.ntmps173
  go_wp2
  refine bodyPost_ret (v := .agg #[.int .i64 (-1), .int .i64 (-1)]) (use_results rfl ((Cells.new w #[.int .i64 (-1), .int .i64 (-1)] 176).keeps ((Only.refl (fun _ => False) _).alloc _) id)) rfl ?_
  exact ⟨rfl, ((Only.refl _ w).alloc _).alloc _⟩
set_option maxHeartbeats 800000 in
theorem use_one (pp lb : Nat) (w : World) (hpl : pp < w.heap.size) (x : Adz.Lab) (hcl : w.cell? ⟨pp, 4, none⟩ = some (.map (some lb))) (hl : LabAt w lb [x]) :
    Calls Tryz.prog 173 #[.pointer (some ⟨pp, 0, none⟩), .string ⟨x.name.toArray⟩] w fun e w' => e = .returned (.agg #[.int .i64 x.set, .int .i64 x.asked]) ∧ Only (fun _ => False) w w' := by
  have hl1 : LabAt (w.alloc (.cells #[.int .i64 0, .int .i64 0] 176)) lb [x] := map_keeps hl ((Only.refl (fun _ => False) w).alloc _) id
  have hlk := lab_ok _ lb x hl1
  have hc1 : (w.alloc (.cells #[.int .i64 0, .int .i64 0] 176)).cell? ⟨pp, 4, none⟩ = some (.map (some lb)) := by rw [World.cell?_alloc_past _ _ _ hpl]; exact hcl
  generalize (⟨x.name.toArray⟩ : ByteArray) = nm at *
  clear hl hl1 hcl
  go_enter Tryz.func173, Tryz.ntmps173
  go_wp2
  refine bodyPost_ret (v := .agg #[.int .i64 x.set, .int .i64 x.asked]) (use_results rfl ((Cells.new w #[.int .i64 x.set, .int .i64 x.asked] 176).keeps ((Only.refl (fun _ => False) _).alloc _) id)) rfl ?_
  exact ⟨rfl, ((Only.refl _ w).alloc _).alloc _⟩
theorem lab_spares {w : World} {lb : Nat} {es : Array MapEntry} {n : Nat} (hl : w.heap[lb]? = some (.map es n)) : Spares w (· = lb) :=
  have key : ∀ {b : Nat} {T : TypeId}, Typ w b T → ¬ b = lb := fun t e => map_ne t hl e.symm
  ⟨fun b t => key t, fun b t => key t, fun b t => key t, fun b t => key t, fun b t => key t⟩

set_option maxRecDepth 100000 in
set_option maxHeartbeats 1600000 in
/-- A label is set, the first of all. -/
theorem setLabel_ok {g : CG} {pp base : Nat} {u w : World} {s : Adz.Ps} {cb i : Nat} (h : Par g pp base u s) (o : Only (· = g.c) u w) (hC : Cur g w i) (hi : s.i ≤ i) (c : Adz.Cmd) (hc : CmdAt w cb c) (hcb : u.heap.size ≤ cb) (hlabs : s.labs = []) (a : Int) (ha : Adz.peek g.L i = a) (hl : Adz.isLetter a = true) (hl2 : Adz.isLetter (Adz.peek g.L (i + 1)) = false) (at_ : Int) :
    Calls Tryz.prog 148 #[.pointer (some ⟨pp, 0, none⟩), .pointer (some ⟨cb, 0, none⟩), .int .i64 at_] w fun e w' => e = .returned (.pointer none) ∧ CmdAt w' cb { c with name := Adz.enc [a] } ∧ Par g pp base w' { s with i := i + 1, labs := [⟨Adz.enc [a], s.cmds.length, -1⟩] } ∧ w'.cell? ⟨pp, 2, none⟩ = u.cell? ⟨pp, 2, none⟩ ∧ Only (fun b => b = g.c ∨ base ≤ b + 1) u w' := by
  have hw := h.moved hC o hi
  have q0 := hw.lead.at0
  have hpk := peek_calls g w i hC
  rw [ha] at hpk
  have hil := fun v => isLetter_calls a v
  rw [hl] at hil
  have hnm := fun n => name_one g pp cb (w.drewN n) i (hC.drewN n) (hw.lead.drewN n) c (hc.keeps ((Only.refl (· = g.c) w).drewN n) hC.spares (hc.typ.ne hC.tc (by decide))) a ha hl hl2
  clear ha hl hl2
  go_enter Tryz.func148, Tryz.ntmps148
  go_wp2_with fail
  refine hpk.mono ?_
  clear hpk
  rintro e w1 ⟨rfl, n1, rfl⟩
  go_wp2_with fail
  refine (hil _).mono ?_
  clear hil
  rintro e w1 ⟨rfl, rfl⟩
  go_wp2_with fail
  refine (hnm n1).mono ?_
  clear hnm
  rintro e w2 ⟨rfl, kc2, hc2, o2⟩
  have ou2 : Only (· = g.c) u w2 := (o.drewN n1).trans o2 (fun _ e => e) (fun b hb e => by rcases e with e | e; exact e; omega)
  have h2 := h.moved hc2 ou2 (by omega)
  obtain ⟨lb, l0, l1, l2⟩ := h2.lab
  have hl2 : LabAt w2 lb [] := by
    rw [show ({ s with i := i + 1 } : Adz.Ps).labs = [] from hlabs] at l2
    exact l2
  obtain ⟨av, iv, rv, fv, tv, kk, dd⟩ := kc2.deep
  have k4 := (kk 4 _ rfl).1
  have hpl2 := h2.lead.lt
  simp only at k4
  obtain ⟨qv, xs, c1, c2, c3⟩ := h2.cmds
  obtain ⟨qa, qc, rfl⟩ := row_shape c2
  simp only at c1
  have hfew := h.few
  have hle := hC.le
  have hsm := hC.small
  have hus := use_none pp lb w2 hpl2 l1 hl2 ⟨(Adz.enc [a]).toArray⟩
  obtain ⟨nm, hnm⟩ : ∃ nm, (⟨(Adz.enc [a]).toArray⟩ : ByteArray) = nm := ⟨_, rfl⟩
  rw [hnm] at hus k4
  have HNM : Hid _ := hnm
  clear hnm
  have hclt := kc2.typ.lt
  clear kk dd
  go_wp2_with fail
  refine hus.mono ?_
  clear hus
  rintro e w3 ⟨rfl, o3⟩
  have k4' := o3.keeps k4 id
  have l1' := o3.keeps l1 id
  have c1' := o3.keeps c1 id
  have hpl3 : pp < w3.heap.size := by have := o3.size; omega
  have hcl3 : cb < w3.heap.size := by have := o3.size; omega
  have L1 : Hid _ := l1
  clear l1 c1 k4
  have oa : Only (fun _ => False) w3 (w3.alloc (.cells #[.int .i64 s.cmds.length, .int .i64 (-1)] 176)).drew := ((Only.refl _ w3).alloc _).drew
  obtain ⟨w5, hup, hl5, o5⟩ := lab_put0 (w3.alloc (.cells #[.int .i64 s.cmds.length, .int .i64 (-1)] 176)).drew lb ⟨Adz.enc [a], s.cmds.length, -1⟩ (map_keeps (map_keeps hl2 o3 id) oa id)
  simp only at hup
  rw [HNM.out] at hup
  go_wp2_with fail
  go_region
  have o25 : Only (· = lb) w2 w5 := (o3.trans oa (fun _ e => e.elim) (fun _ _ e => e.elim) : Only (· = lb) w2 _).trans o5 (fun _ e => e) (fun _ _ e => e)
  have hP5 : Par g pp base w5 { s with i := i + 1, labs := [⟨Adz.enc [a], s.cmds.length, -1⟩] } := h2.labeled l0 L1.out l2 (by show s.labs.length ≤ 1; rw [hlabs]; simp) hl5 o25
  have kc5 := kc2.keeps o25 (lab_spares hl2) (fun e => map_ne kc2.typ hl2 e.symm)
  have ou5 : Only (fun b => b = g.c ∨ base ≤ b + 1) u w5 := ou2.trans o25 (fun _ e => Or.inl e) (fun b hb e => Or.inr (by omega))
  have hq5 : w5.cell? ⟨pp, 2, none⟩ = u.cell? ⟨pp, 2, none⟩ := (o25.cell (p := ⟨pp, 2, none⟩) hpl2 (fun e => map_ne h2.lead.typ hl2 e.symm)).trans (ou2.cell (p := ⟨pp, 2, none⟩) h.lead.lt h.lead.ne)
  have HQ5 : Hid _ := hq5
  clear hup hl5 o5 oa hq5
  go_wp2
  go_ret
  exact ⟨rfl, kc5, hP5, HQ5.out, ou5⟩

set_option maxRecDepth 100000 in
set_option maxHeartbeats 1600000 in
/-- A label is asked for, the only one, that is set. -/
theorem askLabel_ok {g : CG} {pp base : Nat} {u w : World} {s : Adz.Ps} {cb i : Nat} (h : Par g pp base u s) (o : Only (· = g.c) u w) (hC : Cur g w i) (hi : s.i ≤ i) (c : Adz.Cmd) (hc : CmdAt w cb c) (hcb : u.heap.size ≤ cb) (a : Int) (st : Int) (hlabs : s.labs = [⟨Adz.enc [a], st, -1⟩]) (i0 : Nat) (hb : Adz.blanks g.L i = i0) (ha : Adz.peek g.L i0 = a) (hl : Adz.isLetter a = true) (hl2 : Adz.isLetter (Adz.peek g.L (i0 + 1)) = false) (at_ : Int) :
    Calls Tryz.prog 149 #[.pointer (some ⟨pp, 0, none⟩), .pointer (some ⟨cb, 0, none⟩), .int .i64 at_] w fun e w' => e = .returned (.pointer none) ∧ CmdAt w' cb { c with name := Adz.enc [a] } ∧ Par g pp base w' { s with i := i0 + 1, labs := [⟨Adz.enc [a], st, at_⟩] } ∧ w'.cell? ⟨pp, 2, none⟩ = u.cell? ⟨pp, 2, none⟩ ∧ Only (fun b => b = g.c ∨ base ≤ b + 1) u w' := by
  have hw := h.moved hC o hi
  have q0 := hw.lead.at0
  have hle := Adz.blanks_le g.L i
  rw [hb] at hle
  have hbc := blanks_calls g w i hC
  rw [hb] at hbc
  have hil := fun v => isLetter_calls a v
  rw [hl] at hil
  have HA : Hid (Adz.peek g.L i0 = a) := ha
  have HL : Hid (Adz.isLetter a = true) := hl
  have HL2 : Hid (Adz.isLetter (Adz.peek g.L (i0 + 1)) = false) := hl2
  clear ha hl hl2 hb
  go_enter Tryz.func149, Tryz.ntmps149
  go_wp2_with fail
  refine hbc.mono ?_
  clear hbc
  rintro e w0 ⟨rfl, hc0, o0⟩
  have ou0 : Only (· = g.c) u w0 := o.trans o0 (fun _ e => e) (fun _ _ e => e)
  have h0 := h.moved hc0 ou0 (by omega)
  have kc0 := hc.keeps o0 hC.spares (hc.typ.ne hC.tc (by decide))
  have q1 := h0.lead.at0
  have hpk := peek_calls g w0 i0 hc0
  rw [HA.out] at hpk
  go_wp2_with fail
  refine hpk.mono ?_
  clear hpk
  rintro e w1 ⟨rfl, n1, rfl⟩
  go_wp2_with fail
  refine (hil _).mono ?_
  clear hil
  rintro e w1 ⟨rfl, rfl⟩
  have hnm := name_one g pp cb (w0.drewN n1) i0 (hc0.drewN n1) (h0.lead.drewN n1) c (kc0.keeps ((Only.refl (· = g.c) w0).drewN n1) hc0.spares (kc0.typ.ne hc0.tc (by decide))) a HA.out HL.out HL2.out
  go_wp2_with fail
  refine hnm.mono ?_
  clear hnm
  rintro e w2 ⟨rfl, kc2, hc2, o2⟩
  have ou2 : Only (· = g.c) u w2 := (ou0.drewN n1).trans o2 (fun _ e => e) (fun b hb e => by rcases e with e | e; exact e; omega)
  have h2 := h.moved hc2 ou2 (by omega)
  obtain ⟨lb, l0, l1, l2⟩ := h2.lab
  have hl2 : LabAt w2 lb [⟨Adz.enc [a], st, -1⟩] := by
    rw [show ({ s with i := i0 + 1 } : Adz.Ps).labs = _ from hlabs] at l2
    exact l2
  obtain ⟨av, iv, rv, fv, tv, kk, dd⟩ := kc2.deep
  have k4 := (kk 4 _ rfl).1
  have hpl2 := h2.lead.lt
  simp only at k4
  have hus := use_one pp lb w2 hpl2 _ l1 hl2
  simp only at hus
  obtain ⟨nm, hnm⟩ : ∃ nm, (⟨(Adz.enc [a]).toArray⟩ : ByteArray) = nm := ⟨_, rfl⟩
  rw [hnm] at hus k4
  have HNM : Hid _ := hnm
  clear hnm
  have hclt := kc2.typ.lt
  clear kk dd
  go_wp2_with fail
  refine hus.mono ?_
  clear hus
  rintro e w3 ⟨rfl, o3⟩
  have k4' := o3.keeps k4 id
  have l1' := o3.keeps l1 id
  have hpl3 : pp < w3.heap.size := by have := o3.size; omega
  have hcl3 : cb < w3.heap.size := by have := o3.size; omega
  have L1 : Hid _ := l1
  clear l1 k4
  have oa : Only (fun _ => False) w3 (w3.alloc (.cells #[.int .i64 st, .int .i64 at_] 176)).drew := ((Only.refl _ w3).alloc _).drew
  obtain ⟨w5, hup, hl5, o5⟩ := lab_put1 (w3.alloc (.cells #[.int .i64 st, .int .i64 at_] 176)).drew lb ⟨Adz.enc [a], st, -1⟩ ⟨Adz.enc [a], st, at_⟩ rfl (map_keeps (map_keeps hl2 o3 id) oa id)
  simp only at hup
  rw [HNM.out] at hup
  go_wp2_with fail
  go_region
  have o25 : Only (· = lb) w2 w5 := (o3.trans oa (fun _ e => e.elim) (fun _ _ e => e.elim) : Only (· = lb) w2 _).trans o5 (fun _ e => e) (fun _ _ e => e)
  have hP5 : Par g pp base w5 { s with i := i0 + 1, labs := [⟨Adz.enc [a], st, at_⟩] } := h2.labeled l0 L1.out l2 (by show s.labs.length ≤ 1; rw [hlabs]; simp) hl5 o25
  have kc5 := kc2.keeps o25 (lab_spares hl2) (fun e => map_ne kc2.typ hl2 e.symm)
  have ou5 : Only (fun b => b = g.c ∨ base ≤ b + 1) u w5 := ou2.trans o25 (fun _ e => Or.inl e) (fun b hb e => Or.inr (by omega))
  have hq5 : w5.cell? ⟨pp, 2, none⟩ = u.cell? ⟨pp, 2, none⟩ := (o25.cell (p := ⟨pp, 2, none⟩) hpl2 (fun e => map_ne h2.lead.typ hl2 e.symm)).trans (ou2.cell (p := ⟨pp, 2, none⟩) h.lead.lt h.lead.ne)
  have HQ5 : Hid _ := hq5
  clear hup hl5 o5 oa hq5
  go_wp2
  go_ret
  exact ⟨rfl, kc5, hP5, HQ5.out, ou5⟩
end Go.Proofs.YtbiobhghnldckaaGreatDoor
