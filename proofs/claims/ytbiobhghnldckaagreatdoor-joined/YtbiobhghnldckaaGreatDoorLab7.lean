/- Proved: a block is closed. Conditions: the parser lies in memory as 'Par' says. -/
import Derived.Test.YtbiobhghnldckaaGreatDoorLab6
namespace Go.Proofs.YtbiobhghnldckaaGreatDoor
open Go.RowKit
set_option linter.unusedVariables false
attribute [local go_sem ↓] Go.wp_at_zero Go.wp_at_succ

theorem rowFree {w : World} {B g c N S : Nat} {T : TypeId} {xs : List Value} (h : w.ownsRow B T S (.slice (some ⟨g, 0, none⟩) N c) N xs) (j : Nat) : w.frozen? ⟨g, j, none⟩ = false := by
  rcases h.2 with ⟨e, h0⟩ | ⟨g', cap, cur, hv, _, hg, hcap, _, hsz, htake⟩
  · cases e
  · injection hv with e1 e2 e3
    injection e1 with e1
    injection e1 with e1
    subst e1
    unfold World.frozen?
    simp [hg]
theorem cmdsIn_at {w : World} (f : Nat) (hf : f < 14) : ∀ {cs : List Adz.Cmd} {xs : List Value}, CmdsIn w cs xs → ∀ j (hj : j < cs.length), ∃ av iv rv fv tv, xs[j * 14 + f]? = (cmdCells cs[j] av iv rv fv tv)[f]?
  | [], [], _, j, hj => by simp at hj
  | c :: cs, x0 :: x1 :: x2 :: x3 :: x4 :: x5 :: x6 :: x7 :: x8 :: x9 :: x10 :: x11 :: x12 :: x13 :: xs, h, 0, _ => by
    obtain ⟨⟨av, iv, rv, fv, tv, e, d⟩, r⟩ := h
    refine ⟨av, iv, rv, fv, tv, ?_⟩
    show _ = (cmdCells c av iv rv fv tv)[f]?
    rw [← e]
    have : ∀ f, f < 14 → ([x0, x1, x2, x3, x4, x5, x6, x7, x8, x9, x10, x11, x12, x13] ++ xs)[f]? = [x0, x1, x2, x3, x4, x5, x6, x7, x8, x9, x10, x11, x12, x13][f]? := fun f hf => List.getElem?_append_left (by simpa using hf)
    rw [Nat.zero_mul, Nat.zero_add]
    exact this f hf
  | c :: cs, x0 :: x1 :: x2 :: x3 :: x4 :: x5 :: x6 :: x7 :: x8 :: x9 :: x10 :: x11 :: x12 :: x13 :: xs, h, j + 1, hj => by
    obtain ⟨av, iv, rv, fv, tv, ih⟩ := cmdsIn_at f hf h.2 j (by simpa using hj)
    refine ⟨av, iv, rv, fv, tv, ?_⟩
    have e : (j + 1) * 14 + f = j * 14 + f + 1 + 1 + 1 + 1 + 1 + 1 + 1 + 1 + 1 + 1 + 1 + 1 + 1 + 1 := by omega
    rw [e]
    simpa using ih
/-- A goal alone has turned. -/
theorem Par.goaled {g : CG} {pp base : Nat} {w : World} {s : Adz.Ps} (h : Par g pp base w s) {qb qc : Nat} (hq : w.cell? ⟨pp, 2, none⟩ = some (.slice (some ⟨qb, 0, none⟩) s.cmds.length qc)) (k : Nat) (hk : k < s.cmds.length) (v : Int) :
    Par g pp base (w.setCell ⟨qb, k * 14 + 5, none⟩ (.int .i64 v)) { s with cmds := s.cmds.set k { s.cmds[k] with goal := v } } ∧ Only (fun b => base ≤ b) w (w.setCell ⟨qb, k * 14 + 5, none⟩ (.int .i64 v)) ∧ qb ≠ pp := by
  obtain ⟨mb, m1, m2⟩ := h.map
  obtain ⟨qv, xs, c1, c2, c3⟩ := h.cmds
  obtain ⟨ov, o1, o2⟩ := h.op
  obtain ⟨lb, l0, l1, l2⟩ := h.lab
  obtain rfl : qv = .slice (some ⟨qb, 0, none⟩) s.cmds.length qc := by
    rw [hq] at c1; injection c1 with c1; exact c1.symm
  have tq : Typ w qb 167 := Typ.of_row c2 rfl
  have hb := (c2.lt qb rfl).1
  have o := only_set w qb (k * 14 + 5) (.int .i64 v)
  have key : ∀ {b : Nat} {T : TypeId}, Typ w b T → T ≠ 167 → ¬ b = qb := fun t n e => t.ne tq n e
  have n0 := key h.lead.typ (by decide)
  have sp : Spares w (· = qb) := spares_one tq (by decide)
  have mk : ∀ {m : Nat} {es : Array MapEntry} {n : Nat}, w.heap[m]? = some (.map es n) → ¬ m = qb := fun hm e => map_ne tq hm e
  refine ⟨⟨h.cur.keeps o (key h.cur.tc (by decide)) (fun hn => key (h.cur.tr hn) (by decide)) (key h.cur.tp (by decide)), h.lead.keeps o n0, ⟨mb, o.keeps m1 n0, map_keeps m2 o (mk m2)⟩,
    ⟨_, xs.set (k * 14 + 5) (.int .i64 v), o.keeps hq n0, by rw [List.length_set]; exact rowPut14 c2 _ (by omega) _, cmdsIn_goal v (c3.keeps o sp) k hk⟩, ⟨ov, o.keeps o1 n0, row_keeps o2 o (fun b hb' => key (Typ.of_row o2 hb') (by decide))⟩,
    ⟨lb, l0, o.keeps l1 n0, map_keeps l2 o (mk l2)⟩, o.keepsFrozen c1 h.f2 n0, o.keepsFrozen o1 h.f3 n0, Nat.le_trans h.bs o.size, h.pb, by rw [List.length_set]; exact h.few⟩, o.mono (fun b _ e => by subst e; exact hb), fun e => n0 e.symm⟩

set_option maxRecDepth 100000 in
set_option maxHeartbeats 3200000 in
theorem close_ok {g : CG} {pp base : Nat} {w : World} {s : Adz.Ps} (h : Par g pp base w s) (hlt : s.i < g.L.length) (k : Nat) (ho : s.opens = [(k : Int)]) (hk : k < s.cmds.length) :
    Calls Tryz.prog 76 #[.pointer (some ⟨pp, 0, none⟩)] w fun e w' => e = .returned (.pointer none) ∧ Par g pp base w' { s with i := s.i + 1, opens := [], cmds := s.cmds.set k { s.cmds[k] with goal := (s.cmds.length : Int) } } ∧ Only (fun b => b = g.c ∨ b = pp ∨ base ≤ b + 1) w w' := by
  have q0 := h.lead.at0
  obtain ⟨ov, p1, p2⟩ := h.op
  obtain ⟨oa, oc, rfl⟩ := row_shape p2
  rw [ho] at p1
  have hpl := h.lead.lt
  have hnx := next_calls g w s.i h.cur hlt
  go_enter Tryz.func76, Tryz.ntmps76
  simp only [List.length_cons, List.length_nil] at p1
  go_wp2_with fail
  refine hnx.mono ?_
  clear hnx
  rintro e w1 ⟨rfl, hc1, ho1⟩
  have h1 := h.moved hc1 ho1 (by omega)
  clear p1 p2 q0
  have q0 := h1.lead.at0
  obtain ⟨ov, p1, p2⟩ := h1.op
  obtain ⟨oa, oc, rfl⟩ := row_shape p2
  have e1 : ({ s with i := s.i + 1 } : Adz.Ps).opens = [(k : Int)] := ho
  rw [e1] at p1 p2
  obtain ⟨ob, rfl⟩ : ∃ ob, oa = some ⟨ob, 0, none⟩ := by
    rcases p2.2 with ⟨e, h0⟩ | ⟨gb, cap, cur, e, _⟩
    · simp at h0
    · injection e with e1; exact ⟨gb, e1⟩
  have pc0 : w1.cell? ⟨ob, 0, none⟩ = some (.int .i64 k) := by rw [p2.cellAt 0 (by simp)]; rfl
  obtain ⟨qv, xs, c1, c2, c3⟩ := h1.cmds
  obtain ⟨qa, qc, rfl⟩ := row_shape c2
  obtain ⟨qb, rfl⟩ : ∃ qb, qa = some ⟨qb, 0, none⟩ := by
    rcases c2.2 with ⟨e, h0⟩ | ⟨gb, cap, cur, e, _⟩
    · have : s.cmds.length = 0 := h0
      omega
    · injection e with e1; exact ⟨gb, e1⟩
  simp only [List.length_cons, List.length_nil] at p1 c1
  obtain ⟨hP2, o2, hqp⟩ := h1.goaled c1 k hk (s.cmds.length : Int)
  have hcl := h1.few
  have hle := h1.cur.le
  have hsm := h1.cur.small
  have HP2 : Hid _ := hP2
  have hgc : w1.cell? ⟨qb, k * 14 + 5, none⟩ = some (.int .i64 (s.cmds[k]).goal) := by
    rw [c2.cellAt (k * 14 + 5) (show k * 14 + 5 < s.cmds.length * 14 by omega)]
    obtain ⟨_, _, _, _, _, e⟩ := cmdsIn_at 5 (by omega) c3 k hk
    exact e
  have hfr := rowFree c2 (k * 14 + 5)
  simp only at hcl hle
  have dk : (k : Int) < (s.cmds.length : Int) := by omega
  have HO2 : Hid _ := o2
  have P2 : Hid _ := p2
  have f3 := h1.f3
  have HO : Hid _ := ho
  clear hP2 o2 p2 c2 c3 e1 ho
  go_wp2_with fail
  go_region
  have hP3 : Par g pp base (w1.setCell ⟨qb, k * 14 + 5, none⟩ (.int .i64 (s.cmds.length : Int))).drew { s with i := s.i + 1, cmds := s.cmds.set k { s.cmds[k] with goal := (s.cmds.length : Int) } } := HP2.out.moved (HP2.out.cur.drewN 1) ((Only.refl _ _).drewN 1) (Nat.le_refl _)
  have o3 : Only (fun b => b = g.c ∨ base ≤ b) w (w1.setCell ⟨qb, k * 14 + 5, none⟩ (.int .i64 (s.cmds.length : Int))).drew := (ho1.trans HO2.out (fun _ e => Or.inl e) (fun _ _ e => Or.inr e) : Only (fun b => b = g.c ∨ base ≤ b) w _).drew
  clear HP2 HO2 P2 p1 pc0 c1 hgc hfr f3 q0 hqp h1 hc1 ho1
  generalize (w1.setCell ⟨qb, k * 14 + 5, none⟩ (.int .i64 (s.cmds.length : Int))).drew = w3 at *
  have q0 := hP3.lead.at0
  have f3 := hP3.f3
  obtain ⟨ov, p1, p2⟩ := hP3.op
  obtain ⟨oa, oc, rfl⟩ := row_shape p2
  have e1 : ({ s with i := s.i + 1, cmds := s.cmds.set k { s.cmds[k] with goal := (s.cmds.length : Int) } } : Adz.Ps).opens = [(k : Int)] := HO.out
  rw [e1] at p1 p2
  obtain ⟨ob, rfl⟩ : ∃ ob, oa = some ⟨ob, 0, none⟩ := by
    rcases p2.2 with ⟨e, h0⟩ | ⟨gb, cap, cur, e, _⟩
    · simp at h0
    · injection e with e1; exact ⟨gb, e1⟩
  have hoc := (row_cut p2 (Nat.le_refl _)).2
  have hnp : ¬ ob = pp := fun e => (Typ.of_row p2 rfl).ne hP3.lead.typ (by decide) e
  have P2 : Hid _ := p2
  have hcap : 1 ≤ oc := by
    rcases p2.2 with ⟨e, h0⟩ | ⟨gb, cap, cur, e, _, _, hc, _⟩
    · simp at h0
    · injection e with e1 e2 e3; subst e3; exact hc
  simp only [List.length_cons, List.length_nil] at p1
  clear p2 hoc
  go_wp2
  have oc3 := only_set w3 pp 3 (.slice (some ⟨ob, 0, none⟩) 0 oc)
  have hown : w3.ownsRow base 3 1 (.slice (some ⟨ob, 0, none⟩) ({ s with i := s.i + 1, cmds := s.cmds.set k { s.cmds[k] with goal := (s.cmds.length : Int) } } : Adz.Ps).opens.length oc) ({ s with i := s.i + 1, cmds := s.cmds.set k { s.cmds[k] with goal := (s.cmds.length : Int) } } : Adz.Ps).opens.length (({ s with i := s.i + 1, cmds := s.cmds.set k { s.cmds[k] with goal := (s.cmds.length : Int) } } : Adz.Ps).opens.map (Value.int .i64)) := by
    rw [e1]; exact P2.out
  have q2 : (w3.setCell ⟨pp, 3, none⟩ (.slice (some ⟨ob, 0, none⟩) 0 oc)).ownsRow base 3 1 (.slice (some ⟨ob, 0, none⟩) 0 oc) ([] : List Int).length (([] : List Int).map (Value.int .i64)) := by
    have := row_cut P2.out (M := 0) (by omega)
    exact row_keeps this oc3 (fun b hb e => by
      simp [Value.ownBlock] at hb
      omega)
  have hP4 := hP3.opens' (os := []) hown (World.cell?_setCell_same _ _ _ p1) q2 (oc3.mono (fun _ _ e => Or.inl e)) (Field.setCell w3 pp 3 _)
  go_ret
  refine ⟨rfl, hP4, ?_⟩
  exact o3.trans oc3 (fun b e => by
    rcases e with e | e
    · exact Or.inl e
    · exact Or.inr (Or.inr (by omega))) (fun _ _ e => Or.inr (Or.inl e))

set_option maxRecDepth 100000 in
set_option maxHeartbeats 800000 in
theorem gap_close (g : CG) (pp : Nat) (s : Adz.Ps) (hr : Adz.peek g.L s.i = 125) (k : Nat) (ho : s.opens = [(k : Int)]) (hk : k < s.cmds.length) : GapOk g pp s { s with i := s.i + 1, opens := [], cmds := s.cmds.set k { s.cmds[k] with goal := (s.cmds.length : Int) } } := by
  have hlt : s.i < g.L.length := Adz.lt_of_peek (by omega)
  refine ⟨by omega, fun base w hp => ?_⟩
  have q0 := hp.lead.at0
  have HR : Hid (Adz.peek g.L s.i = 125) := hr
  have hcl := fun n => close_ok (hp.moved (hp.cur.drewN n) ((Only.refl (· = g.c) w).drewN n) (Nat.le_refl _)) hlt k ho hk
  have HB : Hid (Adz.isBlank 125 = false) := show Adz.isBlank 125 = false by decide
  clear hr ho
  go_enter Tryz.func52, Tryz.ntmps52
  go_wp2_with fail
  refine (peek_calls g w s.i hp.cur).mono ?_
  rintro e w1 ⟨rfl, n, rfl⟩
  rw [HR.out]
  go_wp2_with fail
  refine (isBlank_calls _ _).mono ?_
  rintro e w1 ⟨rfl, rfl⟩
  rw [HB.out]
  go_wp2_with fail
  refine (hcl n).mono ?_
  rintro e w2 ⟨rfl, h2, o2⟩
  have o1 : Only (· = g.c) w (w.drewN n) := (Only.refl _ w).drewN n
  go_wp2
  go_ret
  exact ⟨rfl, h2, o1.trans o2 (fun _ e => Or.inl e) (fun _ _ e => e)⟩
end Go.Proofs.YtbiobhghnldckaaGreatDoor
