/- Proved: goals are set, where one label is set and is what is asked for; the end of such a script. Conditions: the parser lies in memory as 'Par' says. -/
import Derived.Test.YtbiobhghnldckaaGreatDoorLab8
namespace Go.Proofs.YtbiobhghnldckaaGreatDoor
open Go.RowKit
set_option linter.unusedVariables false
attribute [local go_sem ↓] Go.wp_at_zero Go.wp_at_succ

/-- A command with its goal. -/
def goalF (v : Int) (c : Adz.Cmd) : Adz.Cmd := if (Adz.behindKind c.what).getD 0 = 4 then { c with goal := v } else c
def goalMid (v : Int) (cs : List Adz.Cmd) (j : Nat) : List Adz.Cmd := (cs.take j).map (goalF v) ++ cs.drop j
theorem goalMid_len (v : Int) (cs : List Adz.Cmd) (j : Nat) (hj : j ≤ cs.length) : (goalMid v cs j).length = cs.length := by
  simp [goalMid]; omega
theorem goalMid_at (v : Int) (cs : List Adz.Cmd) (j : Nat) (hj : j < cs.length) (h : j < (goalMid v cs j).length) : (goalMid v cs j)[j] = cs[j] := by
  have : (goalMid v cs j)[j]? = some cs[j] := by
    unfold goalMid
    rw [List.getElem?_append_right (by simp; omega)]
    simp
    rw [show j - min j cs.length = 0 by omega, Nat.add_zero, List.getElem?_eq_getElem hj]
  exact (List.getElem?_eq_some_iff.1 this).2
theorem goalMid_succ (v : Int) (cs : List Adz.Cmd) (j : Nat) (hj : j < cs.length) : goalMid v cs (j + 1) = (goalMid v cs j).set j (goalF v cs[j]) := by
  unfold goalMid
  rw [← List.take_append_getElem hj, List.map_append, List.map_cons, List.map_nil, List.append_assoc]
  rw [List.set_append_right _ _ (by simp; omega)]
  congr 1
  rw [show j - ((cs.take j).map (goalF v)).length = 0 by simp; omega, List.drop_eq_getElem_cons hj]
  rfl
theorem goalMid_same (v : Int) (cs : List Adz.Cmd) (j : Nat) (hj : j < cs.length) (h : (Adz.behindKind (cs[j]).what).getD 0 ≠ 4) : goalMid v cs (j + 1) = goalMid v cs j := by
  have hl := goalMid_len v cs j (by omega)
  rw [goalMid_succ v cs j hj, goalF, if_neg h]
  have := goalMid_at v cs j hj (by omega)
  rw [← this, List.set_getElem_self]

theorem field_set (w : World) (a b : Int) : (Instr.field 176 (.agg #[.int .i64 a, .int .i64 b]) 0).run Tryz.prog w = .ok (.int .i64 a) w := by
  obtain ⟨i, hi, hz0, hz1, hz2⟩ := info_parts infoInt
  simp [Instr.field, run_underlying Tryz.underlying176, part, asAgg, Sem.run_bind, Result.andThen]

set_option maxRecDepth 100000 in
set_option maxHeartbeats 3200000 in
theorem setGoals_lab {g : CG} {pp base : Nat} {w : World} {s : Adz.Ps} (h : Par g pp base w s) (x : Adz.Lab) (hl0 : s.labs = [x]) (hne : (⟨x.name.toArray⟩ : ByteArray).toList.isEmpty = false) (hk : ∀ j (hj : j < s.cmds.length), (Adz.behindKind (s.cmds[j]).what).getD 0 = 4 → (s.cmds[j]).name = x.name) :
    Calls Tryz.prog 80 #[.pointer (some ⟨pp, 0, none⟩)] w fun e w' => e = .returned (.tuple #[]) ∧ Par g pp base w' { s with cmds := s.cmds.map (goalF x.set) } ∧ Only (fun b => base ≤ b) w w' := by
  obtain ⟨qv, xs, c1, c2, c3⟩ := h.cmds
  obtain ⟨mb, m1, m2⟩ := h.map
  obtain ⟨qa, qc, rfl⟩ := row_shape c2
  have hfew := h.few
  have hle := h.cur.le
  have hsm := h.cur.small
  have HK : Hid _ := hk
  have HL0 : Hid _ := hl0
  clear hk hl0
  go_enter Tryz.func80, Tryz.ntmps80
  go_wp2_with fail
  clear c1 c2 c3 m1 m2
  go_loopg [9] s.cmds.length (fun k v wr => ∃ j : Nat, v = .int .i64 j ∧ j ≤ s.cmds.length ∧ Hid (j + k = s.cmds.length ∧ Par g pp base wr { s with cmds := goalMid x.set s.cmds j } ∧ Only (fun b => base ≤ b) w wr))
  case atStart => exact ⟨0, rfl, by omega, ⟨by omega, h, Only.refl _ _⟩⟩
  case round =>
    obtain ⟨j, rfl, hjl, H0⟩ := hrel
    have HJ : Hid _ := H0.out.1
    have H : Hid _ := H0.out.2
    clear H0
    by_cases hlt : j < s.cmds.length
    · have hP := H.out.1
      have hml := goalMid_len x.set s.cmds j hjl
      have hmj := goalMid_at x.set s.cmds j hlt (by omega)
      obtain ⟨qv, xs, c1, c2, c3⟩ := hP.cmds
      obtain ⟨mb, m1, m2⟩ := hP.map
      obtain ⟨qa, qc, rfl⟩ := row_shape c2
      obtain ⟨qb, rfl⟩ : ∃ qb, qa = some ⟨qb, 0, none⟩ := by
        rcases c2.2 with ⟨e, h0⟩ | ⟨gb, cap, cur, e, _⟩
        · have : (goalMid x.set s.cmds j).length = 0 := h0
          omega
        · injection e with e1; exact ⟨gb, e1⟩
      simp only at c1 c2 c3
      have hw : wr.cell? ⟨qb, j * 14, none⟩ = some (.int .i32 (s.cmds[j]).what) := by
        rw [c2.cellAt (j * 14) (by omega), cmdsIn_what c3 j (by omega), hmj]
      rw [hml] at c1
      by_cases h4 : (Adz.behindKind (s.cmds[j]).what).getD 0 = 4
      · have hnm := HK.out j hlt h4
        have hgl : goalF x.set s.cmds[j] = { s.cmds[j] with goal := x.set } := if_pos h4
        have hsc := goalMid_succ x.set s.cmds j hlt
        have hlk : ∀ m, (Instr.lookup 115 (.map (some mb)) (.int .i32 (s.cmds[j]).what) false).run Tryz.prog (wr.drewN m) = .ok (.int .i64 4) (wr.drewN m) := fun m => by
          rw [← h4]; exact beh_lookup (wr.drewN m) mb _ m2
        have hgc : wr.cell? ⟨qb, j * 14 + 5, none⟩ = some (.int .i64 (s.cmds[j]).goal) := by
          obtain ⟨_, _, _, _, _, e⟩ := cmdsIn_at 5 (by omega) c3 j (by omega)
          rw [c2.cellAt (j * 14 + 5) (by omega), e, hmj]
          rfl
        have hnc : wr.cell? ⟨qb, j * 14 + 4, none⟩ = some (.string ⟨x.name.toArray⟩) := by
          obtain ⟨_, _, _, _, _, e⟩ := cmdsIn_at 4 (by omega) c3 j (by omega)
          rw [c2.cellAt (j * 14 + 4) (by omega), e, hmj, ← hnm]
          rfl
        have hfr := rowFree c2 (j * 14 + 5)
        have hfin : ((goalMid x.set s.cmds j).set j { (goalMid x.set s.cmds j)[j]'(by omega) with goal := (s.cmds.length : Int) }).set j { (((goalMid x.set s.cmds j).set j { (goalMid x.set s.cmds j)[j]'(by omega) with goal := (s.cmds.length : Int) })[j]'(by rw [List.length_set]; omega)) with goal := x.set } = goalMid x.set s.cmds (j + 1) := by
          rw [List.set_set, List.getElem_set_self, hsc, hgl, hmj]
        have HFIN : Hid _ := hfin
        have HML : Hid _ := hml
        have hPq := fun m => (hP.moved (hP.cur.drewN m) ((Only.refl _ wr).drewN m) (Nat.le_refl _) : Par g pp base (wr.drewN m) { s with cmds := goalMid x.set s.cmds j })
        have HPQ : Hid _ := hPq
        have dj : (j : Int) < (s.cmds.length : Int) := by omega
        obtain ⟨lb, l0, l1, l2⟩ := hP.lab
        have hlb : LabAt wr lb [x] := by
          rw [show ({ s with cmds := goalMid x.set s.cmds j } : Adz.Ps).labs = [x] from HL0.out] at l2
          exact l2
        have HLB : Hid _ := hlb
        generalize (s.cmds[j]).what = wh at *
        generalize (s.cmds[j]).goal = g0 at *
        generalize hnmg : (⟨x.name.toArray⟩ : ByteArray) = nm at *
        have HNG : Hid _ := hnmg
        clear c2 c3 hnm hgl hsc hfin hmj hPq hlb l2 h4 hnmg
        go_wp2_with fail
        go_quiet (fail)
        go_wp2_with fail
        have hPa := HPQ.out nq
        obtain ⟨hP2, o2, hqp⟩ := hPa.goaled (qb := qb) (qc := qc) (by rw [HML.out]; exact c1) j (by rw [HML.out]; exact hlt) (s.cmds.length : Int)
        have hl2 := HLB.out
        have hnl : ¬ lb = qb := fun e => by
          obtain ⟨qv, xs, c1', c2', _⟩ := hPa.cmds
          rw [show ({ s with cmds := goalMid x.set s.cmds j } : Adz.Ps).cmds.length = s.cmds.length from HML.out] at c2'
          have : qv = .slice (some ⟨qb, 0, none⟩) s.cmds.length qc := by
            have e2 : (wr.drewN nq).cell? ⟨pp, 2, none⟩ = some (.slice (some ⟨qb, 0, none⟩) s.cmds.length qc) := c1
            rw [e2] at c1'; injection c1' with c1'; exact c1'.symm
          subst this
          exact map_ne (Typ.of_row c2' rfl) (show (wr.drewN nq).heap[lb]? = _ from hl2) e
        have hl3 : LabAt ((wr.drewN nq).setCell ⟨qb, j * 14 + 5, none⟩ (.int .i64 (s.cmds.length : Int))) lb [x] := map_keeps (show (wr.drewN nq).heap[lb]? = _ from hl2) (only_set _ qb (j * 14 + 5) _) hnl
        have c1a : ((wr.drewN nq).setCell ⟨qb, j * 14 + 5, none⟩ (.int .i64 (s.cmds.length : Int))).cell? ⟨pp, 2, none⟩ = some (.slice (some ⟨qb, 0, none⟩) s.cmds.length qc) := (only_set _ qb (j * 14 + 5) _).keeps (show (wr.drewN nq).cell? ⟨pp, 2, none⟩ = _ from c1) (fun e => hqp e.symm)
        have l1a : ((wr.drewN nq).setCell ⟨qb, j * 14 + 5, none⟩ (.int .i64 (s.cmds.length : Int))).cell? ⟨pp, 4, none⟩ = some (.map (some lb)) := (only_set _ qb (j * 14 + 5) _).keeps (show (wr.drewN nq).cell? ⟨pp, 4, none⟩ = _ from l1) (fun e => hqp e.symm)
        have nca : ((wr.drewN nq).setCell ⟨qb, j * 14 + 5, none⟩ (.int .i64 (s.cmds.length : Int))).cell? ⟨qb, j * 14 + 4, none⟩ = some (.string nm) := by
          rw [World.cell?_setCell_other _ _ _ _ (by simp)]; exact hnc
        have gca : ((wr.drewN nq).setCell ⟨qb, j * 14 + 5, none⟩ (.int .i64 (s.cmds.length : Int))).cell? ⟨qb, j * 14 + 5, none⟩ = some (.int .i64 (s.cmds.length : Int)) := World.cell?_setCell_same _ _ _ (show (wr.drewN nq).cell? ⟨qb, j * 14 + 5, none⟩ = _ from hgc)
        have fra : ((wr.drewN nq).setCell ⟨qb, j * 14 + 5, none⟩ (.int .i64 (s.cmds.length : Int))).frozen? ⟨qb, j * 14 + 5, none⟩ = false := by
          rw [World.frozen?_setCell]; exact hfr
        have oa : Only (fun b => base ≤ b) w ((wr.drewN nq).setCell ⟨qb, j * 14 + 5, none⟩ (.int .i64 (s.cmds.length : Int))) := (H.out.2.drewN nq).trans o2 (fun _ e => e) (fun _ _ e => e)
        clear c1 l1 hnc hgc hfr hlk hw m1 m2 hP HPQ HLB H o2 hPa hl2
        generalize (wr.drewN nq).setCell ⟨qb, j * 14 + 5, none⟩ (.int .i64 (s.cmds.length : Int)) = w2 at *
        have hlk : ∀ m, (Instr.lookup 117 (.map (some lb)) (.string nm) false).run Tryz.prog (w2.drewN m) = .ok (.agg #[.int .i64 x.set, .int .i64 x.asked]) (w2.drewN m) := fun m => by
          rw [← HNG.out]; exact lab_one (w2.drewN m) lb x hl3
        have hlk1 := hlk 1
        rw [show w2.drewN 1 = w2.drew from rfl] at hlk1
        have hfd := fun u => field_set u x.set x.asked
        go_region
        obtain ⟨hP3, o3, _⟩ := hP2.goaled (qb := qb) (qc := qc) (by rw [List.length_set, HML.out]; exact c1a) j (by rw [List.length_set, HML.out]; exact hlt) x.set
        have HP3 : Hid _ := hP3
        clear hP3 hlk hlk1 hfd
        go_wp2
        go_roundg (gk - 1)
        case measure => have := HJ.out; omega
        case rel =>
          refine ⟨j + 1, by go_num, by omega, ⟨by have := HJ.out; omega, ?_, (oa.trans o3 (fun _ e => e) (fun _ _ e => e)).drew⟩⟩
          rw [← HFIN.out]
          exact HP3.out.moved (HP3.out.cur.drewN 1) ((Only.refl _ _).drewN 1) (Nat.le_refl _)
      · have HS : Hid _ := goalMid_same x.set s.cmds j hlt h4
        generalize (s.cmds[j]).what = wh at *
        have hlk : ∀ m, (Instr.lookup 115 (.map (some mb)) (.int .i32 wh) false).run Tryz.prog (wr.drewN m) = .ok (.int .i64 ((Adz.behindKind wh).getD 0)) (wr.drewN m) := fun m => beh_lookup (wr.drewN m) mb wh m2
        have hb : (((Adz.behindKind wh).getD 0) != 4) = true := by simpa [bne] using h4
        generalize (Adz.behindKind wh).getD 0 = kd at *
        clear c2 c3 h4 hmj hml
        go_wp2_with fail
        go_quiet (fail)
        go_wp2
        go_roundg (gk - 1)
        case measure => have := HJ.out; omega
        case rel =>
          refine ⟨j + 1, by go_num, by omega, ⟨by have := HJ.out; omega, ?_, H.out.2.drewN nq⟩⟩
          rw [HS.out]
          exact hP.moved (hP.cur.drewN nq) ((Only.refl _ wr).drewN nq) (Nat.le_refl _)
    · have hje : j = s.cmds.length := by omega
      subst hje
      go_wp2
      go_end0
      refine ⟨rfl, ?_, H.out.2⟩
      have := H.out.1
      unfold goalMid at this
      rw [List.take_length, List.drop_length, List.append_nil] at this
      exact this

set_option maxHeartbeats 800000 in
/-- The end of a script whose only label is set. -/
theorem finOk_lab (s : Adz.Ps) (x : Adz.Lab) (hop : s.opens = []) (hl0 : s.labs = [x]) (hx : x.set ≠ -1) (hne : (⟨x.name.toArray⟩ : ByteArray).toList.isEmpty = false) (hk : ∀ j (hj : j < s.cmds.length), (Adz.behindKind (s.cmds[j]).what).getD 0 = 4 → (s.cmds[j]).name = x.name) : FinOk s (s.cmds.map (goalF x.set)) := fun g pp base w h => by
  obtain ⟨ov, o1, o2⟩ := h.op
  rw [hop] at o2
  obtain ⟨oa, oc, rfl⟩ := row_shape o2
  simp only [List.length_nil] at o1
  go_enter Tryz.func53, Tryz.ntmps53
  go_wp2_with fail
  refine (missing_set h x hl0 hx).mono ?_
  rintro e w1 ⟨rfl, ho1⟩
  have h1 := h.moved (h.cur.keeps ho1 id (fun _ => id) id) (ho1.mono (fun _ _ e => e.elim)) (Nat.le_refl _)
  go_wp2_with fail
  refine (setGoals_lab h1 x hl0 hne hk).mono ?_
  rintro e w2 ⟨rfl, h2, o2⟩
  obtain ⟨qv, xs, q1, q2, q3⟩ := h2.cmds
  have Q1 : Hid _ := q1
  clear q1
  go_wp2
  go_ret
  exact ⟨rfl, ho1.trans o2 (fun _ e => e.elim) (fun _ _ e => e), qv, xs, Q1.out, q2, q3⟩
end Go.Proofs.YtbiobhghnldckaaGreatDoor
