/- Proved: what is seen at a script's end, where no label is there. Conditions: the parser lies in memory as 'Par' says. -/
import Derived.Test.YtbiobhghnldckaaGreatDoorNewJ
import Derived.Maps.RangeRun
namespace Go.Proofs.YtbiobhghnldckaaGreatDoor
open Go.RowKit
set_option linter.unusedVariables false

set_option maxHeartbeats 800000 in
theorem gap_s {g : CG} {pp base : Nat} {w : World} {s s' : Adz.Ps} (h : Par g pp base w s) (hn : Adz.peek g.L s.i = 115) (hr : Adz.command g.L g.pl s = .ok s') :
    Calls Tryz.prog 52 #[.pointer (some ⟨pp, 0, none⟩)] w fun e w' => e = .returned (.pointer none) ∧ Par g pp base w' s' ∧ Only (fun b => b = g.c ∨ b = pp ∨ base ≤ b) w w' := by
  have q0 := h.lead.at0
  have ha : Adz.atAddress g.L s.i = false := by simp [Adz.atAddress, hn, Adz.isDigit]
  have HR : Hid (Adz.command g.L g.pl s = .ok s') := hr
  have HA : Hid (Adz.atAddress g.L s.i = false) := ha
  have HB : Hid (Adz.isBlank 115 = false) := show Adz.isBlank 115 = false by decide
  clear hr ha
  go_enter Tryz.func52, Tryz.ntmps52
  go_wp2_with fail
  refine (peek_calls g w s.i h.cur).mono ?_
  rintro e w1 ⟨rfl, n, rfl⟩
  rw [hn]
  go_wp2_with fail
  refine (isBlank_calls _ _).mono ?_
  rintro e w1 ⟨rfl, rfl⟩
  rw [HB.out]
  go_wp2_with fail
  have o1 : Only (· = g.c) w (w.drewN n) := (Only.refl _ w).drewN n
  refine (command_ok_s (h.moved (h.cur.drewN n) o1 (Nat.le_refl _)) HA.out hn HR.out).mono ?_
  rintro e w2 ⟨rfl, h2, o2⟩
  go_wp2
  go_ret
  exact ⟨rfl, h2, o1.trans o2 (fun _ e => Or.inl e) (fun _ _ e => e)⟩

set_option maxRecDepth 100000 in
set_option maxHeartbeats 800000 in
theorem missing_none {g : CG} {pp base : Nat} {w : World} {s : Adz.Ps} (h : Par g pp base w s) :
    Calls Tryz.prog 79 #[.pointer (some ⟨pp, 0, none⟩)] w fun e w' => e = .returned (.pointer none) ∧ Only (fun _ => False) w w' := by
  obtain ⟨l0, lb, l1, l2⟩ := h.lab
  have hrg : (Instr.range 117 (.map (some lb))).run Tryz.prog w = .ok (.pointer (some ⟨w.heap.size, 0, none⟩)) (w.alloc (.mapIter (some lb) 0 #[] 0)) := by
    rw [run_range_map w _ _ _ lb #[] 0 Tryz.underlying117 l2]
  go_enter Tryz.func79, Tryz.ntmps79
  go_wp2_with fail
  have hnx : ∀ ty, (Instr.next (.pointer (some ⟨w.heap.size, 0, none⟩)) false ty).run Tryz.prog (w.alloc (.mapIter (some lb) 0 #[] 0)) = .ok (.tuple #[.bool false]) (w.alloc (.mapIter (some lb) 0 #[] 0)) := fun ty => by
    have h1 : (w.alloc (.mapIter (some lb) 0 #[] 0)).heap[w.heap.size]? = some (.mapIter (some lb) 0 #[] 0) := heap_alloc_new w _
    have h2 : (w.alloc (.mapIter (some lb) 0 #[] 0)).heap[lb]? = some (.map #[] 0) := (Below.heap_alloc w _ _ (Array.getElem?_eq_some_iff.1 l2).1).trans l2
    rcases run_next_at (P := Tryz.prog) (w.alloc (.mapIter (some lb) 0 #[] 0)) ty w.heap.size lb 0 0 #[] #[] 0 h1 h2 (by simp) (Nat.le_refl _) with ⟨_, h⟩ | ⟨e, he, _⟩
    · exact h
    · simp [leftOf] at he
  go_loopg [3] 0 (fun k v wr => k = 0 ∧ v = .int .i64 (-1) ∧ wr = w.alloc (.mapIter (some lb) 0 #[] 0))
  case atStart => exact ⟨rfl, rfl, rfl⟩
  case round =>
    obtain ⟨rfl, rfl, rfl⟩ := hrel
    go_wp2
    go_ret
    exact ⟨rfl, (Only.refl _ w).alloc _⟩
end Go.Proofs.YtbiobhghnldckaaGreatDoor

/- Proved: goals are set, where no command asks for a label; a script's end. Conditions: the parser lies in memory as 'Par' says. -/
namespace Go.Proofs.YtbiobhghnldckaaGreatDoor
open Go.RowKit
set_option linter.unusedVariables false

theorem cmdsIn_what {w : World} : ∀ {cs : List Adz.Cmd} {xs : List Value}, CmdsIn w cs xs → ∀ j (hj : j < cs.length), xs[j * 14]? = some (.int .i32 (cs[j]).what)
  | [], [], _, j, hj => by simp at hj
  | c :: cs, x0 :: x1 :: x2 :: x3 :: x4 :: x5 :: x6 :: x7 :: x8 :: x9 :: x10 :: x11 :: x12 :: x13 :: xs, h, 0, _ => by
    obtain ⟨⟨av, iv, rv, fv, tv, e, d⟩, r⟩ := h
    have : x0 = .int .i32 c.what := (List.cons.inj e).1
    simp [this]
  | c :: cs, x0 :: x1 :: x2 :: x3 :: x4 :: x5 :: x6 :: x7 :: x8 :: x9 :: x10 :: x11 :: x12 :: x13 :: xs, h, j + 1, hj => by
    have := cmdsIn_what h.2 j (by simpa using hj)
    have e : (j + 1) * 14 = j * 14 + 1 + 1 + 1 + 1 + 1 + 1 + 1 + 1 + 1 + 1 + 1 + 1 + 1 + 1 := by omega
    rw [e]
    simpa using this

set_option maxRecDepth 100000 in
set_option maxHeartbeats 800000 in
theorem setGoals_none {g : CG} {pp base : Nat} {w : World} {s : Adz.Ps} (h : Par g pp base w s) (hk : ∀ j (hj : j < s.cmds.length), (Adz.behindKind (s.cmds[j]).what).getD 0 ≠ 4) :
    Calls Tryz.prog 80 #[.pointer (some ⟨pp, 0, none⟩)] w fun e w' => e = .returned (.tuple #[]) ∧ ∃ n, w' = w.drewN n := by
  obtain ⟨qv, xs, c1, c2, c3⟩ := h.cmds
  obtain ⟨mb, m1, m2⟩ := h.map
  obtain ⟨qa, qc, rfl⟩ := row_shape c2
  have hfew := h.few
  have hle := h.cur.le
  have hsm := h.cur.small
  go_enter Tryz.func80, Tryz.ntmps80
  go_wp2_with fail
  go_loopg [9] s.cmds.length (fun k v wr => ∃ j m : Nat, v = .int .i64 j ∧ j + k = s.cmds.length ∧ wr = w.drewN m)
  case atStart => exact ⟨0, 0, rfl, by omega, rfl⟩
  case round =>
    obtain ⟨j, m, rfl, hjk, rfl⟩ := hrel
    have HJ : Hid (j + gk = s.cmds.length) := hjk
    have hjl : j ≤ s.cmds.length := by omega
    clear hjk
    by_cases hlt : j < s.cmds.length
    · obtain ⟨qb, hq⟩ : ∃ qb, qa = some ⟨qb, 0, none⟩ := by
        rcases c2.2 with ⟨e, _⟩ | ⟨gb, cap, cur, e, _⟩
        · simp at e; omega
        · simp at e; exact ⟨gb, e.1⟩
      subst hq
      have hw := cmdsIn_what c3 j hlt
      have hcell : w.cell? ⟨qb, j * 14, none⟩ = some (.int .i32 (s.cmds[j]).what) := by rw [c2.cellAt (j * 14) (by omega)]; exact hw
      have hkj := hk j hlt
      generalize (s.cmds[j]).what = wh at *
      have hlk : ∀ m, (Instr.lookup 115 (.map (some mb)) (.int .i32 wh) false).run Tryz.prog (w.drewN m) = .ok (.int .i64 ((Adz.behindKind wh).getD 0)) (w.drewN m) := fun m => beh_lookup (w.drewN m) mb wh m2
      have hb : (((Adz.behindKind wh).getD 0) != 4) = true := by simpa [bne] using hkj
      generalize (Adz.behindKind wh).getD 0 = kd at *
      clear hk c2 c3 hw
      go_wp2_with fail
      go_quiet (fail)
      go_wp2
      go_roundg (gk - 1)
      case measure => have := HJ.out; omega
      case rel => exact ⟨j + 1, m + nq, by go_num, by have := HJ.out; omega, rfl⟩
    · have hje : j = s.cmds.length := by omega
      subst hje
      go_wp2
      go_end0
      exact ⟨rfl, m, rfl⟩

set_option maxHeartbeats 800000 in
theorem finish_ok {g : CG} {pp base : Nat} {w : World} {s : Adz.Ps} (h : Par g pp base w s) (ho : s.opens = []) (hk : ∀ j (hj : j < s.cmds.length), (Adz.behindKind (s.cmds[j]).what).getD 0 ≠ 4) :
    Calls Tryz.prog 53 #[.pointer (some ⟨pp, 0, none⟩)] w fun e w' => e = .returned (.pointer none) ∧ Only (fun _ => False) w w' := by
  obtain ⟨ov, o1, o2⟩ := h.op
  rw [ho] at o2
  obtain ⟨oa, oc, rfl⟩ := row_shape o2
  simp only [List.length_nil] at o1
  go_enter Tryz.func53, Tryz.ntmps53
  go_wp2_with fail
  refine (missing_none h).mono ?_
  rintro e w1 ⟨rfl, ho1⟩
  have h1 := h.moved (h.cur.keeps ho1 id (fun _ => id) id) (ho1.mono (fun _ _ e => e.elim)) (Nat.le_refl _)
  go_wp2_with fail
  refine (setGoals_none h1 hk).mono ?_
  rintro e w2 ⟨rfl, n, rfl⟩
  go_wp2
  go_ret
  exact ⟨rfl, ho1.drewN n⟩
end Go.Proofs.YtbiobhghnldckaaGreatDoor
