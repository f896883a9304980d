/- Proved: the ends of a command, and a head without an address. Conditions: the cursor lies in memory as 'Cur' says, and the parser leads to it. -/
import Derived.Test.YtbiobhghnldckaaGreatDoorK3
import Derived.Test.YtbiobhghnldckaaGreatDoorSpecJ
import Derived.Lib.OthersKept
import Derived.Deep.Cut
import Derived.Maps.RangeRun
namespace Go.Proofs.YtbiobhghnldckaaGreatDoor
open Go.RowKit
set_option linter.unusedVariables false

theorem Only.setNew {S : Nat → Prop} {w W : World} (h : Only S w W) {b j : Nat} {v : Value} (hb : w.heap.size ≤ b) : Only S w (W.setCell ⟨b, j, none⟩ v) :=
  Only.setCell (p := ⟨b, j, none⟩) h (fun hlt => absurd hlt (Nat.not_lt.2 hb)) v

/-- The fourteen cells of a command are written. -/
def set14 (W0 : World) (R : Nat) (x0 x1 x2 x3 x4 x5 x6 x7 x8 x9 x10 x11 x12 x13 : Value) : World := (((((((((((((W0.setCell ⟨R, 0, none⟩ x0).setCell ⟨R, 1, none⟩ x1).setCell ⟨R, 2, none⟩ x2).setCell ⟨R, 3, none⟩ x3).setCell ⟨R, 4, none⟩ x4).setCell ⟨R, 5, none⟩ x5).setCell ⟨R, 6, none⟩ x6).setCell ⟨R, 7, none⟩ x7).setCell ⟨R, 8, none⟩ x8).setCell ⟨R, 9, none⟩ x9).setCell ⟨R, 10, none⟩ x10).setCell ⟨R, 11, none⟩ x11).setCell ⟨R, 12, none⟩ x12).setCell ⟨R, 13, none⟩ x13
theorem set14_cells {W0 : World} {R : Nat} {y0 y1 y2 y3 y4 y5 y6 y7 y8 y9 y10 y11 y12 y13 : Value} (x0 x1 x2 x3 x4 x5 x6 x7 x8 x9 x10 x11 x12 x13 : Value) (h : Cells W0 R [y0, y1, y2, y3, y4, y5, y6, y7, y8, y9, y10, y11, y12, y13]) : Cells (set14 W0 R x0 x1 x2 x3 x4 x5 x6 x7 x8 x9 x10 x11 x12 x13) R [x0, x1, x2, x3, x4, x5, x6, x7, x8, x9, x10, x11, x12, x13] := (((((((((((((h.set 0 x0).set 1 x1).set 2 x2).set 3 x3).set 4 x4).set 5 x5).set 6 x6).set 7 x7).set 8 x8).set 9 x9).set 10 x10).set 11 x11).set 12 x12).set 13 x13
theorem set14_only (W0 : World) (R : Nat) (x0 x1 x2 x3 x4 x5 x6 x7 x8 x9 x10 x11 x12 x13 : Value) : Only (· = R) W0 (set14 W0 R x0 x1 x2 x3 x4 x5 x6 x7 x8 x9 x10 x11 x12 x13) := only2 (only2 (only2 (only2 (only2 (only2 (only2 (only2 (only2 (only2 (only2 (only2 (only2 (only_set W0 R 0 x0) (only_set _ R 1 x1)) (only_set _ R 2 x2)) (only_set _ R 3 x3)) (only_set _ R 4 x4)) (only_set _ R 5 x5)) (only_set _ R 6 x6)) (only_set _ R 7 x7)) (only_set _ R 8 x8)) (only_set _ R 9 x9)) (only_set _ R 10 x10)) (only_set _ R 11 x11)) (only_set _ R 12 x12)) (only_set _ R 13 x13)

theorem head_results {W : World} {R : Nat} {x0 x1 x2 x3 x4 x5 x6 x7 x8 x9 x10 x11 x12 x13 : Value} {tmps : Array Value} (h2 : tmps[2]? = some (.pointer (some ⟨R, 0, none⟩))) (h3 : tmps[3]? = some (.pointer none)) (hR : Cells W R [x0, x1, x2, x3, x4, x5, x6, x7, x8, x9, x10, x11, x12, x13]) :
    (results Tryz.f100 tmps).run Tryz.prog W = .ok (.tuple #[.agg #[x0, x1, x2, x3, x4, x5, x6, x7, x8, x9, x10, x11, x12, x13], .pointer none]) W := by
  simp [results, Tryz.results100, go_sem, h2, h3, (hR 0 _ rfl).1, (hR 1 _ rfl).1, (hR 2 _ rfl).1, (hR 3 _ rfl).1, (hR 4 _ rfl).1, (hR 5 _ rfl).1, (hR 6 _ rfl).1, (hR 7 _ rfl).1, (hR 8 _ rfl).1, (hR 9 _ rfl).1, (hR 10 _ rfl).1, (hR 11 _ rfl).1, (hR 12 _ rfl).1, (hR 13 _ rfl).1]

set_option maxHeartbeats 800000 in
theorem tail_ok (g : CG) (pp : Nat) (w : World) (i : Nat) (h : Cur g w i) (hp : Lead g pp w) (i' : Nat) (hr : Adz.tail g.L g.pl i = .ok i') :
    Calls Tryz.prog 104 #[.pointer (some ⟨pp, 0, none⟩)] w fun e w' => e = .returned (.pointer none) ∧ Cur g w' i' ∧ Only (· = g.c) w w' := by
  unfold Adz.tail at hr
  simp only at hr
  have q0 := hp.at0
  split at hr
  · rename_i hb
    simp only [Except.ok.injEq] at hr
    subst hr
    generalize hpk : Adz.peek g.L (Adz.blanks g.L i) = r at *
    have HP : Hid (Adz.peek g.L (Adz.blanks g.L i) = r) := hpk
    have hb4 : r = 59 ∨ r = 10 ∨ r = 125 ∨ r = -1 := by simpa [or_assoc] using hb
    clear hpk hb
    rcases hb4 with e | e | e | e
    all_goals
      go_enter Tryz.func104, Tryz.ntmps104
      go_wp2_with fail
      refine (blanks_calls g w i h).mono ?_
      rintro e w1 ⟨rfl, hc1, ho1⟩
      have q1 := (hp.moved ho1).at0
      go_wp2_with fail
      refine (peek_calls g w1 _ hc1).mono ?_
      rintro e w2 ⟨rfl, n, rfl⟩
      rw [HP.out, e]
      go_wp2
      go_ret
      exact ⟨rfl, hc1.drewN n, ho1.drewN n⟩
  · cases hr

set_option maxHeartbeats 800000 in
theorem atAddress_no (g : CG) (pp : Nat) (w : World) (i : Nat) (h : Cur g w i) (hp : Lead g pp w) (hr : Adz.atAddress g.L i = false) :
    Calls Tryz.prog 142 #[.pointer (some ⟨pp, 0, none⟩)] w fun e w' => e = .returned (.bool false) ∧ ∃ n, w' = w.drewN n := by
  have q0 := hp.at0
  unfold Adz.atAddress at hr
  simp only [Bool.or_eq_false_iff] at hr
  obtain ⟨⟨hd, b1⟩, b2⟩ := hr
  have HD : Hid (Adz.isDigit (Adz.peek g.L i) = false) := hd
  clear hd
  go_enter Tryz.func142, Tryz.ntmps142
  go_wp2_with fail
  refine (peek_calls g w i h).mono ?_
  rintro e w1 ⟨rfl, n, rfl⟩
  go_wp2_with fail
  refine (isDigit_calls _ _).mono ?_
  rintro e w1 ⟨rfl, rfl⟩
  rw [HD.out]
  go_wp2
  go_ret
  exact ⟨rfl, n, rfl⟩

theorem and_intro_only {g : CG} {w W : World} {i : Nat} {v : Value} (h : Cur g w i) (o : Only (fun _ => False) w W) : Ending.returned v = .returned v ∧ Cur g W i ∧ Only (· = g.c) w W :=
  ⟨rfl, h.keeps o id (fun _ => id) id, o.mono (fun _ _ e => e.elim)⟩

set_option maxRecDepth 100000 in
set_option maxHeartbeats 1600000 in
theorem head_plain (g : CG) (pp : Nat) (w : World) (i : Nat) (h : Cur g w i) (hp : Lead g pp w) (ha : Adz.atAddress g.L i = false) (hn : Adz.peek g.L i ≠ 33) :
    Calls Tryz.prog 100 #[.pointer (some ⟨pp, 0, none⟩)] w fun e w' =>
      e = .returned (.tuple #[.agg #[.int .i32 0, .slice none 0 0, .bool false, .string ⟨#[]⟩, .string ⟨#[]⟩, .int .i64 0, .slice none 0 0, .int .i64 0, .slice none 0 0, .bool false, .bool false, .int .i64 0, .slice none 0 0, .slice none 0 0], .pointer none]) ∧ Cur g w' i ∧ Only (· = g.c) w w' := by
  have q0 := hp.at0
  have hpl : pp < w.heap.size := hp.lt
  have HA : Hid (Adz.atAddress g.L i = false) := ha
  clear ha
  go_enter Tryz.func100, Tryz.ntmps100
  go_wp2_with fail
  refine (atAddress_no g pp _ i ((h.alloc _).alloc _) ((hp.alloc _).alloc _) HA.out).mono ?_
  rintro e w1 ⟨rfl, n, rfl⟩
  go_wp2_with fail
  refine (take_no g _ i 33 (((h.alloc _).alloc _).drewN n) hn).mono ?_
  rintro e w1 ⟨rfl, n2, rfl⟩
  go_wp2
  have k0 : Cells (((w.alloc (.cells #[.int .i32 0, .slice none 0 0, .bool false, .string ⟨#[]⟩, .string ⟨#[]⟩, .int .i64 0, .slice none 0 0, .int .i64 0, .slice none 0 0, .bool false, .bool false, .int .i64 0, .slice none 0 0, .slice none 0 0] 167)).alloc (.cells #[.int .i32 0, .slice none 0 0, .bool false, .string ⟨#[]⟩, .string ⟨#[]⟩, .int .i64 0, .slice none 0 0, .int .i64 0, .slice none 0 0, .bool false, .bool false, .int .i64 0, .slice none 0 0, .slice none 0 0] 167)).drewN (n + n2)) w.heap.size [.int .i32 0, .slice none 0 0, .bool false, .string ⟨#[]⟩, .string ⟨#[]⟩, .int .i64 0, .slice none 0 0, .int .i64 0, .slice none 0 0, .bool false, .bool false, .int .i64 0, .slice none 0 0, .slice none 0 0] := ((Cells.new w _ _).alloc _).drewN _
  have k1 := set14_cells (W0 := ((w.alloc (.cells #[.int .i32 0, .slice none 0 0, .bool false, .string ⟨#[]⟩, .string ⟨#[]⟩, .int .i64 0, .slice none 0 0, .int .i64 0, .slice none 0 0, .bool false, .bool false, .int .i64 0, .slice none 0 0, .slice none 0 0] 167)).alloc (.cells #[.int .i32 0, .slice none 0 0, .bool false, .string ⟨#[]⟩, .string ⟨#[]⟩, .int .i64 0, .slice none 0 0, .int .i64 0, .slice none 0 0, .bool false, .bool false, .int .i64 0, .slice none 0 0, .slice none 0 0] 167)).drewN (n + n2)) (.int .i32 0) (.slice none 0 0) (.bool false) (.string ⟨#[]⟩) (.string ⟨#[]⟩) (.int .i64 0) (.slice none 0 0) (.int .i64 0) (.slice none 0 0) (.bool false) (.bool false) (.int .i64 0) (.slice none 0 0) (.slice none 0 0) k0
  have o1 := set14_only (((w.alloc (.cells #[.int .i32 0, .slice none 0 0, .bool false, .string ⟨#[]⟩, .string ⟨#[]⟩, .int .i64 0, .slice none 0 0, .int .i64 0, .slice none 0 0, .bool false, .bool false, .int .i64 0, .slice none 0 0, .slice none 0 0] 167)).alloc (.cells #[.int .i32 0, .slice none 0 0, .bool false, .string ⟨#[]⟩, .string ⟨#[]⟩, .int .i64 0, .slice none 0 0, .int .i64 0, .slice none 0 0, .bool false, .bool false, .int .i64 0, .slice none 0 0, .slice none 0 0] 167)).drewN (n + n2)) w.heap.size (.int .i32 0) (.slice none 0 0) (.bool false) (.string ⟨#[]⟩) (.string ⟨#[]⟩) (.int .i64 0) (.slice none 0 0) (.int .i64 0) (.slice none 0 0) (.bool false) (.bool false) (.int .i64 0) (.slice none 0 0) (.slice none 0 0)
  refine bodyPost_ret (v := .tuple #[.agg #[.int .i32 0, .slice none 0 0, .bool false, .string ⟨#[]⟩, .string ⟨#[]⟩, .int .i64 0, .slice none 0 0, .int .i64 0, .slice none 0 0, .bool false, .bool false, .int .i64 0, .slice none 0 0, .slice none 0 0], .pointer none]) (head_results rfl rfl k1) rfl ?_
  have o : Only (fun _ => False) w (((w.alloc (.cells #[.int .i32 0, .slice none 0 0, .bool false, .string ⟨#[]⟩, .string ⟨#[]⟩, .int .i64 0, .slice none 0 0, .int .i64 0, .slice none 0 0, .bool false, .bool false, .int .i64 0, .slice none 0 0, .slice none 0 0] 167)).alloc (.cells #[.int .i32 0, .slice none 0 0, .bool false, .string ⟨#[]⟩, .string ⟨#[]⟩, .int .i64 0, .slice none 0 0, .int .i64 0, .slice none 0 0, .bool false, .bool false, .int .i64 0, .slice none 0 0, .slice none 0 0] 167)).drewN (n + n2)) := (((Only.refl _ w).alloc _).alloc _).drewN _
  exact and_intro_only h (o.trans o1 (fun _ e => e) (fun x hx e => by omega))
end Go.Proofs.YtbiobhghnldckaaGreatDoor

/- Proved: a what is read, and what stands behind an s. Conditions: the parser lies in memory as told. -/
namespace Go.Proofs.YtbiobhghnldckaaGreatDoor
open Go.RowKit
set_option linter.unusedVariables false

theorem quiet_more {w w' : World} {a b m : Nat} (h : w' = (w.drewN (a + b)).drewN m) : ∃ n, w' = w.drewN (a + n) := ⟨b + m, by rw [h, World.drewN_drewN, Nat.add_assoc]⟩
theorem quiet_one {w w' : World} {b m : Nat} (h : w' = (w.drewN b).drewN m) : ∃ n, w' = w.drewN n := ⟨b + m, by rw [h, World.drewN_drewN]⟩

/-- What a command's reading asks of the parser. -/
structure Table (pp : Nat) (w : World) (n : Nat) : Prop where
  map : ∃ mb, w.cell? ⟨pp, 1, none⟩ = some (.map (some mb)) ∧ BehAt w mb
  cmds : ∃ qa qc, w.cell? ⟨pp, 2, none⟩ = some (.slice qa n qc)
theorem BehAt.keeps {S : Nat → Prop} {w w' : World} {mb : Nat} (h : BehAt w mb) (o : Only S w w') (hs : ∀ b, S b → (∃ T, Typ w b T) ∨ w.heap.size ≤ b) : BehAt w' mb := by
  unfold BehAt at *
  have hl := (Array.getElem?_eq_some_iff.1 h).1
  rw [o.block mb hl (fun e => ?_)]
  · exact h
  · rcases hs mb e with ⟨T, c, f, t⟩ | t
    · rw [h] at t; cases t
    · omega
theorem Table.keeps {S : Nat → Prop} {w w' : World} {pp n : Nat} (h : Table pp w n) (o : Only S w w') (hp : ¬ S pp) (hs : ∀ b, S b → (∃ T, Typ w b T) ∨ w.heap.size ≤ b) : Table pp w' n := by
  obtain ⟨mb, m1, m2⟩ := h.map
  obtain ⟨qa, qc, q⟩ := h.cmds
  exact ⟨⟨mb, o.keeps m1 hp, m2.keeps o hs⟩, ⟨qa, qc, o.keeps q hp⟩⟩

set_option maxRecDepth 100000 in
set_option maxHeartbeats 1600000 in
theorem what_ok (g : CG) (pp cb n : Nat) (w : World) (i : Nat) (h : Cur g w i) (hp : Lead g pp w) (ht : Table pp w n) (c : Adz.Cmd) (hc : CmdAt w cb c) (k : Int) (hk : Adz.behindKind (Adz.peek g.L i) = some k) (h3 : k ≠ 3) (h1 : k ≠ 1) (hn : n ≠ 40) (hn5 : n ≤ 500) (hl : i < g.L.length) :
    Calls Tryz.prog 102 #[.pointer (some ⟨pp, 0, none⟩), .pointer (some ⟨cb, 0, none⟩)] w fun e w' => e = .returned (.pointer none) ∧ CmdAt w' cb { c with what := Adz.peek g.L i } ∧ Cur g w' (i + 1) ∧ Only (fun b => b = g.c ∨ b = cb) w w' := by
  obtain ⟨mb, m1, m2⟩ := ht.map
  obtain ⟨qa, qc, q2⟩ := ht.cmds
  have q0 := hp.at0
  have hlk : ∀ m, (Instr.lookup 115 (.map (some mb)) (.int .i32 (Adz.peek g.L i)) true).run Tryz.prog (w.drewN m) = .ok (.tuple #[.int .i64 k, .bool true]) (w.drewN m) := fun m => by
    have := beh_lookup_ok (w.drewN m) mb (Adz.peek g.L i) m2
    rw [hk] at this
    exact this
  have b3 : (k == 3) = false := by simpa using h3
  have b1 : (k == 1) = false := by simpa using h1
  have b40 : ((n : Int) == 40) = false := by simp; omega
  have ncb : cb ≠ g.c := hc.typ.ne h.tc (by decide)
  have npp : pp ≠ cb := hp.typ.ne hc.typ (by decide)
  clear hk
  go_enter Tryz.func102, Tryz.ntmps102
  go_wp2_with fail
  refine (place_calls g w i h).mono ?_
  rintro e w1 ⟨rfl, n1, rfl⟩
  go_wp2_with fail
  go_quiet ((go_at_call 51; exact (peek_calls g _ i (h.drewN _)).mono (fun e w1 ⟨he, m, hw1⟩ => ⟨he, quiet_more hw1⟩)))
  go_wp2_with fail
  refine (next_calls g _ i (h.drewN _) hl).mono ?_
  rintro e w2 ⟨rfl, hc2, ho2⟩
  have o2 : Only (· = g.c) w w2 := ((Only.refl (· = g.c) w).drewN _).trans ho2 (fun _ e => e) (fun _ _ e => e)
  have m2' := hc.keeps o2 h.spares ncb
  obtain ⟨av, iv, rv, fv, tv, kk, dd⟩ := m2'.deep
  have k0 := kk 0 _ rfl
  go_wp2
  go_ret
  have o3 := only_set w2 cb 0 (.int .i32 (Adz.peek g.L i))
  have d3 := dd.keeps o3 (spares_one m2'.typ (by decide))
  exact ⟨rfl, ⟨m2'.typ.set, av, iv, rv, fv, tv, kk.set 0 _, ⟨d3.a, d3.i, d3.r, d3.f, d3.t⟩⟩, hc2.aside o3 m2'.typ, o2.trans o3 (fun _ e => Or.inl e) (fun _ _ e => Or.inr e)⟩

set_option maxRecDepth 100000 in
set_option maxHeartbeats 1600000 in
/-- Behind an s. -/
theorem behind_s (g : CG) (pp cb n : Nat) (w : World) (i : Nat) (at_ : Int) (h : Cur g w i) (hp : Lead g pp w) (ht : Table pp w n) (c : Adz.Cmd) (hc : CmdAt w cb c) (h115 : c.what = 115) (c' : Adz.Cmd) (i' : Nat) (hr : Adz.substitution g.L g.pl c i = .ok (c', i')) :
    Calls Tryz.prog 103 #[.pointer (some ⟨pp, 0, none⟩), .pointer (some ⟨cb, 0, none⟩), .int .i64 at_] w fun e w' => e = .returned (.pointer none) ∧ CmdAt w' cb c' ∧ Cur g w' i' ∧ Only (fun b => b = g.c ∨ b = cb) w w' := by
  obtain ⟨mb, m1, m2⟩ := ht.map
  obtain ⟨av, iv, rv, fv, tv, kk, dd⟩ := hc.deep
  have k0 := (kk 0 _ rfl).1
  rw [h115] at k0
  have q0 := hp.at0
  have hlk : ∀ m, (Instr.lookup 115 (.map (some mb)) (.int .i32 115) false).run Tryz.prog (w.drewN m) = .ok (.int .i64 5) (w.drewN m) := fun m => beh_lookup (w.drewN m) mb 115 m2
  have HR : Hid (Adz.substitution g.L g.pl c i = .ok (c', i')) := hr
  clear hr kk dd
  go_enter Tryz.func103, Tryz.ntmps103
  go_wp2_with fail
  go_quiet (fail)
  go_wp2_with fail
  have o1 : Only (· = g.c) w (w.drewN nq) := (Only.refl _ w).drewN nq
  refine (substitution_ok g pp cb _ i (h.drewN nq) (hp.drewN nq) c (hc.keeps o1 h.spares (hc.typ.ne h.tc (by decide))) c' i' HR.out).mono ?_
  rintro e w2 ⟨rfl, hc2, hu2, ho2⟩
  go_wp2
  go_ret
  exact ⟨rfl, hc2, hu2, o1.trans ho2 (fun _ e => Or.inl e) (fun _ _ e => e)⟩
end Go.Proofs.YtbiobhghnldckaaGreatDoor

/- Proved: a command that is an s, without an address, is read. Conditions: the parser lies in memory as 'Par' says. -/
namespace Go.Proofs.YtbiobhghnldckaaGreatDoor
open Go.RowKit
set_option linter.unusedVariables false
attribute [local go_sem ↓] Go.wp_at_zero Go.wp_at_succ

theorem infoCmd : (Tryz.prog.info? 167).map (fun i => (i.zero, i.size, i.bytes)) = some (some (.agg (cmdCells {} (.slice none 0 0) (.slice none 0 0) (.slice none 0 0) (.slice none 0 0) (.slice none 0 0)).toArray), 14, 200) := by kernel_rfl

/-- Commands in a row: their cells, and what these lead to. -/
def CmdsIn (w : World) : List Adz.Cmd → List Value → Prop
  | [], [] => True
  | c :: cs, x0 :: x1 :: x2 :: x3 :: x4 :: x5 :: x6 :: x7 :: x8 :: x9 :: x10 :: x11 :: x12 :: x13 :: xs => (∃ av iv rv fv tv, [x0, x1, x2, x3, x4, x5, x6, x7, x8, x9, x10, x11, x12, x13] = cmdCells c av iv rv fv tv ∧ Deep w c av iv rv fv tv) ∧ CmdsIn w cs xs
  | _, _ => False
theorem CmdsIn.keeps {S : Nat → Prop} {w w' : World} (o : Only S w w') (s : Spares w S) : ∀ {cs : List Adz.Cmd} {xs : List Value}, CmdsIn w cs xs → CmdsIn w' cs xs
  | [], [], _ => trivial
  | c :: cs, x0 :: x1 :: x2 :: x3 :: x4 :: x5 :: x6 :: x7 :: x8 :: x9 :: x10 :: x11 :: x12 :: x13 :: xs, h => by
    obtain ⟨⟨av, iv, rv, fv, tv, e, d⟩, r⟩ := h
    exact ⟨⟨av, iv, rv, fv, tv, e, d.keeps o s⟩, CmdsIn.keeps o s r⟩
theorem CmdsIn.snoc {w : World} {c : Adz.Cmd} {av iv rv fv tv : Value} (d : Deep w c av iv rv fv tv) : ∀ {cs : List Adz.Cmd} {xs : List Value}, CmdsIn w cs xs → CmdsIn w (cs ++ [c]) (xs ++ cmdCells c av iv rv fv tv)
  | [], [], _ => ⟨⟨av, iv, rv, fv, tv, rfl, d⟩, trivial⟩
  | c :: cs, x0 :: x1 :: x2 :: x3 :: x4 :: x5 :: x6 :: x7 :: x8 :: x9 :: x10 :: x11 :: x12 :: x13 :: xs, h => ⟨h.1, CmdsIn.snoc d h.2⟩

/-- The labels as they lie in the parser's map. -/
def labEntry (x : Adz.Lab) (n : Nat) : MapEntry := { key := .string ⟨x.name.toArray⟩, val := .agg #[.int .i64 x.set, .int .i64 x.asked], born := n }
def labEntries : Nat → List Adz.Lab → List MapEntry
  | _, [] => []
  | n, x :: l => labEntry x n :: labEntries (n + 1) l
structure Par (g : CG) (pp base : Nat) (w : World) (s : Adz.Ps) : Prop where
  cur : Cur g w s.i
  lead : Lead g pp w
  map : ∃ mb, w.cell? ⟨pp, 1, none⟩ = some (.map (some mb)) ∧ BehAt w mb
  cmds : ∃ qv xs, w.cell? ⟨pp, 2, none⟩ = some qv ∧ w.ownsRow base 167 14 qv s.cmds.length xs ∧ CmdsIn w s.cmds xs
  op : ∃ ov, w.cell? ⟨pp, 3, none⟩ = some ov ∧ w.ownsRow base 3 1 ov s.opens.length (s.opens.map (Value.int .i64))
  lab : ∃ lb, base ≤ lb + 1 ∧ w.cell? ⟨pp, 4, none⟩ = some (.map (some lb)) ∧ w.heap[lb]? = some (.map (labEntries 0 s.labs).toArray s.labs.length)
  f2 : w.frozen? ⟨pp, 2, none⟩ = false
  f3 : w.frozen? ⟨pp, 3, none⟩ = false
  bs : base ≤ w.heap.size
  pb : g.pb < base
  few : s.cmds.length ≤ s.i

theorem Par.table {g : CG} {pp base : Nat} {w : World} {s : Adz.Ps} (h : Par g pp base w s) : Table pp w s.cmds.length := by
  obtain ⟨qv, xs, c1, c2, c3⟩ := h.cmds
  obtain ⟨qa, qc, rfl⟩ := row_shape c2
  exact ⟨h.map, ⟨qa, qc, c1⟩⟩

/-- The twin's command, where it is a plain s. -/
theorem command_s {L pl : List Int} {s s' : Adz.Ps} (h : Adz.command L pl s = .ok s') (ha : Adz.atAddress L s.i = false) (hn : Adz.peek L s.i = 115) :
    s.cmds.length ≠ 40 ∧ ∃ c i3 i4, Adz.substitution L pl { what := 115 } (s.i + 1) = .ok (c, i3) ∧ Adz.tail L pl i3 = .ok i4 ∧ c.what = 115 ∧ s' = { i := i4, cmds := s.cmds ++ [c], opens := s.opens, labs := s.labs } := by
  unfold Adz.command Adz.head at h
  simp only [ha, Bool.false_eq_true, if_false, hn, show ((115 : Int) == 33) = false from rfl] at h
  unfold Adz.what at h
  simp only [hn, show Adz.behindKind 115 = some 5 from by decide, show ((5 : Int) == 3) = false from rfl, show ((5 : Int) == 1) = false from rfl, Bool.false_and, Bool.false_eq_true, if_false] at h
  by_cases h40 : s.cmds.length = 40
  · simp [h40] at h
  · have b40 : (s.cmds.length == 40) = false := by simpa using h40
    simp only [b40, Bool.false_eq_true, if_false] at h
    unfold Adz.behind at h
    simp only [show Adz.behindKind 115 = some 5 from by decide] at h
    cases hs : Adz.substitution L pl { what := 115 } (s.i + 1) with
    | error f => rw [hs] at h; cases h
    | ok q =>
      obtain ⟨c, i3⟩ := q
      rw [hs] at h
      simp only at h
      have hw : c.what = 115 := by
        unfold Adz.substitution at hs
        split at hs
        · cases hs
        · split at hs
          · cases hs
          · split at hs
            · cases hs
            · rw [Adz.flags_same hs]
      simp only [hw, show ((115 : Int) == 123) = false from rfl, Bool.false_eq_true, if_false] at h
      cases ht : Adz.tail L pl i3 with
      | error f => rw [ht] at h; cases h
      | ok i4 =>
        rw [ht] at h
        simp only [Except.ok.injEq] at h
        exact ⟨h40, c, i3, i4, rfl, ht, hw, h.symm⟩
end Go.Proofs.YtbiobhghnldckaaGreatDoor

/- Proved: a command that is an s, without an address, is read. Conditions: the parser lies in memory as 'Par' says. -/
namespace Go.Proofs.YtbiobhghnldckaaGreatDoor
open Go.RowKit
set_option linter.unusedVariables false
attribute [local go_sem ↓] Go.wp_at_zero Go.wp_at_succ

theorem map_ne {w : World} {b m : Nat} {T : TypeId} {es : Array MapEntry} {n : Nat} (t : Typ w b T) (h : w.heap[m]? = some (.map es n)) : m ≠ b := fun e => by
  obtain ⟨c, f, t⟩ := t
  rw [← e, h] at t
  cases t
theorem map_keeps {S : Nat → Prop} {w w' : World} {m : Nat} {es : Array MapEntry} {n : Nat} (h : w.heap[m]? = some (.map es n)) (o : Only S w w') (hs : ¬ S m) : w'.heap[m]? = some (.map es n) :=
  (o.block m (Array.getElem?_eq_some_iff.1 h).1 hs).trans h

/-- The cursor alone has gone on. -/
theorem Par.moved {g : CG} {pp base : Nat} {w w' : World} {s : Adz.Ps} (h : Par g pp base w s) {i : Nat} (hc : Cur g w' i) (o : Only (· = g.c) w w') (hi : s.i ≤ i) : Par g pp base w' { s with i := i } := by
  obtain ⟨mb, m1, m2⟩ := h.map
  obtain ⟨qv, xs, c1, c2, c3⟩ := h.cmds
  obtain ⟨ov, o1, o2⟩ := h.op
  obtain ⟨lb, l0, l1, l2⟩ := h.lab
  have tc := h.cur.tc
  have n0 : ¬ pp = g.c := h.lead.ne
  exact ⟨hc, h.lead.moved o, ⟨mb, o.keeps m1 n0, map_keeps m2 o (map_ne tc m2)⟩, ⟨qv, xs, o.keeps c1 n0, row_keeps c2 o (fun b hb e => (Typ.of_row c2 hb).ne tc (by decide) e), c3.keeps o h.cur.spares⟩,
    ⟨ov, o.keeps o1 n0, row_keeps o2 o (fun b hb e => (Typ.of_row o2 hb).ne tc (by decide) e)⟩, ⟨lb, l0, o.keeps l1 n0, map_keeps l2 o (map_ne tc l2)⟩, o.keepsFrozen c1 h.f2 n0, o.keepsFrozen o1 h.f3 n0, Nat.le_trans h.bs o.size, h.pb, Nat.le_trans h.few hi⟩

/-- A command more, behind the append. -/
theorem Par.more {g : CG} {pp base : Nat} {w w' : World} {s : Adz.Ps} (h : Par g pp base w s) {qv v' : Value} {xs : List Value} {c : Adz.Cmd} {av iv rv fv tv : Value} (hq : w.cell? ⟨pp, 2, none⟩ = some qv)
    (hown : w.ownsRow base 167 14 qv s.cmds.length xs) (hin : CmdsIn w s.cmds xs) (d : Deep w c av iv rv fv tv)
    (q1 : w'.cell? ⟨pp, 2, none⟩ = some v') (q2 : w'.ownsRow base 167 14 v' (s.cmds.length + 1) (xs ++ cmdCells c av iv rv fv tv)) (q3 : Only (fun b => b = pp ∨ qv.ownBlock = some b) w w') (q4 : Field pp 2 w w') (hl : s.cmds.length < s.i) :
    Par g pp base w' { s with cmds := s.cmds ++ [c] } := by
  obtain ⟨mb, m1, m2⟩ := h.map
  obtain ⟨ov, o1, o2⟩ := h.op
  obtain ⟨lb, l0, l1, l2⟩ := h.lab
  have tp := h.lead.typ
  have key : ∀ {b : Nat} {T : TypeId}, Typ w b T → T ≠ 119 → T ≠ 167 → ¬ (b = pp ∨ qv.ownBlock = some b) := by
    rintro b T t n1 n2 (e | e)
    · exact t.ne tp n1 e
    · exact row_ne hown t n2 e
  have sp : Spares w (fun b => b = pp ∨ qv.ownBlock = some b) := ⟨fun b t => key t (by decide) (by decide), fun b t => key t (by decide) (by decide), fun b t => key t (by decide) (by decide), fun b t => key t (by decide) (by decide), fun b t => key t (by decide) (by decide)⟩
  have mk : ∀ {m : Nat} {es : Array MapEntry} {n : Nat}, w.heap[m]? = some (.map es n) → ¬ (m = pp ∨ qv.ownBlock = some m) := by
    rintro m es n hm (e | e)
    · exact map_ne tp hm e
    · exact map_ne (Typ.of_row hown e) hm rfl
  refine ⟨h.cur.keeps q3 (key h.cur.tc (by decide) (by decide)) (fun hn => key (h.cur.tr hn) (by decide) (by decide)) (key h.cur.tp (by decide) (by decide)), ⟨(q4.others 0 (by decide)).trans h.lead.at0, h.lead.ne, q4.typ _ tp⟩,
    ⟨mb, (q4.others 1 (by decide)).trans m1, map_keeps m2 q3 (mk m2)⟩, ⟨v', _, q1, by simpa using q2, CmdsIn.snoc (d.keeps q3 sp) (hin.keeps q3 sp)⟩, ⟨ov, (q4.others 3 (by decide)).trans o1, row_keeps o2 q3 (fun b hb => key (Typ.of_row o2 hb) (by decide) (by decide))⟩,
    ⟨lb, l0, (q4.others 4 (by decide)).trans l1, map_keeps l2 q3 (mk l2)⟩, (q4.frozen 2).trans h.f2, (q4.frozen 3).trans h.f3, Nat.le_trans h.bs q3.size, h.pb, by simp; omega⟩

theorem deep_shapes {w : World} {c : Adz.Cmd} {av iv rv fv tv : Value} (d : Deep w c av iv rv fv tv) : (∃ a n k, av = .slice a n k) ∧ (∃ a n k, iv = .slice a n k) ∧ (∃ a n k, rv = .slice a n k) ∧ (∃ a n k, fv = .slice a n k) ∧ (∃ a n k, tv = .slice a n k) := by
  obtain ⟨ivs, a1, _⟩ := d.a
  obtain ⟨svs, i1, _⟩ := d.i
  obtain ⟨x0, y0, e0⟩ := row_shape a1
  obtain ⟨x1, y1, e1⟩ := row_shape i1
  obtain ⟨x2, y2, e2⟩ := row_shape d.r
  obtain ⟨x3, y3, e3⟩ := row_shape d.f
  obtain ⟨x4, y4, e4⟩ := row_shape d.t
  exact ⟨⟨_, _, _, e0⟩, ⟨_, _, _, e1⟩, ⟨_, _, _, e2⟩, ⟨_, _, _, e3⟩, ⟨_, _, _, e4⟩⟩

theorem deep_zero (w : World) : Deep w {} (.slice none 0 0) (.slice none 0 0) (.slice none 0 0) (.slice none 0 0) (.slice none 0 0) :=
  ⟨⟨[], World.ownsRow_nil _ _ _ _, trivial⟩, ⟨[], World.ownsRow_nil _ _ _ _, trivial⟩, World.ownsRow_nil _ _ _ _, World.ownsRow_nil _ _ _ _, World.ownsRow_nil _ _ _ _⟩

set_option maxRecDepth 100000 in
set_option maxHeartbeats 3200000 in
theorem command_ok_s {g : CG} {pp base : Nat} {w : World} {s s' : Adz.Ps} (h : Par g pp base w s) (ha : Adz.atAddress g.L s.i = false) (hn : Adz.peek g.L s.i = 115) (hr : Adz.command g.L g.pl s = .ok s') :
    Calls Tryz.prog 77 #[.pointer (some ⟨pp, 0, none⟩)] w fun e w' => e = .returned (.pointer none) ∧ Par g pp base w' s' ∧ Only (fun b => b = g.c ∨ b = pp ∨ base ≤ b) w w' := by
  obtain ⟨h40, c, i3, i4, hs, ht, hw115, rfl⟩ := command_s hr ha hn
  have HS : Hid (Adz.substitution g.L g.pl { what := 115 } (s.i + 1) = .ok (c, i3)) := hs
  have HT : Hid (Adz.tail g.L g.pl i3 = .ok i4) := ht
  have HA : Hid (Adz.atAddress g.L s.i = false) := ha
  have hlt : s.i < g.L.length := Adz.lt_of_peek (by omega)
  have hfew := h.few
  have hsm := h.cur.small
  have q0 := h.lead.at0
  have hcl := h.cur.lt
  obtain ⟨i0, hi0, hz0, hz1, hz2⟩ := info_parts infoCmd
  clear hr hs ht ha
  go_enter Tryz.func77, Tryz.ntmps77
  go_wp2_with fail
  refine (head_plain g pp w s.i h.cur h.lead HA.out (by omega)).mono ?_
  rintro e w1 ⟨rfl, hc1, ho1⟩
  have h1 := h.moved hc1 ho1 (Nat.le_refl _)
  have q1 := h1.lead.at0
  have hpl1 : pp < w1.heap.size := h1.lead.lt
  go_wp2_with fail
  have h1a := h1.moved (hc1.alloc (.cells #[.int .i32 0, .slice none 0 0, .bool false, .string ⟨#[]⟩, .string ⟨#[]⟩, .int .i64 0, .slice none 0 0, .int .i64 0, .slice none 0 0, .bool false, .bool false, .int .i64 0, .slice none 0 0, .slice none 0 0] 167)) ((Only.refl _ w1).alloc _) (Nat.le_refl _)
  have kc : CmdAt (w1.alloc (.cells #[.int .i32 0, .slice none 0 0, .bool false, .string ⟨#[]⟩, .string ⟨#[]⟩, .int .i64 0, .slice none 0 0, .int .i64 0, .slice none 0 0, .bool false, .bool false, .int .i64 0, .slice none 0 0, .slice none 0 0] 167)) w1.heap.size {} := ⟨Typ.new _ _ _ _, _, _, _, _, _, Cells.new w1 _ _, deep_zero _⟩
  have oa : Only (· = g.c) w (w1.alloc (.cells #[.int .i32 0, .slice none 0 0, .bool false, .string ⟨#[]⟩, .string ⟨#[]⟩, .int .i64 0, .slice none 0 0, .int .i64 0, .slice none 0 0, .bool false, .bool false, .int .i64 0, .slice none 0 0, .slice none 0 0] 167)) := ho1.alloc _
  have hsz : w.heap.size ≤ w1.heap.size := ho1.size
  generalize hcb : w1.heap.size = cb at *
  generalize w1.alloc (.cells #[.int .i32 0, .slice none 0 0, .bool false, .string ⟨#[]⟩, .string ⟨#[]⟩, .int .i64 0, .slice none 0 0, .int .i64 0, .slice none 0 0, .bool false, .bool false, .int .i64 0, .slice none 0 0, .slice none 0 0] 167) = w2 at *
  refine (place_calls g w2 s.i h1a.cur).mono ?_
  rintro e w3 ⟨rfl, n3, rfl⟩
  have q2 := h1a.lead.at0
  have h3 := h1a.moved (h1a.cur.drewN n3) ((Only.refl _ w2).drewN n3) (Nat.le_refl _)
  have kc3 := kc.keeps ((Only.refl (· = g.c) w2).drewN n3) h1a.cur.spares (kc.typ.ne h1a.cur.tc (by decide))
  go_wp2_with fail
  refine (what_ok g pp cb s.cmds.length _ s.i h3.cur h3.lead h3.table {} kc3 5 (by rw [hn]; decide) (by decide) (by decide) h40 (by omega) hlt).mono ?_
  rintro e w4 ⟨rfl, kc4, hc4, ho4⟩
  rw [hn] at kc4
  have ncb : cb ≠ g.c := kc.typ.ne h1a.cur.tc (by decide)
  have npp : pp ≠ cb := h3.lead.typ.ne kc3.typ (by decide)
  have o4 : Only (· = g.c) w w4 := (oa.drewN n3).trans ho4 (fun _ e => e) (fun b hb e => by rcases e with e | e; exact e; omega)
  have h4 := h.moved hc4 o4 (by omega)
  go_wp2_with fail
  refine (behind_s g pp cb s.cmds.length w4 (s.i + 1) _ hc4 h4.lead h4.table { what := 115 } kc4 rfl c i3 HS.out).mono ?_
  rintro e w5 ⟨rfl, kc5, hc5, ho5⟩
  have o5 : Only (· = g.c) w w5 := o4.trans ho5 (fun _ e => e) (fun b hb e => by rcases e with e | e; exact e; omega)
  have hi3 := Adz.substitution_lt HS.out
  have hi4 := Adz.tail_le HT.out
  have h5 := h.moved hc5 o5 (by omega)
  obtain ⟨qv, xs, c1, c2, c3⟩ := h5.cmds
  obtain ⟨av, iv, rv, fv, tv, kk, dd⟩ := kc5.deep
  obtain ⟨⟨aa, an, ac, rfl⟩, ⟨ia, in_, ic, rfl⟩, ⟨ra, rn, rc, rfl⟩, ⟨fa, fn, fc, rfl⟩, ⟨ta, tn, tc, rfl⟩⟩ := deep_shapes dd
  have k0 := (kk 0 _ rfl).1
  have k1 := (kk 1 _ rfl).1
  have k2 := (kk 2 _ rfl).1
  have k3 := (kk 3 _ rfl).1
  have k4 := (kk 4 _ rfl).1
  have k5 := (kk 5 _ rfl).1
  have k6 := (kk 6 _ rfl).1
  have k7 := (kk 7 _ rfl).1
  have k8 := (kk 8 _ rfl).1
  have k9 := (kk 9 _ rfl).1
  have k10 := (kk 10 _ rfl).1
  have k11 := (kk 11 _ rfl).1
  have k12 := (kk 12 _ rfl).1
  have k13 := (kk 13 _ rfl).1
  simp only at c1 c2 c3
  have lr : pp < w5.heap.size := h5.lead.lt
  have f2' := h5.f2
  have hne : qv.ownBlock ≠ some pp := row_ne c2 h5.lead.typ (by decide)
  have hbs := h5.bs
  have hi3l := hc5.le
  have q5 := h5.lead.at0
  have h1b : ∀ o : Obj, (w5.alloc o).cell? ⟨pp, 2, none⟩ = some qv := fun o => by rw [World.cell?_alloc_past _ _ _ lr]; exact c1
  have f1b : ∀ o : Obj, (w5.alloc o).frozen? ⟨pp, 2, none⟩ = false := fun o => by rw [World.frozen?_alloc_past _ _ _ lr]; exact f2'
  have bw : (c.what == 123) = false := by rw [hw115]; rfl
  have hcq : qv.ownBlock ≠ some cb := fun e => by
    obtain ⟨qv0, xs0, e1, e2, _⟩ := h.cmds
    have e3 := o5.keeps e1 h.lead.ne
    rw [c1] at e3
    cases e3
    have := (e2.lt cb e).2
    omega
  clear hw115 q0 q1 q2 hn
  go_wp2_with fail
  go_region_law
    ((refine step_append_lies _ (by rfl) _ _ _ (by rfl) base 167 i0 _ 14 200 Tryz.underlying99 hi0 hz0 hz1 hz2 rfl (by omega) qv s.cmds.length xs (by rfl) ((c2.alloc _).drew)
        ⟨w5.heap.size, 0, none⟩ 1 1 [.int .i32 c.what, .slice aa an ac, .bool c.neg, .string ⟨c.text.toArray⟩, .string ⟨c.name.toArray⟩, .int .i64 c.goal, .slice ia in_ ic, .int .i64 c.pat.groups, .slice ra rn rc, .bool c.all, .bool c.print, .int .i64 c.nth, .slice fa fn fc, .slice ta tn tc] (by rfl) (by rfl) (World.news_of_block (cs := #[.int .i32 c.what, .slice aa an ac, .bool c.neg, .string ⟨c.text.toArray⟩, .string ⟨c.name.toArray⟩, .int .i64 c.goal, .slice ia in_ ic, .int .i64 c.pat.groups, .slice ra rn rc, .bool c.all, .bool c.print, .int .i64 c.nth, .slice fa fn fc, .slice ta tn tc]) (t := 167) (fr := (0, 0)) (heap_alloc_new w5 _)) (by simp [Value.oneCell'])
        (by omega) (by unfold maxLen; omega) (by omega) (by simp; omega) (w5.heap.size + 1) (by simp) ?_; intro g1 cap w6 hown1 hgrow hat hlt1; have kc := (hgrow.cell_far ⟨pp, 2, none⟩ (by simp; omega) (Ne.symm hne)).trans (h1b _); have kf := (hgrow.frozen_far ⟨pp, 2, none⟩ (by simp; omega) (Ne.symm hne)).trans (f1b _)))
  all_goals
    have hv : (Value.slice (some ⟨g1, 0, none⟩) (s.cmds.length + 1) cap).ownBlock ≠ some pp := by
      rcases hat with h | h
      · intro e
        simp [Value.ownBlock] at e
        exact hne (by rw [h, e])
      · intro e
        simp [Value.ownBlock] at e
        omega
    obtain ⟨u1, u2, u3, u4⟩ := field_end (((Only.refl _ w5).alloc _).drew) hgrow kc hown1 hv lr hne
    have h6 := h5.more c1 c2 c3 dd u1 u2 u3 u4 (by simp; omega)
    have ncq : ¬ (cb = pp ∨ qv.ownBlock = some cb) := by
      rintro (e | e)
      · exact npp e.symm
      · exact hcq e
    have k0' := u3.keeps k0 ncq
    have q6 := h6.lead.at0
    go_wp2_with fail
    refine (tail_ok g pp _ i3 h6.cur h6.lead i4 HT.out).mono ?_
    rintro e w8 ⟨rfl, hc8, ho8⟩
    have h8 := h6.moved hc8 ho8 hi4
    go_wp2
    go_ret
    refine ⟨rfl, h8, ?_⟩
    have o6 : Only (fun b => b = g.c ∨ b = pp ∨ base ≤ b) w _ := o5.trans u3 (fun _ e => Or.inl e) (fun b hb e => by
      rcases e with e | e
      · exact Or.inr (Or.inl e)
      · exact Or.inr (Or.inr (c2.lt b e).1))
    exact o6.trans ho8 (fun _ e => e) (fun _ _ e => Or.inl e)
end Go.Proofs.YtbiobhghnldckaaGreatDoor

/- Proved: source.New, at a text of well-formed runes. Conditions: 'Dec': what the text's runes and places are. -/
namespace Go.Proofs.YtbiobhghnldckaaGreatDoor
open Go.RowKit
set_option linter.unusedVariables false

theorem infoRune : (Tryz.prog.info? 21).map (fun i => (i.zero, i.size, i.bytes)) = some (some (.int .i32 0), 1, 4) := by kernel_rfl

/-- The runes of a text, and where they begin; its length behind. -/
structure Dec (s : ByteArray) (L pl : List Int) : Prop where
  len : pl.length = L.length + 1
  zero : Adz.place pl 0 = 0
  last : Adz.place pl L.length = s.size
  step : ∀ k, k < L.length → ∃ p q : Nat, Adz.place pl k = p ∧ Adz.place pl (k + 1) = q ∧ p < s.size ∧ ((Utf8.decode s p).1 : Int) = Adz.peek L k ∧ p + (Utf8.decode s p).2 = q
  small : s.size ≤ 500
  few : L.length ≤ 500
  good : ∀ k, k < L.length → 0 ≤ Adz.peek L k ∧ Adz.peek L k ≤ 1114111 ∧ Adz.peek L k ≠ 65533 ∧ Lib.validRune (Adz.peek L k) = true

structure NewSt (s : ByteArray) (L pl : List Int) (c ib base : Nat) (w : World) (ki kr kp : Nat) : Prop where
  it : w.heap[ib]? = some (.stringIter s (Adz.place pl ki).toNat)
  r : ∃ rv, w.cell? ⟨c, 0, none⟩ = some rv ∧ w.ownsRow base 21 1 rv kr ((L.take kr).map (Value.int .i32))
  p : ∃ pv, w.cell? ⟨c, 1, none⟩ = some pv ∧ w.ownsRow base 3 1 pv kp ((pl.take kp).map (Value.int .i64))
  c2 : w.cell? ⟨c, 2, none⟩ = some (.int .i64 0)
  f0 : w.frozen? ⟨c, 0, none⟩ = false
  f1 : w.frozen? ⟨c, 1, none⟩ = false
  f2 : w.frozen? ⟨c, 2, none⟩ = false
  tc : Typ w c 144
  bs : base ≤ w.heap.size
  cb : c < base
  ibb : ib < base

theorem iter_ne {w : World} {b m : Nat} {T : TypeId} {s : ByteArray} {n : Nat} (t : Typ w b T) (h : w.heap[m]? = some (.stringIter s n)) : b ≠ m := fun e => by
  obtain ⟨c, f, t⟩ := t
  rw [e, h] at t
  cases t
theorem iterAt_only (w : World) (k : Nat) (s : ByteArray) (p : Nat) : Only (· = k) w (w.iterAt k s p) :=
  ⟨rfl, rfl, rfl, by rw [Lib.iterAt_size]; exact Nat.le_refl _, fun j _ hj => Lib.iterAt_other w k j s p hj⟩

theorem NewSt.next {s : ByteArray} {L pl : List Int} {c ib base : Nat} {w : World} {k kr kp : Nat} (h : NewSt s L pl c ib base w k kr kp) (k' : Nat) : NewSt s L pl c ib base (w.iterAt ib s (Adz.place pl k').toNat) k' kr kp := by
  obtain ⟨rv, r1, r2⟩ := h.r
  obtain ⟨pv, p1, p2⟩ := h.p
  have o := iterAt_only w ib s (Adz.place pl k').toNat
  have n0 : ¬ c = ib := iter_ne h.tc h.it
  exact ⟨Lib.iterAt_heap w ib s _ _ h.it, ⟨rv, o.keeps r1 n0, row_keeps r2 o (fun b hb => iter_ne (Typ.of_row r2 hb) h.it)⟩, ⟨pv, o.keeps p1 n0, row_keeps p2 o (fun b hb => iter_ne (Typ.of_row p2 hb) h.it)⟩, o.keeps h.c2 n0, o.keepsFrozen r1 h.f0 n0, o.keepsFrozen p1 h.f1 n0, o.keepsFrozen h.c2 h.f2 n0, h.tc.keeps o n0, Nat.le_trans h.bs o.size, h.cb, h.ibb⟩

theorem NewSt.rune {s : ByteArray} {L pl : List Int} {c ib base : Nat} {w w' : World} {k kr kr' kp : Nat} (h : NewSt s L pl c ib base w k kr kp) {rv v' : Value} (hr : w.cell? ⟨c, 0, none⟩ = some rv)
    (q1 : w'.cell? ⟨c, 0, none⟩ = some v') (q2 : w'.ownsRow base 21 1 v' kr' ((L.take kr').map (Value.int .i32))) (q3 : Only (fun b => b = c ∨ rv.ownBlock = some b) w w') (q4 : Field c 0 w w') : NewSt s L pl c ib base w' k kr' kp := by
  obtain ⟨rv', r1, r2⟩ := h.r
  rw [hr] at r1
  cases r1
  obtain ⟨pv, p1, p2⟩ := h.p
  refine ⟨(q3.block ib (Array.getElem?_eq_some_iff.1 h.it).1 ?_).trans h.it, ⟨v', q1, q2⟩, ⟨pv, (q4.others 1 (by decide)).trans p1, row_keeps p2 q3 (fun b hb => ?_)⟩, (q4.others 2 (by decide)).trans h.c2, (q4.frozen 0).trans h.f0, (q4.frozen 1).trans h.f1, (q4.frozen 2).trans h.f2, q4.typ _ h.tc, Nat.le_trans h.bs q3.size, h.cb, h.ibb⟩
  · rintro (e | e)
    · exact iter_ne h.tc h.it e.symm
    · exact iter_ne (Typ.of_row r2 e) h.it rfl
  · rintro (e | e)
    · exact (Typ.of_row p2 hb).ne h.tc (by decide) e
    · exact row_ne r2 (Typ.of_row p2 hb) (by decide) e

theorem NewSt.place {s : ByteArray} {L pl : List Int} {c ib base : Nat} {w w' : World} {k kr kp kp' : Nat} (h : NewSt s L pl c ib base w k kr kp) {pv v' : Value} (hr : w.cell? ⟨c, 1, none⟩ = some pv)
    (q1 : w'.cell? ⟨c, 1, none⟩ = some v') (q2 : w'.ownsRow base 3 1 v' kp' ((pl.take kp').map (Value.int .i64))) (q3 : Only (fun b => b = c ∨ pv.ownBlock = some b) w w') (q4 : Field c 1 w w') : NewSt s L pl c ib base w' k kr kp' := by
  obtain ⟨pv', p1, p2⟩ := h.p
  rw [hr] at p1
  cases p1
  obtain ⟨rv, r1, r2⟩ := h.r
  refine ⟨(q3.block ib (Array.getElem?_eq_some_iff.1 h.it).1 ?_).trans h.it, ⟨rv, (q4.others 0 (by decide)).trans r1, row_keeps r2 q3 (fun b hb => ?_)⟩, ⟨v', q1, q2⟩, (q4.others 2 (by decide)).trans h.c2, (q4.frozen 0).trans h.f0, (q4.frozen 1).trans h.f1, (q4.frozen 2).trans h.f2, q4.typ _ h.tc, Nat.le_trans h.bs q3.size, h.cb, h.ibb⟩
  · rintro (e | e)
    · exact iter_ne h.tc h.it e.symm
    · exact iter_ne (Typ.of_row p2 e) h.it rfl
  · rintro (e | e)
    · exact (Typ.of_row r2 hb).ne h.tc (by decide) e
    · exact row_ne p2 (Typ.of_row r2 hb) (by decide) e
end Go.Proofs.YtbiobhghnldckaaGreatDoor

/- Proved: source.New, at a text of well-formed runes. Conditions: 'Dec': what the text's runes and places are. -/
namespace Go.Proofs.YtbiobhghnldckaaGreatDoor
open Go.RowKit
set_option linter.unusedVariables false

theorem take_peek {L : List Int} {k : Nat} (h : k < L.length) : L.take (k + 1) = L.take k ++ [Adz.peek L k] := by
  rw [List.take_succ_eq_append_getElem h, Adz.peek_lt h]
theorem take_place {pl : List Int} {k : Nat} (h : k < pl.length) : pl.take (k + 1) = pl.take k ++ [Adz.place pl k] := by
  rw [List.take_succ_eq_append_getElem h]
  simp [Adz.place, h]

theorem NewSt.cur {s : ByteArray} {L pl : List Int} {c ib base : Nat} {w : World} {k : Nat} (h : NewSt s L pl c ib base w k L.length (L.length + 1)) (hd : Dec s L pl) : ∃ g : CG, g.L = L ∧ g.pl = pl ∧ g.c = c ∧ Cur g w 0 := by
  obtain ⟨rv, r1, r2⟩ := h.r
  obtain ⟨pv, p1, p2⟩ := h.p
  obtain ⟨pb, pc, rfl⟩ : ∃ pb pc, pv = .slice (some ⟨pb, 0, none⟩) (L.length + 1) pc := by
    rcases p2.2 with ⟨_, h0⟩ | ⟨gb, cap, cur, q, _⟩
    · omega
    · exact ⟨gb, cap, q⟩
  have tp := Typ.of_row p2 (b := pb) rfl
  have pcell : ∀ j, j ≤ L.length → w.cell? ⟨pb, j, none⟩ = some (.int .i64 (Adz.place pl j)) := by
    intro j hj
    rw [p2.cellAt j (by omega)]
    have hlen := hd.len
    simp [Adz.place, show j < L.length + 1 by omega, show j < pl.length by omega]
  by_cases hL : L.length = 0
  · obtain ⟨ra, rc, rfl⟩ := row_shape r2
    exact ⟨⟨c, c + 1, rc, pb, pc, L, pl⟩, rfl, rfl, rfl, ⟨ra, r1, fun e => absurd hL e⟩, p1, h.c2, h.f2, fun j hj => by simp only at hj; omega, pcell, h.tc, fun e => absurd hL e, tp, by simp, tp.ne h.tc (by decide), by simp, hd.few, hd.good⟩
  · obtain ⟨rb, rc, rfl⟩ : ∃ pb pc, rv = .slice (some ⟨pb, 0, none⟩) L.length pc := by
      rcases r2.2 with ⟨_, h0⟩ | ⟨gb, cap, cur, q, _⟩
      · omega
      · exact ⟨gb, cap, q⟩
    have tr := Typ.of_row r2 (b := rb) rfl
    refine ⟨⟨c, rb, rc, pb, pc, L, pl⟩, rfl, rfl, rfl, ⟨some ⟨rb, 0, none⟩, r1, fun _ => rfl⟩, p1, h.c2, h.f2, fun j hj => ?_, pcell, h.tc, fun _ => tr, tp, tr.ne h.tc (by decide), tp.ne h.tc (by decide), by simp, hd.few, hd.good⟩
    simp only at hj
    rw [r2.cellAt j (by omega)]
    simp [Adz.peek, hj]

set_option maxRecDepth 100000 in
set_option maxHeartbeats 1600000 in
theorem new_ok (s : ByteArray) (L pl : List Int) (hd : Dec s L pl) (w : World) :
    Calls Tryz.prog 49 #[.string s] w fun e w' => ∃ g : CG, g.L = L ∧ g.pl = pl ∧ e = .returned (.tuple #[.pointer (some ⟨g.c, 0, none⟩), .pointer none]) ∧ Cur g w' 0 ∧ Only (fun _ => False) w w' ∧ w.heap.size ≤ g.c := by
  have hsm := hd.small
  have hfw := hd.few
  obtain ⟨i0, hi0, hz0, hz1, hz2⟩ := info_parts infoRune
  obtain ⟨j0, hj0, jz0, jz1, jz2⟩ := info_parts infoInt
  go_enter Tryz.func49, Tryz.ntmps49
  go_wp2_with fail
  have hst : NewSt s L pl w.heap.size (w.heap.size + 1) (w.heap.size + 2) ((w.alloc (.cells #[.slice none 0 0, .slice none 0 0, .int .i64 0] 144)).iter s 0) 0 0 0 := by
    have hk := (Cells.new w #[.slice none 0 0, .slice none 0 0, .int .i64 0] 144).alloc (.stringIter s 0)
    refine ⟨?_, ⟨_, (hk 0 _ rfl).1, World.ownsRow_nil _ _ _ _⟩, ⟨_, (hk 1 _ rfl).1, World.ownsRow_nil _ _ _ _⟩, (hk 2 _ rfl).1, (hk 0 _ rfl).2, (hk 1 _ rfl).2, (hk 2 _ rfl).2, (Typ.new _ _ _ _).alloc _, ?_, by omega, by omega⟩
    · rw [hd.zero]
      have := World.iter_heap (w.alloc (.cells #[.slice none 0 0, .slice none 0 0, .int .i64 0] 144)) s 0
      simpa using this
    · simp [World.iter]
  have oo : Only (fun _ => False) w ((w.alloc (.cells #[.slice none 0 0, .slice none 0 0, .int .i64 0] 144)).iter s 0) := ((Only.refl _ w).alloc _).alloc _
  generalize (w.alloc (.cells #[.slice none 0 0, .slice none 0 0, .int .i64 0] 144)).iter s 0 = w0 at *
  go_loopg [] L.length (fun k wr => ∃ j, j + k = L.length ∧ Hid (NewSt s L pl w.heap.size (w.heap.size + 1) (w.heap.size + 2) wr j j j) ∧ Hid (Only (fun b => w.heap.size ≤ b) w wr))
  case atStart => exact ⟨0, by omega, hst, oo.mono (fun _ _ e => e.elim)⟩
  case round =>
    obtain ⟨j, hjk, hS, hO⟩ := hrel
    have hS' : NewSt s L pl w.heap.size (w.heap.size + 1) (w.heap.size + 2) wr j j j := hS
    have hO' : Only (fun b => w.heap.size ≤ b) w wr := hO
    have HJ : Hid (j + gk = L.length) := hjk
    clear hS hO hst
    by_cases hlt : j < L.length
    · obtain ⟨p, q, e1, e2, e3, e4, e5⟩ := hd.step j hlt
      obtain ⟨d0, d1, d2, d3⟩ := hd.good j hlt
      have b65 : (Adz.peek L j == 65533) = false := by simpa using d2
      have hnx : ∀ ty, (Instr.next (.pointer (some ⟨w.heap.size + 1, 0, none⟩)) true ty).run Tryz.prog wr = .ok (.tuple #[.bool true, .int .i64 (Adz.place pl j), .int .i32 (Adz.peek L j)]) (wr.iterAt (w.heap.size + 1) s (Adz.place pl (j + 1)).toNat) := fun ty => by
        have hit := hS'.it
        rw [e1] at hit
        have := Lib.run_next_any_at (P := Tryz.prog) wr (w.heap.size + 1) s p ty hit e3
        rw [e4, e5] at this
        rw [e1, e2]
        simpa using this
      have h1 := hS'.next (j + 1)
      have o1 := iterAt_only wr (w.heap.size + 1) s (Adz.place pl (j + 1)).toNat
      generalize wr.iterAt (w.heap.size + 1) s (Adz.place pl (j + 1)).toNat = w1 at *
      obtain ⟨rv, r1, r2⟩ := h1.r
      have f0 := h1.f0
      have lr : w.heap.size < w1.heap.size := h1.tc.lt
      have hne : rv.ownBlock ≠ some w.heap.size := row_ne r2 h1.tc (by decide)
      have hbs := h1.bs
      have hlen : ((L.take j).map (Value.int .i32)).length = j * 1 := by simp; omega
      have HD : Hid (Dec s L pl) := hd
      clear hd e1 e2 e3 e4 e5
      go_upto_region 8 with (at_builtin; refine wpList_append_lies _ (by rfl) _ _ _ (by rfl) (w.heap.size + 2) 21 i0 _ 1 4 Tryz.underlying103 hi0 hz0 hz1 hz2 rfl (by omega) rv j ((L.take j).map (Value.int .i32)) (by rfl) (r2.alloc _) ⟨w1.heap.size, 0, none⟩ 1 1 [.int .i32 (Adz.peek L j)] (by rfl) (by rfl) (World.news_of_block (cs := #[.int .i32 (Adz.peek L j)]) (t := 21) (fr := (0, 0)) (heap_alloc_new w1 _)) (by simp [Value.oneCell']) (by omega) (by unfold maxLen; omega) (by omega) (by simp; omega) (w1.heap.size + 1) (by simp) ?_; intro g1 cap w2 hown1 hgrow hat hlt1; have kc := (hgrow.cell_far ⟨w.heap.size, 0, none⟩ (by simp; omega) (Ne.symm hne)).trans ((World.cell?_alloc_past _ _ _ lr).trans r1); have kf := (hgrow.frozen_far ⟨w.heap.size, 0, none⟩ (by simp; omega) (Ne.symm hne)).trans ((World.frozen?_alloc_past _ _ _ lr).trans f0))
      have hv : (Value.slice (some ⟨g1, 0, none⟩) (j + 1) cap).ownBlock ≠ some w.heap.size := by
        rcases hat with h | h
        · intro e
          simp [Value.ownBlock] at e
          exact hne (by rw [h, e])
        · intro e
          simp [Value.ownBlock] at e
          omega
      obtain ⟨u1, u2, u3, u4⟩ := field_end ((Only.refl _ w1).alloc _) hgrow kc hown1 hv lr hne
      have h2 := h1.rune (kr' := j + 1) r1 u1 (by rw [take_peek hlt]; simpa using u2) u3 u4
      have o2 : Only (fun b => w.heap.size ≤ b) w (w2.setCell ⟨w.heap.size, 0, none⟩ (.slice (some ⟨g1, 0, none⟩) (j + 1) cap)) := (hO'.trans o1 (fun _ e => e) (fun b _ e => by omega) : Only (fun b => w.heap.size ≤ b) w w1).trans u3 (fun _ e => e) (fun b _ e => by
        rcases e with e | e
        · omega
        · have := (r2.lt b e).1; omega)
      generalize w2.setCell ⟨w.heap.size, 0, none⟩ (.slice (some ⟨g1, 0, none⟩) (j + 1) cap) = w3 at *
      obtain ⟨pv, p1, p2⟩ := h2.p
      have f1 := h2.f1
      have lr2 : w.heap.size < w3.heap.size := h2.tc.lt
      have hne2 : pv.ownBlock ≠ some w.heap.size := row_ne p2 h2.tc (by decide)
      have hbs2 := h2.bs
      clear u1 u2 u3 u4 hown1 hgrow hat hlt1 kc kf r1 r2 f0
      go_wp2_with (at_builtin; refine wpList_append_lies _ (by rfl) _ _ _ (by rfl) (w.heap.size + 2) 3 j0 _ 1 8 Tryz.underlying35 hj0 jz0 jz1 jz2 rfl (by omega) pv j ((pl.take j).map (Value.int .i64)) (by rfl) (p2.alloc _) ⟨w3.heap.size, 0, none⟩ 1 1 [.int .i64 (Adz.place pl j)] (by rfl) (by rfl) (World.news_of_block (cs := #[.int .i64 (Adz.place pl j)]) (t := 3) (fr := (0, 0)) (heap_alloc_new w3 _)) (by simp [Value.oneCell']) (by omega) (by unfold maxLen; omega) (by omega) (by simp; omega) (w3.heap.size + 1) (by simp) ?_; intro g2 cap2 w4 hown2 hgrow2 hat2 hlt2; have kc2 := (hgrow2.cell_far ⟨w.heap.size, 1, none⟩ (by simp; omega) (Ne.symm hne2)).trans ((World.cell?_alloc_past _ _ _ lr2).trans p1); have kf2 := (hgrow2.frozen_far ⟨w.heap.size, 1, none⟩ (by simp; omega) (Ne.symm hne2)).trans ((World.frozen?_alloc_past _ _ _ lr2).trans f1))
      have hv2 : (Value.slice (some ⟨g2, 0, none⟩) (j + 1) cap2).ownBlock ≠ some w.heap.size := by
        rcases hat2 with h | h
        · intro e
          simp [Value.ownBlock] at e
          exact hne2 (by rw [h, e])
        · intro e
          simp [Value.ownBlock] at e
          omega
      obtain ⟨v1, v2, v3, v4⟩ := field_end ((Only.refl _ w3).alloc _) hgrow2 kc2 hown2 hv2 lr2 hne2
      have hpl := HD.out.len
      have h3 := h2.place (kp' := j + 1) p1 v1 (by rw [take_place (by omega)]; simpa using v2) v3 v4
      have o3 := o2.trans v3 (fun _ e => e) (fun b _ e => by
        rcases e with e | e
        · omega
        · have := (p2.lt b e).1; omega)
      go_roundg (gk - 1)
      case measure => have := HJ.out; omega
      case rel => exact ⟨j + 1, by have := HJ.out; omega, h3, o3⟩
    · have hjn : j = L.length := by have := HJ.out; omega
      subst hjn
      have hend : ∀ ty, (Instr.next (.pointer (some ⟨w.heap.size + 1, 0, none⟩)) true ty).run Tryz.prog wr = .ok (.tuple #[.bool false]) wr := fun ty =>
        Lib.run_next_end_at (P := Tryz.prog) wr (w.heap.size + 1) s _ ty hS'.it (by rw [hd.last]; simp)
      obtain ⟨pv, p1, p2⟩ := hS'.p
      have f1 := hS'.f1
      have lr2 : w.heap.size < wr.heap.size := hS'.tc.lt
      have hne2 : pv.ownBlock ≠ some w.heap.size := row_ne p2 hS'.tc (by decide)
      have hbs2 := hS'.bs
      have HD : Hid (Dec s L pl) := hd
      clear hd hlt hjk
      go_wp2_with (at_builtin; refine wpList_append_lies _ (by rfl) _ _ _ (by rfl) (w.heap.size + 2) 3 j0 _ 1 8 Tryz.underlying35 hj0 jz0 jz1 jz2 rfl (by omega) pv L.length ((pl.take L.length).map (Value.int .i64)) (by rfl) (p2.alloc _) ⟨wr.heap.size, 0, none⟩ 1 1 [.int .i64 (s.size : Int)] (by rfl) (by rfl) (World.news_of_block (cs := #[.int .i64 (s.size : Int)]) (t := 3) (fr := (0, 0)) (heap_alloc_new wr _)) (by simp [Value.oneCell']) (by omega) (by unfold maxLen; omega) (by omega) (by simp; omega) (wr.heap.size + 1) (by simp) ?_; intro g2 cap2 w4 hown2 hgrow2 hat2 hlt2; have kc2 := (hgrow2.cell_far ⟨w.heap.size, 1, none⟩ (by simp; omega) (Ne.symm hne2)).trans ((World.cell?_alloc_past _ _ _ lr2).trans p1); have kf2 := (hgrow2.frozen_far ⟨w.heap.size, 1, none⟩ (by simp; omega) (Ne.symm hne2)).trans ((World.frozen?_alloc_past _ _ _ lr2).trans f1))
      have hv2 : (Value.slice (some ⟨g2, 0, none⟩) (L.length + 1) cap2).ownBlock ≠ some w.heap.size := by
        rcases hat2 with h | h
        · intro e
          simp [Value.ownBlock] at e
          exact hne2 (by rw [h, e])
        · intro e
          simp [Value.ownBlock] at e
          omega
      obtain ⟨v1, v2, v3, v4⟩ := field_end ((Only.refl _ wr).alloc _) hgrow2 kc2 hown2 hv2 lr2 hne2
      have hpl := HD.out.len
      have hla := HD.out.last
      have h3 := hS'.place (kp' := L.length + 1) p1 v1 (by rw [take_place (by omega), hla]; simpa using v2) v3 v4
      have o3 := hO'.trans v3 (fun _ e => e) (fun b _ e => by
        rcases e with e | e
        · omega
        · have := (p2.lt b e).1; omega)
      obtain ⟨g, g1, g2', g3, g4⟩ := h3.cur HD.out
      go_ret2
      refine ⟨g, g1, g2', by rw [g3]; rfl, g4, o3.mono (fun b hb e => by omega), by omega⟩
end Go.Proofs.YtbiobhghnldckaaGreatDoor

/- Proved: what is seen at a script's end, where no label is there. Conditions: the parser lies in memory as 'Par' says. -/
namespace Go.Proofs.YtbiobhghnldckaaGreatDoor
open Go.RowKit
set_option linter.unusedVariables false

set_option maxHeartbeats 800000 in
theorem gap_s {g : CG} {pp base : Nat} {w : World} {s s' : Adz.Ps} (h : Par g pp base w s) (hn : Adz.peek g.L s.i = 115) (hr : Adz.command g.L g.pl s = .ok s') :
    Calls Tryz.prog 52 #[.pointer (some ⟨pp, 0, none⟩)] w fun e w' => e = .returned (.pointer none) ∧ Par g pp base w' s' ∧ Only (fun b => b = g.c ∨ b = pp ∨ base ≤ b) w w' := by
  have q0 := h.lead.at0
  have ha : Adz.atAddress g.L s.i = false := by simp [Adz.atAddress, hn, Adz.isDigit]
  have HR : Hid (Adz.command g.L g.pl s = .ok s') := hr
  have HA : Hid (Adz.atAddress g.L s.i = false) := ha
  have HB : Hid (Adz.isBlank 115 = false) := show Adz.isBlank 115 = false by decide
  clear hr ha
  go_enter Tryz.func52, Tryz.ntmps52
  go_wp2_with fail
  refine (peek_calls g w s.i h.cur).mono ?_
  rintro e w1 ⟨rfl, n, rfl⟩
  rw [hn]
  go_wp2_with fail
  refine (isBlank_calls _ _).mono ?_
  rintro e w1 ⟨rfl, rfl⟩
  rw [HB.out]
  go_wp2_with fail
  have o1 : Only (· = g.c) w (w.drewN n) := (Only.refl _ w).drewN n
  refine (command_ok_s (h.moved (h.cur.drewN n) o1 (Nat.le_refl _)) HA.out hn HR.out).mono ?_
  rintro e w2 ⟨rfl, h2, o2⟩
  go_wp2
  go_ret
  exact ⟨rfl, h2, o1.trans o2 (fun _ e => Or.inl e) (fun _ _ e => e)⟩

set_option maxRecDepth 100000 in
set_option maxHeartbeats 800000 in
theorem missing_none {g : CG} {pp base : Nat} {w : World} {s : Adz.Ps} (h : Par g pp base w s) (hl0 : s.labs = []) :
    Calls Tryz.prog 79 #[.pointer (some ⟨pp, 0, none⟩)] w fun e w' => e = .returned (.pointer none) ∧ Only (fun _ => False) w w' := by
  obtain ⟨lb, l0, l1, l2⟩ := h.lab
  rw [hl0] at l2
  change w.heap[lb]? = some (.map #[] 0) at l2
  have hrg : (Instr.range 117 (.map (some lb))).run Tryz.prog w = .ok (.pointer (some ⟨w.heap.size, 0, none⟩)) (w.alloc (.mapIter (some lb) 0 #[] 0)) := by
    rw [run_range_map w _ _ _ lb #[] 0 Tryz.underlying117 l2]
  go_enter Tryz.func79, Tryz.ntmps79
  go_wp2_with fail
  have hnx : ∀ ty, (Instr.next (.pointer (some ⟨w.heap.size, 0, none⟩)) false ty).run Tryz.prog (w.alloc (.mapIter (some lb) 0 #[] 0)) = .ok (.tuple #[.bool false]) (w.alloc (.mapIter (some lb) 0 #[] 0)) := fun ty => by
    have h1 : (w.alloc (.mapIter (some lb) 0 #[] 0)).heap[w.heap.size]? = some (.mapIter (some lb) 0 #[] 0) := heap_alloc_new w _
    have h2 : (w.alloc (.mapIter (some lb) 0 #[] 0)).heap[lb]? = some (.map #[] 0) := (Below.heap_alloc w _ _ (Array.getElem?_eq_some_iff.1 l2).1).trans l2
    rcases run_next_at (P := Tryz.prog) (w.alloc (.mapIter (some lb) 0 #[] 0)) ty w.heap.size lb 0 0 #[] #[] 0 h1 h2 (by simp) (Nat.le_refl _) with ⟨_, h⟩ | ⟨e, he, _⟩
    · exact h
    · simp [leftOf] at he
  go_loopg [3] 0 (fun k v wr => k = 0 ∧ v = .int .i64 (-1) ∧ wr = w.alloc (.mapIter (some lb) 0 #[] 0))
  case atStart => exact ⟨rfl, rfl, rfl⟩
  case round =>
    obtain ⟨rfl, rfl, rfl⟩ := hrel
    go_wp2
    go_ret
    exact ⟨rfl, (Only.refl _ w).alloc _⟩
end Go.Proofs.YtbiobhghnldckaaGreatDoor

/- Proved: goals are set, where no command asks for a label; a script's end. Conditions: the parser lies in memory as 'Par' says. -/
namespace Go.Proofs.YtbiobhghnldckaaGreatDoor
open Go.RowKit
set_option linter.unusedVariables false

theorem cmdsIn_what {w : World} : ∀ {cs : List Adz.Cmd} {xs : List Value}, CmdsIn w cs xs → ∀ j (hj : j < cs.length), xs[j * 14]? = some (.int .i32 (cs[j]).what)
  | [], [], _, j, hj => by simp at hj
  | c :: cs, x0 :: x1 :: x2 :: x3 :: x4 :: x5 :: x6 :: x7 :: x8 :: x9 :: x10 :: x11 :: x12 :: x13 :: xs, h, 0, _ => by
    obtain ⟨⟨av, iv, rv, fv, tv, e, d⟩, r⟩ := h
    have : x0 = .int .i32 c.what := (List.cons.inj e).1
    simp [this]
  | c :: cs, x0 :: x1 :: x2 :: x3 :: x4 :: x5 :: x6 :: x7 :: x8 :: x9 :: x10 :: x11 :: x12 :: x13 :: xs, h, j + 1, hj => by
    have := cmdsIn_what h.2 j (by simpa using hj)
    have e : (j + 1) * 14 = j * 14 + 1 + 1 + 1 + 1 + 1 + 1 + 1 + 1 + 1 + 1 + 1 + 1 + 1 + 1 := by omega
    rw [e]
    simpa using this

set_option maxRecDepth 100000 in
set_option maxHeartbeats 800000 in
theorem setGoals_none {g : CG} {pp base : Nat} {w : World} {s : Adz.Ps} (h : Par g pp base w s) (hk : ∀ j (hj : j < s.cmds.length), (Adz.behindKind (s.cmds[j]).what).getD 0 ≠ 4) :
    Calls Tryz.prog 80 #[.pointer (some ⟨pp, 0, none⟩)] w fun e w' => e = .returned (.tuple #[]) ∧ ∃ n, w' = w.drewN n := by
  obtain ⟨qv, xs, c1, c2, c3⟩ := h.cmds
  obtain ⟨mb, m1, m2⟩ := h.map
  obtain ⟨qa, qc, rfl⟩ := row_shape c2
  have hfew := h.few
  have hle := h.cur.le
  have hsm := h.cur.small
  go_enter Tryz.func80, Tryz.ntmps80
  go_wp2_with fail
  go_loopg [9] s.cmds.length (fun k v wr => ∃ j m : Nat, v = .int .i64 j ∧ j + k = s.cmds.length ∧ wr = w.drewN m)
  case atStart => exact ⟨0, 0, rfl, by omega, rfl⟩
  case round =>
    obtain ⟨j, m, rfl, hjk, rfl⟩ := hrel
    have HJ : Hid (j + gk = s.cmds.length) := hjk
    have hjl : j ≤ s.cmds.length := by omega
    clear hjk
    by_cases hlt : j < s.cmds.length
    · obtain ⟨qb, hq⟩ : ∃ qb, qa = some ⟨qb, 0, none⟩ := by
        rcases c2.2 with ⟨e, _⟩ | ⟨gb, cap, cur, e, _⟩
        · simp at e; omega
        · simp at e; exact ⟨gb, e.1⟩
      subst hq
      have hw := cmdsIn_what c3 j hlt
      have hcell : w.cell? ⟨qb, j * 14, none⟩ = some (.int .i32 (s.cmds[j]).what) := by rw [c2.cellAt (j * 14) (by omega)]; exact hw
      have hkj := hk j hlt
      generalize (s.cmds[j]).what = wh at *
      have hlk : ∀ m, (Instr.lookup 115 (.map (some mb)) (.int .i32 wh) false).run Tryz.prog (w.drewN m) = .ok (.int .i64 ((Adz.behindKind wh).getD 0)) (w.drewN m) := fun m => beh_lookup (w.drewN m) mb wh m2
      have hb : (((Adz.behindKind wh).getD 0) != 4) = true := by simpa [bne] using hkj
      generalize (Adz.behindKind wh).getD 0 = kd at *
      clear hk c2 c3 hw
      go_wp2_with fail
      go_quiet (fail)
      go_wp2
      go_roundg (gk - 1)
      case measure => have := HJ.out; omega
      case rel => exact ⟨j + 1, m + nq, by go_num, by have := HJ.out; omega, rfl⟩
    · have hje : j = s.cmds.length := by omega
      subst hje
      go_wp2
      go_end0
      exact ⟨rfl, m, rfl⟩

set_option maxHeartbeats 800000 in
theorem finish_ok {g : CG} {pp base : Nat} {w : World} {s : Adz.Ps} (h : Par g pp base w s) (ho : s.opens = []) (hl0 : s.labs = []) (hk : ∀ j (hj : j < s.cmds.length), (Adz.behindKind (s.cmds[j]).what).getD 0 ≠ 4) :
    Calls Tryz.prog 53 #[.pointer (some ⟨pp, 0, none⟩)] w fun e w' => e = .returned (.pointer none) ∧ Only (fun _ => False) w w' := by
  obtain ⟨ov, o1, o2⟩ := h.op
  rw [ho] at o2
  obtain ⟨oa, oc, rfl⟩ := row_shape o2
  simp only [List.length_nil] at o1
  go_enter Tryz.func53, Tryz.ntmps53
  go_wp2_with fail
  refine (missing_none h hl0).mono ?_
  rintro e w1 ⟨rfl, ho1⟩
  have h1 := h.moved (h.cur.keeps ho1 id (fun _ => id) id) (ho1.mono (fun _ _ e => e.elim)) (Nat.le_refl _)
  go_wp2_with fail
  refine (setGoals_none h1 hk).mono ?_
  rintro e w2 ⟨rfl, n, rfl⟩
  go_wp2
  go_ret
  exact ⟨rfl, ho1.drewN n⟩
end Go.Proofs.YtbiobhghnldckaaGreatDoor
