/- Proved: the ends of a command, and a head without an address. Conditions: the cursor lies in memory as 'Cur' says, and the parser leads to it. -/
import Derived.Test.YtbiobhghnldckaaGreatDoorSubst
namespace Go.Proofs.YtbiobhghnldckaaGreatDoor
open Go.RowKit
set_option linter.unusedVariables false

theorem Only.setNew {S : Nat → Prop} {w W : World} (h : Only S w W) {b j : Nat} {v : Value} (hb : w.heap.size ≤ b) : Only S w (W.setCell ⟨b, j, none⟩ v) :=
  Only.setCell (p := ⟨b, j, none⟩) h (fun hlt => absurd hlt (Nat.not_lt.2 hb)) v

/-- The fourteen cells of a command are written. -/
def set14 (W0 : World) (R : Nat) (x0 x1 x2 x3 x4 x5 x6 x7 x8 x9 x10 x11 x12 x13 : Value) : World := (((((((((((((W0.setCell ⟨R, 0, none⟩ x0).setCell ⟨R, 1, none⟩ x1).setCell ⟨R, 2, none⟩ x2).setCell ⟨R, 3, none⟩ x3).setCell ⟨R, 4, none⟩ x4).setCell ⟨R, 5, none⟩ x5).setCell ⟨R, 6, none⟩ x6).setCell ⟨R, 7, none⟩ x7).setCell ⟨R, 8, none⟩ x8).setCell ⟨R, 9, none⟩ x9).setCell ⟨R, 10, none⟩ x10).setCell ⟨R, 11, none⟩ x11).setCell ⟨R, 12, none⟩ x12).setCell ⟨R, 13, none⟩ x13
theorem set14_cells {W0 : World} {R : Nat} {y0 y1 y2 y3 y4 y5 y6 y7 y8 y9 y10 y11 y12 y13 : Value} (x0 x1 x2 x3 x4 x5 x6 x7 x8 x9 x10 x11 x12 x13 : Value) (h : Cells W0 R [y0, y1, y2, y3, y4, y5, y6, y7, y8, y9, y10, y11, y12, y13]) : Cells (set14 W0 R x0 x1 x2 x3 x4 x5 x6 x7 x8 x9 x10 x11 x12 x13) R [x0, x1, x2, x3, x4, x5, x6, x7, x8, x9, x10, x11, x12, x13] := (((((((((((((h.set 0 x0).set 1 x1).set 2 x2).set 3 x3).set 4 x4).set 5 x5).set 6 x6).set 7 x7).set 8 x8).set 9 x9).set 10 x10).set 11 x11).set 12 x12).set 13 x13
theorem set14_only (W0 : World) (R : Nat) (x0 x1 x2 x3 x4 x5 x6 x7 x8 x9 x10 x11 x12 x13 : Value) : Only (· = R) W0 (set14 W0 R x0 x1 x2 x3 x4 x5 x6 x7 x8 x9 x10 x11 x12 x13) := only2 (only2 (only2 (only2 (only2 (only2 (only2 (only2 (only2 (only2 (only2 (only2 (only2 (only_set W0 R 0 x0) (only_set _ R 1 x1)) (only_set _ R 2 x2)) (only_set _ R 3 x3)) (only_set _ R 4 x4)) (only_set _ R 5 x5)) (only_set _ R 6 x6)) (only_set _ R 7 x7)) (only_set _ R 8 x8)) (only_set _ R 9 x9)) (only_set _ R 10 x10)) (only_set _ R 11 x11)) (only_set _ R 12 x12)) (only_set _ R 13 x13)

theorem head_results {W : World} {R : Nat} {x0 x1 x2 x3 x4 x5 x6 x7 x8 x9 x10 x11 x12 x13 : Value} {tmps : Array Value} (h2 : tmps[2]? = some (.pointer (some ⟨R, 0, none⟩))) (h3 : tmps[3]? = some (.pointer none)) (hR : Cells W R [x0, x1, x2, x3, x4, x5, x6, x7, x8, x9, x10, x11, x12, x13]) :
    (results Tryz.f100 tmps).run Tryz.prog W = .ok (.tuple #[.agg #[x0, x1, x2, x3, x4, x5, x6, x7, x8, x9, x10, x11, x12, x13], .pointer none]) W := by
  simp [results, Tryz.results100, go_sem, h2, h3, (hR 0 _ rfl).1, (hR 1 _ rfl).1, (hR 2 _ rfl).1, (hR 3 _ rfl).1, (hR 4 _ rfl).1, (hR 5 _ rfl).1, (hR 6 _ rfl).1, (hR 7 _ rfl).1, (hR 8 _ rfl).1, (hR 9 _ rfl).1, (hR 10 _ rfl).1, (hR 11 _ rfl).1, (hR 12 _ rfl).1, (hR 13 _ rfl).1]

set_option maxHeartbeats 800000 in
theorem tail_ok (g : CG) (pp : Nat) (w : World) (i : Nat) (h : Cur g w i) (hp : Lead g pp w) (i' : Nat) (hr : Adz.tail g.L g.pl i = .ok i') :
    Calls Tryz.prog 104 #[.pointer (some ⟨pp, 0, none⟩)] w fun e w' => e = .returned (.pointer none) ∧ Cur g w' i' ∧ Only (· = g.c) w w' := by
  unfold Adz.tail at hr
  simp only at hr
  have q0 := hp.at0
  split at hr
  · rename_i hb
    simp only [Except.ok.injEq] at hr
    subst hr
    generalize hpk : Adz.peek g.L (Adz.blanks g.L i) = r at *
    have HP : Hid (Adz.peek g.L (Adz.blanks g.L i) = r) := hpk
    have hb4 : r = 59 ∨ r = 10 ∨ r = 125 ∨ r = -1 := by simpa [or_assoc] using hb
    clear hpk hb
    rcases hb4 with e | e | e | e
    all_goals
      go_enter Tryz.func104, Tryz.ntmps104
      go_wp2_with fail
      refine (blanks_calls g w i h).mono ?_
      rintro e w1 ⟨rfl, hc1, ho1⟩
      have q1 := (hp.moved ho1).at0
      go_wp2_with fail
      refine (peek_calls g w1 _ hc1).mono ?_
      rintro e w2 ⟨rfl, n, rfl⟩
      rw [HP.out, e]
      go_wp2
      go_ret
      exact ⟨rfl, hc1.drewN n, ho1.drewN n⟩
  · cases hr

set_option maxHeartbeats 800000 in
theorem atAddress_no (g : CG) (pp : Nat) (w : World) (i : Nat) (h : Cur g w i) (hp : Lead g pp w) (hr : Adz.atAddress g.L i = false) :
    Calls Tryz.prog 142 #[.pointer (some ⟨pp, 0, none⟩)] w fun e w' => e = .returned (.bool false) ∧ ∃ n, w' = w.drewN n := by
  have q0 := hp.at0
  unfold Adz.atAddress at hr
  simp only [Bool.or_eq_false_iff] at hr
  obtain ⟨⟨hd, b1⟩, b2⟩ := hr
  have HD : Hid (Adz.isDigit (Adz.peek g.L i) = false) := hd
  clear hd
  go_enter Tryz.func142, Tryz.ntmps142
  go_wp2_with fail
  refine (peek_calls g w i h).mono ?_
  rintro e w1 ⟨rfl, n, rfl⟩
  go_wp2_with fail
  refine (isDigit_calls _ _).mono ?_
  rintro e w1 ⟨rfl, rfl⟩
  rw [HD.out]
  go_wp2
  go_ret
  exact ⟨rfl, n, rfl⟩

theorem and_intro_only {g : CG} {w W : World} {i : Nat} {v : Value} (h : Cur g w i) (o : Only (fun _ => False) w W) : Ending.returned v = .returned v ∧ Cur g W i ∧ Only (· = g.c) w W :=
  ⟨rfl, h.keeps o id (fun _ => id) id, o.mono (fun _ _ e => e.elim)⟩

set_option maxRecDepth 100000 in
set_option maxHeartbeats 1600000 in
theorem head_plain (g : CG) (pp : Nat) (w : World) (i : Nat) (h : Cur g w i) (hp : Lead g pp w) (ha : Adz.atAddress g.L i = false) (hn : Adz.peek g.L i ≠ 33) :
    Calls Tryz.prog 100 #[.pointer (some ⟨pp, 0, none⟩)] w fun e w' =>
      e = .returned (.tuple #[.agg #[.int .i32 0, .slice none 0 0, .bool false, .string ⟨#[]⟩, .string ⟨#[]⟩, .int .i64 0, .slice none 0 0, .int .i64 0, .slice none 0 0, .bool false, .bool false, .int .i64 0, .slice none 0 0, .slice none 0 0], .pointer none]) ∧ Cur g w' i ∧ Only (· = g.c) w w' := by
  have q0 := hp.at0
  have hpl : pp < w.heap.size := hp.lt
  have HA : Hid (Adz.atAddress g.L i = false) := ha
  clear ha
  go_enter Tryz.func100, Tryz.ntmps100
  go_wp2_with fail
  refine (atAddress_no g pp _ i ((h.alloc _).alloc _) ((hp.alloc _).alloc _) HA.out).mono ?_
  rintro e w1 ⟨rfl, n, rfl⟩
  go_wp2_with fail
  refine (take_no g _ i 33 (((h.alloc _).alloc _).drewN n) hn).mono ?_
  rintro e w1 ⟨rfl, n2, rfl⟩
  go_wp2
  have k0 : Cells (((w.alloc (.cells #[.int .i32 0, .slice none 0 0, .bool false, .string ⟨#[]⟩, .string ⟨#[]⟩, .int .i64 0, .slice none 0 0, .int .i64 0, .slice none 0 0, .bool false, .bool false, .int .i64 0, .slice none 0 0, .slice none 0 0] 167)).alloc (.cells #[.int .i32 0, .slice none 0 0, .bool false, .string ⟨#[]⟩, .string ⟨#[]⟩, .int .i64 0, .slice none 0 0, .int .i64 0, .slice none 0 0, .bool false, .bool false, .int .i64 0, .slice none 0 0, .slice none 0 0] 167)).drewN (n + n2)) w.heap.size [.int .i32 0, .slice none 0 0, .bool false, .string ⟨#[]⟩, .string ⟨#[]⟩, .int .i64 0, .slice none 0 0, .int .i64 0, .slice none 0 0, .bool false, .bool false, .int .i64 0, .slice none 0 0, .slice none 0 0] := ((Cells.new w _ _).alloc _).drewN _
  have k1 := set14_cells (W0 := ((w.alloc (.cells #[.int .i32 0, .slice none 0 0, .bool false, .string ⟨#[]⟩, .string ⟨#[]⟩, .int .i64 0, .slice none 0 0, .int .i64 0, .slice none 0 0, .bool false, .bool false, .int .i64 0, .slice none 0 0, .slice none 0 0] 167)).alloc (.cells #[.int .i32 0, .slice none 0 0, .bool false, .string ⟨#[]⟩, .string ⟨#[]⟩, .int .i64 0, .slice none 0 0, .int .i64 0, .slice none 0 0, .bool false, .bool false, .int .i64 0, .slice none 0 0, .slice none 0 0] 167)).drewN (n + n2)) (.int .i32 0) (.slice none 0 0) (.bool false) (.string ⟨#[]⟩) (.string ⟨#[]⟩) (.int .i64 0) (.slice none 0 0) (.int .i64 0) (.slice none 0 0) (.bool false) (.bool false) (.int .i64 0) (.slice none 0 0) (.slice none 0 0) k0
  have o1 := set14_only (((w.alloc (.cells #[.int .i32 0, .slice none 0 0, .bool false, .string ⟨#[]⟩, .string ⟨#[]⟩, .int .i64 0, .slice none 0 0, .int .i64 0, .slice none 0 0, .bool false, .bool false, .int .i64 0, .slice none 0 0, .slice none 0 0] 167)).alloc (.cells #[.int .i32 0, .slice none 0 0, .bool false, .string ⟨#[]⟩, .string ⟨#[]⟩, .int .i64 0, .slice none 0 0, .int .i64 0, .slice none 0 0, .bool false, .bool false, .int .i64 0, .slice none 0 0, .slice none 0 0] 167)).drewN (n + n2)) w.heap.size (.int .i32 0) (.slice none 0 0) (.bool false) (.string ⟨#[]⟩) (.string ⟨#[]⟩) (.int .i64 0) (.slice none 0 0) (.int .i64 0) (.slice none 0 0) (.bool false) (.bool false) (.int .i64 0) (.slice none 0 0) (.slice none 0 0)
  refine bodyPost_ret (v := .tuple #[.agg #[.int .i32 0, .slice none 0 0, .bool false, .string ⟨#[]⟩, .string ⟨#[]⟩, .int .i64 0, .slice none 0 0, .int .i64 0, .slice none 0 0, .bool false, .bool false, .int .i64 0, .slice none 0 0, .slice none 0 0], .pointer none]) (head_results rfl rfl k1) rfl ?_
  have o : Only (fun _ => False) w (((w.alloc (.cells #[.int .i32 0, .slice none 0 0, .bool false, .string ⟨#[]⟩, .string ⟨#[]⟩, .int .i64 0, .slice none 0 0, .int .i64 0, .slice none 0 0, .bool false, .bool false, .int .i64 0, .slice none 0 0, .slice none 0 0] 167)).alloc (.cells #[.int .i32 0, .slice none 0 0, .bool false, .string ⟨#[]⟩, .string ⟨#[]⟩, .int .i64 0, .slice none 0 0, .int .i64 0, .slice none 0 0, .bool false, .bool false, .int .i64 0, .slice none 0 0, .slice none 0 0] 167)).drewN (n + n2)) := (((Only.refl _ w).alloc _).alloc _).drewN _
  exact and_intro_only h (o.trans o1 (fun _ e => e) (fun x hx e => by omega))
end Go.Proofs.YtbiobhghnldckaaGreatDoor

/- Proved: a what is read, and what stands behind an s. Conditions: the parser lies in memory as told. -/
namespace Go.Proofs.YtbiobhghnldckaaGreatDoor
open Go.RowKit
set_option linter.unusedVariables false

theorem quiet_more {w w' : World} {a b m : Nat} (h : w' = (w.drewN (a + b)).drewN m) : ∃ n, w' = w.drewN (a + n) := ⟨b + m, by rw [h, World.drewN_drewN, Nat.add_assoc]⟩
theorem quiet_one {w w' : World} {b m : Nat} (h : w' = (w.drewN b).drewN m) : ∃ n, w' = w.drewN n := ⟨b + m, by rw [h, World.drewN_drewN]⟩

/-- What a command's reading asks of the parser. -/
structure Table (pp : Nat) (w : World) (n : Nat) : Prop where
  map : ∃ mb, w.cell? ⟨pp, 1, none⟩ = some (.map (some mb)) ∧ BehAt w mb
  cmds : ∃ qa qc, w.cell? ⟨pp, 2, none⟩ = some (.slice qa n qc)
theorem BehAt.keeps {S : Nat → Prop} {w w' : World} {mb : Nat} (h : BehAt w mb) (o : Only S w w') (hs : ∀ b, S b → (∃ T, Typ w b T) ∨ w.heap.size ≤ b) : BehAt w' mb := by
  unfold BehAt at *
  have hl := (Array.getElem?_eq_some_iff.1 h).1
  rw [o.block mb hl (fun e => ?_)]
  · exact h
  · rcases hs mb e with ⟨T, c, f, t⟩ | t
    · rw [h] at t; cases t
    · omega
theorem Table.keeps {S : Nat → Prop} {w w' : World} {pp n : Nat} (h : Table pp w n) (o : Only S w w') (hp : ¬ S pp) (hs : ∀ b, S b → (∃ T, Typ w b T) ∨ w.heap.size ≤ b) : Table pp w' n := by
  obtain ⟨mb, m1, m2⟩ := h.map
  obtain ⟨qa, qc, q⟩ := h.cmds
  exact ⟨⟨mb, o.keeps m1 hp, m2.keeps o hs⟩, ⟨qa, qc, o.keeps q hp⟩⟩

set_option maxRecDepth 100000 in
set_option maxHeartbeats 1600000 in
theorem what_ok (g : CG) (pp cb n : Nat) (w : World) (i : Nat) (h : Cur g w i) (hp : Lead g pp w) (ht : Table pp w n) (c : Adz.Cmd) (hc : CmdAt w cb c) (k : Int) (hk : Adz.behindKind (Adz.peek g.L i) = some k) (h3 : k ≠ 3) (h1 : k ≠ 1) (hn : n ≠ 40) (hn5 : n ≤ 500) (hl : i < g.L.length) :
    Calls Tryz.prog 102 #[.pointer (some ⟨pp, 0, none⟩), .pointer (some ⟨cb, 0, none⟩)] w fun e w' => e = .returned (.pointer none) ∧ CmdAt w' cb { c with what := Adz.peek g.L i } ∧ Cur g w' (i + 1) ∧ Only (fun b => b = g.c ∨ b = cb) w w' := by
  obtain ⟨mb, m1, m2⟩ := ht.map
  obtain ⟨qa, qc, q2⟩ := ht.cmds
  have q0 := hp.at0
  have hlk : ∀ m, (Instr.lookup 115 (.map (some mb)) (.int .i32 (Adz.peek g.L i)) true).run Tryz.prog (w.drewN m) = .ok (.tuple #[.int .i64 k, .bool true]) (w.drewN m) := fun m => by
    have := beh_lookup_ok (w.drewN m) mb (Adz.peek g.L i) m2
    rw [hk] at this
    exact this
  have b3 : (k == 3) = false := by simpa using h3
  have b1 : (k == 1) = false := by simpa using h1
  have b40 : ((n : Int) == 40) = false := by simp; omega
  have ncb : cb ≠ g.c := hc.typ.ne h.tc (by decide)
  have npp : pp ≠ cb := hp.typ.ne hc.typ (by decide)
  clear hk
  go_enter Tryz.func102, Tryz.ntmps102
  go_wp2_with fail
  refine (place_calls g w i h).mono ?_
  rintro e w1 ⟨rfl, n1, rfl⟩
  go_wp2_with fail
  go_quiet ((go_at_call 51; exact (peek_calls g _ i (h.drewN _)).mono (fun e w1 ⟨he, m, hw1⟩ => ⟨he, quiet_more hw1⟩)))
  go_wp2_with fail
  refine (next_calls g _ i (h.drewN _) hl).mono ?_
  rintro e w2 ⟨rfl, hc2, ho2⟩
  have o2 : Only (· = g.c) w w2 := ((Only.refl (· = g.c) w).drewN _).trans ho2 (fun _ e => e) (fun _ _ e => e)
  have m2' := hc.keeps o2 h.spares ncb
  obtain ⟨av, iv, rv, fv, tv, kk, dd⟩ := m2'.deep
  have k0 := kk 0 _ rfl
  go_wp2
  go_ret
  have o3 := only_set w2 cb 0 (.int .i32 (Adz.peek g.L i))
  have d3 := dd.keeps o3 (spares_one m2'.typ (by decide))
  exact ⟨rfl, ⟨m2'.typ.set, av, iv, rv, fv, tv, kk.set 0 _, ⟨d3.a, d3.i, d3.r, d3.f, d3.t⟩⟩, hc2.aside o3 m2'.typ, o2.trans o3 (fun _ e => Or.inl e) (fun _ _ e => Or.inr e)⟩

set_option maxRecDepth 100000 in
set_option maxHeartbeats 1600000 in
/-- Behind an s. -/
theorem behind_s (g : CG) (pp cb n : Nat) (w : World) (i : Nat) (at_ : Int) (h : Cur g w i) (hp : Lead g pp w) (ht : Table pp w n) (c : Adz.Cmd) (hc : CmdAt w cb c) (h115 : c.what = 115) (c' : Adz.Cmd) (i' : Nat) (hr : Adz.substitution g.L g.pl c i = .ok (c', i')) :
    Calls Tryz.prog 103 #[.pointer (some ⟨pp, 0, none⟩), .pointer (some ⟨cb, 0, none⟩), .int .i64 at_] w fun e w' => e = .returned (.pointer none) ∧ CmdAt w' cb c' ∧ Cur g w' i' ∧ Only (fun b => b = g.c ∨ b = cb) w w' := by
  obtain ⟨mb, m1, m2⟩ := ht.map
  obtain ⟨av, iv, rv, fv, tv, kk, dd⟩ := hc.deep
  have k0 := (kk 0 _ rfl).1
  rw [h115] at k0
  have q0 := hp.at0
  have hlk : ∀ m, (Instr.lookup 115 (.map (some mb)) (.int .i32 115) false).run Tryz.prog (w.drewN m) = .ok (.int .i64 5) (w.drewN m) := fun m => beh_lookup (w.drewN m) mb 115 m2
  have HR : Hid (Adz.substitution g.L g.pl c i = .ok (c', i')) := hr
  clear hr kk dd
  go_enter Tryz.func103, Tryz.ntmps103
  go_wp2_with fail
  go_quiet (fail)
  go_wp2_with fail
  have o1 : Only (· = g.c) w (w.drewN nq) := (Only.refl _ w).drewN nq
  refine (substitution_ok g pp cb _ i (h.drewN nq) (hp.drewN nq) c (hc.keeps o1 h.spares (hc.typ.ne h.tc (by decide))) c' i' HR.out).mono ?_
  rintro e w2 ⟨rfl, hc2, hu2, ho2⟩
  go_wp2
  go_ret
  exact ⟨rfl, hc2, hu2, o1.trans ho2 (fun _ e => Or.inl e) (fun _ _ e => e)⟩
end Go.Proofs.YtbiobhghnldckaaGreatDoor

/- Proved: a command that is an s, without an address, is read. Conditions: the parser lies in memory as 'Par' says. -/
namespace Go.Proofs.YtbiobhghnldckaaGreatDoor
open Go.RowKit
set_option linter.unusedVariables false
attribute [local go_sem ↓] Go.wp_at_zero Go.wp_at_succ

theorem infoCmd : (Tryz.prog.info? 167).map (fun i => (i.zero, i.size, i.bytes)) = some (some (.agg (cmdCells {} (.slice none 0 0) (.slice none 0 0) (.slice none 0 0) (.slice none 0 0) (.slice none 0 0)).toArray), 14, 200) := by kernel_rfl

/-- Commands in a row: their cells, and what these lead to. -/
def CmdsIn (w : World) : List Adz.Cmd → List Value → Prop
  | [], [] => True
  | c :: cs, x0 :: x1 :: x2 :: x3 :: x4 :: x5 :: x6 :: x7 :: x8 :: x9 :: x10 :: x11 :: x12 :: x13 :: xs => (∃ av iv rv fv tv, [x0, x1, x2, x3, x4, x5, x6, x7, x8, x9, x10, x11, x12, x13] = cmdCells c av iv rv fv tv ∧ Deep w c av iv rv fv tv) ∧ CmdsIn w cs xs
  | _, _ => False
theorem CmdsIn.keeps {S : Nat → Prop} {w w' : World} (o : Only S w w') (s : Spares w S) : ∀ {cs : List Adz.Cmd} {xs : List Value}, CmdsIn w cs xs → CmdsIn w' cs xs
  | [], [], _ => trivial
  | c :: cs, x0 :: x1 :: x2 :: x3 :: x4 :: x5 :: x6 :: x7 :: x8 :: x9 :: x10 :: x11 :: x12 :: x13 :: xs, h => by
    obtain ⟨⟨av, iv, rv, fv, tv, e, d⟩, r⟩ := h
    exact ⟨⟨av, iv, rv, fv, tv, e, d.keeps o s⟩, CmdsIn.keeps o s r⟩
theorem CmdsIn.snoc {w : World} {c : Adz.Cmd} {av iv rv fv tv : Value} (d : Deep w c av iv rv fv tv) : ∀ {cs : List Adz.Cmd} {xs : List Value}, CmdsIn w cs xs → CmdsIn w (cs ++ [c]) (xs ++ cmdCells c av iv rv fv tv)
  | [], [], _ => ⟨⟨av, iv, rv, fv, tv, rfl, d⟩, trivial⟩
  | c :: cs, x0 :: x1 :: x2 :: x3 :: x4 :: x5 :: x6 :: x7 :: x8 :: x9 :: x10 :: x11 :: x12 :: x13 :: xs, h => ⟨h.1, CmdsIn.snoc d h.2⟩

structure Par (g : CG) (pp base : Nat) (w : World) (s : Adz.Ps) : Prop where
  cur : Cur g w s.i
  lead : Lead g pp w
  map : ∃ mb, w.cell? ⟨pp, 1, none⟩ = some (.map (some mb)) ∧ BehAt w mb
  cmds : ∃ qv xs, w.cell? ⟨pp, 2, none⟩ = some qv ∧ w.ownsRow base 167 14 qv s.cmds.length xs ∧ CmdsIn w s.cmds xs
  op : ∃ ov, w.cell? ⟨pp, 3, none⟩ = some ov ∧ w.ownsRow base 3 1 ov s.opens.length (s.opens.map (Value.int .i64))
  lab : s.labs = [] ∧ ∃ lb, w.cell? ⟨pp, 4, none⟩ = some (.map (some lb)) ∧ w.heap[lb]? = some (.map #[] 0)
  f2 : w.frozen? ⟨pp, 2, none⟩ = false
  f3 : w.frozen? ⟨pp, 3, none⟩ = false
  bs : base ≤ w.heap.size
  pb : g.pb < base
  few : s.cmds.length ≤ s.i

theorem Par.table {g : CG} {pp base : Nat} {w : World} {s : Adz.Ps} (h : Par g pp base w s) : Table pp w s.cmds.length := by
  obtain ⟨qv, xs, c1, c2, c3⟩ := h.cmds
  obtain ⟨qa, qc, rfl⟩ := row_shape c2
  exact ⟨h.map, ⟨qa, qc, c1⟩⟩

/-- The twin's command, where it is a plain s. -/
theorem command_s {L pl : List Int} {s s' : Adz.Ps} (h : Adz.command L pl s = .ok s') (ha : Adz.atAddress L s.i = false) (hn : Adz.peek L s.i = 115) :
    s.cmds.length ≠ 40 ∧ ∃ c i3 i4, Adz.substitution L pl { what := 115 } (s.i + 1) = .ok (c, i3) ∧ Adz.tail L pl i3 = .ok i4 ∧ c.what = 115 ∧ s' = { i := i4, cmds := s.cmds ++ [c], opens := s.opens, labs := s.labs } := by
  unfold Adz.command Adz.head at h
  simp only [ha, Bool.false_eq_true, if_false, hn, show ((115 : Int) == 33) = false from rfl] at h
  unfold Adz.what at h
  simp only [hn, show Adz.behindKind 115 = some 5 from by decide, show ((5 : Int) == 3) = false from rfl, show ((5 : Int) == 1) = false from rfl, Bool.false_and, Bool.false_eq_true, if_false] at h
  by_cases h40 : s.cmds.length = 40
  · simp [h40] at h
  · have b40 : (s.cmds.length == 40) = false := by simpa using h40
    simp only [b40, Bool.false_eq_true, if_false] at h
    unfold Adz.behind at h
    simp only [show Adz.behindKind 115 = some 5 from by decide] at h
    cases hs : Adz.substitution L pl { what := 115 } (s.i + 1) with
    | error f => rw [hs] at h; cases h
    | ok q =>
      obtain ⟨c, i3⟩ := q
      rw [hs] at h
      simp only at h
      have hw : c.what = 115 := by
        unfold Adz.substitution at hs
        split at hs
        · cases hs
        · split at hs
          · cases hs
          · split at hs
            · cases hs
            · rw [Adz.flags_same hs]
      simp only [hw, show ((115 : Int) == 123) = false from rfl, Bool.false_eq_true, if_false] at h
      cases ht : Adz.tail L pl i3 with
      | error f => rw [ht] at h; cases h
      | ok i4 =>
        rw [ht] at h
        simp only [Except.ok.injEq] at h
        exact ⟨h40, c, i3, i4, rfl, ht, hw, h.symm⟩
end Go.Proofs.YtbiobhghnldckaaGreatDoor
