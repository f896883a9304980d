/- Proved: the flags of an s are read, where they may stand. Conditions: the cursor lies in memory as 'Cur' says, the parser leads to it, the command lies in a block of its own. -/
import Derived.Test.YtbiobhghnldckaaGreatDoorRepl
namespace Go.Proofs.YtbiobhghnldckaaGreatDoor
open Go.RowKit
set_option linter.unusedVariables false

/-- Of block cb only cells of P may have turned. -/
structure Keep (cb : Nat) (P : Nat → Prop) (w w' : World) : Prop where
  cells : ∀ o, ¬ P o → w'.cell? ⟨cb, o, none⟩ = w.cell? ⟨cb, o, none⟩
  frozen : ∀ o, w'.frozen? ⟨cb, o, none⟩ = w.frozen? ⟨cb, o, none⟩
  typ : ∀ T, Typ w cb T → Typ w' cb T
theorem Keep.refl (cb : Nat) (P : Nat → Prop) (w : World) : Keep cb P w w := ⟨fun _ _ => rfl, fun _ => rfl, fun _ h => h⟩
theorem Keep.trans {cb : Nat} {P : Nat → Prop} {a b c : World} (h : Keep cb P a b) (k : Keep cb P b c) : Keep cb P a c :=
  ⟨fun o ho => (k.cells o ho).trans (h.cells o ho), fun o => (k.frozen o).trans (h.frozen o), fun T t => k.typ T (h.typ T t)⟩
theorem Keep.mono {cb : Nat} {P Q : Nat → Prop} {a b : World} (h : Keep cb P a b) (hq : ∀ o, P o → Q o) : Keep cb Q a b :=
  ⟨fun o ho => h.cells o (fun e => ho (hq o e)), h.frozen, h.typ⟩
theorem Keep.of_only {cb : Nat} {P S : Nat → Prop} {a b : World} (h : Only S a b) (hs : ¬ S cb) (hl : cb < a.heap.size) : Keep cb P a b :=
  ⟨fun o _ => h.cell (p := ⟨cb, o, none⟩) hl hs, fun o => h.frozen (p := ⟨cb, o, none⟩) hl hs, fun _ t => t.keeps h hs⟩
theorem Keep.setCell {cb : Nat} {P : Nat → Prop} (w : World) (fo : Nat) (v : Value) (hp : P fo) : Keep cb P w (w.setCell ⟨cb, fo, none⟩ v) :=
  have f := Field.setCell w cb fo v
  ⟨fun o ho => f.others o (fun e => ho (e ▸ hp)), f.frozen, f.typ⟩

structure FlagCells (w : World) (cb : Nat) (c : Adz.Cmd) : Prop where
  a : w.cell? ⟨cb, 9, none⟩ = some (.bool c.all)
  p : w.cell? ⟨cb, 10, none⟩ = some (.bool c.print)
  n : w.cell? ⟨cb, 11, none⟩ = some (.int .i64 c.nth)
  fa : w.frozen? ⟨cb, 9, none⟩ = false
  fp : w.frozen? ⟨cb, 10, none⟩ = false
  fn : w.frozen? ⟨cb, 11, none⟩ = false
  typ : Typ w cb 167
theorem FlagCells.keeps {S : Nat → Prop} {w w' : World} {cb : Nat} {c : Adz.Cmd} (h : FlagCells w cb c) (o : Only S w w') (hs : ¬ S cb) : FlagCells w' cb c :=
  ⟨o.keeps h.a hs, o.keeps h.p hs, o.keeps h.n hs, o.keepsFrozen h.a h.fa hs, o.keepsFrozen h.p h.fp hs, o.keepsFrozen h.n h.fn hs, h.typ.keeps o hs⟩

def isFlag (o : Nat) : Prop := o = 9 ∨ o = 10 ∨ o = 11

set_option maxRecDepth 100000 in
set_option maxHeartbeats 1600000 in
theorem flags_ok (g : CG) (pp cb : Nat) (w : World) (i : Nat) (h : Cur g w i) (hp : Lead g pp w) (c : Adz.Cmd) (hf : FlagCells w cb c) (c' : Adz.Cmd) (i' : Nat) (hr : Adz.flags g.L g.pl (g.L.length + 1) c i = .ok (c', i')) :
    Calls Tryz.prog 176 #[.pointer (some ⟨pp, 0, none⟩), .pointer (some ⟨cb, 6, none⟩)] w fun e w' => e = .returned (.pointer none) ∧ FlagCells w' cb c' ∧ Cur g w' i' ∧ Only (fun b => b = g.c ∨ b = cb) w w' ∧ Keep cb isFlag w w' := by
  have HR : Hid (Adz.flags g.L g.pl (g.L.length + 1) c i = .ok (c', i')) := hr
  clear hr
  have hle0 := h.le
  have ncb : cb ≠ g.c := hf.typ.ne h.tc (by decide)
  go_enter Tryz.func176, Tryz.ntmps176
  go_wp2_with fail
  go_loopg [] (g.L.length - i) (fun k wr => ∃ j d m, Hid (Cur g wr j) ∧ Hid (Lead g pp wr) ∧ Hid (FlagCells wr cb d) ∧ j + k = g.L.length ∧ Hid (g.L.length < m + j ∧ Adz.flags g.L g.pl m d j = .ok (c', i')) ∧ Hid (Only (fun b => b = g.c ∨ b = cb) w wr ∧ Keep cb isFlag w wr))
  case atStart => exact ⟨i, c, g.L.length + 1, h, hp, hf, by omega, ⟨by omega, HR.out⟩, Only.refl _ _, Keep.refl _ _ _⟩
  case round =>
    obtain ⟨j, d, m, hc, hl, hd, hk, hI, hO⟩ := hrel
    obtain ⟨hm, hit⟩ := hI.out
    have hc' : Cur g wr j := hc
    have hl' : Lead g pp wr := hl
    have hd' : FlagCells wr cb d := hd
    obtain ⟨hO', hK'⟩ := hO.out
    have HK : Hid (j + gk = g.L.length) := hk
    have q1 := hl'.at0
    have hjl := hc'.le
    have ca := hd'.a
    have cp := hd'.p
    have cn := hd'.n
    have fa := hd'.fa
    have fp := hd'.fp
    have fn := hd'.fn
    have npp : pp ≠ cb := hl'.typ.ne hd'.typ (by decide)
    clear hk hc hl hI hO hd
    cases m with
    | zero => omega
    | succ m =>
      unfold Adz.flags at hit
      simp only at hit
      by_cases c1 : (Adz.peek g.L j == 103 && !d.all) = true
      · rw [if_pos c1] at hit
        simp only [Bool.and_eq_true, beq_iff_eq, Bool.not_eq_true'] at c1
        obtain ⟨e1, e2⟩ := c1
        have hlt : j < g.L.length := Adz.lt_of_peek (by omega)
        have HT : Hid (Adz.flags g.L g.pl m { d with all := true } (j + 1) = .ok (c', i')) := hit
        clear hit
        rw [e2] at ca
        go_wp2_with fail
        refine (peek_calls g wr j hc').mono ?_
        rintro e w1 ⟨rfl, n1, rfl⟩
        rw [e1]
        go_wp2_with fail
        refine (next_calls g _ j (hc'.drewN n1) hlt).mono ?_
        rintro e w2 ⟨rfl, hc2, ho2⟩
        have o2 : Only (· = g.c) wr w2 := ((Only.refl (· = g.c) wr).drewN n1).trans ho2 (fun _ e => e) (fun _ _ e => e)
        have d2 := hd'.keeps o2 ncb
        have ca2 := d2.a
        have fa2 := d2.fa
        go_wp2
        go_roundg (g.L.length - (j + 1))
        case measure => have := HK.out; omega
        case rel =>
          have o3 : Only (· = cb) w2 (w2.setCell ⟨cb, 9, none⟩ (.bool true)) := Only.setCell (S := (· = cb)) (p := ⟨cb, 9, none⟩) (Only.refl _ w2) (fun _ => rfl) _
          have k3 := Keep.setCell (cb := cb) (P := isFlag) w2 9 (.bool true) (Or.inl rfl)
          have f3 := Field.setCell w2 cb 9 (.bool true)
          refine ⟨j + 1, { d with all := true }, m, hc2.keeps o3 (Ne.symm ncb) (fun hn => (hc2.tr hn).ne d2.typ (by decide)) (hc2.tp.ne d2.typ (by decide)), (hl'.moved o2).keeps o3 npp, ?_, by omega, ⟨by omega, HT.out⟩, ?_, ?_⟩
          · exact ⟨World.cell?_setCell_same _ _ _ d2.a, (f3.others 10 (by decide)).trans d2.p, (f3.others 11 (by decide)).trans d2.n, (f3.frozen 9).trans d2.fa, (f3.frozen 10).trans d2.fp, (f3.frozen 11).trans d2.fn, f3.typ _ d2.typ⟩
          · exact (hO'.trans o2 (fun _ e => e) (fun _ _ e => Or.inl e) : Only (fun b => b = g.c ∨ b = cb) w w2).trans o3 (fun _ e => e) (fun _ _ e => Or.inr e)
          · exact (hK'.trans (Keep.of_only o2 ncb hd'.typ.lt)).trans k3
      · rw [if_neg c1] at hit
        by_cases e1 : Adz.peek g.L j = 103
        · have ea : d.all = true := by simpa [e1] using c1
          simp [e1, Adz.isDigit] at hit
          obtain ⟨rfl, rfl⟩ := hit
          have HD : Hid (Adz.isDigit 103 = false) := show Adz.isDigit 103 = false by decide
          rw [ea] at ca
          clear c1
          go_wp2_with fail
          refine (peek_calls g wr j hc').mono ?_
          rintro e w1 ⟨rfl, n1, rfl⟩
          rw [e1]
          go_wp2_with fail
          refine (isDigit_calls _ _).mono ?_
          rintro e w1 ⟨rfl, rfl⟩
          rw [HD.out]
          go_wp2
          go_ret
          exact ⟨rfl, hd'.keeps ((Only.refl (· = g.c) wr).drewN _) ncb, hc'.drewN _, hO'.drewN _, hK'.trans (Keep.of_only ((Only.refl (· = g.c) wr).drewN _) ncb hd'.typ.lt)⟩
        · have b1 : (Adz.peek g.L j == 103) = false := by simpa using e1
          by_cases e2 : Adz.peek g.L j = 112
          · by_cases ep : d.print = true
            · simp [e2, ep, Adz.isDigit] at hit
              obtain ⟨rfl, rfl⟩ := hit
              have HD : Hid (Adz.isDigit 112 = false) := show Adz.isDigit 112 = false by decide
              rw [ep] at cp
              clear c1 b1
              go_wp2_with fail
              refine (peek_calls g wr j hc').mono ?_
              rintro e w1 ⟨rfl, n1, rfl⟩
              rw [e2]
              go_wp2_with fail
              refine (isDigit_calls _ _).mono ?_
              rintro e w1 ⟨rfl, rfl⟩
              rw [HD.out]
              go_wp2
              go_ret
              exact ⟨rfl, hd'.keeps ((Only.refl (· = g.c) wr).drewN _) ncb, hc'.drewN _, hO'.drewN _, hK'.trans (Keep.of_only ((Only.refl (· = g.c) wr).drewN _) ncb hd'.typ.lt)⟩
            · have ep' : d.print = false := by simpa using ep
              simp only [e2, ep', beq_self_eq_true, Bool.not_false, Bool.and_self, if_true] at hit
              have hlt : j < g.L.length := Adz.lt_of_peek (by omega)
              have HT : Hid (Adz.flags g.L g.pl m { d with print := true } (j + 1) = .ok (c', i')) := hit
              rw [ep'] at cp
              clear hit c1 b1 ep
              go_wp2_with fail
              refine (peek_calls g wr j hc').mono ?_
              rintro e w1 ⟨rfl, n1, rfl⟩
              rw [e2]
              go_wp2_with fail
              refine (next_calls g _ j (hc'.drewN n1) hlt).mono ?_
              rintro e w2 ⟨rfl, hc2, ho2⟩
              have o2 : Only (· = g.c) wr w2 := ((Only.refl (· = g.c) wr).drewN n1).trans ho2 (fun _ e => e) (fun _ _ e => e)
              have d2 := hd'.keeps o2 ncb
              have cp2 := d2.p
              have fp2 := d2.fp
              go_wp2
              go_roundg (g.L.length - (j + 1))
              case measure => have := HK.out; omega
              case rel =>
                have o3 : Only (· = cb) w2 (w2.setCell ⟨cb, 10, none⟩ (.bool true)) := Only.setCell (S := (· = cb)) (p := ⟨cb, 10, none⟩) (Only.refl _ w2) (fun _ => rfl) _
                have k3 := Keep.setCell (cb := cb) (P := isFlag) w2 10 (.bool true) (Or.inr (Or.inl rfl))
                have f3 := Field.setCell w2 cb 10 (.bool true)
                refine ⟨j + 1, { d with print := true }, m, hc2.keeps o3 (Ne.symm ncb) (fun hn => (hc2.tr hn).ne d2.typ (by decide)) (hc2.tp.ne d2.typ (by decide)), (hl'.moved o2).keeps o3 npp, ?_, by omega, ⟨by omega, HT.out⟩, ?_, ?_⟩
                · exact ⟨(f3.others 9 (by decide)).trans d2.a, World.cell?_setCell_same _ _ _ d2.p, (f3.others 11 (by decide)).trans d2.n, (f3.frozen 9).trans d2.fa, (f3.frozen 10).trans d2.fp, (f3.frozen 11).trans d2.fn, f3.typ _ d2.typ⟩
                · exact (hO'.trans o2 (fun _ e => e) (fun _ _ e => Or.inl e) : Only (fun b => b = g.c ∨ b = cb) w w2).trans o3 (fun _ e => e) (fun _ _ e => Or.inr e)
                · exact (hK'.trans (Keep.of_only o2 ncb hd'.typ.lt)).trans k3
          · have b2 : (Adz.peek g.L j == 112) = false := by simpa using e2
            by_cases e3 : Adz.isDigit (Adz.peek g.L j) = true
            · have HD : Hid (Adz.isDigit (Adz.peek g.L j) = true) := e3
              by_cases en : d.nth = 0
              · simp only [b2, e3, en, beq_self_eq_true, Bool.and_self, if_true, Bool.false_and, Bool.false_eq_true, if_false] at hit
                cases hnum : Adz.number g.L g.pl j with
                | error f => rw [hnum] at hit; cases hit
                | ok q =>
                  obtain ⟨k, j1⟩ := q
                  rw [hnum] at hit
                  simp only at hit
                  have hlt := Adz.number_lt hnum e3
                  have HN : Hid (Adz.number g.L g.pl j = .ok (k, j1)) := hnum
                  have HT : Hid (Adz.flags g.L g.pl m { d with nth := k } j1 = .ok (c', i')) := hit
                  rw [en] at cn
                  clear hit c1 hnum e3
                  go_wp2_with fail
                  refine (peek_calls g wr j hc').mono ?_
                  rintro e w1 ⟨rfl, n1, rfl⟩
                  go_wp2_with fail
                  refine (isDigit_calls _ _).mono ?_
                  rintro e w1 ⟨rfl, rfl⟩
                  rw [HD.out]
                  go_wp2_with fail
                  refine (number_ok g pp _ j (hc'.drewN n1) (hl'.drewN n1) k j1 HN.out).mono ?_
                  rintro e w2 ⟨rfl, hc2, ho2⟩
                  have o2 : Only (· = g.c) wr w2 := ((Only.refl (· = g.c) wr).drewN n1).trans ho2 (fun _ e => e) (fun _ _ e => e)
                  have d2 := hd'.keeps o2 ncb
                  have cn2 := d2.n
                  have fn2 := d2.fn
                  have hj1 := hc2.le
                  go_wp2
                  go_roundg (g.L.length - j1)
                  case measure => have := HK.out; omega
                  case rel =>
                    have o3 : Only (· = cb) w2 (w2.setCell ⟨cb, 11, none⟩ (.int .i64 k)) := Only.setCell (S := (· = cb)) (p := ⟨cb, 11, none⟩) (Only.refl _ w2) (fun _ => rfl) _
                    have k3 := Keep.setCell (cb := cb) (P := isFlag) w2 11 (.int .i64 k) (Or.inr (Or.inr rfl))
                    have f3 := Field.setCell w2 cb 11 (.int .i64 k)
                    refine ⟨j1, { d with nth := k }, m, hc2.keeps o3 (Ne.symm ncb) (fun hn => (hc2.tr hn).ne d2.typ (by decide)) (hc2.tp.ne d2.typ (by decide)), (hl'.moved o2).keeps o3 npp, ?_, by omega, ⟨by omega, HT.out⟩, ?_, ?_⟩
                    · exact ⟨(f3.others 9 (by decide)).trans d2.a, (f3.others 10 (by decide)).trans d2.p, World.cell?_setCell_same _ _ _ d2.n, (f3.frozen 9).trans d2.fa, (f3.frozen 10).trans d2.fp, (f3.frozen 11).trans d2.fn, f3.typ _ d2.typ⟩
                    · exact (hO'.trans o2 (fun _ e => e) (fun _ _ e => Or.inl e) : Only (fun b => b = g.c ∨ b = cb) w w2).trans o3 (fun _ e => e) (fun _ _ e => Or.inr e)
                    · exact (hK'.trans (Keep.of_only o2 ncb hd'.typ.lt)).trans k3
              · have bn : (d.nth == 0) = false := by simpa using en
                simp only [b2, bn, Bool.and_false, Bool.false_and, Bool.false_eq_true, if_false, Except.ok.injEq, Prod.mk.injEq] at hit
                obtain ⟨rfl, rfl⟩ := hit
                clear c1 e3
                go_wp2_with fail
                refine (peek_calls g wr j hc').mono ?_
                rintro e w1 ⟨rfl, n1, rfl⟩
                go_wp2_with fail
                refine (isDigit_calls _ _).mono ?_
                rintro e w1 ⟨rfl, rfl⟩
                rw [HD.out]
                go_wp2
                go_ret
                exact ⟨rfl, hd'.keeps ((Only.refl (· = g.c) wr).drewN _) ncb, hc'.drewN _, hO'.drewN _, hK'.trans (Keep.of_only ((Only.refl (· = g.c) wr).drewN _) ncb hd'.typ.lt)⟩
            · have e3' : Adz.isDigit (Adz.peek g.L j) = false := by simpa using e3
              have HD : Hid (Adz.isDigit (Adz.peek g.L j) = false) := e3'
              simp only [b2, e3', Bool.false_and, Bool.false_eq_true, if_false, Except.ok.injEq, Prod.mk.injEq] at hit
              obtain ⟨rfl, rfl⟩ := hit
              clear c1 e3 e3'
              go_wp2_with fail
              refine (peek_calls g wr j hc').mono ?_
              rintro e w1 ⟨rfl, n1, rfl⟩
              go_wp2_with fail
              refine (isDigit_calls _ _).mono ?_
              rintro e w1 ⟨rfl, rfl⟩
              rw [HD.out]
              go_wp2
              go_ret
              exact ⟨rfl, hd'.keeps ((Only.refl (· = g.c) wr).drewN _) ncb, hc'.drewN _, hO'.drewN _, hK'.trans (Keep.of_only ((Only.refl (· = g.c) wr).drewN _) ncb hd'.typ.lt)⟩
end Go.Proofs.YtbiobhghnldckaaGreatDoor
