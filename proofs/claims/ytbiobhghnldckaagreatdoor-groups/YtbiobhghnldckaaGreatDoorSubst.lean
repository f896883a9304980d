/- Proved: what stands behind an s is read, where all of it may stand. Conditions: the cursor lies in memory as 'Cur' says, the parser leads to it, the command lies in a block of its own. -/
import Derived.Test.YtbiobhghnldckaaGreatDoorFlags
namespace Go.Proofs.YtbiobhghnldckaaGreatDoor
open Go.RowKit
set_option linter.unusedVariables false

def RunesAt (w : World) (v : Value) (l : List Int) : Prop := w.ownsRow 0 21 1 v l.length (l.map (Value.int .i32))
theorem RunesAt.keeps {S : Nat → Prop} {w w' : World} {v : Value} {l : List Int} (h : RunesAt w v l) (o : Only S w w') (hs : ∀ b, Typ w b 21 → ¬ S b) : RunesAt w' v l :=
  row_keeps h o (fun b hb => hs b (Typ.of_row h hb))

def adCells (a : Adz.Ad) (iv : Value) : List Value := [.int .i64 a.kind, .int .i64 a.number, iv, .int .i64 a.pat.groups]
def adsCells : List Adz.Ad → List Value → List Value
  | x :: xs, v :: vs => adCells x v ++ adsCells xs vs
  | _, _ => []
def AdItems (w : World) : List Adz.Ad → List Value → Prop
  | [], [] => True
  | x :: xs, v :: vs => ItemsAt w v x.pat.items ∧ AdItems w xs vs
  | _, _ => False
theorem AdItems.keeps {S : Nat → Prop} {w w' : World} (o : Only S w w') (h1 : ∀ b, Typ w b 270 → ¬ S b) (h2 : ∀ b, Typ w b 284 → ¬ S b) : ∀ {xs : List Adz.Ad} {vs : List Value}, AdItems w xs vs → AdItems w' xs vs
  | [], [], _ => trivial
  | x :: xs, v :: vs, h => ⟨h.1.keeps o h1 h2, AdItems.keeps o h1 h2 h.2⟩
  | [], _ :: _, h => h.elim
  | _ :: _, [], h => h.elim
def AddrsAt (w : World) (av : Value) (l : List Adz.Ad) : Prop := ∃ ivs, w.ownsRow 0 186 4 av l.length (adsCells l ivs) ∧ AdItems w l ivs
/-- None of these blocks is one of S. -/
structure Spares (w : World) (S : Nat → Prop) : Prop where
  addr : ∀ b, Typ w b 186 → ¬ S b
  item : ∀ b, Typ w b 270 → ¬ S b
  span : ∀ b, Typ w b 284 → ¬ S b
  part : ∀ b, Typ w b 240 → ¬ S b
  rune : ∀ b, Typ w b 21 → ¬ S b
theorem AddrsAt.keeps {S : Nat → Prop} {w w' : World} {av : Value} {l : List Adz.Ad} (h : AddrsAt w av l) (o : Only S w w') (s : Spares w S) : AddrsAt w' av l := by
  obtain ⟨ivs, h1, h2⟩ := h
  exact ⟨ivs, row_keeps h1 o (fun b hb => s.addr b (Typ.of_row h1 hb)), h2.keeps o s.item s.span⟩

def cmdCells (c : Adz.Cmd) (av iv rv fv tv : Value) : List Value :=
  [.int .i32 c.what, av, .bool c.neg, .string ⟨c.text.toArray⟩, .string ⟨c.name.toArray⟩, .int .i64 c.goal, iv, .int .i64 c.pat.groups, rv, .bool c.all, .bool c.print, .int .i64 c.nth, fv, tv]
structure Deep (w : World) (c : Adz.Cmd) (av iv rv fv tv : Value) : Prop where
  a : AddrsAt w av c.addrs
  i : ItemsAt w iv c.pat.items
  r : PartsAt w rv c.repl
  f : RunesAt w fv c.old
  t : RunesAt w tv c.new
theorem Deep.keeps {S : Nat → Prop} {w w' : World} {c : Adz.Cmd} {av iv rv fv tv : Value} (h : Deep w c av iv rv fv tv) (o : Only S w w') (s : Spares w S) : Deep w' c av iv rv fv tv :=
  ⟨h.a.keeps o s, h.i.keeps o s.item s.span, h.r.keeps o s.part, h.f.keeps o s.rune, h.t.keeps o s.rune⟩
/-- A command in a block of its own. -/
structure CmdAt (w : World) (cb : Nat) (c : Adz.Cmd) : Prop where
  typ : Typ w cb 167
  deep : ∃ av iv rv fv tv, Cells w cb (cmdCells c av iv rv fv tv) ∧ Deep w c av iv rv fv tv
theorem spares_one {w : World} {b : Nat} {T : TypeId} (t : Typ w b T) (h : T ≠ 186 ∧ T ≠ 270 ∧ T ≠ 284 ∧ T ≠ 240 ∧ T ≠ 21) : Spares w (· = b) :=
  ⟨fun c hc e => h.1 (t.one (e ▸ hc)), fun c hc e => h.2.1 (t.one (e ▸ hc)), fun c hc e => h.2.2.1 (t.one (e ▸ hc)), fun c hc e => h.2.2.2.1 (t.one (e ▸ hc)), fun c hc e => h.2.2.2.2 (t.one (e ▸ hc))⟩
theorem Spares.or {w : World} {S T : Nat → Prop} (h : Spares w S) (k : Spares w T) : Spares w (fun b => S b ∨ T b) :=
  ⟨fun c hc => not_or.2 ⟨h.addr c hc, k.addr c hc⟩, fun c hc => not_or.2 ⟨h.item c hc, k.item c hc⟩, fun c hc => not_or.2 ⟨h.span c hc, k.span c hc⟩, fun c hc => not_or.2 ⟨h.part c hc, k.part c hc⟩, fun c hc => not_or.2 ⟨h.rune c hc, k.rune c hc⟩⟩
theorem Cur.spares {g : CG} {w : World} {i : Nat} (h : Cur g w i) : Spares w (· = g.c) := spares_one h.tc (by decide)
theorem CmdAt.keeps {S : Nat → Prop} {w w' : World} {cb : Nat} {c : Adz.Cmd} (h : CmdAt w cb c) (o : Only S w w') (s : Spares w S) (hs : ¬ S cb) : CmdAt w' cb c := by
  obtain ⟨av, iv, rv, fv, tv, h1, h2⟩ := h.deep
  exact ⟨h.typ.keeps o hs, av, iv, rv, fv, tv, h1.keeps o hs, h2.keeps o s⟩

theorem Cells.set {w : World} {b : Nat} {l : List Value} (h : Cells w b l) (j : Nat) (v : Value) : Cells (w.setCell ⟨b, j, none⟩ v) b (l.set j v) := by
  have f := Field.setCell w b j v
  intro i u hu
  refine ⟨?_, ?_⟩
  · by_cases e : i = j
    · subst e
      rw [List.getElem?_set_self'] at hu
      cases hl : l[i]? with
      | none => rw [hl] at hu; simp at hu
      | some x =>
        rw [hl] at hu
        simp at hu
        subst hu
        exact World.cell?_setCell_same _ _ _ (h i x hl).1
    · rw [List.getElem?_set_ne (Ne.symm e)] at hu
      rw [f.others i e]
      exact (h i u hu).1
  · rw [f.frozen i]
    by_cases e : i = j
    · subst e
      cases hl : l[i]? with
      | none => rw [List.getElem?_set_self', hl] at hu; simp at hu
      | some x => exact (h i x hl).2
    · rw [List.getElem?_set_ne (Ne.symm e)] at hu
      exact (h i u hu).2
theorem only_set (w : World) (b j : Nat) (v : Value) : Only (· = b) w (w.setCell ⟨b, j, none⟩ v) := Only.setCell (S := (· = b)) (p := ⟨b, j, none⟩) (Only.refl _ w) (fun _ => rfl) _
theorem only2 {b : Nat} {u v w : World} (h : Only (· = b) u v) (k : Only (· = b) v w) : Only (· = b) u w := h.trans k (fun _ e => e) (fun _ _ e => e)
theorem Cur.aside {g : CG} {w w' : World} {i cb : Nat} (h : Cur g w i) (o : Only (· = cb) w w') (t : Typ w cb 167) : Cur g w' i :=
  h.keeps o (h.tc.ne t (by decide)) (fun hn => (h.tr hn).ne t (by decide)) (h.tp.ne t (by decide))
theorem Typ.set {w : World} {b : Nat} {T : TypeId} (h : Typ w b T) {p : Addr} {v : Value} : Typ (w.setCell p v) b T := h.setCell p v

set_option maxRecDepth 100000 in
set_option maxHeartbeats 1600000 in
theorem substitution_ok (g : CG) (pp cb : Nat) (w : World) (i : Nat) (h : Cur g w i) (hp : Lead g pp w) (c : Adz.Cmd) (hc : CmdAt w cb c) (c' : Adz.Cmd) (i' : Nat) (hr : Adz.substitution g.L g.pl c i = .ok (c', i')) :
    Calls Tryz.prog 150 #[.pointer (some ⟨pp, 0, none⟩), .pointer (some ⟨cb, 0, none⟩)] w fun e w' => e = .returned (.pointer none) ∧ CmdAt w' cb c' ∧ Cur g w' i' ∧ Only (fun b => b = g.c ∨ b = cb) w w' := by
  unfold Adz.substitution at hr
  by_cases h47 : Adz.peek g.L i = 47
  · have b47 : (Adz.peek g.L i != 47) = false := by simp [h47]
    rw [b47] at hr
    simp only [Bool.false_eq_true, if_false] at hr
    cases hpr : Adz.patRead g.L g.pl (i + 1) with
    | error f => rw [hpr] at hr; cases hr
    | ok q =>
      obtain ⟨p, i1⟩ := q
      rw [hpr] at hr
      simp only at hr
      cases hrp : Adz.replacement g.L g.pl p.groups (g.L.length + 1) [] i1 with
      | error f => rw [hrp] at hr; cases hr
      | ok q =>
        obtain ⟨r, i2⟩ := q
        rw [hrp] at hr
        simp only at hr
        have HP : Hid (Adz.patRead g.L g.pl (i + 1) = .ok (p, i1)) := hpr
        have HRp : Hid (Adz.replacement g.L g.pl p.groups (g.L.length + 1) [] i1 = .ok (r, i2)) := hrp
        have HF : Hid (Adz.flags g.L g.pl (g.L.length + 1) { c with pat := p, repl := r } i2 = .ok (c', i')) := hr
        have q0 := hp.at0
        have ncb : cb ≠ g.c := hc.typ.ne h.tc (by decide)
        have npp : pp ≠ cb := hp.typ.ne hc.typ (by decide)
        clear hpr hrp hr b47
        go_enter Tryz.func150, Tryz.ntmps150
        go_wp2_with fail
        refine (take_yes g w i 47 h h47 (by omega)).mono ?_
        rintro e w1 ⟨rfl, hc1, ho1⟩
        have l1 := hp.moved ho1
        have q1 := l1.at0
        have m1 := hc.keeps ho1 h.spares ncb
        go_wp2_with fail
        refine (patRead_ok g w1 (i + 1) hc1 p i1 HP.out).mono ?_
        rintro e w2 ⟨iv, rfl, hit, hc2, ho2⟩
        obtain ⟨svs, hit2, hit3⟩ := hit
        obtain ⟨ia, ic, rfl⟩ := row_shape hit2
        have l2 := l1.moved ho2
        have q2 := l2.at0
        have m2 := m1.keeps ho2 hc1.spares ncb
        obtain ⟨av, iv0, rv0, fv, tv, k2, d2⟩ := m2.deep
        have k6 := k2 6 _ rfl
        have k7 := k2 7 _ rfl
        go_wp2_with fail
        have o3 : Only (· = cb) w2 ((w2.setCell ⟨cb, 6, none⟩ (.slice ia p.items.length ic)).setCell ⟨cb, 7, none⟩ (.int .i64 p.groups)) := only2 (only_set _ _ _ _) (only_set _ _ _ _)
        have sp2 : Spares w2 (· = cb) := spares_one m2.typ (by decide)
        have k3 : Cells ((w2.setCell ⟨cb, 6, none⟩ (.slice ia p.items.length ic)).setCell ⟨cb, 7, none⟩ (.int .i64 p.groups)) cb (cmdCells { c with pat := p } av (.slice ia p.items.length ic) rv0 fv tv) := (k2.set 6 _).set 7 _
        have t3 : Typ ((w2.setCell ⟨cb, 6, none⟩ (.slice ia p.items.length ic)).setCell ⟨cb, 7, none⟩ (.int .i64 p.groups)) cb 167 := m2.typ.set.set
        have hc3 := hc2.aside o3 m2.typ
        have l3 := l2.keeps o3 npp
        have d3 := d2.keeps o3 sp2
        have i3 : ItemsAt ((w2.setCell ⟨cb, 6, none⟩ (.slice ia p.items.length ic)).setCell ⟨cb, 7, none⟩ (.int .i64 p.groups)) (.slice ia p.items.length ic) p.items := ItemsAt.keeps ⟨svs, hit2, hit3⟩ o3 sp2.item sp2.span
        generalize (w2.setCell ⟨cb, 6, none⟩ (.slice ia p.items.length ic)).setCell ⟨cb, 7, none⟩ (.int .i64 p.groups) = w3 at *
        clear k6 k7 k2 d2
        refine (replacement_ok g pp w3 i1 hc3 l3 p.groups r i2 HRp.out).mono ?_
        rintro e w4 ⟨rv, rfl, hrv, hc4, ho4⟩
        obtain ⟨ra, rc, rfl⟩ := row_shape hrv
        have l4 := l3.moved ho4
        have t4 := t3.keeps ho4 ncb
        have k4 := k3.keeps ho4 ncb
        have d4 := d3.keeps ho4 hc3.spares
        have i4 := i3.keeps ho4 hc3.spares.item hc3.spares.span
        have k8 := k4 8 _ rfl
        go_wp2_with fail
        have o5 : Only (· = cb) w4 (w4.setCell ⟨cb, 8, none⟩ (.slice ra r.length rc)) := only_set _ _ _ _
        have sp4 : Spares w4 (· = cb) := spares_one t4 (by decide)
        have k5 : Cells (w4.setCell ⟨cb, 8, none⟩ (.slice ra r.length rc)) cb (cmdCells { c with pat := p, repl := r } av (.slice ia p.items.length ic) (.slice ra r.length rc) fv tv) := k4.set 8 _
        have t5 : Typ (w4.setCell ⟨cb, 8, none⟩ (.slice ra r.length rc)) cb 167 := t4.set
        have hc5 := hc4.aside o5 t4
        have l5 := l4.keeps o5 npp
        have d5 := d4.keeps o5 sp4
        have i5 := i4.keeps o5 sp4.item sp4.span
        have r5 : PartsAt (w4.setCell ⟨cb, 8, none⟩ (.slice ra r.length rc)) (.slice ra r.length rc) r := PartsAt.keeps hrv o5 sp4.part
        generalize w4.setCell ⟨cb, 8, none⟩ (.slice ra r.length rc) = w5 at *
        have f5 : FlagCells w5 cb { c with pat := p, repl := r } := ⟨(k5 9 _ rfl).1, (k5 10 _ rfl).1, (k5 11 _ rfl).1, (k5 9 _ rfl).2, (k5 10 _ rfl).2, (k5 11 _ rfl).2, t5⟩
        refine (flags_ok g pp cb w5 i2 hc5 l5 _ f5 c' i' HF.out).mono ?_
        rintro e w6 ⟨rfl, f6, hc6, o6, kp6⟩
        go_wp2
        go_ret
        have hsame := Adz.flags_same HF.out
        have sp5 : Spares w5 (fun b => b = g.c ∨ b = cb) := hc5.spares.or (spares_one t5 (by decide))
        have d6 := d5.keeps o6 sp5
        refine ⟨rfl, ⟨f6.typ, av, .slice ia p.items.length ic, .slice ra r.length rc, fv, tv, ?_, ?_⟩, hc6, ?_⟩
        · have hcells : cmdCells c' av (.slice ia p.items.length ic) (.slice ra r.length rc) fv tv = (((cmdCells { c with pat := p, repl := r } av (.slice ia p.items.length ic) (.slice ra r.length rc) fv tv).set 9 (.bool c'.all)).set 10 (.bool c'.print)).set 11 (.int .i64 c'.nth) := by
            rw [hsame]
            rfl
          intro j v hv
          rw [hcells] at hv
          by_cases j11 : j = 11
          · subst j11
            rw [List.getElem?_set_self (by simp [cmdCells])] at hv
            cases hv
            exact ⟨f6.n, f6.fn⟩
          · rw [List.getElem?_set_ne (Ne.symm j11)] at hv
            by_cases j10 : j = 10
            · subst j10
              rw [List.getElem?_set_self (by simp [cmdCells])] at hv
              cases hv
              exact ⟨f6.p, f6.fp⟩
            · rw [List.getElem?_set_ne (Ne.symm j10)] at hv
              by_cases j9 : j = 9
              · subst j9
                rw [List.getElem?_set_self (by simp [cmdCells])] at hv
                cases hv
                exact ⟨f6.a, f6.fa⟩
              · rw [List.getElem?_set_ne (Ne.symm j9)] at hv
                have nf : ¬ isFlag j := by rintro (e | e | e); exact j9 e; exact j10 e; exact j11 e
                exact ⟨(kp6.cells j nf).trans (k5 j v hv).1, (kp6.frozen j).trans (k5 j v hv).2⟩
        · rw [hsame]
          exact ⟨d6.a, i5.keeps o6 sp5.item sp5.span, r5.keeps o6 sp5.part, d6.f, d6.t⟩
        · have oa : Only (· = g.c) w w2 := ho1.trans ho2 (fun _ e => e) (fun _ _ e => e)
          have ob : Only (fun b => b = g.c ∨ b = cb) w w3 := oa.trans o3 (fun _ e => Or.inl e) (fun _ _ e => Or.inr e)
          have oc : Only (fun b => b = g.c ∨ b = cb) w w4 := ob.trans ho4 (fun _ e => e) (fun _ _ e => Or.inl e)
          have od : Only (fun b => b = g.c ∨ b = cb) w w5 := oc.trans o5 (fun _ e => e) (fun _ _ e => Or.inr e)
          exact od.trans o6 (fun _ e => e) (fun _ _ e => e)
  · simp [h47] at hr
end Go.Proofs.YtbiobhghnldckaaGreatDoor
