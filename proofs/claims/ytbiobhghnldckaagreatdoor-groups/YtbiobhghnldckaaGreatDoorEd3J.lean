/- Proved: one cycle of the editor over a program that is one s. Conditions: the editor and the program lie in memory. -/
import Derived.Test.YtbiobhghnldckaaGreatDoorEd2
namespace Go.Proofs.YtbiobhghnldckaaGreatDoor
open Go.RowKit
set_option linter.unusedVariables false

/-- A command s without an address lies in memory. -/
structure OneCmd (w : World) (g : Nat) (c : Adz.Cmd) : Prop where
  what : w.cell? ⟨g, 0, none⟩ = some (.int .i32 115)
  addrs : ∃ aa ac, w.cell? ⟨g, 1, none⟩ = some (.slice aa 0 ac)
  neg : w.cell? ⟨g, 2, none⟩ = some (.bool false)
  sub : SubAt w g 6 c
theorem OneCmd.keeps {S : Nat → Prop} {w w' : World} {g : Nat} {c : Adz.Cmd} (h : OneCmd w g c) (o : Only S w w') (h1 : ∀ b, Typ w b 167 → ¬ S b) (h2 : ∀ b, Typ w b 270 → ¬ S b) (h3 : ∀ b, Typ w b 284 → ¬ S b) (h4 : ∀ b, Typ w b 240 → ¬ S b) : OneCmd w' g c := by
  obtain ⟨aa, ac, ha⟩ := h.addrs
  have n := h1 _ h.sub.typ
  exact ⟨o.keeps h.what n, ⟨aa, ac, o.keeps ha n⟩, o.keeps h.neg n, h.sub.keeps o h1 h2 h3 h4⟩
/-- .. over what the editor's own functions turn. -/
theorem OneCmd.ed {w w' : World} {g eb : Nat} {c : Adz.Cmd} (h : OneCmd w g c) (he : Typ w eb 108) (o : Only (fun b => b = eb ∨ (Typ w b 5 ∧ eb ≤ b) ∨ (Typ w b 258 ∧ eb ≤ b)) w w') : OneCmd w' g c := by
  have k : ∀ {T : TypeId}, T ≠ 108 → T ≠ 5 → T ≠ 258 → ∀ b, Typ w b T → ¬ (b = eb ∨ (Typ w b 5 ∧ eb ≤ b) ∨ (Typ w b 258 ∧ eb ≤ b)) := fun n1 n2 n3 b hb e => by
    rcases e with e | e | e
    · subst e; exact n1 (hb.one he)
    · exact n2 (hb.one e.1)
    · exact n3 (hb.one e.1)
  exact h.keeps o (k (by decide) (by decide) (by decide)) (k (by decide) (by decide) (by decide)) (k (by decide) (by decide) (by decide)) (k (by decide) (by decide) (by decide))

set_option maxRecDepth 100000 in
set_option maxHeartbeats 1600000 in
theorem means0 (eb g cap : Nat) (w : World) (h0 : w.cell? ⟨eb, 0, none⟩ = some (.slice (some ⟨g, 0, none⟩) 1 cap)) (aa : Option Addr) (ac : Nat) (ha : w.cell? ⟨g, 1, none⟩ = some (.slice aa 0 ac)) :
    Calls Tryz.prog 95 #[.pointer (some ⟨eb, 0, none⟩), .int .i64 0] w fun e w' => e = .returned (.bool true) ∧ w' = w := by
  go_enter Tryz.func95, Tryz.ntmps95
  go_wp2
  go_ret
  exact ⟨rfl, rfl⟩

/-- What one s asks of a space, so that nothing goes wrong. -/
structure Fine (sp : List Int) (c : Adz.Cmd) : Prop where
  k : c.pat.items.length ≤ 1000
  f : ∀ x ∈ c.pat.items, x.spans.length ≤ 1000
  n : sp.length ≤ 400
  g : ∀ x ∈ c.pat.items, 1 ≤ x.group ∧ x.group ≤ 9 ∨ (x.kind ≠ 2 ∧ x.kind ≠ 3)
  pl : c.repl.length ≤ 1000
  ok : Adz.okRun sp c.nth c.all c.repl (Adz.matches_ sp c.pat.items) 0 0 []
  pr : c.print = false
  less : (Adz.subst sp c).length ≤ 400

theorem sub_ed (c : Adz.Cmd) (g eb : Nat) (w : World) (l : List Value) (out : List UInt8) (h : Ed w eb l out) (hc : OneCmd w g c) (ra : Option Addr) (rc : Nat) (sp : List Int) (h4 : l[4]? = some (.slice ra sp.length rc)) (r8 : Bool) (h8 : l[8]? = some (.bool r8)) (hsl : Sl w ra sp) (hrc : sp.length ≤ rc) (hf : Fine sp c) :
    Calls Tryz.prog 135 #[.pointer (some ⟨eb, 0, none⟩), .pointer (some ⟨g, 6, none⟩)] w fun e w' => (∃ v, e = .returned v) ∧ ∃ a' c' b8, Ed w' eb ((l.set 4 (.slice a' (Adz.subst sp c).length c')).set 8 (.bool b8)) out ∧ Sl w' a' (Adz.subst sp c) ∧ (Adz.subst sp c).length ≤ c' ∧ Only (· = eb) w w' := by
  obtain ⟨p, a, c0, g1, g2, g3⟩ := h.cells
  refine (callsIn_wide.1 (substitute_calls c g 6 eb w hc.sub ra rc sp h.typ _ g1 (by rw [List.getElem?_set_ne (by omega), List.getElem?_set_ne (by omega)]; exact h4) r8 (by rw [List.getElem?_set_ne (by omega), List.getElem?_set_ne (by omega)]; exact h8) hf.pr hsl hrc hf.k hf.f (by have := hf.n; omega) hf.g hf.pl hf.ok)).mono ?_
  rintro e w' ⟨he, a', c', v8, q1, ⟨b8, rfl⟩, q2, q3, q4, q5, q6⟩
  refine ⟨he, a', c', b8, ⟨⟨p, a, c0, ?_, g2, ?_⟩, q6.trans h.shape, q4, by rw [List.length_set, List.length_set]; exact h.len⟩, q2, q3, q5⟩
  · rwa [List.set_comm _ _ (by omega : 14 ≠ 4), List.set_comm _ _ (by omega : 13 ≠ 4), List.set_comm _ _ (by omega : 14 ≠ 8), List.set_comm _ _ (by omega : 13 ≠ 8)] at q1
  · refine row_keeps g3 q5 (fun b hb e => ?_)
    subst e; exact absurd ((Typ.of_row g3 hb).one h.typ) (by decide)

set_option maxRecDepth 100000 in
set_option maxHeartbeats 1600000 in
theorem do_s (c : Adz.Cmd) (g eb : Nat) (w : World) (l : List Value) (out : List UInt8) (h : Ed w eb l out) (hc : OneCmd w g c) (ra : Option Addr) (rc : Nat) (sp : List Int) (h4 : l[4]? = some (.slice ra sp.length rc)) (r8 : Bool) (h8 : l[8]? = some (.bool r8)) (hsl : Sl w ra sp) (hrc : sp.length ≤ rc) (hf : Fine sp c) :
    Calls Tryz.prog 96 #[.pointer (some ⟨eb, 0, none⟩), .pointer (some ⟨g, 0, none⟩)] w fun e w' => (∃ v, e = .returned v) ∧ ∃ a' c' b8, Ed w' eb ((l.set 4 (.slice a' (Adz.subst sp c).length c')).set 8 (.bool b8)) out ∧ Sl w' a' (Adz.subst sp c) ∧ (Adz.subst sp c).length ≤ c' ∧ Only (· = eb) w w' := by
  have q0 := hc.what
  have hcall := sub_ed c g eb w l out h hc ra rc sp h4 r8 h8 hsl hrc hf
  go_enter Tryz.func96, Tryz.ntmps96
  go_wp2_with fail
  refine hcall.mono ?_
  rintro e w1 ⟨⟨v, rfl⟩, hh⟩
  go_wp2
  go_end0
  exact ⟨⟨_, rfl⟩, hh⟩
end Go.Proofs.YtbiobhghnldckaaGreatDoor

/- Proved: one cycle of the editor over a program that is one s. Conditions: the editor and the program lie in memory. -/
namespace Go.Proofs.YtbiobhghnldckaaGreatDoor
open Go.RowKit
set_option linter.unusedVariables false

theorem ed_only {w w' w2 : World} {eb : Nat} {S T : Nat → Prop} (o : Only S w w') (o2 : Only T w' w2) (h1 : ∀ b, S b → b = eb ∨ (Typ w b 5 ∧ eb ≤ b) ∨ (Typ w b 258 ∧ eb ≤ b)) (h2 : ∀ b, T b → b = eb ∨ (Typ w' b 5 ∧ eb ≤ b) ∨ (Typ w' b 258 ∧ eb ≤ b)) : Only (fun b => b = eb ∨ (Typ w b 5 ∧ eb ≤ b) ∨ (Typ w b 258 ∧ eb ≤ b)) w w2 := by
  refine o.trans o2 h1 (fun b hb e => ?_)
  by_cases hs : S b
  · exact h1 b hs
  · have ty : ∀ {T : TypeId}, Typ w' b T → Typ w b T := fun ⟨cur, fz, e⟩ => ⟨cur, fz, (o.block b hb hs).symm.trans e⟩
    rcases h2 b e with e | e | e
    · exact Or.inl e
    · exact Or.inr (Or.inl ⟨ty e.1, e.2⟩)
    · exact Or.inr (Or.inr ⟨ty e.1, e.2⟩)

set_option maxRecDepth 100000 in
set_option maxHeartbeats 1600000 in
theorem step_s (c : Adz.Cmd) (g cap eb : Nat) (w : World) (l : List Value) (out : List UInt8) (h : Ed w eb l out) (hc : OneCmd w g c) (h0 : l[0]? = some (.slice (some ⟨g, 0, none⟩) 1 cap)) (h15 : l[15]? = some (.int .i64 0)) (h9 : l[9]? = some (.int .i64 0)) (st : Nat) (h12 : l[12]? = some (.int .i64 st)) (hst : st < 5000) (ha : Option Addr) (m hcc : Nat) (h5 : l[5]? = some (.slice ha m hcc)) (hm : m ≤ 400)
    (ra : Option Addr) (rc : Nat) (sp : List Int) (h4 : l[4]? = some (.slice ra sp.length rc)) (r8 : Bool) (h8 : l[8]? = some (.bool r8)) (hsl : Sl w ra sp) (hrc : sp.length ≤ rc) (hf : Fine sp c) :
    Calls Tryz.prog 71 #[.pointer (some ⟨eb, 0, none⟩)] w fun e w' => (∃ v, e = .returned v) ∧ ∃ a' c' b8, Ed w' eb ((((l.set 12 (.int .i64 ((st : Int) + 1))).set 9 (.int .i64 1)).set 4 (.slice a' (Adz.subst sp c).length c')).set 8 (.bool b8)) out ∧ Sl w' a' (Adz.subst sp c) ∧ (Adz.subst sp c).length ≤ c' ∧ Only (fun b => b = eb ∨ (Typ w b 5 ∧ eb ≤ b) ∨ (Typ w b 258 ∧ eb ≤ b)) w w' := by
  go_enter Tryz.func71, Tryz.ntmps71
  go_wp2_with fail
  refine (checkSpace_ok eb w l out h h15 ra ha sp.length m rc hcc h4 h5 hf.n hm).mono ?_
  rintro e w1 ⟨⟨v1, rfl⟩, o1⟩
  have hE1 := h.keeps o1 id (fun _ _ => id)
  go_wp2_with fail
  refine (countStep_ok eb w1 l out hE1 h15 st h12 hst).mono ?_
  rintro e w2 ⟨⟨v2, rfl⟩, hE2, o2⟩
  have g15 : (l.set 12 (.int .i64 ((st : Int) + 1)))[15]? = some (.int .i64 0) := by rw [List.getElem?_set_ne (by omega)]; exact h15
  have g9 : (l.set 12 (.int .i64 ((st : Int) + 1)))[9]? = some (.int .i64 0) := by rw [List.getElem?_set_ne (by omega)]; exact h9
  have g0 : (l.set 12 (.int .i64 ((st : Int) + 1)))[0]? = some (.slice (some ⟨g, 0, none⟩) 1 cap) := by rw [List.getElem?_set_ne (by omega)]; exact h0
  have c15 := (hE2.get 15 (by omega) _ g15).1
  have c9 := hE2.get 9 (by omega) _ g9
  have q9 := c9.1
  have f9 := c9.2
  have c0 := (hE2.get 0 (by omega) _ g0).1
  clear c9
  go_wp2_with fail
  refine (goesOn_calls eb _ 0 c15).mono ?_
  rintro e w3 ⟨rfl, rfl⟩
  have hE3 := hE2.set 9 (by omega) (.int .i64 1)
  have o3 := only_set w3 eb 9 (.int .i64 1)
  have o13 : Only (fun b => b = eb ∨ (Typ w b 5 ∧ eb ≤ b) ∨ (Typ w b 258 ∧ eb ≤ b)) w (w3.setCell ⟨eb, 9, none⟩ (.int .i64 1)) := (o1.trans (only2 o2 o3) (fun _ e => e.elim) (fun _ _ e => Or.inl e))
  have hc3 := hc.ed h.typ o13
  go_wp2_with fail
  have hsl3 := hsl.keeps o13 (fun b o e => by
    rcases hsl with ⟨e2, _⟩ | ⟨rb, ro, e2, ht, _⟩
    · rw [e2] at e; cases e
    · rw [e2] at e; injection e with e; injection e with e1 e2; subst e1
      intro e3
      rcases e3 with e3 | e3 | e3
      · subst e3; exact absurd (ht.one h.typ) (by decide)
      · exact absurd (ht.one e3.1) (by decide)
      · exact absurd (ht.one e3.1) (by decide))
  generalize w3.setCell ⟨eb, 9, none⟩ (.int .i64 1) = u at *
  obtain ⟨aa, ac, haa⟩ := hc3.addrs
  have k0 : ((l.set 12 (.int .i64 ((st : Int) + 1))).set 9 (.int .i64 1))[0]? = some (.slice (some ⟨g, 0, none⟩) 1 cap) := by rw [List.getElem?_set_ne (by omega)]; exact g0
  have cu0 := (hE3.get 0 (by omega) _ k0).1
  have hmm : ∀ k, Calls Tryz.prog 95 #[.pointer (some ⟨eb, 0, none⟩), .int .i64 0] (u.drewN k) fun e w' => e = .returned (.bool true) ∧ w' = u.drewN k := fun k => means0 eb g cap (u.drewN k) cu0 aa ac haa
  have hn2 := hc3.neg
  go_quiet ((go_at_call 95; exact (hmm _).mono (fun e w1 ⟨he, hw1⟩ => ⟨he, _, hw1⟩)))
  have oq : Only (fun _ => False) u (u.drewN nq) := (Only.refl _ u).drewN nq
  have hE4 := hE3.keeps oq id (fun _ _ => id)
  have hc4 := hc3.keeps oq (fun _ _ => id) (fun _ _ => id) (fun _ _ => id) (fun _ _ => id)
  have hsl4 := hsl3.keeps oq (fun _ _ _ => id)
  generalize u.drewN nq = u4 at *
  have k4 : ((l.set 12 (.int .i64 ((st : Int) + 1))).set 9 (.int .i64 1))[4]? = some (.slice ra sp.length rc) := by rw [List.getElem?_set_ne (by omega), List.getElem?_set_ne (by omega)]; exact h4
  have k8 : ((l.set 12 (.int .i64 ((st : Int) + 1))).set 9 (.int .i64 1))[8]? = some (.bool r8) := by rw [List.getElem?_set_ne (by omega), List.getElem?_set_ne (by omega)]; exact h8
  have hcall := do_s c g eb u4 _ out hE4 hc4 ra rc sp k4 r8 k8 hsl4 hrc hf
  have o14 := o13.trans oq (fun _ e => e) (fun _ _ e => e.elim)
  clear hmm cu0 haa hn2 hE3 hc3 hsl3 o13 o3 oq c0 q9 f9 c15
  go_wp2_with fail
  refine hcall.mono ?_
  rintro e w5 ⟨⟨v5, rfl⟩, a', c', b8, r1, r2, r3, r4⟩
  go_wp2
  go_end0
  exact ⟨⟨_, rfl⟩, a', c', b8, r1, r2, r3, ed_only o14 r4 (fun _ e => e) (fun b e => Or.inl e)⟩
end Go.Proofs.YtbiobhghnldckaaGreatDoor
