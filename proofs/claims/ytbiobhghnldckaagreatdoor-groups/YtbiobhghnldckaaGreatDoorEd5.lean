/- Proved: one cycle of the editor over a program that is one s. Conditions: the editor and the program lie in memory. -/
import Derived.Test.YtbiobhghnldckaaGreatDoorEd3J
namespace Go.Proofs.YtbiobhghnldckaaGreatDoor
open Go.RowKit
set_option linter.unusedVariables false
/-- What is put out behind a cycle. -/
def Adz.told (q : Bool) (out : List UInt8) (sp : List Int) : List UInt8 := if q then out else (out ++ (runesBytes sp).data.toList) ++ [10]

theorem sl_ed {w w' : World} {eb : Nat} {ra : Option Addr} {sp : List Int} (hsl : Sl w ra sp) (he : Typ w eb 108) (o : Only (fun b => b = eb ∨ (Typ w b 5 ∧ eb ≤ b) ∨ (Typ w b 258 ∧ eb ≤ b)) w w') : Sl w' ra sp := hsl.keeps o (fun b o e => by
    rcases hsl with ⟨e2, _⟩ | ⟨rb, ro, e2, ht, _⟩
    · rw [e2] at e; cases e
    · rw [e2] at e; injection e with e; injection e with e1 e2; subst e1
      intro e3
      rcases e3 with e3 | e3 | e3
      · subst e3; exact absurd (ht.one he) (by decide)
      · exact absurd (ht.one e3.1) (by decide)
      · exact absurd (ht.one e3.1) (by decide))

set_option maxRecDepth 100000 in
set_option maxHeartbeats 3200000 in
theorem cycle_s (c : Adz.Cmd) (g cap eb : Nat) (w : World) (l : List Value) (out : List UInt8) (h : Ed w eb l out) (hc : OneCmd w g c) (h0 : l[0]? = some (.slice (some ⟨g, 0, none⟩) 1 cap)) (q : Bool) (h1 : l[1]? = some (.bool q)) (h15 : l[15]? = some (.int .i64 0)) (st : Nat) (h12 : l[12]? = some (.int .i64 st)) (hst : st < 5000) (ha : Option Addr) (m hcc : Nat) (h5 : l[5]? = some (.slice ha m hcc)) (hm : m ≤ 400) (qa : Option Addr) (qc : Nat) (h6 : l[6]? = some (.slice qa 0 qc))
    (lb lo n lc k : Nat) (s : ByteArray) (h2 : l[2]? = some (.slice (some ⟨lb, lo, none⟩) n lc)) (h3 : l[3]? = some (.int .i64 k)) (hk : k < n) (hn : n ≤ 4000) (hl : w.cell? ⟨lb, lo + k, none⟩ = some (.string s)) (hs : s.size ≤ 3000) (r8 : Bool) (h8 : l[8]? = some (.bool r8)) (hf : Fine (Adz.runes s) c) (hlen : out.length + (runesBytes (Adz.subst (Adz.runes s) c)).size + 1 ≤ 8000) :
    Calls Tryz.prog 46 #[.pointer (some ⟨eb, 0, none⟩)] w fun e w' => (∃ v, e = .returned v) ∧ ∃ l', Ed w' eb l' (Adz.told q out (Adz.subst (Adz.runes s) c)) ∧ l'[15]? = some (.int .i64 0) ∧ l'[3]? = some (.int .i64 ((k : Int) + 1)) ∧ l'[2]? = l[2]? ∧ l'[11]? = l[11]? ∧ Only (fun b => b = eb ∨ (Typ w b 5 ∧ eb ≤ b) ∨ (Typ w b 258 ∧ eb ≤ b)) w w' := by
  have hL := h.len
  have hread := read_ok eb w l out h lb lo n lc k s h2 h3 r8 h8 hk hn hl hs
  generalize Adz.runes s = sp at *
  obtain ⟨v4, h4⟩ : ∃ v, l[4]? = some v := ⟨_, List.getElem?_eq_getElem (by omega)⟩
  obtain ⟨v9, h9⟩ : ∃ v, l[9]? = some v := ⟨_, List.getElem?_eq_getElem (by omega)⟩
  obtain ⟨v10, h10⟩ : ∃ v, l[10]? = some v := ⟨_, List.getElem?_eq_getElem (by omega)⟩
  go_enter Tryz.func46, Tryz.ntmps46
  go_wp2_with fail
  refine hread.mono ?_
  clear hread
  rintro e w1 ⟨b, rc, rfl, hsl1, hrc, hE1, o1⟩
  generalize hl1 : (l.set 3 (.int .i64 ((k : Int) + 1))).set 8 (.bool false) = l1 at *
  have gt : ∀ j v, j ≠ 3 → j ≠ 8 → l[j]? = some v → l1[j]? = some v := fun j v n1 n2 hv => by rw [← hl1, List.getElem?_set_ne (by omega), List.getElem?_set_ne (by omega)]; exact hv
  have g3 : l1[3]? = some (.int .i64 ((k : Int) + 1)) := by rw [← hl1, List.getElem?_set_ne (by omega), List.getElem?_set_self (by omega)]
  have g8 : l1[8]? = some (.bool false) := by rw [← hl1, List.getElem?_set_self (by rw [List.length_set]; omega)]
  have p4 := hE1.get 4 (by omega) _ (gt 4 _ (by omega) (by omega) h4)
  have q4 := p4.1
  have f4 := p4.2
  have hE2 := hE1.set 4 (by omega) (.slice (some ⟨b, 0, none⟩) sp.length rc)
  have p9 := hE2.get 9 (by omega) _ ((List.getElem?_set_ne (by omega)).trans (gt 9 _ (by omega) (by omega) h9))
  have q9 := p9.1
  have f9 := p9.2
  have hE3 := hE2.set 9 (by omega) (.int .i64 0)
  have p10 := hE3.get 10 (by omega) _ ((List.getElem?_set_ne (by omega)).trans ((List.getElem?_set_ne (by omega)).trans (gt 10 _ (by omega) (by omega) h10)))
  have q10 := p10.1
  have f10 := p10.2
  have hE4 := hE3.set 10 (by omega) (.bool false)
  have o4 : Only (· = eb) w _ := only2 (only2 (only2 o1 (only_set w1 eb 4 (.slice (some ⟨b, 0, none⟩) sp.length rc))) (only_set _ eb 9 (.int .i64 0))) (only_set _ eb 10 (.bool false))
  have nb : b ≠ eb := by
    rcases hsl1 with ⟨e, _⟩ | ⟨rb, ro, e, ht, _⟩
    · cases e
    · injection e with e; injection e with e1 e2; subst e1; exact ht.ne hE1.typ (by decide)
  have hsl4 := ((hsl1.keeps (only_set w1 eb 4 (.slice (some ⟨b, 0, none⟩) sp.length rc)) (fun b' o e => by injection e with e; injection e with e1 e2; subst e1; exact nb)).keeps (only_set _ eb 9 (.int .i64 0)) (fun b' o e => by injection e with e; injection e with e1 e2; subst e1; exact nb)).keeps (only_set _ eb 10 (.bool false)) (fun b' o e => by injection e with e; injection e with e1 e2; subst e1; exact nb)
  clear p4 p9 p10
  go_wp2_with fail
  clear q4 f4 q9 f9 q10 f10 hE1 hE2 hE3
  generalize ((w1.setCell ⟨eb, 4, none⟩ (.slice (some ⟨b, 0, none⟩) sp.length rc)).setCell ⟨eb, 9, none⟩ (.int .i64 0)).setCell ⟨eb, 10, none⟩ (.bool false) = w4 at *
  generalize hl4 : ((l1.set 4 (.slice (some ⟨b, 0, none⟩) sp.length rc)).set 9 (.int .i64 0)).set 10 (.bool false) = l4 at *
  have hL1 : l1.length = 16 := by rw [← hl1, List.length_set, List.length_set]; exact hL
  have gu : ∀ j v, j ≠ 3 → j ≠ 8 → j ≠ 4 → j ≠ 9 → j ≠ 10 → l[j]? = some v → l4[j]? = some v := fun j v n1 n2 n3 n4 n5 hv => by rw [← hl4, List.getElem?_set_ne (by omega), List.getElem?_set_ne (by omega), List.getElem?_set_ne (by omega)]; exact gt j v n1 n2 hv
  have e3 : l4[3]? = some (.int .i64 ((k : Int) + 1)) := by rw [← hl4, List.getElem?_set_ne (by omega), List.getElem?_set_ne (by omega), List.getElem?_set_ne (by omega)]; exact g3
  have e8 : l4[8]? = some (.bool false) := by rw [← hl4, List.getElem?_set_ne (by omega), List.getElem?_set_ne (by omega), List.getElem?_set_ne (by omega)]; exact g8
  have e4 : l4[4]? = some (.slice (some ⟨b, 0, none⟩) sp.length rc) := by rw [← hl4, List.getElem?_set_ne (by omega), List.getElem?_set_ne (by omega), List.getElem?_set_self (by omega)]
  have e9 : l4[9]? = some (.int .i64 0) := by rw [← hl4, List.getElem?_set_ne (by omega), List.getElem?_set_self (by rw [List.length_set]; omega)]
  have e10 : l4[10]? = some (.bool false) := by rw [← hl4, List.getElem?_set_self (by rw [List.length_set, List.length_set]; omega)]
  have oo4 : Only (fun b => b = eb ∨ (Typ w b 5 ∧ eb ≤ b) ∨ (Typ w b 258 ∧ eb ≤ b)) w w4 := o4.mono (fun _ _ e => Or.inl e)
  have hc4 := hc.ed h.typ oo4
  go_loopg [] 1 (fun k wr => (k = 1 ∧ wr = w4) ∨ (k = 0 ∧ ∃ a' c' b8 l5, l5 = (((l4.set 12 (.int .i64 ((st : Int) + 1))).set 9 (.int .i64 1)).set 4 (.slice a' (Adz.subst sp c).length c')).set 8 (.bool b8) ∧ Hid (Ed wr eb l5 out) ∧ Hid (Sl wr a' (Adz.subst sp c)) ∧ Hid (Only (fun b => b = eb ∨ (Typ w b 5 ∧ eb ≤ b) ∨ (Typ w b 258 ∧ eb ≤ b)) w wr)))
  case atStart => exact Or.inl ⟨rfl, rfl⟩
  case round =>
    rcases hrel with ⟨rfl, rfl⟩ | ⟨rfl, a', c', b8, l5, hl5, hE5, hsl5, o5⟩
    · have d15 := (hE4.get 15 (by omega) _ (gu 15 _ (by omega) (by omega) (by omega) (by omega) (by omega) h15)).1
      have d9 := (hE4.get 9 (by omega) _ e9).1
      have d0 := (hE4.get 0 (by omega) _ (gu 0 _ (by omega) (by omega) (by omega) (by omega) (by omega) h0)).1
      have hg : ∀ k, Calls Tryz.prog 44 #[.pointer (some ⟨eb, 0, none⟩)] (wr.drewN k) fun e w' => e = .returned (.bool true) ∧ w' = wr.drewN k := fun k => goesOn_calls eb (wr.drewN k) 0 d15
      go_wp2_with fail
      go_quiet ((go_at_call 44; exact (hg _).mono (fun e w1 ⟨he, hw1⟩ => ⟨he, _, hw1⟩)))
      have oq : Only (fun _ => False) wr (wr.drewN nq) := (Only.refl _ wr).drewN nq
      have hEq := hE4.keeps oq id (fun _ _ => id)
      have hcq := hc4.keeps oq (fun _ _ => id) (fun _ _ => id) (fun _ _ => id) (fun _ _ => id)
      have hslq := hsl4.keeps oq (fun _ _ _ => id)
      have ooq := oo4.trans oq (fun _ e => e) (fun _ _ e => e.elim)
      generalize wr.drewN nq = u at *
      have hcall := step_s c g cap eb u l4 out hEq hcq (gu 0 _ (by omega) (by omega) (by omega) (by omega) (by omega) h0) (gu 15 _ (by omega) (by omega) (by omega) (by omega) (by omega) h15) e9 st (gu 12 _ (by omega) (by omega) (by omega) (by omega) (by omega) h12) hst ha m hcc (gu 5 _ (by omega) (by omega) (by omega) (by omega) (by omega) h5) hm (some ⟨b, 0, none⟩) rc sp e4 false e8 hslq hrc hf
      clear d15 d9 d0 hg oq
      go_wp2_with fail
      refine hcall.mono ?_
      rintro e w5 ⟨⟨v5, rfl⟩, a', c', b8, r1, r2, r3, r4⟩
      go_wp2
      go_roundg 0
      case measure => omega
      case rel => exact Or.inr ⟨rfl, a', c', b8, _, rfl, r1, r2, ed_only ooq r4 (fun _ e => e) (fun _ e => e)⟩
    · have hE5' : Ed wr eb l5 out := hE5
      have gw : ∀ j v, j ≠ 3 → j ≠ 8 → j ≠ 4 → j ≠ 9 → j ≠ 10 → j ≠ 12 → l[j]? = some v → l5[j]? = some v := fun j v n1 n2 n3 n4 n5 n6 hv => by rw [hl5, List.getElem?_set_ne (by omega), List.getElem?_set_ne (by omega), List.getElem?_set_ne (by omega), List.getElem?_set_ne (by omega)]; exact gu j v n1 n2 n3 n4 n5 hv
      have hL4 := hE4.len
      have i9 : l5[9]? = some (.int .i64 1) := by rw [hl5, List.getElem?_set_ne (by omega), List.getElem?_set_ne (by omega), List.getElem?_set_self (by rw [List.length_set]; omega)]
      have i4 : l5[4]? = some (.slice a' (Adz.subst sp c).length c') := by rw [hl5, List.getElem?_set_ne (by omega), List.getElem?_set_self (by rw [List.length_set, List.length_set]; omega)]
      have i3 : l5[3]? = some (.int .i64 ((k : Int) + 1)) := by rw [hl5, List.getElem?_set_ne (by omega), List.getElem?_set_ne (by omega), List.getElem?_set_ne (by omega), List.getElem?_set_ne (by omega)]; exact e3
      have i10 : l5[10]? = some (.bool false) := by rw [hl5, List.getElem?_set_ne (by omega), List.getElem?_set_ne (by omega), List.getElem?_set_ne (by omega), List.getElem?_set_ne (by omega)]; exact e10
      have j15 := gw 15 _ (by omega) (by omega) (by omega) (by omega) (by omega) (by omega) h15
      have d15 := (hE5'.get 15 (by omega) _ j15).1
      have d9 := (hE5'.get 9 (by omega) _ i9).1
      have d0 := (hE5'.get 0 (by omega) _ (gw 0 _ (by omega) (by omega) (by omega) (by omega) (by omega) (by omega) h0)).1
      have hg : ∀ k, Calls Tryz.prog 44 #[.pointer (some ⟨eb, 0, none⟩)] (wr.drewN k) fun e w' => e = .returned (.bool true) ∧ w' = wr.drewN k := fun k => goesOn_calls eb (wr.drewN k) 0 d15
      go_wp2_with fail
      go_quiet ((go_at_call 44; exact (hg _).mono (fun e w1 ⟨he, hw1⟩ => ⟨he, _, hw1⟩)))
      have oq : Only (fun _ => False) wr (wr.drewN nq) := (Only.refl _ wr).drewN nq
      have hEq := hE5'.keeps oq id (fun _ _ => id)
      have hslq := hsl5.out.keeps oq (fun _ _ _ => id)
      have ooq := o5.out.trans oq (fun _ e => e) (fun _ _ e => e.elim)
      generalize wr.drewN nq = u at *
      clear d15 d9 d0 hg oq hl5 hE5' hE5 hsl5 o5
      have d15 := (hEq.get 15 (by omega) _ j15).1
      have d10 := (hEq.get 10 (by omega) _ i10).1
      have eL : l5.length = 16 := hEq.len
      have f2 : (l5.set 6 (.slice none 0 0))[2]? = l[2]? := by rw [List.getElem?_set_ne (by omega), h2]; exact gw 2 _ (by omega) (by omega) (by omega) (by omega) (by omega) (by omega) h2
      have f11 : (l5.set 6 (.slice none 0 0))[11]? = l[11]? := by
        rw [List.getElem?_set_ne (by omega)]
        obtain ⟨v11, h11⟩ : ∃ v, l[11]? = some v := ⟨_, List.getElem?_eq_getElem (by omega)⟩
        rw [h11]; exact gw 11 _ (by omega) (by omega) (by omega) (by omega) (by omega) (by omega) h11
      have f3 : (l5.set 6 (.slice none 0 0))[3]? = some (.int .i64 ((k : Int) + 1)) := by rw [List.getElem?_set_ne (by omega)]; exact i3
      have f15 : (l5.set 6 (.slice none 0 0))[15]? = some (.int .i64 0) := by rw [List.getElem?_set_ne (by omega)]; exact j15
      have hend : Calls Tryz.prog 72 #[.pointer (some ⟨eb, 0, none⟩)] u fun e w' => (∃ v, e = .returned v) ∧ Ed w' eb (l5.set 6 (.slice none 0 0)) (Adz.told q out (Adz.subst sp c)) ∧ Only (fun b => b = eb ∨ (Typ u b 5 ∧ eb ≤ b)) u w' := by
        cases q with
        | false => exact end_ok eb u l5 out hEq j15 (gw 1 _ (by omega) (by omega) (by omega) (by omega) (by omega) (by omega) h1) a' ha qa m c' hcc qc _ i4 hslq (gw 5 _ (by omega) (by omega) (by omega) (by omega) (by omega) (by omega) h5) (gw 6 _ (by omega) (by omega) (by omega) (by omega) (by omega) (by omega) h6) hf.less hm hlen
        | true => exact end_quiet eb u l5 out hEq j15 (gw 1 _ (by omega) (by omega) (by omega) (by omega) (by omega) (by omega) h1) a' ha qa _ m c' hcc qc i4 (gw 5 _ (by omega) (by omega) (by omega) (by omega) (by omega) (by omega) h5) (gw 6 _ (by omega) (by omega) (by omega) (by omega) (by omega) (by omega) h6) hf.less hm
      go_wp2_with fail
      refine (goesOn_calls eb _ 0 d15).mono ?_
      rintro e w6 ⟨rfl, rfl⟩
      go_wp2_with fail
      refine hend.mono ?_
      rintro e w7 ⟨⟨v7, rfl⟩, hE7, o7⟩
      go_wp2
      go_end0
      exact ⟨⟨_, rfl⟩, _, hE7, f15, f3, f2, f11, ed_only ooq o7 (fun _ e => e) (fun b e => e.imp id Or.inl)⟩
end Go.Proofs.YtbiobhghnldckaaGreatDoor
