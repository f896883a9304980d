/- Proved: the editor's small functions, where nothing is wrong. Conditions: the editor lies in memory as 'Ed' says. -/
import Derived.Test.YtbiobhghnldckaaGreatDoorEd1
import Derived.Test.YtbiobhghnldckaaGreatDoorSub4
namespace Go.Proofs.YtbiobhghnldckaaGreatDoor
open Go.RowKit
set_option linter.unusedVariables false

set_option maxRecDepth 100000 in
set_option maxHeartbeats 1600000 in
theorem checkSpace_ok (eb : Nat) (w : World) (l : List Value) (out : List UInt8) (h : Ed w eb l out) (h15 : l[15]? = some (.int .i64 0)) (ra ha : Option Addr) (n m rc hc : Nat) (h4 : l[4]? = some (.slice ra n rc)) (h5 : l[5]? = some (.slice ha m hc)) (hn : n ≤ 400) (hm : m ≤ 400) :
    Calls Tryz.prog 93 #[.pointer (some ⟨eb, 0, none⟩)] w fun e w' => (∃ v, e = .returned v) ∧ Only (fun _ => False) w w' := by
  have c15 := (h.get 15 (by omega) _ h15).1
  have c4 := (h.get 4 (by omega) _ h4).1
  have c5 := (h.get 5 (by omega) _ h5).1
  have hg : ∀ k, Calls Tryz.prog 44 #[.pointer (some ⟨eb, 0, none⟩)] (w.drewN k) fun e w' => e = .returned (.bool true) ∧ w' = w.drewN k := fun k => goesOn_calls eb (w.drewN k) 0 c15
  have d2 : decide ((400 : Int) < max (n : Int) m) = false := by simp; omega
  go_enter Tryz.func93, Tryz.ntmps93
  go_wp2_with fail
  go_quiet ((go_at_call 44; exact (hg _).mono (fun e w1 ⟨he, hw1⟩ => ⟨he, _, hw1⟩)))
  go_wp2
  go_end0
  exact ⟨⟨_, rfl⟩, (Only.refl _ w).drewN _⟩

set_option maxRecDepth 100000 in
set_option maxHeartbeats 1600000 in
theorem countStep_ok (eb : Nat) (w : World) (l : List Value) (out : List UInt8) (h : Ed w eb l out) (h15 : l[15]? = some (.int .i64 0)) (st : Nat) (h12 : l[12]? = some (.int .i64 st)) (hst : st < 5000) :
    Calls Tryz.prog 94 #[.pointer (some ⟨eb, 0, none⟩)] w fun e w' => (∃ v, e = .returned v) ∧ Ed w' eb (l.set 12 (.int .i64 ((st : Int) + 1))) out ∧ Only (· = eb) w w' := by
  have c12 := h.get 12 (by omega) _ h12
  have q1 := c12.1
  have q2 := c12.2
  have hw : IntKind.i64.wrap ((st : Int) + 1) = (st : Int) + 1 := by rw [IntKind.wrap_i64]; omega
  have hE := h.set 12 (by omega) (.int .i64 ((st : Int) + 1))
  have c15 := (hE.get 15 (by omega) (.int .i64 0) (by rw [List.getElem?_set_ne (by omega)]; exact h15)).1
  have d1 : decide ((5000 : Int) < (st : Int) + 1) = false := by simp; omega
  have hO := only_set w eb 12 (.int .i64 ((st : Int) + 1))
  go_enter Tryz.func94, Tryz.ntmps94
  go_wp2_with fail
  refine (goesOn_calls eb _ 0 c15).mono ?_
  rintro e w1 ⟨rfl, rfl⟩
  go_wp2
  go_end0
  exact ⟨⟨_, rfl⟩, hE, hO⟩

set_option maxRecDepth 100000 in
set_option maxHeartbeats 1600000 in
theorem tellQueue_none (eb : Nat) (w : World) (l : List Value) (out : List UInt8) (h : Ed w eb l out) (c : Nat) (a : Option Addr) (h6 : l[6]? = some (.slice a 0 c)) :
    Calls Tryz.prog 98 #[.pointer (some ⟨eb, 0, none⟩)] w fun e w' => (∃ v, e = .returned v) ∧ Ed w' eb (l.set 6 (.slice none 0 0)) out ∧ Only (· = eb) w w' := by
  have c6 := h.get 6 (by omega) _ h6
  have q1 := c6.1
  have q2 := c6.2
  have hE := h.set 6 (by omega) (.slice none 0 0)
  have hO := only_set w eb 6 (.slice none 0 0)
  go_enter Tryz.func98, Tryz.ntmps98
  go_wp2_with fail
  go_loopg [9] 0 (fun k v wr => v = .int .i64 0 ∧ wr = w)
  case atStart => exact ⟨rfl, rfl⟩
  case round =>
    obtain ⟨rfl, rfl⟩ := hrel
    go_wp2
    go_end0
    exact ⟨⟨_, rfl⟩, hE, hO⟩

theorem Sl.of_space {w : World} {b : Nat} {sp : List Int} (h : SpaceAt w (some ⟨b, 0, none⟩) sp) (ht : Typ w b 21) : Sl w (some ⟨b, 0, none⟩) sp := by
  refine Or.inr ⟨b, 0, rfl, ht, fun j hj => ?_⟩
  obtain ⟨rb, ro, e, _, hc⟩ := h (by intro e; simp [e] at hj)
  injection e with e
  injection e with e1 e2
  subst e1; subst e2
  exact hc j hj
theorem run_string_runes (w : World) (a : Option Addr) (c : Nat) (sp : List Int) (h : Sl w a sp) : (convert 103 9 (.slice a sp.length c)).run Tryz.prog w = .ok (.string (runesBytes sp)) w := by
  rcases h with ⟨rfl, rfl⟩ | ⟨rb, ro, rfl, ht, hc⟩
  · exact run_convert_runes_nil w _ _ 21 0 c Tryz.underlying103 Tryz.underlying21 Tryz.underlying9
  · have := run_convert_runes (P := Tryz.prog) w 103 9 21 ⟨rb, ro, none⟩ sp.length c sp (Nat.le_refl _) Tryz.underlying103 Tryz.underlying21 Tryz.underlying9 (fun j hj => by rw [Addr.add_mid]; exact hc j hj)
    rwa [List.take_length] at this

set_option maxRecDepth 100000 in
set_option maxHeartbeats 1600000 in
theorem end_ok (eb : Nat) (w : World) (l : List Value) (out : List UInt8) (h : Ed w eb l out) (h15 : l[15]? = some (.int .i64 0)) (h1 : l[1]? = some (.bool false)) (ra ha qa : Option Addr) (m rc hc qc : Nat) (sp : List Int) (h4 : l[4]? = some (.slice ra sp.length rc)) (hsl : Sl w ra sp) (h5 : l[5]? = some (.slice ha m hc)) (h6 : l[6]? = some (.slice qa 0 qc)) (hn : sp.length ≤ 400) (hm : m ≤ 400) (hlen : out.length + (runesBytes sp).size + 1 ≤ 8000) :
    Calls Tryz.prog 72 #[.pointer (some ⟨eb, 0, none⟩)] w fun e w' => (∃ v, e = .returned v) ∧ Ed w' eb (l.set 6 (.slice none 0 0)) ((out ++ (runesBytes sp).data.toList) ++ [10]) ∧ Only (fun b => b = eb ∨ (Typ w b 5 ∧ eb ≤ b)) w w' := by
  have hcv0 := fun (u : World) (hu : Sl u ra sp) => run_string_runes u ra rc sp hu
  generalize runesBytes sp = tx at *
  go_enter Tryz.func72, Tryz.ntmps72
  go_wp2_with fail
  refine (checkSpace_ok eb w l out h h15 ra ha sp.length m rc hc h4 h5 hn hm).mono ?_
  rintro e w1 ⟨⟨v1, rfl⟩, o1⟩
  have hE1 := h.keeps o1 id (fun _ _ => id)
  have c1 := (hE1.get 1 (by omega) _ h1).1
  have c4 := (hE1.get 4 (by omega) _ h4).1
  have hs1 := hsl.keeps o1 (fun _ _ _ => id)
  have hcv := hcv0 w1 hs1
  clear hcv0
  go_wp2_with fail
  refine (print_ok eb w1 l out hE1 h15 tx hlen).mono ?_
  rintro e w2 ⟨⟨v2, rfl⟩, hE2, o2⟩
  go_wp2_with fail
  refine (tellQueue_none eb w2 l _ hE2 qc qa h6).mono ?_
  rintro e w3 ⟨⟨v3, rfl⟩, hE3, o3⟩
  go_wp2
  go_end0
  have o12 : Only (fun b => b = eb ∨ (Typ w b 5 ∧ eb ≤ b)) w w2 := u8_only h.typ (o1.mono (fun _ _ e => e.elim)) o2
  exact ⟨⟨_, rfl⟩, hE3, o12.trans o3 (fun _ e => e) (fun _ _ e => Or.inl e)⟩

set_option maxRecDepth 100000 in
set_option maxHeartbeats 1600000 in
theorem end_quiet (eb : Nat) (w : World) (l : List Value) (out : List UInt8) (h : Ed w eb l out) (h15 : l[15]? = some (.int .i64 0)) (h1 : l[1]? = some (.bool true)) (ra ha qa : Option Addr) (n m rc hc qc : Nat) (h4 : l[4]? = some (.slice ra n rc)) (h5 : l[5]? = some (.slice ha m hc)) (h6 : l[6]? = some (.slice qa 0 qc)) (hn : n ≤ 400) (hm : m ≤ 400) :
    Calls Tryz.prog 72 #[.pointer (some ⟨eb, 0, none⟩)] w fun e w' => (∃ v, e = .returned v) ∧ Ed w' eb (l.set 6 (.slice none 0 0)) out ∧ Only (fun b => b = eb ∨ (Typ w b 5 ∧ eb ≤ b)) w w' := by
  go_enter Tryz.func72, Tryz.ntmps72
  go_wp2_with fail
  refine (checkSpace_ok eb w l out h h15 ra ha n m rc hc h4 h5 hn hm).mono ?_
  rintro e w1 ⟨⟨v1, rfl⟩, o1⟩
  have hE1 := h.keeps o1 id (fun _ _ => id)
  have c1 := (hE1.get 1 (by omega) _ h1).1
  go_wp2_with fail
  refine (tellQueue_none eb w1 l _ hE1 qc qa h6).mono ?_
  rintro e w3 ⟨⟨v3, rfl⟩, hE3, o3⟩
  go_wp2
  go_end0
  exact ⟨⟨_, rfl⟩, hE3, o1.trans o3 (fun _ e => e.elim) (fun _ _ e => Or.inl e)⟩

set_option maxRecDepth 100000 in
set_option maxHeartbeats 1600000 in
theorem read_ok (eb : Nat) (w : World) (l : List Value) (out : List UInt8) (h : Ed w eb l out) (lb lo n c k : Nat) (s : ByteArray) (h2 : l[2]? = some (.slice (some ⟨lb, lo, none⟩) n c)) (h3 : l[3]? = some (.int .i64 k)) (r8 : Bool) (h8 : l[8]? = some (.bool r8)) (hk : k < n) (hn : n ≤ 4000) (hl : w.cell? ⟨lb, lo + k, none⟩ = some (.string s)) (hs : s.size ≤ 3000) :
    Calls Tryz.prog 70 #[.pointer (some ⟨eb, 0, none⟩)] w fun e w' => ∃ b rc, e = .returned (.slice (some ⟨b, 0, none⟩) (Adz.runes s).length rc) ∧ Sl w' (some ⟨b, 0, none⟩) (Adz.runes s) ∧ (Adz.runes s).length ≤ rc ∧ Ed w' eb ((l.set 3 (.int .i64 ((k : Int) + 1))).set 8 (.bool false)) out ∧ Only (· = eb) w w' := by
  have c2 := (h.get 2 (by omega) _ h2).1
  have c3 := h.get 3 (by omega) _ h3
  have q3 := c3.1
  have f3 := c3.2
  have hw : IntKind.i64.wrap ((k : Int) + 1) = (k : Int) + 1 := by rw [IntKind.wrap_i64]; omega
  have hkk : (k : Int) < n := by omega
  go_enter Tryz.func70, Tryz.ntmps70
  go_wp2_with fail
  go_quiet (fail)
  have hEd := h.keeps (S := fun _ => False) ((Only.refl _ w).drewN nq) id (fun _ _ => id)
  have hO0 : Only (fun _ => False) w (w.drewN nq) := (Only.refl _ w).drewN nq
  generalize w.drewN nq = u at *
  have q3' := (hEd.get 3 (by omega) _ h3).1
  have f3' := (hEd.get 3 (by omega) _ h3).2
  have hE1 := hEd.set 3 (by omega) (.int .i64 ((k : Int) + 1))
  have h8' : (l.set 3 (.int .i64 ((k : Int) + 1)))[8]? = some (.bool r8) := by rw [List.getElem?_set_ne (by omega)]; exact h8
  have q8 := (hE1.get 8 (by omega) _ h8').1
  have f8 := (hE1.get 8 (by omega) _ h8').2
  have hE2 := hE1.set 8 (by omega) (.bool false)
  have hO2 : Only (· = eb) w ((u.setCell ⟨eb, 3, none⟩ (.int .i64 ((k : Int) + 1))).setCell ⟨eb, 8, none⟩ (.bool false)) := only2 ((hO0.trans (only_set u eb 3 (.int .i64 ((k : Int) + 1))) (fun _ e => e.elim) (fun _ _ e => e))) (only_set _ eb 8 (.bool false))
  obtain ⟨rc, w4, hrun, hsp4, ho4, hcap4, ht4⟩ := conv_runes ((u.setCell ⟨eb, 3, none⟩ (.int .i64 ((k : Int) + 1))).setCell ⟨eb, 8, none⟩ (.bool false)) s (by omega)
  have hz : ((u.setCell ⟨eb, 3, none⟩ (.int .i64 ((k : Int) + 1))).setCell ⟨eb, 8, none⟩ (.bool false)).heap.size = u.heap.size := by simp [World.setCell]
  have HS4 : Hid _ := hsp4
  clear hsp4
  have hS4 := HS4.out
  rw [hz] at hS4 ht4
  have HS5 : Hid _ := Sl.of_space hS4 ht4
  clear hS4 HS4 ht4
  go_wp2
  go_ret
  exact ⟨_, rc, rfl, HS5.out, hcap4, hE2.keeps ho4 id (fun _ _ => id), hO2.trans ho4 (fun _ e => e) (fun _ _ e => e.elim)⟩
end Go.Proofs.YtbiobhghnldckaaGreatDoor
