/- Proved: an s with p is done among other commands. Conditions: the editor lies in memory as 'EM' says, and the command. -/
import Derived.Test.YtbiobhghnldckaaGreatDoorK20
import Derived.Test.YtbiobhghnldckaaGreatDoorSub6
namespace Go.Proofs.YtbiobhghnldckaaGreatDoor
open Go.RowKit
set_option linter.unusedVariables false

/-- What one s with p asks of a space, so that nothing goes wrong. -/
structure FineP (sp : List Int) (c : Adz.Cmd) : Prop where
  k : c.pat.items.length ≤ 1000
  f : ∀ x ∈ c.pat.items, x.spans.length ≤ 1000
  n : sp.length ≤ 400
  g : ∀ x ∈ c.pat.items, 1 ≤ x.group ∧ x.group ≤ 9 ∨ (x.kind ≠ 2 ∧ x.kind ≠ 3)
  pl : c.repl.length ≤ 1000
  ok : Adz.okRun sp c.nth c.all c.repl (Adz.matches_ sp c.pat.items) 0 0 []
  pr : c.print = true
/-- What is told by it. -/
def Adz.outP (E : Adz.Es) (c : Adz.Cmd) : List UInt8 := if Adz.hit E.sp c = true then Adz.told false E.out (Adz.subst E.sp c) else E.out

theorem subPM (c : Adz.Cmd) (g o : Nat) (w : World) (eb : Nat) (X : Adz.Fx) (E : Adz.Es) (sa ha qa : Option Addr) (sc hc qc : Nat) (h : EM w eb X E sa sc ha hc qa qc) (hs : SubAt w g (o + 6) c) (hf : FineP E.sp c) (hout : E.out.length + (runesBytes (Adz.subst E.sp c)).size + 1 ≤ 8000) :
    Calls Tryz.prog 135 #[.pointer (some ⟨eb, 0, none⟩), .pointer (some ⟨g, o + 6, none⟩)] w fun e w' => (∃ v, e = .returned v) ∧ EMx w' eb X { E with sp := Adz.subst E.sp c, r8 := Adz.hit E.sp c || E.r8, out := Adz.outP E c } ∧ Only (fun b => b = eb ∨ (Typ w b 5 ∧ eb ≤ b)) w w' := by
  have hsl := Sl.of_row h.sp
  refine (callsIn_wide.1 (substitute_prt c g (o + 6) eb w hs sa sc E.sp _ _ h.ed rfl E.r8 rfl rfl hf.pr hsl.1 hsl.2 hf.k hf.f (by have := hf.n; omega) hf.g hf.pl hf.ok hout)).mono ?_
  rintro e w' ⟨he, a', c', v8, out', q1, q5, q7⟩
  have hlt := h.ed.typ.lt
  have n : ∀ {b : Nat} {T : TypeId}, Typ w b T → T ≠ 5 → T ≠ 108 → ¬ (b = eb ∨ (Typ w b 5 ∧ eb ≤ b)) := fun ht n1 n2 e => by
    rcases e with e | e
    · subst e; exact n2 (ht.one h.ed.typ)
    · exact n1 (ht.one e.1)
  obtain ⟨b8, rfl⟩ : ∃ b8, v8 = .bool b8 := by
    rcases q7 with ⟨_, _, _, k1, _⟩ | ⟨k1, _⟩
    · exact ⟨_, k1⟩
    · exact ⟨_, k1⟩
  have hb8 : b8 = (Adz.hit E.sp c || E.r8) := by
    rcases q7 with ⟨_, _, _, k1, k2, _⟩ | ⟨k1, k2, _⟩
    · rw [k2]; injection k1
    · rw [k2]; injection k1
  have hout' : out' = Adz.outP E c := by
    unfold Adz.outP
    rcases q7 with ⟨_, _, _, _, k2, k3⟩ | ⟨_, k2, k3, _⟩
    · rw [k2, k3]; rfl
    · rw [k2, k3]; rfl
  rw [hb8, hout'] at q1
  refine ⟨he, ⟨a', c', ha, hc, qa, qc, q1, ?_, h.hold.keeps q5 (fun b hb => n hb (by decide) (by decide)), row_keeps h.queue q5 (fun b hb => n (Typ.of_row h.queue hb) (by decide) (by decide)), ?_, h.lines.keeps q5 (fun b hb e => by rcases e with e | e <;> omega), h.opens.keeps q5 (fun b hb e => by rcases e with e | e <;> omega)⟩, q5⟩
  · rcases q7 with ⟨rfl, rfl, k3, _⟩ | ⟨_, _, _, k3⟩
    · show w'.ownsRow _ _ _ (.slice a' (Adz.subst E.sp c).length c') (Adz.subst E.sp c).length _
      rw [k3]
      exact row_keeps h.sp q5 (fun b hb => n (Typ.of_row h.sp hb) (by decide) (by decide))
    · exact row_base k3 (by omega)
  · rcases q7 with ⟨rfl, rfl, k3, _⟩ | ⟨_, _, _, k3⟩
    · show ∀ b, (Value.slice a' (Adz.subst E.sp c).length c').ownBlock = some b → _
      rw [k3]
      exact h.apart
    · intro b hb
      exact h.holdLt (k3.lt b hb).1

set_option maxRecDepth 100000 in
set_option maxHeartbeats 1600000 in
theorem do_spM (c : Adz.Cmd) (g o : Nat) (w : World) (eb : Nat) (X : Adz.Fx) (E : Adz.Es) (sa ha qa : Option Addr) (sc hc qc : Nat) (h : EM w eb X E sa sc ha hc qa qc) (hC : w.cell? ⟨g, o, none⟩ = some (.int .i32 115)) (hs : SubAt w g (o + 6) c) (hf : FineP E.sp c) (hout : E.out.length + (runesBytes (Adz.subst E.sp c)).size + 1 ≤ 8000) :
    Calls Tryz.prog 96 #[.pointer (some ⟨eb, 0, none⟩), .pointer (some ⟨g, o, none⟩)] w fun e w' => (∃ v, e = .returned v) ∧ EMx w' eb X { E with sp := Adz.subst E.sp c, r8 := Adz.hit E.sp c || E.r8, out := Adz.outP E c } ∧ Only (fun b => b = eb ∨ (Typ w b 5 ∧ eb ≤ b)) w w' := by
  have hcall := subPM c g o w eb X E sa ha qa sc hc qc h hs hf hout
  clear hout
  go_enter Tryz.func96, Tryz.ntmps96
  go_wp2_with fail
  refine hcall.mono ?_
  rintro e w1 ⟨⟨v, rfl⟩, hh⟩
  go_wp2
  go_end0
  exact ⟨⟨_, rfl⟩, hh⟩

theorem doOk_sp {w0 : World} {eb : Nat} {X : Adz.Fx} {n g : Nat} {E : Adz.Es} {c : Adz.Cmd} (h : AtCmd w0 eb X n g E c) (ht : Typ w0 g 167) (hw : c.what = 115) (E1 : Adz.Es) (hf : FineP E1.sp c) (hout : E1.out.length + (runesBytes (Adz.subst E1.sp c)).size + 1 ≤ 8000) : DoOk w0 eb X g (E.next * 14) E1 { E1 with sp := Adz.subst E1.sp c, r8 := Adz.hit E1.sp c || E1.r8, out := Adz.outP E1 c } := fun w hO ⟨sa, sc, ha, hc, qa, qc, hM⟩ => by
  have hX := h.cmd.keeps hO
  have hwh := hX.what
  rw [hw] at hwh
  refine (do_spM c g _ w eb X E1 sa ha qa sc hc qc hM hwh (hX.sub (ht.keeps hO id)) hf hout).mono ?_
  rintro e w' ⟨hv, hM', o'⟩
  exact ⟨hv, hM', only_new hO o' h.eb (fun b e => by rcases e with e | e <;> omega)⟩
end Go.Proofs.YtbiobhghnldckaaGreatDoor
