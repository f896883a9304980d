/- Proved: a match's replacement is laid behind what has been changed. Conditions: the parts, the space and the match lie in memory, and the match's places lie in the space. -/
import Derived.Test.YtbiobhghnldckaaGreatDoorMSpec2
import Derived.Test.YtbiobhghnldckaaGreatDoorRow
namespace Go.Proofs.YtbiobhghnldckaaGreatDoor
open Go.RowKit
set_option linter.unusedVariables false
namespace Adz
def seg (sp : List Int) (f t : Int) : List Int := (sp.drop f.toNat).take (t.toNat - f.toNat)
def repl1 (sp m : List Int) (p : Part) : List Int :=
  if p.kind = 0 then runes ⟨p.text.toArray⟩ else if p.kind = 1 then seg sp (m.getD 0 0) (m.getD 1 0) else if p.kind = 2 then seg sp (m.getD (p.group.toNat * 2) 0) (m.getD (p.group.toNat * 2 + 1) 0) else []
def replAll (sp m : List Int) (ps : List Part) : List Int := ps.flatMap (repl1 sp m)
/-- two places of a space, one not behind the other -/
def inside (f t : Int) (n : Nat) : Prop := 0 ≤ f ∧ f ≤ t ∧ t ≤ n
/-- what a part of a replacement asks of a match -/
def fits (m : List Int) (n : Nat) (p : Part) : Prop := (p.kind = 0 ∧ p.text.length ≤ 100000) ∨ p.kind = 1 ∨ (p.kind = 2 ∧ 1 ≤ p.group ∧ p.group ≤ 9 ∧ inside (m.getD (p.group.toNat * 2) 0) (m.getD (p.group.toNat * 2 + 1) 0) n)
theorem seg_len (sp : List Int) (f t : Nat) (h1 : f ≤ t) (h2 : t ≤ sp.length) : (seg sp f t).length = t - f := by
  simp [seg]; omega
theorem repl1_len (sp m : List Int) (p : Part) (h : fits m sp.length p) : (repl1 sp m p).length ≤ sp.length + 100000 := by
  unfold repl1
  split
  · rcases h with ⟨_, h⟩ | h | ⟨h, _⟩
    · have := runes_len ⟨p.text.toArray⟩
      have e : (⟨p.text.toArray⟩ : ByteArray).size = p.text.length := by simp [ByteArray.size]
      omega
    · omega
    · omega
  · split
    · simp [seg]; omega
    · split
      · simp [seg]; omega
      · simp
end Adz

/-- A slice of runes, nil or not. -/
def Sl (w : World) (ra : Option Addr) (sp : List Int) : Prop := (ra = none ∧ sp = []) ∨ ∃ rb ro, ra = some ⟨rb, ro, none⟩ ∧ Typ w rb 21 ∧ ∀ j, j < sp.length → w.cell? ⟨rb, ro + j, none⟩ = some (.int .i32 (sp.getD j 0))
theorem Sl.space {w : World} {ra : Option Addr} {sp : List Int} (h : Sl w ra sp) : SpaceAt w ra sp := by
  intro hne
  rcases h with ⟨_, h⟩ | h
  · exact absurd h hne
  · exact h
theorem Sl.keeps {S : Nat → Prop} {w w' : World} {ra : Option Addr} {sp : List Int} (h : Sl w ra sp) (o : Only S w w') (hs : ∀ b o, ra = some ⟨b, o, none⟩ → ¬ S b) : Sl w' ra sp := by
  rcases h with h | ⟨rb, ro, e, ht, hc⟩
  · exact Or.inl h
  · exact Or.inr ⟨rb, ro, e, ht.keeps o (hs _ _ e), fun j hj => o.keeps (hc j hj) (hs _ _ e)⟩
/-- A piece of a slice of runes. -/
theorem Sl.cut {w : World} {ra : Option Addr} {sp : List Int} (h : Sl w ra sp) (rc f t : Nat) (h1 : f ≤ t) (h2 : t ≤ sp.length) (h3 : sp.length ≤ rc) : SpaceAt w (if rc = f then ra else ra.map (·.add f)) (Adz.seg sp f t) := by
  intro hne
  have hlen := Adz.seg_len sp f t h1 h2
  have hp : 0 < (Adz.seg sp f t).length := List.length_pos_iff.2 hne
  rcases h with ⟨_, e⟩ | ⟨rb, ro, rfl, ht, hc⟩
  · subst e; simp at h2; omega
  · rw [if_neg (by omega)]
    refine ⟨rb, ro + f, ?_, ht, fun j hj => ?_⟩
    · simp [Addr.add_mid]
    · rw [show ro + f + j = ro + (f + j) by omega, hc (f + j) (by omega)]
      congr 2
      simp only [Adz.seg, List.getD_eq_getElem?_getD, Int.toNat_natCast]
      rw [List.getElem?_take, if_pos (by omega), List.getElem?_drop]

theorem PartsAt.get {w : World} {a : Option Addr} {n c : Nat} {ps : List Adz.Part} (h : PartsAt w (.slice a n c) ps) (hne : ps ≠ []) :
    ∃ b, a = some ⟨b, 0, none⟩ ∧ Typ w b 240 ∧ ∀ i (hi : i < ps.length), w.cell? ⟨b, i * 3, none⟩ = some (.int .i64 ps[i].kind) ∧ w.cell? ⟨b, i * 3 + 1, none⟩ = some (.string ⟨ps[i].text.toArray⟩) ∧ w.cell? ⟨b, i * 3 + 2, none⟩ = some (.int .i64 ps[i].group) := by
  rcases h.2 with ⟨_, e⟩ | ⟨g, cap, cur, hv, _, hg, hcap, _, hsz, htake⟩
  · exact absurd (List.length_eq_zero_iff.1 e) hne
  · injection hv with e1 e2 e3
    refine ⟨g, e1, ⟨cur, (0, 0), hg⟩, fun i hi => ?_⟩
    have key : ∀ (l : List Adz.Part) (i : Nat) (hi : i < l.length) (o : Nat), o < 3 → (l.flatMap partCells)[i * 3 + o]? = (partCells l[i])[o]? := by
      intro l
      induction l with
      | nil => intro i hi; simp at hi
      | cons p l ih =>
        intro i hi o ho
        cases i with
        | zero =>
          simp only [List.flatMap_cons, Nat.zero_mul, Nat.zero_add, List.getElem_cons_zero]
          rw [List.getElem?_append_left (by simp [partCells]; omega)]
        | succ i =>
          simp only [List.flatMap_cons, List.getElem_cons_succ]
          rw [List.getElem?_append_right (by simp [partCells]; omega)]
          have e : (i + 1) * 3 + o - (partCells p).length = i * 3 + o := by simp [partCells]; omega
          rw [e]
          exact ih i (by simpa using hi) o ho
    have hcell : ∀ o u, o < 3 → (partCells ps[i])[o]? = some u → w.cell? ⟨g, i * 3 + o, none⟩ = some u := by
      intro o u ho hu
      rw [cell_of_row _ g (i * 3 + o) cur _ (0, 0) hg]
      have hx := key ps i hi o ho
      rw [hu, ← htake, List.getElem?_take] at hx
      have : i * 3 + o < ps.length * 3 := by omega
      simpa [this] using hx
    exact ⟨hcell 0 _ (by omega) rfl, hcell 1 _ (by omega) rfl, hcell 2 _ (by omega) rfl⟩
theorem shape_only {S : Nat → Prop} {w w' : World} {b : Nat} (o : Only S w w') (hb : b < w.heap.size) (hs : ¬ S b) : w'.shape? b = w.shape? b := by
  unfold World.shape?
  rw [o.block b hb hs]
theorem shape_set {w : World} {p : Addr} {v : Value} {b : Nat} : (w.setCell p v).shape? b = w.shape? b := by
  unfold World.shape?
  by_cases e : b = p.block
  · subst e
    simp only [World.setCell, Array.getElem?_modify, if_true]
    cases h : w.heap[p.block]? with
    | none => rfl
    | some o => cases o <;> simp <;> (first | rfl | (split <;> simp))
  · rw [Below.heap_setCell _ _ _ _ e]

end Go.Proofs.YtbiobhghnldckaaGreatDoor
