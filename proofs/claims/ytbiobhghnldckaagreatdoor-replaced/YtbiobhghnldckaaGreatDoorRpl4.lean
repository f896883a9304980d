/- Proved: what the reader makes of an s of literal runes with backslashes. No condition but those told. -/
import Derived.Test.YtbiobhghnldckaaGreatDoorRpl3
namespace Go.Proofs.YtbiobhghnldckaaGreatDoor
set_option linter.unusedVariables false
namespace Adz
theorem peek_app (A B : List Int) (j : Nat) : peek (A ++ B) (A.length + j) = peek B j := by
  unfold peek
  rw [List.getD_eq_getElem?_getD, List.getD_eq_getElem?_getD, List.getElem?_append_right (by omega), Nat.add_sub_cancel_left]
theorem peek_app0 (A B : List Int) : peek (A ++ B) A.length = peek B 0 := peek_app A B 0
theorem peek_c0 (a : Int) (B : List Int) : peek (a :: B) 0 = a := rfl
theorem peek_c1 (a b : Int) (B : List Int) : peek (a :: b :: B) 1 = b := rfl

/-- What is true of each rune of a line. -/
theorem af1 : ∀ r ∈ alpha, r ∉ spec1 ∨ (r ≠ 110 ∧ escapable.contains r = true) := by decide
theorem af2 : ∀ r ∈ alpha, r ∈ spec1 ∨ ((r ≠ -1 ∧ r ≠ 10 ∧ notAPiece.contains r = false ∧ r ≠ 94 ∧ r ≠ 36) ∧ (r ≠ 40 ∧ r ≠ 41 ∧ r ≠ 46 ∧ r ≠ 91 ∧ r ≠ 92) ∧ (r ≠ 47 ∧ r ≠ 42 ∧ r ≠ 43 ∧ r ≠ 63)) := by decide
theorem af3 : ∀ r ∈ alpha, r ∉ spec2 ∨ (r ≠ 110 ∧ replSpecial.contains r = true ∧ isDigit r = false) := by decide
theorem af4 : ∀ r ∈ alpha, r ∈ spec2 ∨ (r ≠ -1 ∧ r ≠ 10 ∧ replSpecial.contains r = false ∧ r ≠ 38 ∧ r ≠ 92 ∧ r ≠ 47) := by decide
theorem alpha_facts (r : Int) (hr : r ∈ alpha) : (r ∈ spec1 → r ≠ 110 ∧ escapable.contains r = true) ∧ (r ∉ spec1 → r ≠ -1 ∧ r ≠ 10 ∧ notAPiece.contains r = false ∧ r ≠ 94 ∧ r ≠ 36 ∧ r ≠ 40 ∧ r ≠ 41 ∧ r ≠ 46 ∧ r ≠ 91 ∧ r ≠ 92 ∧ r ≠ 47 ∧ r ≠ 42 ∧ r ≠ 43 ∧ r ≠ 63) ∧ (r ∈ spec2 → r ≠ 110 ∧ replSpecial.contains r = true ∧ isDigit r = false) ∧ (r ∉ spec2 → r ≠ -1 ∧ r ≠ 10 ∧ replSpecial.contains r = false ∧ r ≠ 38 ∧ r ≠ 92 ∧ r ≠ 47) := by
  refine ⟨fun h => (af1 r hr).resolve_left (fun k => k h), fun h => ?_, fun h => (af3 r hr).resolve_left (fun k => k h), fun h => (af4 r hr).resolve_left h⟩
  obtain ⟨⟨a1, a2, a3, a4, a5⟩, ⟨b1, b2, b3, b4, b5⟩, c1, c2, c3, c4⟩ := (af2 r hr).resolve_left h
  exact ⟨a1, a2, a3, a4, a5, b1, b2, b3, b4, b5, c1, c2, c3, c4⟩

theorem escR_cons (s : List Int) (r : Int) (l : List Int) : escR s (r :: l) = escb s r ++ ([r] ++ escR s l) := by
  unfold escR
  rw [List.flatMap_cons, List.append_assoc]
/-- What stands behind a rune of a pattern says not how often it is. -/
theorem next_quiet (x : List Int) (hx : ∀ r ∈ x, r ∈ alpha) (B : List Int) : peek (escR spec1 x ++ 47 :: B) 0 ≠ 42 ∧ peek (escR spec1 x ++ 47 :: B) 0 ≠ 43 ∧ peek (escR spec1 x ++ 47 :: B) 0 ≠ 63 := by
  cases x with
  | nil =>
    have e : peek (escR spec1 [] ++ 47 :: B) 0 = 47 := rfl
    rw [e]
    exact ⟨by decide, by decide, by decide⟩
  | cons r x =>
    rw [escR_cons]
    by_cases h : r ∈ spec1
    · have : escb spec1 r = [92] := by unfold escb; rw [if_pos h]
      rw [this]
      exact ⟨by simp [peek], by simp [peek], by simp [peek]⟩
    · have : escb spec1 r = [] := by unfold escb; rw [if_neg h]
      rw [this]
      obtain ⟨_, _, _, _, _, _, _, _, _, _, _, h1, h2, h3⟩ := (alpha_facts r (hx r (List.mem_cons_self ..))).2.1 h
      exact ⟨h1, h2, h3⟩
theorem times_none {L : List Int} {i : Nat} (h1 : peek L i ≠ 42) (h2 : peek L i ≠ 43) (h3 : peek L i ≠ 63) : times L i = (0, i) := by
  unfold times
  rw [if_neg (by simpa using h1), if_neg (by simpa using h2), if_neg (by simpa using h3)]
theorem item_esc {L pl : List Int} {i : Nat} {its : List Item} (he : ended its = false) (h1 : peek L i = 92) {r : Int} (h2 : peek L (i + 1) = r) (h3 : r ≠ 110) (h4 : escapable.contains r = true) (h5 : times L (i + 1 + 1) = (0, i + 1 + 1)) : item L pl ⟨i, its, 0, []⟩ = .ok ⟨i + 1 + 1, its ++ [lit r], 0, []⟩ := by
  have e1 : single L pl i = .ok (⟨5, 0, [(r, r)], 0⟩, i + 1 + 1) := by
    unfold single character escaped
    rw [h1, h2]
    rw [if_neg (by decide), if_neg (by decide), if_pos (by decide), if_neg (by simpa using h3), if_pos h4]
  unfold item
  simp only [he, h1, e1, h5]
  rfl
theorem item_plain {L pl : List Int} {i : Nat} {its : List Item} (he : ended its = false) {r : Int} (h1 : peek L i = r) (h2 : r ≠ -1 ∧ r ≠ 10 ∧ notAPiece.contains r = false ∧ r ≠ 94 ∧ r ≠ 36 ∧ r ≠ 40 ∧ r ≠ 41 ∧ r ≠ 46 ∧ r ≠ 91 ∧ r ≠ 92) (h5 : times L (i + 1) = (0, i + 1)) : item L pl ⟨i, its, 0, []⟩ = .ok ⟨i + 1, its ++ [lit r], 0, []⟩ := by
  obtain ⟨a1, a2, a3, a4, a5, a6, a7, a8, a9, a10⟩ := h2
  have e1 : single L pl i = .ok (⟨5, 0, [(r, r)], 0⟩, i + 1) := by
    unfold single character plain
    rw [h1]
    rw [if_neg (by simpa using a8), if_neg (by simpa using a9), if_neg (by simpa using a10), if_neg (by rw [a3]; simp [a1, a2])]
  unfold item
  simp only [he, h1, e1, h5]
  rw [if_neg (by simp), if_neg (by simpa using a4), if_neg (by simpa using a5), if_neg (by simpa using a6), if_neg (by simpa using a7)]
  rfl
theorem ended_lit (its : List Item) (r : Int) : ended (its ++ [lit r]) = false := by
  unfold ended
  rw [List.getLast?_concat]
  rfl
theorem items_lit (pl B : List Int) : ∀ (x A : List Int) (n : Nat) (its : List Item), (∀ r ∈ x, r ∈ alpha) → x.length < n → ended its = false → items (A ++ (escR spec1 x ++ 47 :: B)) pl n ⟨A.length, its, 0, []⟩ = .ok ⟨A.length + (escR spec1 x).length, its ++ x.map lit, 0, []⟩
  | [], A, n, its, hx, hn, he => by
    obtain ⟨n, rfl⟩ : ∃ k, n = k + 1 := ⟨n - 1, by simp at hn; omega⟩
    unfold items
    rw [if_pos (by show (peek (A ++ (escR spec1 [] ++ 47 :: B)) A.length == 47) = true; rw [peek_app0]; rfl)]
    simp [escR]
  | r :: x, A, n, its, hx, hn, he => by
    obtain ⟨n, rfl⟩ : ∃ k, n = k + 1 := ⟨n - 1, by simp at hn; omega⟩
    simp only [List.length_cons] at hn
    have hr := hx r (List.mem_cons_self ..)
    have hx' : ∀ r ∈ x, r ∈ alpha := fun r hr => hx r (List.mem_cons_of_mem _ hr)
    obtain ⟨q1, q2, q3⟩ := next_quiet x hx' B
    obtain ⟨f1, f2, _, _⟩ := alpha_facts r hr
    unfold items
    by_cases h : r ∈ spec1
    · have eb : escb spec1 r = [92] := by unfold escb; rw [if_pos h]
      have eL : A ++ (escR spec1 (r :: x) ++ 47 :: B) = A ++ 92 :: r :: (escR spec1 x ++ 47 :: B) := by rw [escR_cons, eb]; simp
      have eL2 : A ++ 92 :: r :: (escR spec1 x ++ 47 :: B) = (A ++ [92, r]) ++ (escR spec1 x ++ 47 :: B) := by simp
      have p0 : peek (A ++ 92 :: r :: (escR spec1 x ++ 47 :: B)) A.length = 92 := by rw [peek_app0]; rfl
      have p1 : peek (A ++ 92 :: r :: (escR spec1 x ++ 47 :: B)) (A.length + 1) = r := by rw [peek_app]; rfl
      have hlA : A.length + 1 + 1 = (A ++ [92, r]).length := by simp
      have p2 : times (A ++ 92 :: r :: (escR spec1 x ++ 47 :: B)) (A.length + 1 + 1) = (0, A.length + 1 + 1) := by
        apply times_none <;> rw [eL2, hlA, peek_app0]
        · exact q1
        · exact q2
        · exact q3
      rw [eL, if_neg (by show ¬ (peek (A ++ 92 :: r :: (escR spec1 x ++ 47 :: B)) A.length == 47) = true; rw [p0]; decide), item_esc he p0 p1 (f1 h).1 (f1 h).2 p2]
      simp only
      rw [eL2, hlA, items_lit pl B x (A ++ [92, r]) n (its ++ [lit r]) hx' (by omega) (ended_lit its r), escR_cons, eb]
      simp
      omega
    · have eb : escb spec1 r = [] := by unfold escb; rw [if_neg h]
      have g := f2 h
      have eL : A ++ (escR spec1 (r :: x) ++ 47 :: B) = A ++ r :: (escR spec1 x ++ 47 :: B) := by rw [escR_cons, eb]; simp
      have eL2 : A ++ r :: (escR spec1 x ++ 47 :: B) = (A ++ [r]) ++ (escR spec1 x ++ 47 :: B) := by simp
      have p0 : peek (A ++ r :: (escR spec1 x ++ 47 :: B)) A.length = r := by rw [peek_app0]; rfl
      have hlA : A.length + 1 = (A ++ [r]).length := by simp
      have p2 : times (A ++ r :: (escR spec1 x ++ 47 :: B)) (A.length + 1) = (0, A.length + 1) := by
        apply times_none <;> rw [eL2, hlA, peek_app0]
        · exact q1
        · exact q2
        · exact q3
      obtain ⟨g1, g2, g3, g4, g5, g6, g7, g8, g9, g10, g11, _⟩ := g
      rw [eL, if_neg (by show ¬ (peek (A ++ r :: (escR spec1 x ++ 47 :: B)) A.length == 47) = true; rw [p0]; simpa using g11), item_plain he p0 ⟨g1, g2, g3, g4, g5, g6, g7, g8, g9, g10⟩ p2]
      simp only
      rw [eL2, hlA, items_lit pl B x (A ++ [r]) n (its ++ [lit r]) hx' (by omega) (ended_lit its r), escR_cons, eb]
      simp
      omega
/-- A literal part. -/
def litp (r : Int) : Part := ⟨0, utf8 r, 0⟩
theorem repl_lit (pl B : List Int) (g : Int) : ∀ (y A : List Int) (n : Nat) (ps : List Part), (∀ r ∈ y, r ∈ alpha) → y.length < n → replacement (A ++ (escR spec2 y ++ 47 :: B)) pl g n ps A.length = .ok (ps ++ y.map litp, A.length + (escR spec2 y).length + 1)
  | [], A, n, ps, hy, hn => by
    obtain ⟨n, rfl⟩ : ∃ k, n = k + 1 := ⟨n - 1, by simp at hn; omega⟩
    unfold replacement
    rw [if_pos (by rw [peek_app0]; rfl)]
    simp [escR]
  | r :: y, A, n, ps, hy, hn => by
    obtain ⟨n, rfl⟩ : ∃ k, n = k + 1 := ⟨n - 1, by simp at hn; omega⟩
    simp only [List.length_cons] at hn
    have hr := hy r (List.mem_cons_self ..)
    have hy' : ∀ r ∈ y, r ∈ alpha := fun r hr => hy r (List.mem_cons_of_mem _ hr)
    obtain ⟨_, _, f1, f2⟩ := alpha_facts r hr
    unfold replacement
    by_cases h : r ∈ spec2
    · have eb : escb spec2 r = [92] := by unfold escb; rw [if_pos h]
      have eL : A ++ (escR spec2 (r :: y) ++ 47 :: B) = A ++ 92 :: r :: (escR spec2 y ++ 47 :: B) := by rw [escR_cons, eb]; simp
      have eL2 : A ++ 92 :: r :: (escR spec2 y ++ 47 :: B) = (A ++ [92, r]) ++ (escR spec2 y ++ 47 :: B) := by simp
      have p0 : peek (A ++ 92 :: r :: (escR spec2 y ++ 47 :: B)) A.length = 92 := by rw [peek_app0]; rfl
      have p1 : peek (A ++ 92 :: r :: (escR spec2 y ++ 47 :: B)) (A.length + 1) = r := by rw [peek_app]; rfl
      have hlA : A.length + 1 + 1 = (A ++ [92, r]).length := by simp
      obtain ⟨g1, g2, g3⟩ := f1 h
      have hpt : part (A ++ 92 :: r :: (escR spec2 y ++ 47 :: B)) pl g A.length = .ok (litp r, A.length + 1 + 1) := by
        unfold part
        simp only [p0, p1]
        rw [if_neg (by decide), if_neg (by decide), if_pos (by rw [g3]; simp)]
        unfold escaped
        rw [p1, if_neg (by simpa using g1), if_pos g2]
        rfl
      rw [eL, if_neg (by rw [p0]; decide), hpt]
      simp only
      rw [eL2, hlA, repl_lit pl B g y (A ++ [92, r]) n (ps ++ [litp r]) hy' (by omega), escR_cons, eb]
      simp
      omega
    · have eb : escb spec2 r = [] := by unfold escb; rw [if_neg h]
      have eL : A ++ (escR spec2 (r :: y) ++ 47 :: B) = A ++ r :: (escR spec2 y ++ 47 :: B) := by rw [escR_cons, eb]; simp
      have eL2 : A ++ r :: (escR spec2 y ++ 47 :: B) = (A ++ [r]) ++ (escR spec2 y ++ 47 :: B) := by simp
      have p0 : peek (A ++ r :: (escR spec2 y ++ 47 :: B)) A.length = r := by rw [peek_app0]; rfl
      have hlA : A.length + 1 = (A ++ [r]).length := by simp
      obtain ⟨g1, g2, g3, g4, g5, g6⟩ := f2 h
      have hpt : part (A ++ r :: (escR spec2 y ++ 47 :: B)) pl g A.length = .ok (litp r, A.length + 1) := by
        unfold part
        simp only [p0]
        rw [if_neg (by simpa using g4), if_pos (by simpa [bne] using g5)]
        unfold plain
        rw [p0, if_neg (by rw [g3]; simp [g1, g2])]
        rfl
      rw [eL, if_neg (by rw [p0]; simpa using g6), hpt]
      simp only
      rw [eL2, hlA, repl_lit pl B g y (A ++ [r]) n (ps ++ [litp r]) hy' (by omega), escR_cons, eb]
      simp
      omega
end Adz
end Go.Proofs.YtbiobhghnldckaaGreatDoor
