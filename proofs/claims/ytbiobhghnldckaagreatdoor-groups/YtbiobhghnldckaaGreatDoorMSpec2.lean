/- Proved: nothing but small laws on plain Lean functions: the matches in a space, one after the other. No condition. -/
import Derived.Test.YtbiobhghnldckaaGreatDoorMatch7
namespace Go.Proofs.YtbiobhghnldckaaGreatDoor.Adz

def eachGo (l0 : List Int) (mat : Nat → List Int) : Nat → Int → Int → List (List Int)
  | 0, _, _ => []
  | k + 1, at_, ended =>
    if at_ = -1 then [] else
      let m := mat at_.toNat
      if m.getD 0 0 = m.getD 1 0 ∧ at_ = ended then eachGo l0 mat k (firstFrom l0 (at_.toNat + 1)) ended
      else m :: eachGo l0 mat k (firstFrom l0 (m.getD 1 0).toNat) (m.getD 1 0)
def row0 (sp : List Int) (xs : List Item) : List Int := (allEnds sp xs).getD 0 []
/-- All matches in a space, one after the other. -/
def matches_ (sp : List Int) (xs : List Item) : List (List Int) := eachGo (row0 sp xs) (matchAt (allEnds sp xs) xs) (2 * sp.length + 3) (firstFrom (row0 sp xs) 0) (-1)

theorem firstFrom_cases (l : List Int) : ∀ (d j : Nat), j + d = l.length → firstFrom l j = -1 ∨ ∃ k : Nat, firstFrom l j = k ∧ j ≤ k ∧ k < l.length ∧ l.getD k 0 ≠ -1
  | 0, j, h => Or.inl (firstFrom_end l j (by omega))
  | d + 1, j, h => by
    by_cases hv : l.getD j 0 = -1
    · rw [firstFrom_miss l j (by omega) hv]
      rcases firstFrom_cases l d (j + 1) (by omega) with h1 | ⟨k, h1, h2, h3, h4⟩
      · exact Or.inl h1
      · exact Or.inr ⟨k, h1, by omega, h3, h4⟩
    · exact Or.inr ⟨j, firstFrom_hit l j (by omega) hv, Nat.le_refl _, by omega, hv⟩
theorem follow_end (sp : List Int) (xs : List Item) : ∀ (d j : Nat) (m : List Int) (at_ : Nat), j + d = xs.length → at_ ≤ sp.length → fin sp xs j at_ ≠ -1 → at_ ≤ (follow (allEnds sp xs) (xs.drop j) j m at_).2 ∧ (follow (allEnds sp xs) (xs.drop j) j m at_).2 ≤ sp.length
  | 0, j, m, at_, h, h1, h2 => by
    have : j = xs.length := by omega
    subst this
    rw [List.drop_length]
    exact ⟨Nat.le_refl _, h1⟩
  | d + 1, j, m, at_, h, h1, h2 => by
    have hj : j < xs.length := by omega
    obtain ⟨e, g1, g2, g3, g4⟩ := allEnds_good sp xs j hj at_ h1 h2
    rw [List.drop_eq_getElem_cons hj]
    simp only [follow]
    rw [g1, Int.toNat_natCast]
    have := follow_end sp xs d (j + 1) (mark xs[j] m at_) e (by omega) g3 g4
    exact ⟨by omega, this.2⟩
theorem follow_len (A : List (List Int)) : ∀ (xs : List Item) (i : Nat) (m : List Int) (at_ : Nat), (follow A xs i m at_).1.length = m.length
  | [], i, m, at_ => rfl
  | x :: xs, i, m, at_ => by
    simp only [follow]
    rw [follow_len A xs]
    unfold mark
    split
    · simp
    · split <;> simp
theorem matchAt_len (A : List (List Int)) (xs : List Item) (first : Nat) : (matchAt A xs first).length = 20 := by
  simp [matchAt, follow_len]
theorem matchAt_from (A : List (List Int)) (xs : List Item) (first : Nat) : (matchAt A xs first).getD 0 0 = first := by
  have h := follow_len A xs 0 (List.replicate 20 0) first
  simp only [matchAt]
  rw [List.getD_eq_getElem?_getD, List.getElem?_set_ne (by omega), List.getElem?_set_self (by rw [h]; simp)]
  rfl
theorem matchAt_to (sp : List Int) (xs : List Item) (first : Nat) (h1 : first ≤ sp.length) (h2 : fin sp xs 0 first ≠ -1) : ∃ to_ : Nat, (matchAt (allEnds sp xs) xs first).getD 1 0 = to_ ∧ first ≤ to_ ∧ to_ ≤ sp.length := by
  have h := follow_len (allEnds sp xs) xs 0 (List.replicate 20 0) first
  have := follow_end sp xs xs.length 0 (List.replicate 20 0) first (by omega) h1 h2
  rw [List.drop_zero] at this
  refine ⟨_, ?_, this⟩
  simp only [matchAt]
  rw [List.getD_eq_getElem?_getD, List.getElem?_set_self (by rw [List.length_set, h]; simp)]
  rfl
theorem row0_get (sp : List Int) (xs : List Item) (t : Nat) : (row0 sp xs).getD t 0 = fin sp xs 0 t := rfl
theorem row0_len (sp : List Int) (xs : List Item) : (row0 sp xs).length = sp.length + 1 := allEnds_width sp xs 0 (by omega)
/-- how many rounds are left at most -/
def left (n : Nat) (ended at_ : Int) : Nat := if at_ = -1 then 0 else 2 * (n - at_.toNat) + (if ended = at_ then 1 else 2)
theorem left_nat (n : Nat) (ended : Int) (a : Nat) : left n ended a = 2 * (n - a) + (if ended = a then 1 else 2) := by
  unfold left; rw [if_neg (by omega), Int.toNat_natCast]
theorem left_none (n : Nat) (ended : Int) : left n ended (-1) = 0 := by simp [left]
theorem first_cases (sp : List Int) (xs : List Item) (j : Nat) (hj : j ≤ sp.length + 1) : firstFrom (row0 sp xs) j = -1 ∨ ∃ k : Nat, firstFrom (row0 sp xs) j = k ∧ j ≤ k ∧ k ≤ sp.length ∧ fin sp xs 0 k ≠ -1 := by
  rcases firstFrom_cases (row0 sp xs) (sp.length + 1 - j) j (by rw [row0_len]; omega) with h | ⟨k, h1, h2, h3, h4⟩
  · exact Or.inl h
  · rw [row0_len] at h3
    exact Or.inr ⟨k, h1, h2, by omega, h4⟩
theorem each_skip (sp : List Int) (xs : List Item) (k a : Nat) (ended : Int) (ha : a ≤ sp.length) (hk : left sp.length ended a ≤ k) (h0 : (matchAt (allEnds sp xs) xs a).getD 0 0 = (matchAt (allEnds sp xs) xs a).getD 1 0) (he : (a : Int) = ended) :
    ∃ k', eachGo (row0 sp xs) (matchAt (allEnds sp xs) xs) k a ended = eachGo (row0 sp xs) (matchAt (allEnds sp xs) xs) k' (firstFrom (row0 sp xs) (a + 1)) ended ∧ left sp.length ended (firstFrom (row0 sp xs) (a + 1)) ≤ k' ∧ left sp.length ended (firstFrom (row0 sp xs) (a + 1)) < left sp.length ended a := by
  subst he
  rw [left_nat, if_pos rfl] at hk
  rw [left_nat, if_pos rfl]
  obtain ⟨k', rfl⟩ : ∃ k', k = k' + 1 := ⟨k - 1, by omega⟩
  refine ⟨k', ?_, ?_⟩
  · rw [eachGo, if_neg (by omega)]
    have e : ((a : Int)).toNat = a := Int.toNat_natCast a
    rw [e]
    exact if_pos ⟨h0, rfl⟩
  · rcases first_cases sp xs (a + 1) (by omega) with h | ⟨b, h1, h2, h3, _⟩
    · rw [h, left_none]; omega
    · rw [h1, left_nat]; split <;> omega
theorem each_yield (sp : List Int) (xs : List Item) (k a : Nat) (ended : Int) (ha : a ≤ sp.length) (hk : left sp.length ended a ≤ k) (to_ : Nat) (hto : (matchAt (allEnds sp xs) xs a).getD 1 0 = to_) (h1 : a ≤ to_) (h2 : to_ ≤ sp.length) (hn : ¬ ((a : Int) = to_ ∧ (a : Int) = ended)) :
    ∃ k', eachGo (row0 sp xs) (matchAt (allEnds sp xs) xs) k a ended = matchAt (allEnds sp xs) xs a :: eachGo (row0 sp xs) (matchAt (allEnds sp xs) xs) k' (firstFrom (row0 sp xs) to_) to_ ∧ left sp.length to_ (firstFrom (row0 sp xs) to_) ≤ k' ∧ left sp.length to_ (firstFrom (row0 sp xs) to_) < left sp.length ended a := by
  have hl : 2 * (sp.length - a) + (if ended = a then 1 else 2) ≤ k := by rw [left_nat] at hk; exact hk
  rw [left_nat]
  obtain ⟨k', rfl⟩ : ∃ k', k = k' + 1 := ⟨k - 1, by split at hl <;> omega⟩
  have hdec : left sp.length to_ (firstFrom (row0 sp xs) to_) < 2 * (sp.length - a) + (if ended = a then 1 else 2) := by
    rcases first_cases sp xs to_ (by omega) with h | ⟨b, e1, e2, e3, _⟩
    · rw [h, left_none]; split <;> omega
    · rw [e1, left_nat]
      by_cases hab : ended = a
      · rw [if_pos hab]
        have : a ≠ to_ := fun e => hn ⟨by omega, by omega⟩
        split <;> omega
      · rw [if_neg hab]
        split <;> omega
  refine ⟨k', ?_, by omega, hdec⟩
  rw [eachGo, if_neg (by omega)]
  simp only [Int.toNat_natCast]
  rw [matchAt_from, hto, if_neg hn, Int.toNat_natCast]
end Go.Proofs.YtbiobhghnldckaaGreatDoor.Adz
