/- Proved: what an s makes of a space where each item of its pattern takes one rune. No condition but those told. -/
import Derived.Test.YtbiobhghnldckaaGreatDoorK20
import Derived.Test.YtbiobhghnldckaaGreatDoorK8
import Derived.Test.YtbiobhghnldckaaGreatDoorK15
import Derived.Test.YtbiobhghnldckaaGreatDoorK18
import Derived.Deep.RegionWith
namespace Go.Proofs.YtbiobhghnldckaaGreatDoor
set_option linter.unusedVariables false
namespace Adz

/-- Items that take one rune each. -/
def Ones (xs : List Item) : Prop := ∀ x ∈ xs, x.times = 0 ∧ (x.kind = 4 ∨ x.kind = 5)
/-- Whether a list begins with what the items take. -/
def fitsAt : List Item → List Int → Bool
  | [], _ => true
  | x :: xs, r :: l => takes x r && fitsAt xs l
  | _ :: _, [] => false
theorem fitsAt_len : ∀ (xs : List Item) (l : List Int), fitsAt xs l = true → xs.length ≤ l.length
  | [], l, _ => by simp
  | x :: xs, [], h => by simp [fitsAt] at h
  | x :: xs, r :: l, h => by
    simp only [fitsAt, Bool.and_eq_true] at h
    have := fitsAt_len xs l h.2
    simp only [List.length_cons]; omega

theorem end_one {x : Item} (ht : x.times = 0) (hk : x.kind = 4 ∨ x.kind = 5) (r : Int) (j n e1 b1 b0 : Int) : endAt x (some r) j n e1 b1 b0 = if takes x r = true ∧ b1 ≠ -1 then j + 1 else -1 := by
  have h1 : takesNone x j n = false := by
    unfold takesNone
    rcases hk with e | e <;> simp [e, ht]
  have h2 : takesMany x = false := by simp [takesMany, ht]
  unfold endAt
  simp only [h1, h2, Bool.false_and, Bool.false_eq_true, if_false]
  cases takes x r with
  | false => simp
  | true =>
    by_cases hb : b1 = -1
    · simp [hb]
    · have : (b1 != -1) = true := bne_iff_ne.2 hb
      simp [this, hb]
theorem end_none {x : Item} (ht : x.times = 0) (hk : x.kind = 4 ∨ x.kind = 5) (j n e1 b1 b0 : Int) : endAt x none j n e1 b1 b0 = -1 := by
  have h1 : takesNone x j n = false := by
    unfold takesNone
    rcases hk with e | e <;> simp [e, ht]
  unfold endAt
  simp [h1]

theorem fin_ones (sp : List Int) (xs : List Item) (ho : Ones xs) : ∀ (d j t : Nat), j + d = xs.length → t ≤ sp.length → (fin sp xs j t ≠ -1 ↔ fitsAt (xs.drop j) (sp.drop t) = true) ∧ (j < xs.length → fitsAt (xs.drop j) (sp.drop t) = true → fin sp xs j t = ((t + 1 : Nat) : Int))
  | 0, j, t, h, ht => by
    have : j = xs.length := by omega
    subst this
    rw [fin_last sp xs t ht, List.drop_length]
    exact ⟨by simp [fitsAt], fun h => by omega⟩
  | d + 1, j, t, h, ht => by
    have hj : j < xs.length := by omega
    obtain ⟨h1, h2⟩ := ho _ (List.getElem_mem hj)
    rw [List.drop_eq_getElem_cons hj]
    by_cases hl : t < sp.length
    · have hd : sp.drop t = sp.getD t 0 :: sp.drop (t + 1) := by rw [List.drop_eq_getElem_cons hl]; simp [hl]
      rw [fin_lt sp xs j t hj hl, end_one h1 h2, hd]
      obtain ⟨i1, _⟩ := fin_ones sp xs ho d (j + 1) (t + 1) (by omega) (by omega)
      simp only [fitsAt, Bool.and_eq_true]
      constructor
      · rw [← i1]
        by_cases hc : takes xs[j] (sp.getD t 0) = true ∧ fin sp xs (j + 1) (t + 1) ≠ -1
        · rw [if_pos hc]; exact ⟨fun _ => hc, fun _ => by omega⟩
        · rw [if_neg hc]; exact ⟨fun e => absurd rfl e, fun e => absurd e hc⟩
      · rw [← i1]
        intro _ hc
        rw [if_pos hc]; simp
    · have : t = sp.length := by omega
      subst this
      rw [fin_eq sp xs j hj, end_none h1 h2, List.drop_length]
      exact ⟨by simp [fitsAt], fun _ h => by simp [fitsAt] at h⟩

theorem follow_ones (sp : List Int) (xs : List Item) (ho : Ones xs) : ∀ (d j t : Nat) (m : List Int), j + d = xs.length → t ≤ sp.length → fitsAt (xs.drop j) (sp.drop t) = true → follow (allEnds sp xs) (xs.drop j) j m t = (m, t + d)
  | 0, j, t, m, h, ht, hf => by
    have : j = xs.length := by omega
    subst this
    rw [List.drop_length]; rfl
  | d + 1, j, t, m, h, ht, hf => by
    have hj : j < xs.length := by omega
    have hfin := (fin_ones sp xs ho (d + 1) j t h ht).2 hj hf
    obtain ⟨h1, h2⟩ := ho _ (List.getElem_mem hj)
    have hl := fitsAt_len _ _ hf
    rw [List.length_drop, List.length_drop] at hl
    have hd : sp.drop t = sp.getD t 0 :: sp.drop (t + 1) := by rw [List.drop_eq_getElem_cons (by omega)]; simp [show t < sp.length by omega]
    rw [List.drop_eq_getElem_cons hj] at hf ⊢
    rw [hd] at hf
    simp only [fitsAt, Bool.and_eq_true] at hf
    simp only [follow]
    have hm : mark xs[j] m t = m := by
      unfold mark
      rcases h2 with e | e <;> simp [e]
    have hg : (((allEnds sp xs).getD j []).getD t 0).toNat = t + 1 := by
      have : ((allEnds sp xs).getD j []).getD t 0 = ((t + 1 : Nat) : Int) := hfin
      rw [this]; rfl
    rw [hm, hg, follow_ones sp xs ho d (j + 1) (t + 1) m (by omega) (by omega) hf.2]
    congr 1
    omega
/-- A match without groups. -/
def mk (n t : Nat) : List Int := ((List.replicate 20 0).set 0 (t : Int)).set 1 ((t + n : Nat) : Int)
theorem mk_len (n t : Nat) : (mk n t).length = 20 := by simp [mk]
theorem mk_0 (n t : Nat) : (mk n t).getD 0 0 = t := rfl
theorem mk_1 (n t : Nat) : (mk n t).getD 1 0 = ((t + n : Nat) : Int) := rfl
theorem matchAt_ones (sp : List Int) (xs : List Item) (ho : Ones xs) (t : Nat) (ht : t ≤ sp.length) (hf : fitsAt xs (sp.drop t) = true) : matchAt (allEnds sp xs) xs t = mk xs.length t := by
  have h := follow_ones sp xs ho xs.length 0 t (List.replicate 20 0) (by omega) ht hf
  rw [List.drop_zero] at h
  simp only [matchAt, h]
  rfl

/-- Where matches begin. -/
def pos (xs : List Item) (sp : List Int) : Nat → Nat → List Nat
  | 0, _ => []
  | d + 1, p => if fitsAt xs (sp.drop p) = true then p :: pos xs sp d (p + xs.length) else pos xs sp d (p + 1)

theorem row0_none (sp : List Int) (xs : List Item) (ho : Ones xs) (p : Nat) (hp : p ≤ sp.length) (hf : fitsAt xs (sp.drop p) = false) : (row0 sp xs).getD p 0 = -1 := by
  rw [row0_get]
  have h := (fin_ones sp xs ho xs.length 0 p (by omega) hp).1
  rw [List.drop_zero, hf] at h
  exact Classical.byContradiction fun e => by simpa using h.1 e
theorem row0_some (sp : List Int) (xs : List Item) (ho : Ones xs) (p : Nat) (hp : p ≤ sp.length) (hf : fitsAt xs (sp.drop p) = true) : (row0 sp xs).getD p 0 ≠ -1 := by
  rw [row0_get]
  have h := (fin_ones sp xs ho xs.length 0 p (by omega) hp).1
  rw [List.drop_zero] at h
  exact h.2 hf

theorem each_ones (sp : List Int) (xs : List Item) (ho : Ones xs) (hne : xs ≠ []) : ∀ (d p K : Nat) (e : Int), sp.length ≤ p + d → p ≤ sp.length + 1 → d ≤ K → eachGo (row0 sp xs) (matchAt (allEnds sp xs) xs) K (firstFrom (row0 sp xs) p) e = (pos xs sp d p).map (mk xs.length)
  | 0, p, K, e, h, hp, hK => by
    have hn : 0 < xs.length := List.length_pos_iff.2 hne
    have hf : firstFrom (row0 sp xs) p = -1 := by
      by_cases hp1 : p = sp.length + 1
      · exact firstFrom_end _ _ (by rw [row0_len]; omega)
      · have hv := row0_none sp xs ho p (by omega) (by
          cases hc : fitsAt xs (sp.drop p) with
          | false => rfl
          | true => have := fitsAt_len _ _ hc; rw [List.length_drop] at this; omega)
        rw [firstFrom_miss _ _ (by rw [row0_len]; omega) hv]
        exact firstFrom_end _ _ (by rw [row0_len]; omega)
    rw [hf]
    cases K <;> simp [eachGo, pos]
  | d + 1, p, K, e, h, hp, hK => by
    have hn : 0 < xs.length := List.length_pos_iff.2 hne
    unfold pos
    by_cases hf : fitsAt xs (sp.drop p) = true
    · have hl := fitsAt_len _ _ hf
      rw [List.length_drop] at hl
      rw [if_pos hf, firstFrom_hit _ _ (by rw [row0_len]; omega) (row0_some sp xs ho p (by omega) hf)]
      obtain ⟨K', rfl⟩ : ∃ K', K = K' + 1 := ⟨K - 1, by omega⟩
      have hm := matchAt_ones sp xs ho p (by omega) hf
      unfold eachGo
      rw [if_neg (by omega), Int.toNat_natCast]
      simp only [hm]
      rw [if_neg (by rw [mk_0, mk_1]; intro hc; omega), mk_1, Int.toNat_natCast, List.map_cons]
      congr 1
      exact each_ones sp xs ho hne d (p + xs.length) K' _ (by omega) (by omega) (by omega)
    · rw [if_neg hf]
      have hf' : fitsAt xs (sp.drop p) = false := by simpa using hf
      by_cases hp1 : p ≤ sp.length
      · rw [firstFrom_miss _ _ (by rw [row0_len]; omega) (row0_none sp xs ho p hp1 hf')]
        exact each_ones sp xs ho hne d (p + 1) K e (by omega) (by omega) (by omega)
      · have e1 : firstFrom (row0 sp xs) p = -1 := firstFrom_end _ _ (by rw [row0_len]; omega)
        have e2 : ∀ d q, sp.length < q → pos xs sp d q = [] := by
          intro d
          induction d with
          | zero => intro q _; rfl
          | succ d ih =>
            intro q hq
            unfold pos
            rw [if_neg (by
              intro hc
              have := fitsAt_len _ _ hc
              rw [List.length_drop] at this
              omega)]
            exact ih _ (by omega)
        rw [e1, e2 d (p + 1) (by omega)]
        cases K <;> simp [eachGo]
theorem matches_ones (sp : List Int) (xs : List Item) (ho : Ones xs) (hne : xs ≠ []) : matches_ sp xs = (pos xs sp sp.length 0).map (mk xs.length) :=
  each_ones sp xs ho hne sp.length 0 _ _ (by omega) (by omega) (by omega)

/-- What a replacement without groups makes of a match. -/
def fill (ps : List Part) (m : List Int) : List Int := ps.flatMap fun p => if p.kind = 0 then runes ⟨p.text.toArray⟩ else m
/-- Parts that are literal or the whole match. -/
def Lits (ps : List Part) : Prop := ∀ p ∈ ps, (p.kind = 0 ∧ p.text.length ≤ 100000) ∨ p.kind = 1
theorem replAll_mk (sp : List Int) (ps : List Part) (hl : Lits ps) (n t : Nat) : replAll sp (mk n t) ps = fill ps ((sp.drop t).take n) := by
  unfold replAll fill
  induction ps with
  | nil => rfl
  | cons p ps ih =>
    simp only [List.flatMap_cons]
    rw [ih (fun q hq => hl q (List.mem_cons_of_mem _ hq))]
    congr 1
    unfold repl1
    rcases hl p (List.mem_cons_self ..) with ⟨e, _⟩ | e
    · simp [e]
    · have : seg sp ((mk n t).getD 0 0) ((mk n t).getD 1 0) = (sp.drop t).take n := by
        rw [mk_0, mk_1]
        unfold seg
        rw [Int.toNat_natCast, Int.toNat_natCast]
        congr 1
        omega
      rw [if_neg (by omega), if_pos e, if_neg (by omega), this]
/-- All matches replaced. -/
def rep (xs : List Item) (F : List Int → List Int) : Nat → List Int → List Int
  | 0, l => l
  | d + 1, l => if fitsAt xs l = true then F (l.take xs.length) ++ rep xs F d (l.drop xs.length) else
    match l with
    | [] => []
    | r :: l => r :: rep xs F d l

theorem seg_more (sp : List Int) (k p : Nat) (h : k ≤ p) (hp : p < sp.length) : seg sp k ((p + 1 : Nat) : Int) = seg sp k p ++ [sp.getD p 0] := by
  unfold seg
  simp only [Int.toNat_natCast]
  rw [show p + 1 - k = (p - k) + 1 by omega, List.take_succ_eq_append_getElem (by rw [List.length_drop]; omega)]
  congr 1
  simp [List.getElem_drop, show k + (p - k) = p by omega, hp]
theorem seg_none (sp : List Int) (k : Nat) : seg sp k k = [] := by simp [seg]
theorem seg_drop (sp : List Int) (k p : Nat) (h : k ≤ p) : seg sp k p ++ sp.drop p = sp.drop k := by
  unfold seg
  simp only [Int.toNat_natCast]
  have := List.take_append_drop (p - k) (sp.drop k)
  rw [List.drop_drop, show k + (p - k) = p by omega] at this
  exact this

theorem subst_ones (sp : List Int) (xs : List Item) (hne : xs ≠ []) (nth : Int) (hn : nth ≤ 1) (ps : List Part) (hl : Lits ps) : ∀ (d p : Nat) (num : Int) (k : Nat) (ch : List Int) (f : Bool), sp.length ≤ p + d → p ≤ sp.length → k ≤ p → 0 ≤ num →
    (substGo sp nth true ps ((pos xs sp d p).map (mk xs.length)) num k ch f).2.1 ++ sp.drop (substGo sp nth true ps ((pos xs sp d p).map (mk xs.length)) num k ch f).1 = (ch ++ seg sp k p) ++ rep xs (fill ps) d (sp.drop p)
  | 0, p, num, k, ch, f, h, hp, hk, hm => by
    simp only [pos, List.map_nil, substGo, rep]
    rw [List.append_assoc, seg_drop sp k p hk]
  | d + 1, p, num, k, ch, f, h, hp, hk, hm => by
    have hx : 0 < xs.length := List.length_pos_iff.2 hne
    unfold pos rep
    by_cases hf : fitsAt xs (sp.drop p) = true
    · have hlen := fitsAt_len _ _ hf
      rw [List.length_drop] at hlen
      rw [if_pos hf, if_pos hf]
      simp only [List.map_cons, substGo]
      rw [if_neg (by omega), if_pos trivial, mk_0, mk_1, Int.toNat_natCast, replAll_mk sp ps hl]
      rw [subst_ones sp xs hne nth hn ps hl d (p + xs.length) (num + 1) (p + xs.length) _ true (by omega) (by omega) (by omega) (by omega), seg_none, List.append_nil, List.drop_drop]
      simp [List.append_assoc]
    · rw [if_neg hf, if_neg hf]
      by_cases hp1 : p < sp.length
      · rw [subst_ones sp xs hne nth hn ps hl d (p + 1) num k ch f (by omega) (by omega) (by omega) hm]
        have hd : sp.drop p = sp.getD p 0 :: sp.drop (p + 1) := by rw [List.drop_eq_getElem_cons hp1]; simp [hp1]
        rw [hd, seg_more sp k p hk hp1]
        simp [List.append_assoc]
      · have hpe : p = sp.length := by omega
        have e2 : ∀ d q, sp.length < q → pos xs sp d q = [] := by
          intro d
          induction d with
          | zero => intro q _; rfl
          | succ d ih =>
            intro q hq
            unfold pos
            rw [if_neg (by
              intro hc
              have := fitsAt_len _ _ hc
              rw [List.length_drop] at this
              omega)]
            exact ih _ (by omega)
        rw [e2 d (p + 1) (by omega)]
        subst hpe
        have := seg_drop sp k sp.length hk
        rw [List.drop_length, List.append_nil] at this
        simp only [List.map_nil, substGo, List.drop_length, List.append_nil]
        rw [this]
theorem substGo_true (sp : List Int) (nth : Int) (ps : List Part) : ∀ (ms : List (List Int)) (num : Int) (k : Nat) (ch : List Int), (substGo sp nth true ps ms num k ch true).2.2 = true
  | [], _, _, _ => rfl
  | m :: ms, num, k, ch => by
    simp only [substGo]
    split
    · exact substGo_true sp nth ps ms _ _ _
    · simp only [if_true]
      exact substGo_true sp nth ps ms _ _ _
/-- What an s with g makes of a space. -/
theorem subst_g (sp : List Int) (c : Cmd) (ho : Ones c.pat.items) (hne : c.pat.items ≠ []) (hn : c.nth ≤ 1) (hall : c.all = true) (hl : Lits c.repl) : subst sp c = rep c.pat.items (fill c.repl) sp.length sp := by
  have h := subst_ones sp c.pat.items hne c.nth hn c.repl hl sp.length 0 0 0 [] false (by omega) (by omega) (by omega) (by omega)
  unfold subst
  rw [matches_ones sp _ ho hne, hall]
  simp only [List.drop_zero] at h
  have hs0 : seg sp ((0 : Nat) : Int) ((0 : Nat) : Int) = [] := seg_none sp 0
  rw [hs0, List.append_nil, List.nil_append] at h
  cases hps : pos c.pat.items sp sp.length 0 with
  | nil =>
    rw [hps] at h
    simp only [List.map_nil, substGo, List.nil_append, List.drop_zero] at h ⊢
    simpa using h
  | cons a t =>
    rw [hps] at h
    have ht : (substGo sp c.nth true c.repl ((a :: t).map (mk c.pat.items.length)) 0 0 [] false).2.2 = true := by
      simp only [List.map_cons, substGo]
      rw [if_neg (by omega), if_pos trivial]
      exact substGo_true _ _ _ _ _ _ _
    simp only [ht, if_true]
    exact h
end Adz
end Go.Proofs.YtbiobhghnldckaaGreatDoor

/- Proved: nothing goes wrong where an s's pattern takes one rune an item; three scripts' ways to replace. No condition but those told. -/
namespace Go.Proofs.YtbiobhghnldckaaGreatDoor
set_option linter.unusedVariables false
namespace Adz

theorem ok_ones (sp : List Int) (xs : List Item) (hne : xs ≠ []) (nth : Int) (all : Bool) (ps : List Part) (hl : Lits ps) (C : Nat) (hC : C ≤ 1000) (hF : ∀ m : List Int, m.length = xs.length → (fill ps m).length ≤ C) (hsp : sp.length ≤ 400) : ∀ (d p : Nat) (num : Int) (k : Nat) (ch : List Int), sp.length ≤ p + d → p ≤ sp.length → k ≤ p → ch.length ≤ k * (C + 1) →
    okRun sp nth all ps ((pos xs sp d p).map (mk xs.length)) num k ch
  | 0, p, num, k, ch, h, hp, hk, hc => by
    have : k * (C + 1) ≤ 400 * 1001 := Nat.mul_le_mul (by omega) (by omega)
    exact ⟨by omega, by omega⟩
  | d + 1, p, num, k, ch, h, hp, hk, hc => by
    have hx : 0 < xs.length := List.length_pos_iff.2 hne
    have hkc : k * (C + 1) ≤ 400 * 1001 := Nat.mul_le_mul (by omega) (by omega)
    unfold pos
    by_cases hf : fitsAt xs (sp.drop p) = true
    · have hlen := fitsAt_len _ _ hf
      rw [List.length_drop] at hlen
      rw [if_pos hf, List.map_cons]
      unfold okRun
      rw [mk_0, mk_1]
      refine ⟨mk_len _ _, ⟨by omega, by omega, by omega⟩, ⟨by omega, by omega, by omega⟩, by omega, by omega, ?_⟩
      have hsl : (seg sp k p).length = p - k := seg_len sp k p hk (by omega)
      have hfl : (fill ps ((sp.drop p).take xs.length)).length ≤ C := hF _ (by rw [List.length_take, List.length_drop]; omega)
      have hnew : ((ch ++ seg sp k p) ++ fill ps ((sp.drop p).take xs.length)).length ≤ (p + xs.length) * (C + 1) := by
        simp only [List.length_append, hsl]
        have e1 : (p + xs.length) * (C + 1) = k * (C + 1) + (p - k) * (C + 1) + xs.length * (C + 1) := by
          rw [← Nat.add_mul, ← Nat.add_mul]; congr 1; omega
        have e2 : (p - k) * 1 ≤ (p - k) * (C + 1) := Nat.mul_le_mul (Nat.le_refl _) (by omega)
        have e3 : 1 * (C + 1) ≤ xs.length * (C + 1) := Nat.mul_le_mul hx (Nat.le_refl _)
        omega
      have hbig : (p + xs.length) * (C + 1) ≤ 400 * 1001 := Nat.mul_le_mul (by omega) (by omega)
      split
      · exact ok_ones sp xs hne nth all ps hl C hC hF hsp d (p + xs.length) (num + 1) k ch (by omega) (by omega) (by omega) hc
      · rw [replAll_mk sp ps hl]
        refine ⟨fun q hq => ?_, by omega, by omega, fun _ => ?_⟩
        · rcases hl q hq with h | h
          · exact Or.inl h
          · exact Or.inr (Or.inl h)
        · rw [Int.toNat_natCast]
          exact ok_ones sp xs hne nth all ps hl C hC hF hsp d (p + xs.length) (num + 1) (p + xs.length) _ (by omega) (by omega) (by omega) hnew
    · rw [if_neg hf]
      by_cases hp1 : p < sp.length
      · exact ok_ones sp xs hne nth all ps hl C hC hF hsp d (p + 1) num k ch (by omega) (by omega) (by omega) hc
      · have e2 : ∀ d q, sp.length < q → pos xs sp d q = [] := by
          intro d
          induction d with
          | zero => intro q _; rfl
          | succ d ih =>
            intro q hq
            unfold pos
            rw [if_neg (by
              intro hc
              have := fitsAt_len _ _ hc
              rw [List.length_drop] at this
              omega)]
            exact ih _ (by omega)
        rw [e2 d (p + 1) (by omega)]
        exact ⟨by omega, by omega⟩
/-- One item that takes every rune of a list. -/
theorem rep_each (x : Item) (F : List Int → List Int) : ∀ (d : Nat) (l : List Int), l.length ≤ d → (∀ r ∈ l, takes x r = true) → rep [x] F d l = l.flatMap fun r => F [r]
  | 0, l, h, _ => by
    have : l = [] := List.eq_nil_of_length_eq_zero (by omega)
    subst this; rfl
  | d + 1, [], _, _ => by simp [rep, fitsAt]
  | d + 1, r :: l, h, ht => by
    have h1 := ht r (List.mem_cons_self ..)
    unfold rep
    rw [if_pos (by simp [fitsAt, h1])]
    simp only [List.length_cons, List.length_nil, Nat.zero_add, List.take_succ_cons, List.take_zero, List.drop_succ_cons, List.drop_zero, List.flatMap_cons]
    rw [rep_each x F d l (by simp at h; omega) (fun r hr => ht r (List.mem_cons_of_mem _ hr))]
end Adz
theorem fine_ones {sp : List Int} {c : Adz.Cmd} (ho : Adz.Ones c.pat.items) (hne : c.pat.items ≠ []) (hl : Adz.Lits c.repl) (hi : c.pat.items.length ≤ 1000) (hs : ∀ x ∈ c.pat.items, x.spans.length ≤ 1000) (hr : c.repl.length ≤ 1000) (C : Nat) (hC : C ≤ 1000) (hF : ∀ m : List Int, m.length = c.pat.items.length → (Adz.fill c.repl m).length ≤ C) (hsp : sp.length ≤ 400) (hp : c.print = false) (hless : (Adz.subst sp c).length ≤ 400) : Fine sp c := by
  refine ⟨hi, hs, hsp, fun x hx => Or.inr ?_, hr, ?_, hp, hless⟩
  · rcases (ho x hx).2 with e | e <;> constructor <;> omega
  · rw [Adz.matches_ones sp _ ho hne]
    exact Adz.ok_ones sp _ hne _ _ _ hl C hC hF hsp sp.length 0 0 0 [] (by omega) (by omega) (by omega) (by simp)
end Go.Proofs.YtbiobhghnldckaaGreatDoor

/- Proved: what stands behind a y is read. Conditions: the cursor lies in memory as 'Cur' says, and the parser leads to it. -/
namespace Go.Proofs.YtbiobhghnldckaaGreatDoor
open Go.RowKit
set_option linter.unusedVariables false
attribute [local go_sem ↓] Go.wp_at_zero Go.wp_at_succ

theorem asc_side : Asc ⟨#[47, 92]⟩ Adz.sideSpecial := ⟨by decide, by decide, by decide⟩

set_option maxRecDepth 100000 in
set_option maxHeartbeats 1600000 in
theorem sideRune_ok (g : CG) (pp : Nat) (w : World) (i : Nat) (h : Cur g w i) (hp : Lead g pp w) (r : Int) (i' : Nat) (hr : Adz.sideRune g.L g.pl i = .ok (r, i')) :
    Calls Tryz.prog 197 #[.pointer (some ⟨pp, 0, none⟩)] w fun e w' => e = .returned (.tuple #[.int .i32 r, .pointer none]) ∧ Cur g w' i' ∧ Only (· = g.c) w w' := by
  unfold Adz.sideRune at hr
  have q0 := hp.at0
  by_cases c2 : Adz.peek g.L i = 92
  · have b2 : (Adz.peek g.L i == 92) = true := by simp [c2]
    rw [b2] at hr
    simp only [if_true] at hr
    have HE : Hid (Adz.escaped g.L g.pl Adz.sideSpecial (i + 1) = .ok (r, i')) := hr
    clear hr b2
    go_enter Tryz.func197, Tryz.ntmps197
    go_wp2_with fail
    refine (take_yes g w i 92 h c2 (by omega)).mono ?_
    rintro e w1 ⟨rfl, hc1, ho1⟩
    have q1 := (hp.moved ho1).at0
    go_wp2_with fail
    refine (escaped_ok g _ (i + 1) _ _ asc_side hc1 r i' HE.out).mono ?_
    rintro e w2 ⟨rfl, hc2, ho2⟩
    go_wp2
    go_ret2
    exact ⟨rfl, hc2, only2 ho1 ho2⟩
  · have b2 : (Adz.peek g.L i == 92) = false := by simpa using c2
    rw [b2] at hr
    simp only [Bool.false_eq_true, if_false] at hr
    have HE : Hid (Adz.plain g.L g.pl Adz.sideSpecial i = .ok (r, i')) := hr
    clear hr b2
    go_enter Tryz.func197, Tryz.ntmps197
    go_wp2_with fail
    refine (take_no g w i 92 h c2).mono ?_
    rintro e w1 ⟨rfl, n1, rfl⟩
    go_wp2_with fail
    refine (plain_ok g _ i _ _ asc_side (h.drewN n1) r i' HE.out).mono ?_
    rintro e w2 ⟨rfl, hc2, ho2⟩
    go_wp2
    go_ret2
    exact ⟨rfl, hc2, ((Only.refl (· = g.c) w).drewN n1).trans ho2 (fun _ e => e) (fun _ _ e => e)⟩

theorem sideRune_lt {L pl : List Int} {i i' : Nat} {r : Int} (h : Adz.sideRune L pl i = .ok (r, i')) : i < i' := by
  unfold Adz.sideRune Adz.escaped Adz.plain at h
  split at h
  · split at h
    · injection h with h; injection h with h1 h2; omega
    · split at h
      · injection h with h; injection h with h1 h2; omega
      · cases h
  · split at h
    · cases h
    · injection h with h; injection h with h1 h2; omega

set_option maxRecDepth 100000 in
set_option maxHeartbeats 1600000 in
theorem side_ok (g : CG) (pp : Nat) (w : World) (i : Nat) (h : Cur g w i) (hp : Lead g pp w) (rs : List Int) (i' : Nat) (hr : Adz.side g.L g.pl (g.L.length + 1) [] i = .ok (rs, i')) :
    Calls Tryz.prog 177 #[.pointer (some ⟨pp, 0, none⟩)] w fun e w' => ∃ rv, e = .returned (.tuple #[rv, .pointer none]) ∧ RunesAt w' rv rs ∧ rs.length ≤ g.L.length ∧ Cur g w' i' ∧ Only (· = g.c) w w' := by
  have HR : Hid (Adz.side g.L g.pl (g.L.length + 1) [] i = .ok (rs, i')) := hr
  clear hr
  have hle0 := h.le
  have hsm := h.small
  have hcl := h.lt
  go_enter Tryz.func177, Tryz.ntmps177
  go_wp2_with fail
  go_loopg [4] (g.L.length - i) (fun k v wr => ∃ j qs m ra rc, v = .slice ra qs.length rc ∧ Hid (Cur g wr j) ∧ Hid (Lead g pp wr) ∧ Hid (wr.ownsRow w.heap.size 21 1 (.slice ra qs.length rc) qs.length (qs.map (.int .i32))) ∧ j + k = g.L.length ∧ Hid (g.L.length < m + j ∧ qs.length ≤ j ∧ Adz.side g.L g.pl m qs j = .ok (rs, i')) ∧ Hid (Only (fun b => b = g.c ∨ w.heap.size ≤ b) w wr))
  case atStart => exact ⟨i, [], g.L.length + 1, none, 0, rfl, h, hp, World.ownsRow_nil _ _ _ _, by omega, ⟨by omega, by simp, HR.out⟩, Only.refl _ _⟩
  case round =>
    obtain ⟨j, qs, m, ra, rc, rfl, hc, hl, hw, hk, hI, hO⟩ := hrel
    obtain ⟨hm, hqj, hit⟩ := hI.out
    have hc' : Cur g wr j := hc
    have hl' : Lead g pp wr := hl
    have hO' : Only (fun b => b = g.c ∨ w.heap.size ≤ b) w wr := hO
    have HK : Hid (j + gk = g.L.length) := hk
    have q1 := hl'.at0
    clear hk hc hl hI hO
    cases m with
    | zero => have := hc'.le; omega
    | succ m =>
      unfold Adz.side at hit
      by_cases h47 : Adz.peek g.L j = 47
      · simp only [h47, beq_self_eq_true, if_true, Except.ok.injEq, Prod.mk.injEq] at hit
        obtain ⟨rfl, rfl⟩ := hit
        have hjl := hc'.le
        go_wp2_with fail
        refine (take_yes g wr j 47 hc' h47 (by omega)).mono ?_
        rintro e w1 ⟨rfl, hc1, ho1⟩
        go_wp2
        go_ret2
        refine ⟨_, rfl, row_base (row_keeps (Hid.out hw) ho1 (fun b hb e => (Typ.of_row (Hid.out hw) hb).ne hc'.tc (by decide) e)) (Nat.zero_le _), by omega, hc1, ?_⟩
        exact (hO'.trans ho1 (fun _ e => e) (fun _ _ e => Or.inl e) : Only (fun b => b = g.c ∨ w.heap.size ≤ b) w w1).mono (fun b hb e => by rcases e with e | e; exact e; omega)
      · have b47 : (Adz.peek g.L j == 47) = false := by simpa using h47
        rw [b47] at hit
        simp only [Bool.false_eq_true, if_false] at hit
        cases hpt : Adz.sideRune g.L g.pl j with
        | error f => rw [hpt] at hit; cases hit
        | ok q =>
          obtain ⟨p, j1⟩ := q
          rw [hpt] at hit
          simp only at hit
          have HP : Hid (Adz.sideRune g.L g.pl j = .ok (p, j1)) := hpt
          have HT : Hid (Adz.side g.L g.pl m (qs ++ [p]) j1 = .ok (rs, i')) := hit
          have hlt := sideRune_lt hpt
          have hjl := hc'.le
          clear hpt hit b47
          go_wp2_with fail
          refine (take_no g wr j 47 hc' h47).mono ?_
          rintro e w1 ⟨rfl, n1, rfl⟩
          go_wp2_with fail
          refine (sideRune_ok g pp _ j (hc'.drewN n1) (hl'.drewN n1) p j1 HP.out).mono ?_
          rintro e w2 ⟨rfl, hc2, ho2⟩
          have o2 : Only (· = g.c) wr w2 := ((Only.refl (· = g.c) wr).drewN n1).trans ho2 (fun _ e => e) (fun _ _ e => e)
          have hw2 := row_keeps (Hid.out hw) o2 (fun b hb e => (Typ.of_row (Hid.out hw) hb).ne hc'.tc (by decide) e)
          have hj1 := hc2.le
          have hsz : w.heap.size ≤ w2.heap.size := Nat.le_trans hO'.size o2.size
          have oa : Only (fun _ => False) w2 (w2.alloc (.cells #[.int .i32 p] 21)) := (Only.refl _ w2).alloc _
          have ga := row_keeps hw2 oa (fun _ _ => id)
          have hsp : SpaceAt (w2.alloc (.cells #[.int .i32 p] 21)) (some ⟨w2.heap.size, 0, none⟩) [p] := fun _ => ⟨w2.heap.size, 0, rfl, Typ.new _ _ _ _, fun j hj => by
            have : j = 0 := by simp at hj; omega
            subst this
            exact (Cells.new w2 #[.int .i32 p] 21 0 _ rfl).1⟩
          have hszA : (w2.alloc (.cells #[.int .i32 p] 21)).heap.size = w2.heap.size + 1 := by simp
          go_wp2_with (at_builtin; refine wpList_append_runes _ (by rfl) _ _ (by rfl) w.heap.size (.slice ra qs.length rc) qs.length qs (by rfl) ga (some ⟨w2.heap.size, 0, none⟩) 1 [p] 1 (by rfl) rfl hsp (by omega) (by rw [hszA]; omega) ?_; intro a1 c1 w3 hown1 o1 hat1)
          go_roundg (g.L.length - j1)
          case measure => have := HK.out; omega
          case rel =>
            have o3 : Only (fun b => (Value.slice ra qs.length rc).ownBlock = some b) w2 w3 := oa.trans o1 (fun _ e => e.elim) (fun _ _ e => e)
            refine ⟨j1, qs ++ [p], m, a1, c1, by simp, ?_, ?_, ?_, by omega, ⟨by omega, by simp; omega, HT.out⟩, ?_⟩
            · exact hc2.keeps o3 (row_ne hw2 hc2.tc (by decide)) (fun hn e => by
                have t1 := hc2.tr hn
                have t2 := hw2.lt _ e
                have t3 := h.tr hn
                have := t3.lt
                omega) (row_ne hw2 hc2.tp (by decide))
            · have hl2 : Lead g pp w2 := hl'.moved o2
              exact hl2.keeps o3 (row_ne hw2 hl2.typ (by decide))
            · rw [List.length_append]
              exact hown1
            · exact (hO'.trans o2 (fun _ e => e) (fun _ _ e => Or.inl e) : Only (fun b => b = g.c ∨ w.heap.size ≤ b) w w2).trans o3 (fun _ e => e) (fun b hb e => Or.inr (hw2.lt b e).1)

theorem twice_ne : ∀ (l : List Int), Adz.hasTwice l = false → ∀ i j, i < j → j < l.length → l.getD i 0 ≠ l.getD j 0
  | [], _, i, j, _, hj => by simp at hj
  | r :: l, h, i, j, hij, hj => by
    simp only [Adz.hasTwice, Bool.or_eq_false_iff] at h
    obtain ⟨h1, h2⟩ := h
    cases j with
    | zero => omega
    | succ j =>
      simp only [List.length_cons] at hj
      cases i with
      | zero =>
        simp only [List.getD_cons_zero, List.getD_cons_succ]
        intro e
        have hm : r ∈ l := by
          rw [e, List.getD_eq_getElem?_getD, List.getElem?_eq_getElem (by omega)]
          exact List.getElem_mem _
        simp [hm] at h1
      | succ i =>
        simp only [List.getD_cons_succ]
        exact twice_ne l h2 i j (by omega) (by omega)

set_option maxRecDepth 100000 in
set_option maxHeartbeats 1600000 in
theorem hasTwice_no (w : World) (sa : Option Addr) (sc : Nat) (xs : List Int) (h : SpaceAt w sa xs) (hx : xs.length ≤ 1000000) (hsc : xs.length ≤ sc) (hno : Adz.hasTwice xs = false) :
    Calls Tryz.prog 178 #[.slice sa xs.length sc] w fun e w' => e = .returned (.bool false) ∧ ∃ m, w' = w.drewN m := by
  have ht := twice_ne xs hno
  clear hno
  have HT : Hid _ := ht
  clear ht
  go_enter Tryz.func178, Tryz.ntmps178
  go_wp2_with fail
  go_loopg [7] xs.length (fun k v wr => ∃ j : Nat, v = .int .i64 j ∧ j + k = xs.length ∧ ∃ m, wr = w.drewN m)
  case atStart => exact ⟨0, rfl, by omega, 0, rfl⟩
  case round =>
    obtain ⟨j, rfl, hjk, m, rfl⟩ := hrel
    have HJ : Hid (j + gk = xs.length) := hjk
    have hjl : j ≤ xs.length := by omega
    clear hjk
    by_cases hlt : j < xs.length
    · obtain ⟨rb, ro, rfl, ht, hc⟩ := h (by intro e; simp [e] at hlt)
      have y1 := ((Only.refl (fun _ => False) w).drewN m).keeps (hc j hlt) id
      have HC : Hid _ := hc
      clear hc
      have hw : IntKind.i64.wrap ((j : Int) + 1) = (j : Int) + 1 := by rw [IntKind.wrap_i64]; omega
      generalize hp : xs.getD j 0 = p at *
      have HP : Hid (xs.getD j 0 = p) := hp
      clear hp
      have hlen : (xs.take j).length = j := by rw [List.length_take]; omega
      have hcall := contains_calls (w.drewN m) (some ⟨rb, ro, none⟩) sc (xs.take j) (fun hne => ⟨rb, ro, rfl, ht.keeps ((Only.refl (fun _ => False) w).drewN m) id, fun k hk => by
        rw [hlen] at hk
        have e1 : (xs.take j).getD k 0 = xs.getD k 0 := by rw [List.getD_eq_getElem?_getD, List.getD_eq_getElem?_getD, List.getElem?_take, if_pos hk]
        rw [e1]
        exact ((Only.refl (fun _ => False) w).drewN m).keeps (HC.out k (by omega)) id⟩) (by omega) p (fun k hk => by
        rw [hlen] at hk
        have e1 : (xs.take j).getD k 0 = xs.getD k 0 := by rw [List.getD_eq_getElem?_getD, List.getD_eq_getElem?_getD, List.getElem?_take, if_pos hk]
        rw [e1, ← HP.out]
        exact HT.out k j hk hlt)
      rw [hlen] at hcall
      go_wp2_with fail
      refine hcall.mono ?_
      clear hcall
      rintro e w1 ⟨rfl, rfl⟩
      go_wp2
      go_roundg (gk - 1)
      case measure => have := HJ.out; omega
      case rel => exact ⟨j + 1, by first | rfl | simp [hw], by have := HJ.out; omega, m, rfl⟩
    · have he : j = xs.length := by omega
      subst he
      go_wp2
      go_ret
      exact ⟨rfl, m, rfl⟩

set_option maxRecDepth 100000 in
set_option maxHeartbeats 1600000 in
theorem exchange_ok (g : CG) (pp cb : Nat) (w : World) (i : Nat) (at_ : Int) (h : Cur g w i) (hp : Lead g pp w) (c : Adz.Cmd) (hc : CmdAt w cb c) (c' : Adz.Cmd) (i' : Nat) (hr : Adz.exchange g.L g.pl c at_ i = .ok (c', i')) :
    Calls Tryz.prog 151 #[.pointer (some ⟨pp, 0, none⟩), .pointer (some ⟨cb, 0, none⟩), .int .i64 at_] w fun e w' => e = .returned (.pointer none) ∧ CmdAt w' cb c' ∧ Cur g w' i' ∧ Only (fun b => b = g.c ∨ b = cb) w w' := by
  unfold Adz.exchange at hr
  by_cases h47 : Adz.peek g.L i = 47
  · have b47 : (Adz.peek g.L i != 47) = false := by simp [h47]
    rw [b47] at hr
    simp only [Bool.false_eq_true, if_false] at hr
    cases hs1 : Adz.side g.L g.pl (g.L.length + 1) [] (i + 1) with
    | error f => rw [hs1] at hr; cases hr
    | ok q =>
      obtain ⟨a, i1⟩ := q
      rw [hs1] at hr
      simp only at hr
      cases hs2 : Adz.side g.L g.pl (g.L.length + 1) [] i1 with
      | error f => rw [hs2] at hr; cases hr
      | ok q =>
        obtain ⟨b, i2⟩ := q
        rw [hs2] at hr
        simp only at hr
        cases hbad : (a.length != b.length || Adz.hasTwice a) with
        | true => rw [hbad] at hr; cases hr
        | false =>
          rw [hbad] at hr
          simp only [Bool.false_eq_true, if_false, Except.ok.injEq, Prod.mk.injEq] at hr
          obtain ⟨rfl, rfl⟩ := hr
          simp only [Bool.or_eq_false_iff, bne_eq_false_iff_eq] at hbad
          obtain ⟨hlen, htw⟩ := hbad
          have H1 : Hid (Adz.side g.L g.pl (g.L.length + 1) [] (i + 1) = .ok (a, i1)) := hs1
          have H2 : Hid (Adz.side g.L g.pl (g.L.length + 1) [] i1 = .ok (b, i2)) := hs2
          have q0 := hp.at0
          have ncb : cb ≠ g.c := hc.typ.ne h.tc (by decide)
          have npp : pp ≠ cb := hp.typ.ne hc.typ (by decide)
          have hsm := h.small
          have HTW : Hid _ := htw
          clear hs1 hs2 b47 htw
          go_enter Tryz.func151, Tryz.ntmps151
          go_wp2_with fail
          refine (take_yes g w i 47 h h47 (by omega)).mono ?_
          rintro e w1 ⟨rfl, hc1, ho1⟩
          have l1 := hp.moved ho1
          have q1 := l1.at0
          have m1 := hc.keeps ho1 h.spares ncb
          go_wp2_with fail
          refine (side_ok g pp w1 (i + 1) hc1 l1 a i1 H1.out).mono ?_
          rintro e w2 ⟨rv, rfl, hrv, hal, hc2, ho2⟩
          obtain ⟨ra, rc, rfl⟩ := row_shape hrv
          have l2 := l1.moved ho2
          have m2 := m1.keeps ho2 hc1.spares ncb
          obtain ⟨av, iv, rv0, fv, tv, k2, d2⟩ := m2.deep
          have k12 := k2 12 _ rfl
          rw [hlen] at hrv
          have o3 : Only (· = cb) w2 (w2.setCell ⟨cb, 12, none⟩ (.slice ra b.length rc)) := only_set _ _ _ _
          have sp2 : Spares w2 (· = cb) := spares_one m2.typ (by decide)
          have k3 : Cells (w2.setCell ⟨cb, 12, none⟩ (.slice ra b.length rc)) cb (cmdCells { c with old := a } av iv rv0 (.slice ra b.length rc) tv) := k2.set 12 _
          have t3 : Typ (w2.setCell ⟨cb, 12, none⟩ (.slice ra b.length rc)) cb 167 := m2.typ.set
          have hc3 := hc2.aside o3 m2.typ
          have l3 := l2.keeps o3 npp
          have d3 := d2.keeps o3 sp2
          have r3 : RunesAt (w2.setCell ⟨cb, 12, none⟩ (.slice ra b.length rc)) (.slice ra b.length rc) a := hrv.keeps o3 sp2.rune
          go_wp2_with fail
          generalize w2.setCell ⟨cb, 12, none⟩ (.slice ra b.length rc) = w3 at *
          clear k12 k2 d2
          refine (side_ok g pp w3 i1 hc3 l3 b i2 H2.out).mono ?_
          rintro e w4 ⟨rv, rfl, hrv4, hbl, hc4, ho4⟩
          obtain ⟨rb, rc2, rfl⟩ := row_shape hrv4
          have l4 := l3.moved ho4
          have t4 := t3.keeps ho4 ncb
          have k4 := k3.keeps ho4 ncb
          have d4 := d3.keeps ho4 hc3.spares
          have r4 := r3.keeps ho4 hc3.spares.rune
          have k13 := k4 13 _ rfl
          have o5 : Only (· = cb) w4 (w4.setCell ⟨cb, 13, none⟩ (.slice rb b.length rc2)) := only_set _ _ _ _
          have sp4 : Spares w4 (· = cb) := spares_one t4 (by decide)
          have k5 : Cells (w4.setCell ⟨cb, 13, none⟩ (.slice rb b.length rc2)) cb (cmdCells { c with old := a, new := b } av iv rv0 (.slice ra b.length rc) (.slice rb b.length rc2)) := k4.set 13 _
          have t5 : Typ (w4.setCell ⟨cb, 13, none⟩ (.slice rb b.length rc2)) cb 167 := t4.set
          have hc5 := hc4.aside o5 t4
          have l5 := l4.keeps o5 npp
          have d5 := d4.keeps o5 sp4
          have r5 := r4.keeps o5 sp4.rune
          have s5 : RunesAt (w4.setCell ⟨cb, 13, none⟩ (.slice rb b.length rc2)) (.slice rb b.length rc2) b := hrv4.keeps o5 sp4.rune
          have x12 := (k5 12 _ rfl).1
          have x13 := (k5 13 _ rfl).1
          go_wp2_with fail
          generalize w4.setCell ⟨cb, 13, none⟩ (.slice rb b.length rc2) = w5 at *
          have hrow : w5.ownsRow 0 21 1 (.slice ra a.length rc) a.length (a.map (.int .i32)) := by
            have := r5
            unfold RunesAt at this
            rwa [← hlen] at this
          have hsl5 := Sl.of_row hrow
          have hcall := fun m => hasTwice_no (w5.drewN m) ra rc a (hsl5.1.space.keeps ((Only.refl (fun _ => False) _).drewN m) (fun _ _ => id)) (by omega) hsl5.2 HTW.out
          rw [hlen] at hcall
          have HD : Hid _ := d5
          have HK5 : Hid _ := k5
          have HR5 : Hid _ := r5
          have HS5 : Hid _ := s5
          clear d5 k5 r5 s5 hsl5 hrow k3 k4 d3 d4 r3 r4
          go_quiet ((go_at_call 178; exact Calls.quiet_of (hcall _)))
          go_wp2
          go_ret
          have oq : Only (fun _ => False) w5 (w5.drewN nq) := (Only.refl _ w5).drewN nq
          have dq := HD.out.keeps oq ⟨fun _ _ => id, fun _ _ => id, fun _ _ => id, fun _ _ => id, fun _ _ => id⟩
          have oall : Only (fun b => b = g.c ∨ b = cb) w w5 := by
            have e1 : Only (fun b => b = g.c ∨ b = cb) w w2 := (only2 ho1 ho2).mono (fun _ _ e => Or.inl e)
            have e2 : Only (fun b => b = g.c ∨ b = cb) w w3 := e1.trans o3 (fun _ e => e) (fun _ _ e => Or.inr e)
            have e3 : Only (fun b => b = g.c ∨ b = cb) w w4 := e2.trans ho4 (fun _ e => e) (fun _ _ e => Or.inl e)
            exact e3.trans o5 (fun _ e => e) (fun _ _ e => Or.inr e)
          exact ⟨rfl, ⟨t5.keeps oq id, av, iv, rv0, _, _, Cells.keeps HK5.out oq id, ⟨dq.a, dq.i, dq.r, RunesAt.keeps HR5.out oq (fun _ _ => id), RunesAt.keeps HS5.out oq (fun _ _ => id)⟩⟩, hc5.drewN nq, oall.drewN nq⟩
  · have b47 : (Adz.peek g.L i != 47) = true := by simpa [bne] using h47
    rw [b47] at hr
    cases hr

set_option maxRecDepth 100000 in
set_option maxHeartbeats 1600000 in
theorem behOk_y (g : CG) (pp n i : Nat) (c : Adz.Cmd) (hk : Adz.behindKind c.what = some 6) (c' : Adz.Cmd) (i' : Nat) (hr : ∀ at_, Adz.exchange g.L g.pl c at_ i = .ok (c', i')) : BehOk g pp n c i c' i' := fun w cb at_ h hp ht hc => by
  obtain ⟨mb, m1, m2⟩ := ht.map
  obtain ⟨av, iv, rv, fv, tv, kk, dd⟩ := hc.deep
  have k0 := (kk 0 _ rfl).1
  have q0 := hp.at0
  have hlk : ∀ m, (Instr.lookup 115 (.map (some mb)) (.int .i32 c.what) false).run Tryz.prog (w.drewN m) = .ok (.int .i64 6) (w.drewN m) := fun m => by
    have := beh_lookup (w.drewN m) mb c.what m2
    rw [hk] at this
    exact this
  have hcall := fun m => exchange_ok g pp cb (w.drewN m) i at_ (h.drewN m) (hp.drewN m) c (hc.keeps ((Only.refl (· = g.c) w).drewN m) h.spares (hc.typ.ne h.tc (by decide))) c' i' (hr at_)
  clear kk dd hr
  generalize c.what = wh at *
  go_enter Tryz.func103, Tryz.ntmps103
  go_wp2_with fail
  go_quiet (fail)
  go_wp2_with fail
  have o1 : Only (· = g.c) w (w.drewN nq) := (Only.refl _ w).drewN nq
  refine (hcall nq).mono ?_
  rintro e w2 ⟨rfl, hc2, hu2, ho2⟩
  go_wp2
  go_ret
  exact ⟨rfl, hc2, hu2, o1.trans ho2 (fun _ e => Or.inl e) (fun _ _ e => e)⟩
end Go.Proofs.YtbiobhghnldckaaGreatDoor

/- Proved: a y is done. Conditions: the editor lies in memory as 'EM' says, and the command. -/
namespace Go.Proofs.YtbiobhghnldckaaGreatDoor
open Go.RowKit
set_option linter.unusedVariables false
attribute [local go_sem ↓] Go.wp_at_zero Go.wp_at_succ

namespace Adz
/-- What a y makes of a rune. -/
def exch : List Int → List Int → Int → Int
  | a :: as_, b :: bs, r => if a = r then b else exch as_ bs r
  | _, _, r => r
theorem exch_none : ∀ (xs ys : List Int) (r : Int), (∀ k, k < xs.length → xs.getD k 0 ≠ r) → exch xs ys r = r
  | [], ys, r, _ => by unfold exch; rfl
  | a :: xs, [], r, _ => by unfold exch; rfl
  | a :: xs, b :: ys, r, h => by
    have h0 := h 0 (by simp)
    simp only [List.getD_cons_zero] at h0
    unfold exch
    rw [if_neg h0]
    exact exch_none xs ys r (fun k hk => by have := h (k + 1) (by simp; omega); simpa using this)
theorem exch_at : ∀ (xs ys : List Int) (r : Int) (j : Nat), xs.length = ys.length → j < xs.length → xs.getD j 0 = r → (∀ k, k < j → xs.getD k 0 ≠ r) → exch xs ys r = ys.getD j 0
  | [], ys, r, j, _, hj, _, _ => by simp at hj
  | a :: xs, [], r, j, hl, _, _, _ => by simp at hl
  | a :: xs, b :: ys, r, 0, hl, hj, he, h => by
    simp only [List.getD_cons_zero] at he
    unfold exch
    rw [if_pos he]; rfl
  | a :: xs, b :: ys, r, j + 1, hl, hj, he, h => by
    have h0 := h 0 (by omega)
    simp only [List.getD_cons_zero] at h0
    unfold exch
    rw [if_neg h0]
    simp only [List.length_cons] at hl hj
    simp only [List.getD_cons_succ] at he ⊢
    exact exch_at xs ys r j (by omega) (by omega) he (fun k hk => by have := h (k + 1) (by omega); simpa using this)
end Adz

/-- A row's cell. -/
theorem rowGet {w : World} {B g c N : Nat} {xs : List Int} (h : w.ownsRow B 21 1 (.slice (some ⟨g, 0, none⟩) N c) N (xs.map (.int .i32))) (j : Nat) (hj : j < N) : w.cell? ⟨g, j, none⟩ = some (.int .i32 (xs.getD j 0)) ∧ w.frozen? ⟨g, j, none⟩ = false := by
  have hl := h.1
  rw [List.length_map, Nat.mul_one] at hl
  rcases h.2 with ⟨e, h0⟩ | ⟨g', cap, cur, hv, _, hg, hcap, _, hsz, htake⟩
  · cases e
  · injection hv with e1 e2 e3
    injection e1 with e1
    injection e1 with e1
    subst e1
    constructor
    · rw [cell_of_row _ g j cur _ (0, 0) hg]
      have hx : (cur.toList.take (N * 1))[j]? = some (.int .i32 (xs.getD j 0)) := by
        rw [htake, List.getElem?_map, List.getD_eq_getElem?_getD, List.getElem?_eq_getElem (by omega)]; rfl
      rw [List.getElem?_take, if_pos (by omega), Array.getElem?_toList] at hx
      exact hx
    · unfold World.frozen?
      simp [hg]
/-- .. set to another. -/
theorem rowPut {w : World} {B g c N : Nat} {xs : List Int} (h : w.ownsRow B 21 1 (.slice (some ⟨g, 0, none⟩) N c) N (xs.map (.int .i32))) (j : Nat) (hj : j < N) (r : Int) : (w.setCell ⟨g, j, none⟩ (.int .i32 r)).ownsRow B 21 1 (.slice (some ⟨g, 0, none⟩) N c) N ((xs.set j r).map (.int .i32)) := by
  have hl := h.1
  rw [List.length_map, Nat.mul_one] at hl
  rcases h.2 with ⟨e, h0⟩ | ⟨g', cap, cur, hv, hb, hg, hcap, hmx, hsz, htake⟩
  · cases e
  · injection hv with e1 e2 e3
    injection e1 with e1
    injection e1 with e1
    subst e1; subst e3
    refine ⟨by rw [List.length_map, List.length_set, Nat.mul_one]; exact hl, Or.inr ⟨g, c, cur.setIfInBounds j (.int .i32 r), rfl, hb, heap_setCell_same w g j cur _ _ hg, hcap, hmx, by simpa using hsz, ?_⟩⟩
    rw [Array.toList_setIfInBounds, List.map_set, ← htake]
    apply List.ext_getElem?
    intro k
    by_cases hk : k < N * 1
    · rw [List.getElem?_take, if_pos hk, List.getElem?_set, List.getElem?_set, List.getElem?_take, if_pos hk, List.length_take]
      by_cases e : j = k
      · subst e
        rw [if_pos rfl, if_pos rfl, if_pos (by simp; omega), if_pos (by simp; omega)]
      · rw [if_neg e, if_neg e]
    · rw [List.getElem?_take, if_neg hk, List.getElem?_set, List.getElem?_take, if_neg hk, List.length_take]
      by_cases e : j = k
      · omega
      · rw [if_neg e]

set_option maxRecDepth 100000 in
set_option maxHeartbeats 1600000 in
theorem exchangeM (w : World) (B yb yo : Nat) (sa : Option Addr) (sc : Nat) (sp : List Int) (hr : w.ownsRow B 21 1 (.slice sa sp.length sc) sp.length (sp.map (.int .i32))) (hx : sp.length ≤ 10000)
    (fa ta : Option Addr) (fc tc : Nat) (xs ys : List Int) (hl : xs.length = ys.length) (hxl : xs.length ≤ 1000) (h0 : w.cell? ⟨yb, yo, none⟩ = some (.slice fa xs.length fc)) (h1 : w.cell? ⟨yb, yo + 1, none⟩ = some (.slice ta xs.length tc)) (hf : SpaceAt w fa xs) (ht : SpaceAt w ta ys)
    (hyb : (Value.slice sa sp.length sc).ownBlock ≠ some yb) (hfa : ∀ b o, fa = some ⟨b, o, none⟩ → (Value.slice sa sp.length sc).ownBlock ≠ some b) (hta : ∀ b o, ta = some ⟨b, o, none⟩ → (Value.slice sa sp.length sc).ownBlock ≠ some b) :
    Calls Tryz.prog 137 #[.slice sa sp.length sc, .pointer (some ⟨yb, yo, none⟩)] w fun e w' => (∃ v, e = .returned v) ∧ w'.ownsRow B 21 1 (.slice sa sp.length sc) sp.length ((sp.map (Adz.exch xs ys)).map (.int .i32)) ∧ Only (fun b => (Value.slice sa sp.length sc).ownBlock = some b) w w' := by
  have HL : Hid (xs.length = ys.length) := hl
  clear hl
  have hR0 : w.ownsRow B 21 1 (.slice sa sp.length sc) sp.length (((sp.take 0).map (Adz.exch xs ys) ++ sp.drop 0).map (.int .i32)) := by
    have e : (sp.take 0).map (Adz.exch xs ys) ++ sp.drop 0 = sp := by simp
    rw [e]; exact hr
  go_enter Tryz.func137, Tryz.ntmps137
  go_wp2_with fail
  go_loopg [9] sp.length (fun k v wr => ∃ j : Nat, v = .int .i64 j ∧ j + k = sp.length ∧ Hid (wr.ownsRow B 21 1 (.slice sa sp.length sc) sp.length (((sp.take j).map (Adz.exch xs ys) ++ sp.drop j).map (.int .i32))) ∧ Hid (Only (fun b => (Value.slice sa sp.length sc).ownBlock = some b) w wr))
  case atStart => exact ⟨0, rfl, by omega, hR0, Only.refl _ _⟩
  case round =>
    obtain ⟨j, rfl, hjk, hR, hO⟩ := hrel
    have HJ : Hid (j + gk = sp.length) := hjk
    have hjl : j ≤ sp.length := by omega
    have hO' : Only (fun b => (Value.slice sa sp.length sc).ownBlock = some b) w wr := hO
    clear hjk hO
    by_cases hlt : j < sp.length
    · obtain ⟨sb, rfl⟩ : ∃ sb, sa = some ⟨sb, 0, none⟩ := by
        rcases hr.2 with ⟨e, h⟩ | ⟨g', cap, cur, hv, _⟩
        · omega
        · injection hv with e1; exact ⟨g', e1⟩
      have hg := rowGet (Hid.out hR) j hlt
      have e1 : ((sp.take j).map (Adz.exch xs ys) ++ sp.drop j).getD j 0 = sp.getD j 0 := by
        rw [List.getD_eq_getElem?_getD, List.getElem?_append_right (by rw [List.length_map, List.length_take]; omega), List.length_map, List.length_take, List.getElem?_drop, List.getD_eq_getElem?_getD]
        congr 2
        omega
      rw [e1] at hg
      obtain ⟨y1, yf⟩ := hg
      have z0 := hO'.keeps h0 hyb
      have z1 := hO'.keeps h1 hyb
      have hf' : SpaceAt wr fa xs := hf.apart hO' (fun _ b o e => hfa b o e)
      have ht' : SpaceAt wr ta ys := ht.apart hO' (fun _ b o e => hta b o e)
      have hw : IntKind.i64.wrap ((j : Int) + 1) = (j : Int) + 1 := by rw [IntKind.wrap_i64]; omega
      have hnx : ∀ (v : Int), Adz.exch xs ys (sp.getD j 0) = v → ((sp.take j).map (Adz.exch xs ys) ++ sp.drop j).set j v = (sp.take (j + 1)).map (Adz.exch xs ys) ++ sp.drop (j + 1) := fun v hv => by
        rw [List.set_append_right _ _ (by rw [List.length_map, List.length_take]; omega), List.length_map, List.length_take, List.drop_eq_getElem_cons hlt, show j - min j sp.length = 0 by omega, List.set_cons_zero, List.take_succ_eq_append_getElem hlt, List.map_append, List.append_assoc]
        congr 1
        rw [← hv, List.getD_eq_getElem?_getD, List.getElem?_eq_getElem hlt]
        rfl
      have HN : Hid (∀ (v : Int), Adz.exch xs ys (sp.getD j 0) = v → ((sp.take j).map (Adz.exch xs ys) ++ sp.drop j).set j v = (sp.take (j + 1)).map (Adz.exch xs ys) ++ sp.drop (j + 1)) := hnx
      have hcall := index_calls wr fa fc xs hf' (by omega) (sp.getD j 0)
      have HF : Hid _ := hf'
      clear e1 hnx hf hfa hta hyb ht hf' h0 h1
      have HT : Hid _ := ht'
      clear ht'
      have HRR : Hid _ := hR
      clear hR
      have HP0 : Hid (sp.getD j 0 = sp.getD j 0) := rfl
      generalize hp : sp.getD j 0 = p at *
      have HP : Hid (sp.getD j 0 = p) := hp
      clear hp HP0
      go_wp2_with fail
      refine hcall.mono ?_
      clear hcall
      rintro e w1 ⟨⟨v, rfl, hv⟩, rfl⟩
      rcases hv with ⟨m, k1, rfl, k3, k4⟩ | ⟨rfl, k2⟩
      · have hex := Adz.exch_at xs ys p m HL.out k1 k3 k4
        obtain ⟨tb, to_, rfl, tt, hcc⟩ := HT.out (by intro e; have hl := HL.out; rw [e] at hl; simp at hl; rw [hl] at k1; simp at k1)
        have x1 := hcc m (by have := HL.out; omega)
        have k1' : (m : Int) < xs.length := by omega
        have hm0 : (0 : Int) ≤ m := by omega
        have HX : Hid _ := hex
        have HR2 := rowPut (Hid.out HRR.out) j hlt (ys.getD m 0)
        rw [HN.out _ hex] at HR2
        have HR3 : Hid _ := HR2
        clear hcc k3 k4 hex HR2
        generalize ys.getD m 0 = t at *
        go_wp2
        go_roundg (gk - 1)
        case measure => have := HJ.out; omega
        case rel => exact ⟨j + 1, by first | rfl | simp [hw], by have := HJ.out; omega, HR3.out, Only.setCell (p := ⟨sb, j, none⟩) hO' (fun _ => rfl) _⟩
      · have hex := Adz.exch_none xs ys p k2
        have hsame : ((sp.take j).map (Adz.exch xs ys) ++ sp.drop j) = (sp.take (j + 1)).map (Adz.exch xs ys) ++ sp.drop (j + 1) := by
          rw [← HN.out _ hex]
          apply List.ext_getElem?
          intro k
          rw [List.getElem?_set]
          by_cases e : j = k
          · subst e
            rw [if_pos rfl, List.getElem?_append_right (by rw [List.length_map, List.length_take]; omega), List.length_map, List.length_take, List.getElem?_drop, if_pos (by simp; omega), show j + (j - min j sp.length) = j by omega, ← HP.out, List.getD_eq_getElem?_getD, List.getElem?_eq_getElem hlt]
            rfl
          · rw [if_neg e]
        have HR3 : Hid (w1.ownsRow B 21 1 (.slice (some ⟨sb, 0, none⟩) sp.length sc) sp.length (((sp.take (j + 1)).map (Adz.exch xs ys) ++ sp.drop (j + 1)).map (.int .i32))) := by
          have := Hid.out HRR.out
          rw [hsame] at this
          exact this
        clear k2 hex hsame
        go_wp2
        go_roundg (gk - 1)
        case measure => have := HJ.out; omega
        case rel => exact ⟨j + 1, by first | rfl | simp [hw], by have := HJ.out; omega, HR3.out, hO'⟩
    · have he : j = sp.length := by omega
      subst he
      have hR2 := Hid.out hR
      rw [List.take_length, List.drop_length, List.append_nil] at hR2
      have HR3 : Hid _ := hR2
      clear hR2
      go_wp2
      go_end0
      exact ⟨⟨_, rfl⟩, HR3.out, hO'⟩

set_option maxRecDepth 100000 in
set_option maxHeartbeats 1600000 in
theorem do_y (w : World) (eb : Nat) (X : Adz.Fx) (E : Adz.Es) (sa ha qa : Option Addr) (sc hc qc : Nat) (h : EM w eb X E sa sc ha hc qa qc) (g o : Nat) (hC : w.cell? ⟨g, o, none⟩ = some (.int .i32 121)) (hs : E.sp.length ≤ 400) (xs ys : List Int)
    (hcall : Calls Tryz.prog 137 #[.slice sa E.sp.length sc, .pointer (some ⟨g, o + 12, none⟩)] w.drew fun e w' => (∃ v, e = .returned v) ∧ w'.ownsRow (eb + 1) 21 1 (.slice sa E.sp.length sc) E.sp.length ((E.sp.map (Adz.exch xs ys)).map (.int .i32)) ∧ Only (fun b => (Value.slice sa E.sp.length sc).ownBlock = some b) w.drew w') :
    Calls Tryz.prog 96 #[.pointer (some ⟨eb, 0, none⟩), .pointer (some ⟨g, o, none⟩)] w fun e w' => (∃ v, e = .returned v) ∧ EMx w' eb X { E with sp := E.sp.map (Adz.exch xs ys) } ∧ Only (fun b => (Value.slice sa E.sp.length sc).ownBlock = some b) w w' := by
  have q4 := (h.ed.get 4 (by omega) _ rfl).1
  have hne : (Value.slice sa E.sp.length sc).ownBlock ≠ some eb := row_ne h.sp h.ed.typ (by decide)
  go_enter Tryz.func96, Tryz.ntmps96
  go_wp2_with fail
  go_region_with (go_at_call 137; refine hcall.mono ?_; rintro e w1 ⟨⟨v1, rfl⟩, hown1, o1'⟩)
  all_goals
    have o1 : Only (fun b => (Value.slice sa E.sp.length sc).ownBlock = some b) w w1 := (((Only.refl (fun _ => False) w).drew)).trans o1' (fun _ e => e.elim) (fun _ _ e => e)
    have e4 : Ed w1 eb ((edCells X E (.slice sa E.sp.length sc) (.slice ha E.hold.length hc) (.slice qa E.queue.length qc)).set 4 (.slice sa (E.sp.map (Adz.exch xs ys)).length sc)) E.out := by
      rw [List.length_map]
      exact h.ed.keeps o1 hne (fun b hb => row_ne h.sp hb (by decide))
    have hX : EMx w1 eb X { E with sp := E.sp.map (Adz.exch xs ys) } := ⟨_, _, _, _, _, _, h.joined (o1.mono (fun _ _ e => Or.inr e)) e4 (by rw [List.length_map]; exact hown1) (by rw [List.length_map]; exact h.apart)⟩
    have HX : Hid _ := hX
    clear hX e4 hown1
    go_wp2
    go_end0
    exact ⟨⟨_, rfl⟩, HX.out, o1⟩

theorem doOk_y {w0 : World} {eb : Nat} {X : Adz.Fx} {n g : Nat} {E : Adz.Es} {c : Adz.Cmd} (h : AtCmd w0 eb X n g E c) (hw : c.what = 121) (hl : c.old.length = c.new.length) (hx : c.old.length ≤ 1000) (E1 : Adz.Es) (hs : E1.sp.length ≤ 400) : DoOk w0 eb X g (E.next * 14) E1 { E1 with sp := E1.sp.map (Adz.exch c.old c.new) } := fun w hO ⟨sa, sc, ha, hc, qa, qc, hM⟩ => by
  have hX := h.cmd.keeps hO
  have hwh := hX.what
  rw [hw] at hwh
  have heb := h.eb
  obtain ⟨av, iv, rv, fv, tv, h1, h2⟩ := h.cmd.deep
  have f1 := h2.f
  have t1 := h2.t
  unfold RunesAt at f1 t1
  obtain ⟨fa, fc, rfl⟩ := row_shape f1
  obtain ⟨ta, tc, rfl⟩ := row_shape t1
  have k12 := hO.keeps (h1 12 _ rfl) id
  have k13 := hO.keeps (h1 13 _ rfl) id
  rw [← hl] at k13
  have nlt : ∀ b, b < w0.heap.size → (Value.slice sa E1.sp.length sc).ownBlock ≠ some b := fun b hb e => by have := (hM.sp.lt b e).1; omega
  have od : Only (fun _ => False) w w.drew := (Only.refl _ w).drew
  have hOd := hO.trans od (fun _ e => e) (fun _ _ e => e)
  have hcall := exchangeM w.drew (eb + 1) g (E.next * 14 + 12) sa sc E1.sp (row_keeps hM.sp od (fun _ _ => id)) (by omega) fa ta fc tc c.old c.new hl hx (od.keeps k12 id) (od.keeps k13 id) ((Sl.of_row f1).1.space.keeps hOd (fun _ _ => id)) ((Sl.of_row t1).1.space.keeps hOd (fun _ _ => id)) (nlt g h.cmd.lt)
    (fun b o e => by
      subst e
      rcases f1.2 with ⟨e, _⟩ | ⟨g', cap, cur, e, _⟩
      · cases e
      · injection e with e1
        injection e1 with e1
        injection e1 with e1
        subst e1
        exact nlt b (f1.lt b rfl).2)
    (fun b o e => by
      subst e
      rcases t1.2 with ⟨e, _⟩ | ⟨g', cap, cur, e, _⟩
      · cases e
      · injection e with e1
        injection e1 with e1
        injection e1 with e1
        subst e1
        exact nlt b (t1.lt b rfl).2)
  refine (do_y w eb X E1 sa ha qa sc hc qc hM g _ hwh hs c.old c.new hcall).mono ?_
  rintro e w' ⟨hv, hM', o'⟩
  exact ⟨hv, hM', only_new hO o' h.eb (fun b e => by have := (hM.sp.lt b e).1; omega)⟩
end Go.Proofs.YtbiobhghnldckaaGreatDoor

/- Proved: what adzekeep.edit makes of the scripts of adzekeep.Runed, over any short lines. Conditions: what the library's variables hold. -/
namespace Go.Proofs.YtbiobhghnldckaaGreatDoor
open Go.RowKit
set_option linter.unusedVariables false

/-- Cycles that make of each line another, line by line. -/
theorem cycles_map (w0 : World) (eb : Nat) (X : Adz.Fx) (g : Nat) (cs : List Adz.Cmd) (hP : ProgOk w0 eb X g cs) (hq : X.q = false) (ls : List (List Int)) (hls : ∀ l ∈ ls, LineOk l) (h40 : ls.length ≤ 40) (hlines : X.lines = ls.map tx) (f : List Int → List Int) (hf : ∀ l, LineOk l → (∀ r ∈ f l, Okr r) ∧ (f l).length ≤ 40) (K : Nat) (hK : K ≤ 100)
    (hst : ∀ (E : Adz.Es) (l : List Int), LineOk l → E.over = false → E.queue = [] → E.hold = [] → E.steps + K ≤ 5000 → ∃ b, StepsOk w0 eb X cs.length K (lineStart E (tx l)) { lineStart E (tx l) with steps := E.steps + K, next := K, sp := f l, r8 := b })
    (E0 : Adz.Es) (hE0 : E0.line = 0 ∧ E0.over = false ∧ E0.queue = [] ∧ E0.hold = [] ∧ E0.steps = 0 ∧ E0.out = []) :
    ∃ k E', CyclesOk w0 eb X k E0 E' ∧ E'.out = encL (txtR (ls.map f)) := by
  have hXl : X.lines.length = ls.length := by rw [hlines, List.length_map]
  obtain ⟨E', h1, h2⟩ := cycles_by w0 eb X ls.length (fun j E => E.line = j ∧ E.over = false ∧ E.queue = [] ∧ E.hold = [] ∧ E.steps = K * j ∧ E.out = encL (txtR ((ls.take j).map f)))
    (fun j E hj ⟨e1, e2, e3, e4, e5, e6⟩ => by
      have hlj := hls ls[j] (List.getElem_mem hj)
      obtain ⟨f1, f2⟩ := hf ls[j] hlj
      have hjX : E.line < X.lines.length := by rw [hXl]; omega
      have hXj : X.lines[E.line] = tx ls[j] := by
        have : X.lines[E.line]? = some (tx ls[j]) := by rw [hlines, List.getElem?_map, e1, List.getElem?_eq_getElem hj]; rfl
        exact (List.getElem?_eq_some_iff.1 this).2
      have hKj : K * j ≤ 100 * 40 := Nat.mul_le_mul hK (by omega)
      obtain ⟨b, hs⟩ := hst E ls[j] hlj e2 e3 e4 (by omega)
      have hts : (tx ls[j]).size ≤ 3000 := by have := lineOk_size hlj; omega
      have htold : Adz.told X.q E.out (f ls[j]) = encL (txtR ((ls.take (j + 1)).map f)) := by
        rw [hq, told_ok f1, e6, ← encL_append, ← List.take_append_getElem hj, List.map_append, List.map_cons, List.map_nil, txtR_snoc]
      have hlen : (encL (txtR ((ls.take (j + 1)).map f))).length ≤ 8000 := by
        have h1 := (encL_len (txtR ((ls.take (j + 1)).map f))).2
        have h2 := txtR_bound ((ls.take (j + 1)).map f) 40 (fun l hl => by
          obtain ⟨x, hx, rfl⟩ := List.mem_map.1 hl
          exact (hf x (hls x (List.mem_of_mem_take hx))).2)
        rw [List.length_map, List.length_take] at h2
        omega
      refine ⟨{ lineStart E (tx ls[j]) with steps := E.steps + K, next := K, sp := f ls[j], r8 := b, queue := [], out := encL (txtR ((ls.take (j + 1)).map f)) }, ?_, by show E.line + 1 = _; omega, e2, rfl, e4, by show E.steps + K = _; rw [e5, Nat.mul_succ], rfl⟩
      refine cycleOk_prog hP E e2 hjX (by rw [hXl]; omega) (by rw [hXj]; exact hts) K { lineStart E (tx ls[j]) with steps := E.steps + K, next := K, sp := f ls[j], r8 := b } _ (by rw [hXj]; exact hs) (Or.inr ⟨rfl, by show (f ls[j]).length ≤ 400; omega, by show E.hold.length ≤ 400; rw [e4]; simp, ?_, ?_, ?_⟩)
      · show (Adz.outs (Adz.told X.q E.out (f ls[j])) E.queue).length ≤ 8000
        rw [e3, htold]
        exact hlen
      · show E.queue.length ≤ 100000
        rw [e3]; simp
      · show _ = ({ lineStart E (tx ls[j]) with steps := E.steps + K, next := K, sp := f ls[j], r8 := b, queue := [], out := Adz.outs (Adz.told X.q E.out (f ls[j])) E.queue } : Adz.Es)
        rw [e3, htold]
        rfl)
    (fun E ⟨e1, _⟩ => Or.inr (by rw [hXl]; omega)) ls.length 0 E0 (by omega) ⟨hE0.1, hE0.2.1, hE0.2.2.1, hE0.2.2.2.1, by rw [hE0.2.2.2.2.1]; rfl, by rw [hE0.2.2.2.2.2]; rfl⟩
  refine ⟨_, E', h1, ?_⟩
  rw [h2.2.2.2.2.2, List.take_length]

def runA : List Adz.Cmd := [{ what := 121, old := [97, 233, 47], new := [233, 47, 97] }, { what := 121, old := [233, 47, 97], new := [97, 233, 47] }]
def runB : List Adz.Cmd := [{ what := 115, pat := ⟨[⟨4, 0, [], 0⟩], 0⟩, repl := [⟨0, [60], 0⟩, ⟨1, [], 0⟩, ⟨0, [62], 0⟩], all := true }]
def runC : List Adz.Cmd := [{ what := 115, pat := ⟨[⟨4, 0, [], 0⟩], 0⟩, repl := [⟨0, [38], 0⟩], all := true }, { what := 115, pat := ⟨[⟨5, 0, [(38, 38)], 0⟩], 0⟩, repl := [⟨0, [46], 0⟩], all := true }]
theorem walks_runA : Walks [121, 47, 97, 233, 92, 47, 47, 233, 92, 47, 97, 47, 59, 121, 47, 233, 92, 47, 97, 47, 97, 233, 92, 47, 47] [0, 1, 2, 3, 5, 6, 7, 8, 10, 11, 12, 13, 14, 15, 16, 17, 19, 20, 21, 22, 23, 24, 26, 27, 28, 29] 3 ⟨0, [], [], []⟩ ⟨25, runA, [], []⟩ := by
  refine ⟨⟨12, [{ what := 121, old := [97, 233, 47], new := [233, 47, 97] }], [], []⟩, fun g pp hL hpl hcap => ?_, ⟨13, [{ what := 121, old := [97, 233, 47], new := [233, 47, 97] }], [], []⟩, fun g pp hL hpl hcap => ?_, ⟨25, runA, [], []⟩, fun g pp hL hpl hcap => ?_, rfl⟩
  · exact gapOk_plain g pp ⟨0, [], [], []⟩ 121 (by rw [hL]; rfl) ⟨by decide, by decide, by decide, by decide, by decide, by decide, by decide, by decide, by decide⟩ 6 (by decide) (by decide) (by decide) (by simp) _ 12 12 (behOk_y g pp _ 1 _ (by show Adz.behindKind 121 = some 6; decide) _ 12 (fun a => by rw [hL]; rfl)) (by show 1 ≤ 12; omega) (Adz.tail_at (Or.inr (Or.inl (by rw [hL]; rfl)))) (by decide)
  · exact gap_skip g pp ⟨12, _, [], []⟩ 59 (by rw [hL]; rfl) (Or.inr ⟨by decide, by decide⟩)
  · exact gapOk_plain g pp ⟨13, [{ what := 121, old := [97, 233, 47], new := [233, 47, 97] }], [], []⟩ 121 (by rw [hL]; rfl) ⟨by decide, by decide, by decide, by decide, by decide, by decide, by decide, by decide, by decide⟩ 6 (by decide) (by decide) (by decide) (by simp) _ 25 25 (behOk_y g pp _ 14 _ (by show Adz.behindKind 121 = some 6; decide) _ 25 (fun a => by rw [hL]; rfl)) (by show 14 ≤ 25; omega) (Adz.tail_at (Or.inr (Or.inr (by rw [hL]; rfl)))) (by decide)
theorem walks_runB : Walks [115, 47, 46, 47, 60, 38, 62, 47, 103] [0, 1, 2, 3, 4, 5, 6, 7, 8, 9] 1 ⟨0, [], [], []⟩ ⟨9, runB, [], []⟩ := by
  refine ⟨⟨9, runB, [], []⟩, fun g pp hL hpl hcap => ?_, rfl⟩
  exact gapOk_plain g pp ⟨0, [], [], []⟩ 115 (by rw [hL]; rfl) ⟨by decide, by decide, by decide, by decide, by decide, by decide, by decide, by decide, by decide⟩ 5 (by decide) (by decide) (by decide) (by simp) _ 9 9 (behOk_s g pp _ 1 _ rfl _ 9 (by rw [hL]; rfl)) (by show 1 ≤ 9; omega) (Adz.tail_at (Or.inr (Or.inr (by rw [hL]; rfl)))) (by decide)
theorem walks_runC : Walks [115, 47, 46, 47, 92, 38, 47, 103, 59, 115, 47, 38, 47, 46, 47, 103] [0, 1, 2, 3, 4, 5, 6, 7, 8, 9, 10, 11, 12, 13, 14, 15, 16] 3 ⟨0, [], [], []⟩ ⟨16, runC, [], []⟩ := by
  refine ⟨⟨8, [{ what := 115, pat := ⟨[⟨4, 0, [], 0⟩], 0⟩, repl := [⟨0, [38], 0⟩], all := true }], [], []⟩, fun g pp hL hpl hcap => ?_, ⟨9, [{ what := 115, pat := ⟨[⟨4, 0, [], 0⟩], 0⟩, repl := [⟨0, [38], 0⟩], all := true }], [], []⟩, fun g pp hL hpl hcap => ?_, ⟨16, runC, [], []⟩, fun g pp hL hpl hcap => ?_, rfl⟩
  · exact gapOk_plain g pp ⟨0, [], [], []⟩ 115 (by rw [hL]; rfl) ⟨by decide, by decide, by decide, by decide, by decide, by decide, by decide, by decide, by decide⟩ 5 (by decide) (by decide) (by decide) (by simp) _ 8 8 (behOk_s g pp _ 1 _ rfl _ 8 (by rw [hL]; rfl)) (by show 1 ≤ 8; omega) (Adz.tail_at (Or.inr (Or.inl (by rw [hL]; rfl)))) (by decide)
  · exact gap_skip g pp ⟨8, _, [], []⟩ 59 (by rw [hL]; rfl) (Or.inr ⟨by decide, by decide⟩)
  · exact gapOk_plain g pp ⟨9, [{ what := 115, pat := ⟨[⟨4, 0, [], 0⟩], 0⟩, repl := [⟨0, [38], 0⟩], all := true }], [], []⟩ 115 (by rw [hL]; rfl) ⟨by decide, by decide, by decide, by decide, by decide, by decide, by decide, by decide, by decide⟩ 5 (by decide) (by decide) (by decide) (by simp) _ 16 16 (behOk_s g pp _ 10 _ rfl _ 16 (by rw [hL]; rfl)) (by show 10 ≤ 16; omega) (Adz.tail_at (Or.inr (Or.inr (by rw [hL]; rfl)))) (by decide)
end Go.Proofs.YtbiobhghnldckaaGreatDoor

/- Proved: what adzekeep.edit makes of the three scripts of adzekeep.Runed, over any short lines. Conditions: what the library's variables hold. -/
namespace Go.Proofs.YtbiobhghnldckaaGreatDoor
open Go.RowKit
set_option linter.unusedVariables false

theorem back_exch : ∀ r ∈ alpha, Adz.exch [233, 47, 97] [97, 233, 47] (Adz.exch [97, 233, 47] [233, 47, 97] r) = r := by decide
/-- Each rune between two others. -/
def arnd (l : List Int) : List Int := l.flatMap fun r => [60, r, 62]
/-- A point for each rune. -/
def pnts (l : List Int) : List Int := l.map fun _ => 46
theorem arnd_len : ∀ l : List Int, (arnd l).length = 3 * l.length
  | [] => rfl
  | r :: l => by
    have := arnd_len l
    simp only [arnd, List.flatMap_cons, List.length_append, List.length_cons, List.length_nil] at this ⊢
    omega
theorem arnd_ok {l : List Int} (h : LineOk l) : ∀ r ∈ arnd l, Okr r := fun r hr => by
  simp only [arnd, List.mem_flatMap] at hr
  obtain ⟨x, hx, hr⟩ := hr
  simp only [List.mem_cons, List.not_mem_nil, or_false] at hr
  rcases hr with e | e | e
  · subst e; exact Or.inl (by decide)
  · subst e; exact h.ln.ok r hx
  · subst e; exact Or.inl (by decide)
theorem pnts_ok (l : List Int) : ∀ r ∈ pnts l, Okr r := fun r hr => by
  simp only [pnts, List.mem_map] at hr
  obtain ⟨x, hx, rfl⟩ := hr
  exact Or.inl (by decide)

theorem subst_B (l : List Int) : Adz.subst l ({ what := 115, pat := ⟨[⟨4, 0, [], 0⟩], 0⟩, repl := [⟨0, [60], 0⟩, ⟨1, [], 0⟩, ⟨0, [62], 0⟩], all := true } : Adz.Cmd) = arnd l := by
  rw [Adz.subst_g l _ (by intro x hx; simp at hx; subst hx; exact ⟨rfl, Or.inl rfl⟩) (by simp) (by decide) rfl (by intro p hp; simp at hp; rcases hp with rfl | rfl | rfl; exact Or.inl ⟨rfl, by decide⟩; exact Or.inr rfl; exact Or.inl ⟨rfl, by decide⟩)]
  rw [Adz.rep_each _ _ _ _ (Nat.le_refl _) (fun r _ => rfl)]
  rfl
theorem subst_1 (l : List Int) : Adz.subst l ({ what := 115, pat := ⟨[⟨4, 0, [], 0⟩], 0⟩, repl := [⟨0, [38], 0⟩], all := true } : Adz.Cmd) = l.map fun _ => 38 := by
  rw [Adz.subst_g l _ (by intro x hx; simp at hx; subst hx; exact ⟨rfl, Or.inl rfl⟩) (by simp) (by decide) rfl (by intro p hp; simp at hp; subst hp; exact Or.inl ⟨rfl, by decide⟩)]
  rw [Adz.rep_each _ _ _ _ (Nat.le_refl _) (fun r _ => rfl), List.map_eq_flatMap]
  rfl
theorem subst_2 (l : List Int) (h : ∀ r ∈ l, r = 38) : Adz.subst l ({ what := 115, pat := ⟨[⟨5, 0, [(38, 38)], 0⟩], 0⟩, repl := [⟨0, [46], 0⟩], all := true } : Adz.Cmd) = l.map fun _ => 46 := by
  rw [Adz.subst_g l _ (by intro x hx; simp at hx; subst hx; exact ⟨rfl, Or.inr rfl⟩) (by simp) (by decide) rfl (by intro p hp; simp at hp; subst hp; exact Or.inl ⟨rfl, by decide⟩)]
  rw [Adz.rep_each _ _ _ _ (Nat.le_refl _) (fun r hr => by rw [h r hr]; rfl), List.map_eq_flatMap]
  rfl
theorem fine_B (l : List Int) (hl : l.length ≤ 100) : Fine l ({ what := 115, pat := ⟨[⟨4, 0, [], 0⟩], 0⟩, repl := [⟨0, [60], 0⟩, ⟨1, [], 0⟩, ⟨0, [62], 0⟩], all := true } : Adz.Cmd) :=
  fine_ones (by intro x hx; simp at hx; subst hx; exact ⟨rfl, Or.inl rfl⟩) (by simp) (by intro p hp; simp at hp; rcases hp with rfl | rfl | rfl; exact Or.inl ⟨rfl, by decide⟩; exact Or.inr rfl; exact Or.inl ⟨rfl, by decide⟩) (by simp) (by intro x hx; simp at hx; subst hx; simp) (by simp) 3 (by omega) (fun m hm => by
    show ([60] ++ (m ++ ([62] ++ []))).length ≤ 3
    simp at hm ⊢; omega) (by omega) rfl (by rw [subst_B, arnd_len]; omega)
theorem fine_1 (l : List Int) (hl : l.length ≤ 100) : Fine l ({ what := 115, pat := ⟨[⟨4, 0, [], 0⟩], 0⟩, repl := [⟨0, [38], 0⟩], all := true } : Adz.Cmd) :=
  fine_ones (by intro x hx; simp at hx; subst hx; exact ⟨rfl, Or.inl rfl⟩) (by simp) (by intro p hp; simp at hp; subst hp; exact Or.inl ⟨rfl, by decide⟩) (by simp) (by intro x hx; simp at hx; subst hx; simp) (by simp) 3 (by omega) (fun m hm => by
    show ([38] ++ []).length ≤ 3
    simp) (by omega) rfl (by rw [subst_1, List.length_map]; omega)
theorem fine_2 (l : List Int) (h : ∀ r ∈ l, r = 38) (hl : l.length ≤ 100) : Fine l ({ what := 115, pat := ⟨[⟨5, 0, [(38, 38)], 0⟩], 0⟩, repl := [⟨0, [46], 0⟩], all := true } : Adz.Cmd) :=
  fine_ones (by intro x hx; simp at hx; subst hx; exact ⟨rfl, Or.inr rfl⟩) (by simp) (by intro p hp; simp at hp; subst hp; exact Or.inl ⟨rfl, by decide⟩) (by simp) (by intro x hx; simp at hx; subst hx; simp) (by simp) 3 (by omega) (fun m hm => by
    show ([46] ++ []).length ≤ 3
    simp) (by omega) rfl (by rw [subst_2 l h, List.length_map]; omega)

theorem steps_A {w0 : World} {eb : Nat} {X : Adz.Fx} {g : Nat} (hP : ProgOk w0 eb X g runA) (E : Adz.Es) (l : List Int) (hl : LineOk l) (hh : E.hold = []) (hs : E.steps + 2 ≤ 5000) : ∃ b, StepsOk w0 eb X runA.length 2 (lineStart E (tx l)) { lineStart E (tx l) with steps := E.steps + 2, next := 2, sp := id l, r8 := b } := by
  have hrun : Adz.runes (tx l) = l := runes_ok hl.ln.ok
  have hl8 := hl.2
  have hh4 : E.hold.length ≤ 400 := by rw [hh]; simp
  have hat := hP.at (lineStart E (tx l)) 0 _ rfl rfl (by show E.steps < 5000; omega) (by show (Adz.runes (tx l)).length ≤ 400; rw [hrun]; omega) hh4
  have hs1 := stepOk_do hat (by simp) (by simp) (by simp [means1]) _ (doOk_y hat rfl rfl (by simp) { lineStart E (tx l) with steps := E.steps + 1, next := 1 } (by show (Adz.runes (tx l)).length ≤ 400; rw [hrun]; omega))
  have hat2 := hP.at { lineStart E (tx l) with steps := E.steps + 1, next := 1, sp := (Adz.runes (tx l)).map (Adz.exch [97, 233, 47] [233, 47, 97]) } 1 _ rfl rfl (by show E.steps + 1 < 5000; omega) (by show ((Adz.runes (tx l)).map (Adz.exch [97, 233, 47] [233, 47, 97])).length ≤ 400; rw [hrun, List.length_map]; omega) hh4
  have hs2 := stepOk_do hat2 (by simp) (by simp) (by simp [means1]) _ (doOk_y hat2 rfl rfl (by simp) { lineStart E (tx l) with steps := E.steps + 2, next := 2, sp := (Adz.runes (tx l)).map (Adz.exch [97, 233, 47] [233, 47, 97]) } (by show ((Adz.runes (tx l)).map (Adz.exch [97, 233, 47] [233, 47, 97])).length ≤ 400; rw [hrun, List.length_map]; omega))
  have he : ((Adz.runes (tx l)).map (Adz.exch [97, 233, 47] [233, 47, 97])).map (Adz.exch [233, 47, 97] [97, 233, 47]) = id l := by
    rw [hrun, List.map_map]
    have : l.map (Adz.exch [233, 47, 97] [97, 233, 47] ∘ Adz.exch [97, 233, 47] [233, 47, 97]) = l.map id := List.map_congr_left (fun r hr => back_exch r (hl.1 r hr))
    rw [this, List.map_id]; rfl
  have hs2' : StepOk w0 eb X runA.length { lineStart E (tx l) with steps := E.steps + 1, next := 1, sp := (Adz.runes (tx l)).map (Adz.exch [97, 233, 47] [233, 47, 97]) } { lineStart E (tx l) with steps := E.steps + 2, next := 2, sp := id l } := by
    rw [← he]; exact hs2
  exact ⟨false, _, hs1, _, hs2', rfl, Nat.le_refl _⟩

theorem steps_B {w0 : World} {eb : Nat} {X : Adz.Fx} {g : Nat} (hP : ProgOk w0 eb X g runB) (hty : Typ w0 g 167) (E : Adz.Es) (l : List Int) (hl : LineOk l) (hh : E.hold = []) (hs : E.steps + 1 ≤ 5000) : ∃ b, StepsOk w0 eb X runB.length 1 (lineStart E (tx l)) { lineStart E (tx l) with steps := E.steps + 1, next := 1, sp := arnd l, r8 := b } := by
  have hrun : Adz.runes (tx l) = l := runes_ok hl.ln.ok
  have hl8 := hl.2
  have hh4 : E.hold.length ≤ 400 := by rw [hh]; simp
  have hat := hP.at (lineStart E (tx l)) 0 _ rfl rfl (by show E.steps < 5000; omega) (by show (Adz.runes (tx l)).length ≤ 400; rw [hrun]; omega) hh4
  have hs1 := stepOk_do hat (by simp) (by simp) (by simp [means1]) _ (doOk_s hat hty rfl { lineStart E (tx l) with steps := E.steps + 1, next := 1 } (fine_B (Adz.runes (tx l)) (by rw [hrun]; omega)))
  have hs1' : StepOk w0 eb X runB.length (lineStart E (tx l)) { lineStart E (tx l) with steps := E.steps + 1, next := 1, sp := arnd l, r8 := Adz.hit (Adz.runes (tx l)) ({ what := 115, pat := ⟨[⟨4, 0, [], 0⟩], 0⟩, repl := [⟨0, [60], 0⟩, ⟨1, [], 0⟩, ⟨0, [62], 0⟩], all := true } : Adz.Cmd) || false } := by
    have he : Adz.subst (Adz.runes (tx l)) ({ what := 115, pat := ⟨[⟨4, 0, [], 0⟩], 0⟩, repl := [⟨0, [60], 0⟩, ⟨1, [], 0⟩, ⟨0, [62], 0⟩], all := true } : Adz.Cmd) = arnd l := by rw [hrun, subst_B]
    rw [← he]; exact hs1
  exact ⟨_, _, hs1', rfl, Nat.le_refl _⟩

theorem steps_C {w0 : World} {eb : Nat} {X : Adz.Fx} {g : Nat} (hP : ProgOk w0 eb X g runC) (hty : Typ w0 g 167) (E : Adz.Es) (l : List Int) (hl : LineOk l) (hh : E.hold = []) (hs : E.steps + 2 ≤ 5000) : ∃ b, StepsOk w0 eb X runC.length 2 (lineStart E (tx l)) { lineStart E (tx l) with steps := E.steps + 2, next := 2, sp := pnts l, r8 := b } := by
  have hrun : Adz.runes (tx l) = l := runes_ok hl.ln.ok
  have hl8 := hl.2
  have hh4 : E.hold.length ≤ 400 := by rw [hh]; simp
  have hat := hP.at (lineStart E (tx l)) 0 _ rfl rfl (by show E.steps < 5000; omega) (by show (Adz.runes (tx l)).length ≤ 400; rw [hrun]; omega) hh4
  have hs1 := stepOk_do hat (by simp) (by simp) (by simp [means1]) _ (doOk_s hat hty rfl { lineStart E (tx l) with steps := E.steps + 1, next := 1 } (fine_1 (Adz.runes (tx l)) (by rw [hrun]; omega)))
  obtain ⟨b1, hb1⟩ : ∃ b1, (Adz.hit (Adz.runes (tx l)) ({ what := 115, pat := ⟨[⟨4, 0, [], 0⟩], 0⟩, repl := [⟨0, [38], 0⟩], all := true } : Adz.Cmd) || false) = b1 := ⟨_, rfl⟩
  have hs1' : StepOk w0 eb X runC.length (lineStart E (tx l)) { lineStart E (tx l) with steps := E.steps + 1, next := 1, sp := l.map fun _ => 38, r8 := b1 } := by
    have he : Adz.subst (Adz.runes (tx l)) ({ what := 115, pat := ⟨[⟨4, 0, [], 0⟩], 0⟩, repl := [⟨0, [38], 0⟩], all := true } : Adz.Cmd) = l.map fun _ => 38 := by rw [hrun, subst_1]
    rw [← he, ← hb1]; exact hs1
  have h38 : ∀ r ∈ (l.map fun _ => (38 : Int)), r = 38 := fun r hr => by
    obtain ⟨x, _, rfl⟩ := List.mem_map.1 hr
    rfl
  have hat2 := hP.at { lineStart E (tx l) with steps := E.steps + 1, next := 1, sp := l.map fun _ => 38, r8 := b1 } 1 _ rfl rfl (by show E.steps + 1 < 5000; omega) (by show (l.map fun _ => (38 : Int)).length ≤ 400; rw [List.length_map]; omega) hh4
  have hs2 := stepOk_do hat2 (by simp) (by simp) (by simp [means1]) _ (doOk_s hat2 hty rfl { lineStart E (tx l) with steps := E.steps + 2, next := 2, sp := l.map fun _ => 38, r8 := b1 } (fine_2 (l.map fun _ => 38) h38 (by rw [List.length_map]; omega)))
  have hs2' : StepOk w0 eb X runC.length { lineStart E (tx l) with steps := E.steps + 1, next := 1, sp := l.map fun _ => 38, r8 := b1 } { lineStart E (tx l) with steps := E.steps + 2, next := 2, sp := pnts l, r8 := Adz.hit (l.map fun _ => 38) ({ what := 115, pat := ⟨[⟨5, 0, [(38, 38)], 0⟩], 0⟩, repl := [⟨0, [46], 0⟩], all := true } : Adz.Cmd) || b1 } := by
    have he : Adz.subst (l.map fun _ => 38) ({ what := 115, pat := ⟨[⟨5, 0, [(38, 38)], 0⟩], 0⟩, repl := [⟨0, [46], 0⟩], all := true } : Adz.Cmd) = pnts l := by rw [subst_2 _ h38, List.map_map]; rfl
    rw [← he]; exact hs2
  exact ⟨_, _, hs1', _, hs2', rfl, Nat.le_refl _⟩

theorem edits_runed (w : World) (ht : Tabs w) (ls : List (List Int)) (h : ∀ l ∈ ls, LineOk l) (h40 : ls.length ≤ 40) :
    (Calls Tryz.prog 20 #[.string ⟨#[121, 47, 97, 195, 169, 92, 47, 47, 195, 169, 92, 47, 97, 47, 59, 121, 47, 195, 169, 92, 47, 97, 47, 97, 195, 169, 92, 47, 47]⟩, .string (tx (txtR ls)), .bool false] w fun e w' => e = .returned (.tuple #[.string (tx (txtR ls)), .bool true]) ∧ Only (fun _ => False) w w') ∧
    (Calls Tryz.prog 20 #[.string ⟨#[115, 47, 46, 47, 60, 38, 62, 47, 103]⟩, .string (tx (txtR ls)), .bool false] w fun e w' => e = .returned (.tuple #[.string (tx (txtR (ls.map arnd))), .bool true]) ∧ Only (fun _ => False) w w') ∧
    (Calls Tryz.prog 20 #[.string ⟨#[115, 47, 46, 47, 92, 38, 47, 103, 59, 115, 47, 38, 47, 46, 47, 103]⟩, .string (tx (txtR ls)), .bool false] w fun e w' => e = .returned (.tuple #[.string (tx (txtR (ls.map pnts))), .bool true]) ∧ Only (fun _ => False) w w') := by
  have ht1 := textOk_l ht h h40
  refine ⟨?_, ?_, ?_⟩
  · have := editP2 ⟨#[121, 47, 97, 195, 169, 92, 47, 47, 195, 169, 92, 47, 97, 47, 59, 121, 47, 195, 169, 92, 47, 97, 47, 97, 195, 169, 92, 47, 47]⟩ _ _ (dec_of (by decide +kernel)) 3 ⟨25, runA, [], []⟩ walks_runA (by decide) rfl (by decide) (by decide) (by simp [runA]) w _ false _ ht1 _ (fun u eb X g hP hty hq hlines _ => cycles_map u eb X g runA hP hq ls h h40 hlines id (fun l hl => ⟨hl.ln.ok, by have := hl.2; show l.length ≤ 40; omega⟩) 2 (by omega) (fun E l hl _ _ hh hs => steps_A hP E l hl hh hs) _ ⟨rfl, rfl, rfl, rfl, rfl, rfl⟩)
    rw [List.map_id] at this
    exact this
  · exact editP2 ⟨#[115, 47, 46, 47, 60, 38, 62, 47, 103]⟩ _ _ (dec_of (by decide +kernel)) 1 ⟨9, runB, [], []⟩ walks_runB (by decide) rfl (by decide) (by decide) (by simp [runB]) w _ false _ ht1 _ (fun u eb X g hP hty hq hlines _ => cycles_map u eb X g runB hP hq ls h h40 hlines arnd (fun l hl => ⟨arnd_ok hl, by have := hl.2; rw [arnd_len]; omega⟩) 1 (by omega) (fun E l hl _ _ hh hs => steps_B hP hty E l hl hh hs) _ ⟨rfl, rfl, rfl, rfl, rfl, rfl⟩)
  · exact editP2 ⟨#[115, 47, 46, 47, 92, 38, 47, 103, 59, 115, 47, 38, 47, 46, 47, 103]⟩ _ _ (dec_of (by decide +kernel)) 3 ⟨16, runC, [], []⟩ walks_runC (by decide) rfl (by decide) (by decide) (by simp [runC]) w _ false _ ht1 _ (fun u eb X g hP hty hq hlines _ => cycles_map u eb X g runC hP hq ls h h40 hlines pnts (fun l hl => ⟨pnts_ok l, by have := hl.2; show (l.map _).length ≤ 40; rw [List.length_map]; omega⟩) 2 (by omega) (fun E l hl _ _ hh hs => steps_C hP hty E l hl hh hs) _ ⟨rfl, rfl, rfl, rfl, rfl, rfl⟩)
end Go.Proofs.YtbiobhghnldckaaGreatDoor
