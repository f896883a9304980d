/- Proved: replacing in a text's bytes is replacing in its runes; what an s of literal runes makes of a space is that. No condition but those told. -/
import Derived.Test.YtbiobhghnldckaaGreatDoorK21
import Derived.Test.YtbiobhghnldckaaGreatDoorK13
namespace Go.Proofs.YtbiobhghnldckaaGreatDoor
set_option linter.unusedVariables false

/-- Replacing, as adzekeep.replaced does it: all where k is 0, else the k-th. -/
def repX {α : Type} [BEq α] (x y : List α) (k : Nat) : Nat → Nat → List α → List α
  | 0, _, _ => []
  | _ + 1, _, [] => []
  | d + 1, n, a :: l => if x.isPrefixOf (a :: l) = true then (if k = 0 ∨ k = n + 1 then y else x) ++ repX x y k d (n + 1) ((a :: l).drop x.length) else a :: repX x y k d n l

theorem repX_yes {α : Type} [BEq α] {x y : List α} {k d n : Nat} {a : α} {l : List α} (h : x.isPrefixOf (a :: l) = true) : repX x y k (d + 1) n (a :: l) = (if k = 0 ∨ k = n + 1 then y else x) ++ repX x y k d (n + 1) ((a :: l).drop x.length) := by
  rw [repX, if_pos h]
theorem repX_no {α : Type} [BEq α] {x y : List α} {k d n : Nat} {a : α} {l : List α} (h : ¬ x.isPrefixOf (a :: l) = true) : repX x y k (d + 1) n (a :: l) = a :: repX x y k d n l := by
  rw [repX, if_neg h]

theorem encR_pre {a b : Int} (ha : Okr a) (hb : Okr b) (A B : List UInt8) : (encR a ++ A).isPrefixOf (encR b ++ B) = (decide (a = b) && A.isPrefixOf B) := by
  rcases ha with ha | rfl
  · rcases hb with hb | rfl
    · rw [encR_low ha, encR_low hb]
      show (UInt8.ofNat a.toNat == UInt8.ofNat b.toNat && A.isPrefixOf B) = _
      congr 1
      by_cases e : a = b
      · subst e; simp
      · have : UInt8.ofNat a.toNat ≠ UInt8.ofNat b.toNat := fun h => e (by
          have := congrArg UInt8.toNat h
          simp only [UInt8.toNat_ofNat'] at this
          omega)
        simp [e, this]
    · rw [encR_low ha]
      have : UInt8.ofNat a.toNat ≠ 195 := fun h => by
        have := congrArg UInt8.toNat h
        simp only [UInt8.toNat_ofNat'] at this
        have e : (195 : UInt8).toNat = 195 := rfl
        omega
      show (UInt8.ofNat a.toNat == 195 && _) = _
      have e : a ≠ 233 := by omega
      simp [this, e]
  · rcases hb with hb | rfl
    · rw [encR_low hb]
      have : (195 : UInt8) ≠ UInt8.ofNat b.toNat := fun h => by
        have := congrArg UInt8.toNat h
        simp only [UInt8.toNat_ofNat'] at this
        have e : (195 : UInt8).toNat = 195 := rfl
        omega
      show ((195 : UInt8) == UInt8.ofNat b.toNat && _) = _
      have e : (233 : Int) ≠ b := by omega
      simp [this, e]
    · show ((195 : UInt8) == 195 && ((169 : UInt8) == 169 && A.isPrefixOf B)) = _
      simp
theorem encL_pre : ∀ (x l : List Int), (∀ r ∈ x, Okr r) → (∀ r ∈ l, Okr r) → (encL x).isPrefixOf (encL l) = x.isPrefixOf l
  | [], l, _, _ => by simp [encL]
  | a :: x, [], ha, _ => by
    rw [encL_cons]
    have h1 := (encR_len a).1
    cases he : encR a with
    | nil => rw [he] at h1; simp at h1
    | cons c t => simp [encL]
  | a :: x, b :: l, ha, hb => by
    rw [encL_cons, encL_cons, encR_pre (ha a (List.mem_cons_self ..)) (hb b (List.mem_cons_self ..)), encL_pre x l (fun r hr => ha r (List.mem_cons_of_mem _ hr)) (fun r hr => hb r (List.mem_cons_of_mem _ hr))]
    show _ = (a == b && x.isPrefixOf l)
    congr 1
theorem encR_not169 {a : Int} (ha : Okr a) (A B : List UInt8) : (encR a ++ A).isPrefixOf ((169 : UInt8) :: B) = false := by
  rcases ha with ha | rfl
  · rw [encR_low ha]
    have : UInt8.ofNat a.toNat ≠ 169 := fun h => by
      have := congrArg UInt8.toNat h
      simp only [UInt8.toNat_ofNat'] at this
      have e : (169 : UInt8).toNat = 169 := rfl
      omega
    show (UInt8.ofNat a.toNat == 169 && _) = false
    simp [this]
  · rfl
theorem pre_drop {α : Type} [BEq α] [LawfulBEq α] {x l : List α} (h : x.isPrefixOf l = true) : ∃ t, l = x ++ t := by
  obtain ⟨t, ht⟩ := List.isPrefixOf_iff_prefix.1 h
  exact ⟨t, ht.symm⟩
/-- .. of bytes is that of runes. -/
theorem repX_enc (x y : List Int) (k : Nat) (hx : ∀ r ∈ x, Okr r) (hne : x ≠ []) : ∀ (d D n : Nat) (l : List Int), (∀ r ∈ l, Okr r) → l.length ≤ d → (encL l).length ≤ D → repX (encL x) (encL y) k D n (encL l) = encL (repX x y k d n l)
  | d, D, n, [], _, _, _ => by
    cases d <;> cases D <;> rfl
  | 0, D, n, a :: l, _, h, _ => by simp at h
  | d + 1, D, n, a :: l, hl, h1, h2 => by
    have ha := hl a (List.mem_cons_self ..)
    have hl' : ∀ r ∈ l, Okr r := fun r hr => hl r (List.mem_cons_of_mem _ hr)
    have hxl : 0 < x.length := List.length_pos_iff.2 hne
    have hpre := encL_pre x (a :: l) hx hl
    have hlen := (encR_len a)
    rw [encL_cons, List.length_append] at h2
    simp only [List.length_cons] at h1
    obtain ⟨D', rfl⟩ : ∃ D', D = D' + 1 := ⟨D - 1, by omega⟩
    by_cases hp : x.isPrefixOf (a :: l) = true
    · obtain ⟨t, ht⟩ := pre_drop hp
      have hxe := (encL_len x).1
      have hte : t.length ≤ d := by
        have := congrArg List.length ht
        simp only [List.length_cons, List.length_append] at this
        omega
      have hok : ∀ r ∈ t, Okr r := fun r hr => hl r (by rw [ht]; exact List.mem_append_right _ hr)
      have hD : (encL t).length ≤ D' := by
        have e : encL (a :: l) = encL x ++ encL t := by rw [ht, encL_append]
        have := congrArg List.length e
        rw [encL_cons, List.length_append, List.length_append] at this
        omega
      have ih := repX_enc x y k hx hne d D' (n + 1) t hok hte hD
      rw [hp] at hpre
      have hR : repX x y k (d + 1) n (a :: l) = (if k = 0 ∨ k = n + 1 then y else x) ++ repX x y k d (n + 1) t := by
        rw [repX_yes hp, ht, List.drop_left]
      rw [hR, encL_append, ← ih]
      have hcons : ∃ c s, encL (a :: l) = c :: s := by
        rw [encL_cons]
        cases he : encR a with
        | nil => rw [he] at hlen; simp at hlen
        | cons c s => exact ⟨c, s ++ encL l, rfl⟩
      obtain ⟨c, s, hcs⟩ := hcons
      rw [hcs] at hpre ⊢
      rw [repX_yes hpre, ← hcs, ht, encL_append, List.drop_left]
      congr 1
      split <;> rfl
    · have hp' : x.isPrefixOf (a :: l) = false := Bool.eq_false_iff.2 hp
      rw [hp'] at hpre
      have hR : repX x y k (d + 1) n (a :: l) = a :: repX x y k d n l := by
        rw [repX_no hp]
      rw [hR, encL_cons, encL_cons]
      rw [encL_cons] at hpre
      rcases ha with ha | rfl
      · rw [encR_low ha] at hpre h2 ⊢
        rw [List.singleton_append] at hpre ⊢
        rw [repX_no (by rw [hpre]; simp), repX_enc x y k hx hne d D' n l hl' (by omega) (by simp at h2; omega)]
        rfl
      · have e : encR 233 = [195, 169] := rfl
        rw [e] at hpre h2 ⊢
        have e2 : ([195, 169] : List UInt8) ++ encL l = 195 :: 169 :: encL l := rfl
        rw [e2] at hpre ⊢
        simp only [List.length_cons, List.length_nil] at h2
        obtain ⟨D2, rfl⟩ : ∃ D2, D' = D2 + 1 := ⟨D' - 1, by omega⟩
        have h169 : (encL x).isPrefixOf ((169 : UInt8) :: encL l) = false := by
          cases x with
          | nil => exact absurd rfl hne
          | cons b x => rw [encL_cons]; exact encR_not169 (hx b (List.mem_cons_self ..)) _ _
        rw [repX_no (by rw [hpre]; simp), repX_no (by rw [h169]; simp), repX_enc x y k hx hne d D2 n l hl' (by omega) (by omega)]
        rfl

/-! An s of literal runes. -/
namespace Adz
def lit (r : Int) : Item := ⟨5, 0, [(r, r)], 0⟩
theorem takes_lit (a r : Int) : takes (lit a) r = (a == r) := by
  unfold takes lit has
  simp only [List.any_cons, List.any_nil, spanHas, Bool.or_false]
  by_cases e : a = r
  · subst e; simp
  · have h : ¬ (a ≤ r ∧ r ≤ a) := by omega
    have e2 : (a == r) = false := by simpa using e
    rw [e2]
    simp
    omega
theorem fits_lit : ∀ (x l : List Int), fitsAt (x.map lit) l = x.isPrefixOf l
  | [], l => by simp [fitsAt]
  | a :: x, [] => by simp [fitsAt]
  | a :: x, b :: l => by
    simp only [List.map_cons, fitsAt]
    rw [takes_lit, fits_lit x l]
    rfl
theorem ones_lit (x : List Int) : Ones (x.map lit) := fun i hi => by
  obtain ⟨r, _, rfl⟩ := List.mem_map.1 hi
  exact ⟨rfl, Or.inr rfl⟩
theorem rep_lit (x y : List Int) (F : List Int → List Int) (hF : ∀ m, F m = y) (hne : x ≠ []) : ∀ (d n : Nat) (l : List Int), l.length ≤ d → rep (x.map lit) F d l = repX x y 0 d n l
  | 0, n, l, h => by
    have : l = [] := List.eq_nil_of_length_eq_zero (by omega)
    subst this; rfl
  | d + 1, n, [], h => by
    have : fitsAt (x.map lit) [] = false := by
      rw [fits_lit]
      cases x with
      | nil => exact absurd rfl hne
      | cons a x => rfl
    simp [rep, this, repX]
  | d + 1, n, a :: l, h => by
    have hxl : 0 < x.length := List.length_pos_iff.2 hne
    simp only [List.length_cons] at h
    rw [rep, fits_lit, List.length_map]
    by_cases hp : x.isPrefixOf (a :: l) = true
    · rw [repX_yes hp, if_pos hp, if_pos (Or.inl rfl), hF, rep_lit x y F hF hne d (n + 1) _ (by rw [List.length_drop, List.length_cons]; omega)]
    · rw [repX_no hp, if_neg hp, rep_lit x y F hF hne d n l (by omega)]
/-- An s with g of literal runes. -/
theorem subst_lit_g (sp : List Int) (c : Cmd) (x y : List Int) (hp : c.pat.items = x.map lit) (hne : x ≠ []) (hn : c.nth ≤ 1) (hall : c.all = true) (hl : Lits c.repl) (hF : ∀ m, fill c.repl m = y) : subst sp c = repX x y 0 sp.length 0 sp := by
  rw [subst_g sp c (by rw [hp]; exact ones_lit x) (by rw [hp]; simpa using hne) hn hall hl, hp]
  exact rep_lit x y _ hF hne sp.length 0 sp (Nat.le_refl _)
theorem repX_past (x y : List Int) (k : Nat) (hk : 1 ≤ k) (hne : x ≠ []) : ∀ (d n : Nat) (l : List Int), k ≤ n → l.length ≤ d → repX x y k d n l = l
  | 0, n, l, h, hl => by
    have : l = [] := List.eq_nil_of_length_eq_zero (by omega)
    subst this; rfl
  | d + 1, n, [], h, hl => rfl
  | d + 1, n, a :: l, h, hl => by
    have hxl : 0 < x.length := List.length_pos_iff.2 hne
    simp only [List.length_cons] at hl
    by_cases hp : x.isPrefixOf (a :: l) = true
    · obtain ⟨t, ht⟩ := pre_drop hp
      rw [repX_yes hp, if_neg (by omega), ht, List.drop_left, repX_past x y k hk hne d (n + 1) t (by omega) (by
        have := congrArg List.length ht
        simp only [List.length_cons, List.length_append] at this
        omega)]
    · rw [repX_no hp, repX_past x y k hk hne d n l h (by omega)]
/-- What the k-th match makes. -/
theorem nth_lit (sp x y : List Int) (hne : x ≠ []) (ps : List Part) (hl : Lits ps) (hF : ∀ m, fill ps m = y) (k : Nat) (hk : 1 ≤ k) : ∀ (d p num : Nat), sp.length ≤ p + d → p ≤ sp.length → num < k →
    (if (substGo sp k false ps ((pos (x.map lit) sp d p).map (mk x.length)) num 0 [] false).2.2 = true then (substGo sp k false ps ((pos (x.map lit) sp d p).map (mk x.length)) num 0 [] false).2.1 ++ sp.drop (substGo sp k false ps ((pos (x.map lit) sp d p).map (mk x.length)) num 0 [] false).1 else sp) = sp.take p ++ repX x y k d num (sp.drop p)
  | 0, p, num, h, hp, hm => by
    have : p = sp.length := by omega
    subst this
    simp [pos, substGo, repX]
  | d + 1, p, num, h, hp, hm => by
    have hxl : 0 < x.length := List.length_pos_iff.2 hne
    unfold pos
    rw [fits_lit, List.length_map]
    by_cases hf : x.isPrefixOf (sp.drop p) = true
    · obtain ⟨t, ht⟩ := pre_drop hf
      have hlen := congrArg List.length ht
      rw [List.length_drop, List.length_append] at hlen
      have hdt : sp.drop (p + x.length) = t := by rw [← List.drop_drop, ht, List.drop_left]
      have htk : sp.take (p + x.length) = sp.take p ++ x := by rw [List.take_add, ht, List.take_left]
      have hcons : ∃ a l, sp.drop p = a :: l := by
        cases hd : sp.drop p with
        | nil => rw [hd] at ht; have := congrArg List.length ht; simp at this; omega
        | cons a l => exact ⟨a, l, rfl⟩
      obtain ⟨a, l, hal⟩ := hcons
      rw [if_pos hf]
      simp only [List.map_cons, substGo]
      by_cases hn : (num : Int) + 1 < k
      · rw [if_pos hn]
        have ih := nth_lit sp x y hne ps hl hF k hk d (p + x.length) (num + 1) (by omega) (by omega) (by omega)
        rw [show ((num + 1 : Nat) : Int) = (num : Int) + 1 by omega] at ih
        rw [ih, hdt, htk, hal]
        rw [repX_yes (by rw [← hal]; exact hf), if_neg (by omega), ← hal, ht, List.drop_left, List.append_assoc]
      · rw [if_neg hn]
        simp only [Bool.false_eq_true, if_false, if_true]
        rw [mk_0, mk_1, Int.toNat_natCast, replAll_mk sp ps hl, hF, hdt, hal]
        rw [repX_yes (by rw [← hal]; exact hf), if_pos (by omega), ← hal, ht, List.drop_left, repX_past x y k hk hne d (num + 1) t (by omega) (by omega)]
        have : seg sp ((0 : Nat) : Int) (p : Int) = sp.take p := by simp [seg]
        rw [this, List.nil_append, List.append_assoc]
    · rw [if_neg hf]
      by_cases hp1 : p < sp.length
      · rw [nth_lit sp x y hne ps hl hF k hk d (p + 1) num (by omega) (by omega) hm]
        have hd : sp.drop p = sp[p] :: sp.drop (p + 1) := List.drop_eq_getElem_cons hp1
        rw [hd] at hf ⊢
        rw [← List.take_append_getElem hp1]
        rw [repX_no hf, List.append_assoc]
        rfl
      · have hpe : p = sp.length := by omega
        have e2 : ∀ d q, sp.length < q → pos (x.map lit) sp d q = [] := by
          intro d
          induction d with
          | zero => intro q _; rfl
          | succ d ih =>
            intro q hq
            unfold pos
            rw [if_neg (by
              intro hc
              have := fitsAt_len _ _ hc
              rw [List.length_drop, List.length_map] at this
              omega)]
            exact ih _ (by omega)
        rw [e2 d (p + 1) (by omega)]
        subst hpe
        simp [substGo, repX]
/-- An s of literal runes, its k-th match. -/
theorem subst_lit_k (sp : List Int) (c : Cmd) (x y : List Int) (hp : c.pat.items = x.map lit) (hne : x ≠ []) (k : Nat) (hk : 1 ≤ k) (hn : c.nth = k) (hall : c.all = false) (hl : Lits c.repl) (hF : ∀ m, fill c.repl m = y) : subst sp c = repX x y k sp.length 0 sp := by
  have h := nth_lit sp x y hne c.repl hl hF k hk sp.length 0 0 (by omega) (by omega) (by omega)
  unfold subst
  rw [matches_ones sp _ (by rw [hp]; exact ones_lit x) (by rw [hp]; simpa using hne), hall, hp, List.length_map, hn]
  simp only [List.take_zero, List.nil_append, List.drop_zero] at h
  exact h
end Adz
end Go.Proofs.YtbiobhghnldckaaGreatDoor
