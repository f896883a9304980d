/- Proved: the first place of a match; a match, its items followed. Conditions: the pattern and the rows of ends lie in memory. -/
import Derived.Test.YtbiobhghnldckaaGreatDoorMatch4
import Derived.Deep.MidRow
namespace Go.Proofs.YtbiobhghnldckaaGreatDoor
open Go.RowKit
set_option linter.unusedVariables false
namespace Adz
def firstFrom (l : List Int) (from_ : Nat) : Int := match l with
  | l => match (l.drop from_).findIdx? (fun x => x != -1) with
    | some k => ((from_ + k : Nat) : Int)
    | none => -1
theorem firstFrom_hit (l : List Int) (j : Nat) (h : j < l.length) (hv : l.getD j 0 ≠ -1) : firstFrom l j = j := by
  have e : l.drop j = l.getD j 0 :: l.drop (j + 1) := by rw [List.drop_eq_getElem_cons h]; simp [h]
  have hb : (l.getD j 0 != -1) = true := bne_iff_ne.2 hv
  simp only [firstFrom, e, List.findIdx?_cons, hb, if_true, Nat.add_zero]
theorem firstFrom_miss (l : List Int) (j : Nat) (h : j < l.length) (hv : l.getD j 0 = -1) : firstFrom l j = firstFrom l (j + 1) := by
  have e : l.drop j = l.getD j 0 :: l.drop (j + 1) := by rw [List.drop_eq_getElem_cons h]; simp [h]
  simp only [firstFrom, e, List.findIdx?_cons, hv]
  simp only [bne_self_eq_false, Bool.false_eq_true, if_false]
  cases (l.drop (j + 1)).findIdx? (fun x => x != -1) with
  | none => rfl
  | some k => simp; omega
theorem firstFrom_end (l : List Int) (j : Nat) (h : l.length ≤ j) : firstFrom l j = -1 := by
  simp [firstFrom, List.drop_eq_nil_of_le h]
end Adz

set_option maxHeartbeats 1600000 in
theorem firstFrom_calls (sb ab base K n : Nat) (iv : Value) (ra : Option Addr) (rc : Nat) (F : Nat → Nat → Int) (w : World) (hs : Srch w sb iv (.slice ra n rc) (.slice (some ⟨ab, 0, none⟩) (K + 1) (K + 1))) (hM : Mat w ab base (K + 1) n F) (l : List Int) (hl : l.length = n + 1) (hlF : ∀ t, t ≤ n → l.getD t 0 = F 0 t) (hn : n ≤ 1000000) (fr : Nat) (hfr : fr ≤ n + 1) :
    Calls Tryz.prog 188 #[.pointer (some ⟨sb, 0, none⟩), .int .i64 fr] w fun e w' => e = .returned (.int .i64 (Adz.firstFrom l fr)) ∧ Only (· = sb) w w' ∧ Srch w' sb iv (.slice ra n rc) (.slice (some ⟨ab, 0, none⟩) (K + 1) (K + 1)) := by
  go_enter Tryz.func188, Tryz.ntmps188
  go_wp2_with fail
  go_loopg [5] (n + 1 - fr) (fun k v wr => ∃ j : Nat, v = .int .i64 j ∧ j + k = n + 1 ∧ Hid (Adz.firstFrom l fr = Adz.firstFrom l j) ∧ Hid (Only (· = sb) w wr) ∧ Hid (Srch wr sb iv (.slice ra n rc) (.slice (some ⟨ab, 0, none⟩) (K + 1) (K + 1))))
  case atStart => exact ⟨fr, rfl, by omega, rfl, Only.refl _ _, hs⟩
  case round =>
    obtain ⟨j, rfl, hjk, hF, h1, h2⟩ := hrel
    have HK : Hid (j + gk = n + 1) := hjk
    have hO : Only (· = sb) w wr := h1
    have hS : Srch wr sb iv (.slice ra n rc) (.slice (some ⟨ab, 0, none⟩) (K + 1) (K + 1)) := h2
    have hjl : j ≤ n + 1 := by omega
    clear hjk h1 h2
    have q1 := hS.space
    by_cases hlt : j ≤ n
    · have d0 : decide ((j : Int) ≤ n) = true := by simp; omega
      obtain ⟨st, hst⟩ := hS.steps
      have q2 := hS.ends
      have q3 := hS.free
      have hMr := hM.keeps hO (fun c hc e => by subst e; exact absurd (hc.one hs.typ) (by decide)) (fun c hc e => by subst e; exact absurd (hc.one hs.typ) (by decide))
      have n1 : ab ≠ sb := hMr.typ.ne hS.typ (by decide)
      have n2 : base ≠ sb := (hMr.rows 0 (by omega)).ne hS.typ (by decide)
      have c1 := hMr.cell 0 (by omega)
      have c2 := (hMr.place 0 j (by omega) hlt).1
      rw [Nat.add_zero] at c1 c2
      rw [← hlF j hlt] at c2
      have hw : IntKind.i64.wrap ((j : Int) + 1) = (j : Int) + 1 := by rw [IntKind.wrap_i64]; omega
      have hb1 : (j : Int) < (n : Int) + 1 := by omega
      have hb2 : (0 : Int) < (K : Int) + 1 := by omega
      have o2 : Only (· = sb) w _ := hO.trans (srch_only (w := wr) sb (wrap64 (st + 1))) (fun _ e => e) (fun _ _ e => e)
      have s2 := hS.step (wrap64 (st + 1))
      by_cases hv : l.getD j 0 = -1
      · have HM : Hid _ := Adz.firstFrom_miss l j (by omega) hv
        rw [hv] at c2
        clear hv hM hMr hlF
        go_wp2
        go_roundg (gk - 1)
        case measure => have := HK.out; omega
        case rel => exact ⟨j + 1, rfl, by have := HK.out; omega, by show _ = _; rw [hF.out, HM.out], o2, s2⟩
      · have HM : Hid _ := Adz.firstFrom_hit l j (by omega) hv
        clear hM hMr hlF
        generalize l.getD j 0 = q at *
        have d1 : (q == -1) = false := by simp [hv]
        have d2 : (q != -1) = true := by simp [hv]
        clear hv
        go_wp2
        go_ret
        exact ⟨by rw [hF.out, HM.out]; rfl, o2, s2⟩
    · have he : j = n + 1 := by omega
      have d0 : decide ((j : Int) ≤ n) = false := by simp; omega
      have HM : Hid _ := Adz.firstFrom_end l j (by omega)
      go_wp2
      go_ret
      exact ⟨by rw [hF.out, HM.out]; rfl, hO, hS⟩

set_option maxHeartbeats 800000 in
theorem empty_calls (mb : Nat) (a b : Int) (w : World) (h1 : w.cell? ⟨mb, 0, none⟩ = some (.int .i64 a)) (h2 : w.cell? ⟨mb, 1, none⟩ = some (.int .i64 b)) :
    Calls Tryz.prog 207 #[.pointer (some ⟨mb, 0, none⟩)] w fun e w' => e = .returned (.bool (a == b)) ∧ Only (fun _ => False) w w' := by
  go_enter Tryz.func207, Tryz.ntmps207
  go_wp2_with fail
  go_quiet (fail)
  go_wp2
  go_ret
  exact ⟨rfl, (Only.refl _ w).drewN _⟩
end Go.Proofs.YtbiobhghnldckaaGreatDoor

/- Proved: a match, its items followed. Conditions: the pattern and the rows of ends lie in memory. -/
namespace Go.Proofs.YtbiobhghnldckaaGreatDoor
open Go.RowKit
set_option linter.unusedVariables false

def zeros20 : Array Value := #[.int .i64 0, .int .i64 0, .int .i64 0, .int .i64 0, .int .i64 0, .int .i64 0, .int .i64 0, .int .i64 0, .int .i64 0, .int .i64 0, .int .i64 0, .int .i64 0, .int .i64 0, .int .i64 0, .int .i64 0, .int .i64 0, .int .i64 0, .int .i64 0, .int .i64 0, .int .i64 0]
/-- The cells of a match. -/
structure MatchAt (w : World) (b : Nat) (l : List Int) : Prop where
  len : l.length = 20
  typ : Typ w b 219
  cells : w.rangeAt b 0 (l.map (.int .i64))
  there : w.there b 0 20
theorem MatchAt.keeps {S : Nat → Prop} {w w' : World} {b : Nat} {l : List Int} (h : MatchAt w b l) (o : Only S w w') (hs : ¬ S b) : MatchAt w' b l :=
  ⟨h.len, h.typ.keeps o hs, fun j v hv => o.keeps (h.cells j v hv) hs, fun j hj => by
    obtain ⟨v, hv⟩ := Option.isSome_iff_exists.1 (h.there j hj).1
    exact ⟨by rw [o.keeps hv hs]; rfl, o.keepsFrozen hv (h.there j hj).2 hs⟩⟩
theorem MatchAt.new (w : World) : MatchAt (w.alloc (.cells zeros20 219)) w.heap.size (List.replicate 20 0) := by
  have hc := Cells.new w zeros20 219
  refine ⟨rfl, Typ.new w _ _ _, fun j v hv => ?_, fun j hj => ?_⟩
  · rw [Nat.zero_add]; exact (hc j v hv).1
  · have e : zeros20.toList = List.replicate 20 (Value.int .i64 0) := rfl
    rw [e] at hc
    have := hc j (.int .i64 0) (by rw [List.getElem?_replicate]; simp [hj])
    rw [Nat.zero_add]
    exact ⟨by rw [this.1]; rfl, this.2⟩
theorem setCells_only (b : Nat) : ∀ (l : List Value) (w : World) (o : Nat), Only (· = b) w (w.setCells b o l)
  | [], w, o => Only.refl _ w
  | v :: r, w, o => by
    rw [World.setCells]
    exact only2 (only_set w b o v) (setCells_only b r _ (o + 1))
theorem MatchAt.store {w : World} {b : Nat} {l : List Int} (h : MatchAt w b l) (m : List Int) (hm : m.length = 20) : MatchAt (w.setCells b 0 (m.map (.int .i64))) b m := by
  refine ⟨hm, ?_, ?_, ?_⟩
  · have ht : ∀ (l : List Value) (u : World) (o : Nat), Typ u b 219 → Typ (u.setCells b o l) b 219 := by
      intro l
      induction l with
      | nil => intro u o hu; exact hu
      | cons v r ih => intro u o hu; rw [World.setCells]; exact ih _ _ (hu.setCell _ _)
    exact ht _ _ _ h.typ
  · exact World.rangeAt_setCells_same w b 0 _ (by rw [List.length_map, hm]; exact h.there)
  · exact World.there_setCells h.there b 0 _

namespace Adz
theorem endAt_some (x : Item) (r : Int) (j n e1 b1 b0 : Int) (h : endAt x (some r) j n e1 b1 b0 ≠ -1) :
    (endAt x (some r) j n e1 b1 b0 = e1 ∧ e1 ≠ -1) ∨ (endAt x (some r) j n e1 b1 b0 = j + 1 ∧ b1 ≠ -1) ∨ (endAt x (some r) j n e1 b1 b0 = j ∧ b0 ≠ -1) := by
  revert h
  unfold endAt
  simp only
  generalize takes x r = t1
  generalize takesMany x = t2
  generalize takesNone x j n = t3
  cases t1 <;> cases t2 <;> cases t3 <;> by_cases h1 : e1 = -1 <;> by_cases h2 : b1 = -1 <;> by_cases h3 : b0 = -1 <;> simp [h1, h2, h3]
theorem endAt_none (x : Item) (j n e1 b1 b0 : Int) (h : endAt x none j n e1 b1 b0 ≠ -1) : endAt x none j n e1 b1 b0 = j ∧ b0 ≠ -1 := by
  revert h
  unfold endAt
  simp only
  generalize takesNone x j n = t3
  cases t3 <;> by_cases h3 : b0 = -1 <;> simp [h3]
/-- Where an item has an end, it is a place from which the rest has one. -/
theorem ends_good (x : Item) (sp bh : List Int) (hl : bh.length = sp.length + 1) : ∀ (d j : Nat), j + d = sp.length → (ends x sp bh).getD j 0 ≠ -1 →
    ∃ e : Nat, (ends x sp bh).getD j 0 = e ∧ j ≤ e ∧ e ≤ sp.length ∧ bh.getD e 0 ≠ -1
  | 0, j, hj, h => by
    have e : j = sp.length := by omega
    subst e
    rw [ends_eq x sp bh hl] at h ⊢
    obtain ⟨h1, h2⟩ := endAt_none _ _ _ _ _ _ h
    exact ⟨sp.length, h1, by omega, by omega, h2⟩
  | d + 1, j, hj, h => by
    rw [ends_lt x sp bh hl j (by omega)] at h ⊢
    rcases endAt_some _ _ _ _ _ _ _ h with ⟨h1, h2⟩ | ⟨h1, h2⟩ | ⟨h1, h2⟩
    · obtain ⟨e, g1, g2, g3, g4⟩ := ends_good x sp bh hl d (j + 1) (by omega) h2
      exact ⟨e, h1.trans g1, by omega, g3, g4⟩
    · exact ⟨j + 1, by rw [h1]; omega, by omega, by omega, h2⟩
    · exact ⟨j, h1, by omega, by omega, h2⟩
/-- The same, of a whole pattern's ends. -/
theorem allEnds_good (sp : List Int) (xs : List Item) (i : Nat) (hi : i < xs.length) (j : Nat) (hj : j ≤ sp.length) (h : ((allEnds sp xs).getD i []).getD j 0 ≠ -1) :
    ∃ e : Nat, ((allEnds sp xs).getD i []).getD j 0 = e ∧ j ≤ e ∧ e ≤ sp.length ∧ ((allEnds sp xs).getD (i + 1) []).getD e 0 ≠ -1 := by
  rw [allEnds_at sp xs i hi] at h ⊢
  exact ends_good xs[i] sp _ (allEnds_width sp xs (i + 1) (by omega)) (sp.length - j) j (by omega) h
end Adz
end Go.Proofs.YtbiobhghnldckaaGreatDoor
