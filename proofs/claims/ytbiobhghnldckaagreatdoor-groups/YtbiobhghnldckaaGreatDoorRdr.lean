/- Proved: what the reader of patterns makes, item by item, where all may stand. Conditions: the reader lies in memory as 'Rdr' says. -/
import Derived.Test.YtbiobhghnldckaaGreatDoorRd
namespace Go.Proofs.YtbiobhghnldckaaGreatDoor
open Go.RowKit
set_option linter.unusedVariables false
attribute [local go_sem ↓] Go.wp_at_zero Go.wp_at_succ

def itemCells (x : Adz.Item) (sv : Value) : List Value := [.int .i64 x.kind, .int .i64 x.group, sv, .int .i64 x.times]
def itemsCells : List Adz.Item → List Value → List Value
  | x :: xs, v :: vs => itemCells x v ++ itemsCells xs vs
  | _, _ => []

/-- A slice of spans lies in memory. -/
def SpansAt (w : World) (sv : Value) (sp : List (Int × Int)) : Prop :=
  ∃ a cap, sv = .slice a sp.length cap ∧ (sp ≠ [] → ∃ b, a = some ⟨b, 0, none⟩ ∧ Typ w b 284 ∧
    ∀ j, j < sp.length → w.cell? ⟨b, 2 * j, none⟩ = some (.int .i32 (sp.getD j (0, 0)).1) ∧ w.cell? ⟨b, 2 * j + 1, none⟩ = some (.int .i32 (sp.getD j (0, 0)).2))
def Spans (w : World) : List Adz.Item → List Value → Prop
  | [], [] => True
  | x :: xs, v :: vs => SpansAt w v x.spans ∧ Spans w xs vs
  | _, _ => False

theorem SpansAt.keeps {S : Nat → Prop} {w w' : World} {sv : Value} {sp : List (Int × Int)} (h : SpansAt w sv sp) (o : Only S w w') (hs : ∀ b, Typ w b 284 → ¬ S b) : SpansAt w' sv sp := by
  obtain ⟨a, cap, rfl, h⟩ := h
  refine ⟨a, cap, rfl, fun hne => ?_⟩
  obtain ⟨b, rfl, ht, hc⟩ := h hne
  exact ⟨b, rfl, ht.keeps o (hs b ht), fun j hj => ⟨o.keeps (hc j hj).1 (hs b ht), o.keeps (hc j hj).2 (hs b ht)⟩⟩
theorem Spans.keeps {S : Nat → Prop} {w w' : World} (o : Only S w w') (hs : ∀ b, Typ w b 284 → ¬ S b) : ∀ {xs : List Adz.Item} {vs : List Value}, Spans w xs vs → Spans w' xs vs
  | [], [], _ => trivial
  | x :: xs, v :: vs, h => ⟨h.1.keeps o hs, Spans.keeps o hs h.2⟩
  | [], _ :: _, h => h.elim
  | _ :: _, [], h => h.elim
theorem Spans.snoc {w : World} {x : Adz.Item} {v : Value} (hx : SpansAt w v x.spans) : ∀ {xs : List Adz.Item} {vs : List Value}, Spans w xs vs → Spans w (xs ++ [x]) (vs ++ [v])
  | [], [], _ => ⟨hx, trivial⟩
  | y :: xs, u :: vs, h => ⟨h.1, Spans.snoc hx h.2⟩
  | [], _ :: _, h => h.elim
  | _ :: _, [], h => h.elim
theorem itemsCells_snoc {w : World} (x : Adz.Item) (v : Value) : ∀ {xs : List Adz.Item} {vs : List Value}, Spans w xs vs → itemsCells (xs ++ [x]) (vs ++ [v]) = itemsCells xs vs ++ itemCells x v
  | [], [], _ => by simp [itemsCells]
  | y :: xs, u :: vs, h => by
    have := itemsCells_snoc x v h.2
    simp [itemsCells, this]
  | [], _ :: _, h => h.elim
  | _ :: _, [], h => h.elim

structure Rdr (g : CG) (rd base : Nat) (w : World) (s : Adz.Rd) : Prop where
  cur : Cur g w s.i
  r0 : w.cell? ⟨rd, 0, none⟩ = some (.pointer (some ⟨g.c, 0, none⟩))
  it : ∃ iv svs, w.cell? ⟨rd, 1, none⟩ = some iv ∧ w.ownsRow base 270 4 iv s.items.length (itemsCells s.items svs) ∧ Spans w s.items svs
  r2 : w.cell? ⟨rd, 2, none⟩ = some (.int .i64 s.groups)
  op : ∃ ov, w.cell? ⟨rd, 3, none⟩ = some ov ∧ w.ownsRow base 3 1 ov s.opens.length (s.opens.map (Value.int .i64))
  f1 : w.frozen? ⟨rd, 1, none⟩ = false
  f2 : w.frozen? ⟨rd, 2, none⟩ = false
  f3 : w.frozen? ⟨rd, 3, none⟩ = false
  trd : Typ w rd 249
  pb : g.pb < base
  bs : base ≤ w.heap.size
  rb : base ≤ rd
  small : s.items.length ≤ s.i
  opens : s.opens.length ≤ s.i
  groups : 0 ≤ s.groups ∧ s.groups ≤ 9

def SR (g : CG) (base : Nat) : Nat → Prop := fun b => b = g.c ∨ base ≤ b

/-- The cursor alone has gone on. -/
theorem Rdr.moved {g : CG} {rd base : Nat} {w w' : World} {s : Adz.Rd} (h : Rdr g rd base w s) {i : Nat} (hc : Cur g w' i) (o : Only (· = g.c) w w') (hi : s.i ≤ i) : Rdr g rd base w' { s with i := i } := by
  obtain ⟨iv, svs, i1, i2, i3⟩ := h.it
  obtain ⟨ov, o1, o2⟩ := h.op
  have n0 : ¬ rd = g.c := h.trd.ne h.cur.tc (by decide)
  refine ⟨hc, o.keeps h.r0 n0, ⟨iv, svs, o.keeps i1 n0, row_keeps i2 o (fun b hb e => ?_), i3.keeps o (fun b hb e => ?_)⟩, o.keeps h.r2 n0, ⟨ov, o.keeps o1 n0, row_keeps o2 o (fun b hb e => ?_)⟩,
    o.keepsFrozen i1 h.f1 n0, o.keepsFrozen h.r2 h.f2 n0, o.keepsFrozen o1 h.f3 n0, h.trd.keeps o n0, h.pb, Nat.le_trans h.bs o.size, h.rb, Nat.le_trans h.small hi, Nat.le_trans h.opens hi, h.groups⟩
  · exact (Typ.of_row i2 hb).ne h.cur.tc (by decide) e
  · exact hb.ne h.cur.tc (by decide) e
  · exact (Typ.of_row o2 hb).ne h.cur.tc (by decide) e

theorem Rdr.drewN {g : CG} {rd base : Nat} {w : World} {s : Adz.Rd} (h : Rdr g rd base w s) (n : Nat) : Rdr g rd base (w.drewN n) s :=
  h.moved (h.cur.drewN n) ((Only.refl _ w).drewN n) (Nat.le_refl _)

/-- 'add' behind a step of the cursor. -/
theorem Rdr.add {g : CG} {rd base : Nat} {w : World} {s : Adz.Rd} (h : Rdr g rd base w s) (x : Adz.Item) (sa : Option Addr) (sc : Nat) (hx : SpansAt w (.slice sa x.spans.length sc) x.spans) (hl : s.items.length < s.i) :
    Calls Tryz.prog 210 #[.pointer (some ⟨rd, 0, none⟩), .agg #[.int .i64 x.kind, .int .i64 x.group, .slice sa x.spans.length sc, .int .i64 x.times]] w fun e w' =>
      e = .returned (.tuple #[]) ∧ Rdr g rd base w' { s with items := s.items ++ [x] } ∧ Only (SR g base) w w' := by
  obtain ⟨iv, svs, i1, i2, i3⟩ := h.it
  obtain ⟨ov, o1, o2⟩ := h.op
  have hsm := h.cur.small
  have hle := h.cur.le
  have hne : iv.ownBlock ≠ some rd := row_ne i2 h.trd (by decide)
  have hc := h.cur.tc
  refine (add_calls rd base iv s.items.length _ x.kind x.group x.times sa x.spans.length sc w i1 h.f1 i2 h.bs (by omega) hne).mono ?_
  rintro e w' ⟨rfl, g', cap, q1, q2, q3, q4⟩
  have nc : ¬ (g.c = rd ∨ iv.ownBlock = some g.c) := by
    rintro (e | e)
    · exact h.trd.ne h.cur.tc (by decide) e.symm
    · exact row_ne i2 h.cur.tc (by decide) e
  have nr : g.L.length ≠ 0 → ¬ (g.rb = rd ∨ iv.ownBlock = some g.rb) := by
    rintro hn (e | e)
    · exact h.trd.ne (h.cur.tr hn) (by decide) e.symm
    · exact row_ne i2 (h.cur.tr hn) (by decide) e
  have np : ¬ (g.pb = rd ∨ iv.ownBlock = some g.pb) := by
    rintro (e | e)
    · exact h.trd.ne h.cur.tp (by decide) e.symm
    · exact row_ne i2 h.cur.tp (by decide) e
  refine ⟨rfl, ⟨?_, (q4.others 0 (by decide)).trans h.r0, ⟨_, svs ++ [.slice sa x.spans.length sc], q1, ?_, ?_⟩, (q4.others 2 (by decide)).trans h.r2, ⟨ov, (q4.others 3 (by decide)).trans o1, ?_⟩,
    (q4.frozen 1).trans h.f1, (q4.frozen 2).trans h.f2, (q4.frozen 3).trans h.f3, q4.typ _ h.trd, h.pb, Nat.le_trans h.bs q3.size, h.rb, ?_, h.opens, h.groups⟩, ?_⟩
  · exact h.cur.keeps q3 nc nr np
  · rw [itemsCells_snoc x _ i3, List.length_append]
    exact q2
  · have hS : ∀ b, Typ w b 284 → ¬ (b = rd ∨ iv.ownBlock = some b) := by
      rintro b hb (e | e)
      · exact hb.ne h.trd (by decide) e
      · exact row_ne i2 hb (by decide) e
    exact Spans.snoc (hx.keeps q3 hS) (i3.keeps q3 hS)
  · refine row_keeps o2 q3 (fun b hb => ?_)
    rintro (e | e)
    · exact (Typ.of_row o2 hb).ne h.trd (by decide) e
    · exact row_ne i2 (Typ.of_row o2 hb) (by decide) e
  · simp; omega
  · refine q3.mono (fun b _ => ?_)
    rintro (e | e)
    · exact Or.inr (e ▸ h.rb)
    · exact Or.inr (i2.lt b e).1

theorem spansAt_nil (w : World) : SpansAt w (.slice none 0 0) [] := ⟨none, 0, rfl, fun h => absurd rfl h⟩


theorem itemsCells_get {w : World} : ∀ {xs : List Adz.Item} {vs : List Value}, Spans w xs vs → ∀ k (hk : k < xs.length), ∃ v, SpansAt w v (xs[k]).spans ∧ ∀ o, o < 4 → (itemsCells xs vs)[k * 4 + o]? = (itemCells (xs[k]) v)[o]?
  | [], [], _, k, hk => by simp at hk
  | x :: xs, v :: vs, h, 0, _ => ⟨v, h.1, fun o ho => by
      simp only [itemsCells, Nat.zero_mul, Nat.zero_add, List.getElem_cons_zero]
      rw [List.getElem?_append_left (by simp [itemCells]; omega)]⟩
  | x :: xs, v :: vs, h, k + 1, hk => by
    obtain ⟨u, hu, hc⟩ := itemsCells_get h.2 k (by simpa using hk)
    refine ⟨u, by simpa using hu, fun o ho => ?_⟩
    simp only [itemsCells, List.getElem_cons_succ]
    rw [List.getElem?_append_right (by simp [itemCells]; omega)]
    rw [← hc o ho]
    congr 1
    simp [itemCells]; omega
  | [], _ :: _, h, _, _ => h.elim
  | _ :: _, [], h, _, _ => h.elim
end Go.Proofs.YtbiobhghnldckaaGreatDoor
