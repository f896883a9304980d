/- Proved: what the small functions of the reader of patterns do. Conditions: the reader lies in memory as told. -/
import Derived.Test.YtbiobhghnldckaaGreatDoorK1
import Derived.Deep.RegionHeld3
import Derived.Deep.AppendLies
import Derived.Deep.RegionLaw
import Derived.Deep.DrawnRows
import Derived.Test.YtbiobhghnldckaaGreatDoorSpecJ
import Derived.WalkSmall
namespace Go.Proofs.YtbiobhghnldckaaGreatDoor
open Go.RowKit
set_option linter.unusedVariables false
attribute [local go_sem ↓] Go.wp_at_zero Go.wp_at_succ

theorem infoItem : (Tryz.prog.info? 270).map (fun i => (i.zero, i.size, i.bytes)) = some (some (.agg #[.int .i64 0, .int .i64 0, .slice none 0 0, .int .i64 0]), 4, 48) := by kernel_rfl
theorem infoInt : (Tryz.prog.info? 3).map (fun i => (i.zero, i.size, i.bytes)) = some (some (.int .i64 0), 1, 8) := by kernel_rfl

set_option maxRecDepth 100000 in
set_option maxHeartbeats 800000 in
theorem add_calls (rd base : Nat) (iv : Value) (n : Nat) (xs : List Value) (k gr t : Int) (sa : Option Addr) (sl sc : Nat) (w : World)
    (h1 : w.cell? ⟨rd, 1, none⟩ = some iv) (f1 : w.frozen? ⟨rd, 1, none⟩ = false) (hown : w.ownsRow base 270 4 iv n xs) (hbase : base ≤ w.heap.size) (hn : n ≤ 1000) (hne : iv.ownBlock ≠ some rd) :
    Calls Tryz.prog 210 #[.pointer (some ⟨rd, 0, none⟩), .agg #[.int .i64 k, .int .i64 gr, .slice sa sl sc, .int .i64 t]] w fun e w' =>
      e = .returned (.tuple #[]) ∧ ∃ g cap, w'.cell? ⟨rd, 1, none⟩ = some (.slice (some ⟨g, 0, none⟩) (n + 1) cap) ∧ w'.ownsRow base 270 4 (.slice (some ⟨g, 0, none⟩) (n + 1) cap) (n + 1) (xs ++ [.int .i64 k, .int .i64 gr, .slice sa sl sc, .int .i64 t]) ∧
        Only (fun b => b = rd ∨ iv.ownBlock = some b) w w' ∧ Field rd 1 w w' := by
  obtain ⟨i0, hi0, hz0, hz1, hz2⟩ := info_parts infoItem
  have lr := World.block_lt_of_cell? w _ h1
  have hsize : w.heap.size ≠ rd := by simp at lr; omega
  have h1b : ∀ o1 o2 : Obj, ((w.alloc o1).alloc o2).cell? ⟨rd, 1, none⟩ = some iv := fun o1 o2 => by rw [World.cell?_alloc_past _ _ _ (by simp at lr ⊢; omega), World.cell?_alloc_past _ _ _ lr]; exact h1
  have f1a : ∀ o : Obj, (w.alloc o).frozen? ⟨rd, 1, none⟩ = false := fun o => by rw [World.frozen?_alloc_past _ _ _ lr]; exact f1
  have f1b : ∀ o1 o2 : Obj, ((w.alloc o1).alloc o2).frozen? ⟨rd, 1, none⟩ = false := fun o1 o2 => by rw [World.frozen?_alloc_past _ _ _ (by simp at lr ⊢; omega)]; exact f1a _
  have hblk : ∀ o1 o2 : Obj, ((w.alloc o1).alloc o2).heap[w.heap.size + 1]? = some o2 := fun o1 o2 => by
    have := heap_alloc_new (w.alloc o1) o2
    simpa using this
  have hnew : iv.ownBlock ≠ some w.heap.size := fun e => by have := (hown.lt _ e).2; omega
  go_enter Tryz.func210, Tryz.ntmps210
  go_wp2_with fail
  go_region_law
    ((refine step_append_lies _ (by rfl) _ _ _ (by rfl) base 270 i0 _ 4 48 Tryz.underlying158 hi0 hz0 hz1 hz2 rfl (by omega) iv n xs (by rfl) (((hown.alloc _).alloc _).drew)
        ⟨w.heap.size + 1, 0, none⟩ 1 1 [.int .i64 k, .int .i64 gr, .slice sa sl sc, .int .i64 t] (by rfl) (by rfl) (World.news_of_block (cs := #[.int .i64 k, .int .i64 gr, .slice sa sl sc, .int .i64 t]) (t := 270) (fr := (0, 0)) (hblk _ _)) (by simp [Value.oneCell'])
        (by omega) (by unfold maxLen; omega) (by omega) (by simp; omega) (w.heap.size + 2) (by simp) ?_; intro g cap w1 hown1 hgrow hat hlt; have kc := (hgrow.cell_far ⟨rd, 1, none⟩ (by simp; omega) (Ne.symm hne)).trans (h1b _ _); have kf := (hgrow.frozen_far ⟨rd, 1, none⟩ (by simp; omega) (Ne.symm hne)).trans (f1b _ _)))
  all_goals
    have hv : (Value.slice (some ⟨g, 0, none⟩) (n + 1) cap).ownBlock ≠ some rd := by
      rcases hat with h | h
      · intro e
        simp [Value.ownBlock] at e
        exact hne (by rw [h, e])
      · intro e
        simp [Value.ownBlock] at e
        omega
    obtain ⟨q1, q2, q3, q4⟩ := field_end ((((Only.refl _ w).alloc _).alloc _).drew) hgrow kc hown1 hv lr hne
    go_wp2
    go_end0
    exact ⟨rfl, g, cap, q1, q2, q3, q4⟩
end Go.Proofs.YtbiobhghnldckaaGreatDoor

/- Proved: what the reader of patterns makes, item by item, where all may stand. Conditions: the reader lies in memory as 'Rdr' says. -/
namespace Go.Proofs.YtbiobhghnldckaaGreatDoor
open Go.RowKit
set_option linter.unusedVariables false
attribute [local go_sem ↓] Go.wp_at_zero Go.wp_at_succ

def itemCells (x : Adz.Item) (sv : Value) : List Value := [.int .i64 x.kind, .int .i64 x.group, sv, .int .i64 x.times]
def itemsCells : List Adz.Item → List Value → List Value
  | x :: xs, v :: vs => itemCells x v ++ itemsCells xs vs
  | _, _ => []

/-- A slice of spans lies in memory. -/
def SpansAt (w : World) (sv : Value) (sp : List (Int × Int)) : Prop :=
  ∃ a cap, sv = .slice a sp.length cap ∧ (sp ≠ [] → ∃ b, a = some ⟨b, 0, none⟩ ∧ Typ w b 284 ∧
    ∀ j, j < sp.length → w.cell? ⟨b, 2 * j, none⟩ = some (.int .i32 (sp.getD j (0, 0)).1) ∧ w.cell? ⟨b, 2 * j + 1, none⟩ = some (.int .i32 (sp.getD j (0, 0)).2))
def Spans (w : World) : List Adz.Item → List Value → Prop
  | [], [] => True
  | x :: xs, v :: vs => SpansAt w v x.spans ∧ Spans w xs vs
  | _, _ => False

theorem SpansAt.keeps {S : Nat → Prop} {w w' : World} {sv : Value} {sp : List (Int × Int)} (h : SpansAt w sv sp) (o : Only S w w') (hs : ∀ b, Typ w b 284 → ¬ S b) : SpansAt w' sv sp := by
  obtain ⟨a, cap, rfl, h⟩ := h
  refine ⟨a, cap, rfl, fun hne => ?_⟩
  obtain ⟨b, rfl, ht, hc⟩ := h hne
  exact ⟨b, rfl, ht.keeps o (hs b ht), fun j hj => ⟨o.keeps (hc j hj).1 (hs b ht), o.keeps (hc j hj).2 (hs b ht)⟩⟩
theorem Spans.keeps {S : Nat → Prop} {w w' : World} (o : Only S w w') (hs : ∀ b, Typ w b 284 → ¬ S b) : ∀ {xs : List Adz.Item} {vs : List Value}, Spans w xs vs → Spans w' xs vs
  | [], [], _ => trivial
  | x :: xs, v :: vs, h => ⟨h.1.keeps o hs, Spans.keeps o hs h.2⟩
  | [], _ :: _, h => h.elim
  | _ :: _, [], h => h.elim
theorem Spans.snoc {w : World} {x : Adz.Item} {v : Value} (hx : SpansAt w v x.spans) : ∀ {xs : List Adz.Item} {vs : List Value}, Spans w xs vs → Spans w (xs ++ [x]) (vs ++ [v])
  | [], [], _ => ⟨hx, trivial⟩
  | y :: xs, u :: vs, h => ⟨h.1, Spans.snoc hx h.2⟩
  | [], _ :: _, h => h.elim
  | _ :: _, [], h => h.elim
theorem itemsCells_snoc {w : World} (x : Adz.Item) (v : Value) : ∀ {xs : List Adz.Item} {vs : List Value}, Spans w xs vs → itemsCells (xs ++ [x]) (vs ++ [v]) = itemsCells xs vs ++ itemCells x v
  | [], [], _ => by simp [itemsCells]
  | y :: xs, u :: vs, h => by
    have := itemsCells_snoc x v h.2
    simp [itemsCells, this]
  | [], _ :: _, h => h.elim
  | _ :: _, [], h => h.elim

structure Rdr (g : CG) (rd base : Nat) (w : World) (s : Adz.Rd) : Prop where
  cur : Cur g w s.i
  r0 : w.cell? ⟨rd, 0, none⟩ = some (.pointer (some ⟨g.c, 0, none⟩))
  it : ∃ iv svs, w.cell? ⟨rd, 1, none⟩ = some iv ∧ w.ownsRow base 270 4 iv s.items.length (itemsCells s.items svs) ∧ Spans w s.items svs
  r2 : w.cell? ⟨rd, 2, none⟩ = some (.int .i64 s.groups)
  op : ∃ ov, w.cell? ⟨rd, 3, none⟩ = some ov ∧ w.ownsRow base 3 1 ov s.opens.length (s.opens.map (Value.int .i64))
  f1 : w.frozen? ⟨rd, 1, none⟩ = false
  f2 : w.frozen? ⟨rd, 2, none⟩ = false
  f3 : w.frozen? ⟨rd, 3, none⟩ = false
  trd : Typ w rd 249
  pb : g.pb < base
  bs : base ≤ w.heap.size
  rb : base ≤ rd
  small : s.items.length ≤ s.i
  opens : s.opens.length ≤ s.i
  groups : 0 ≤ s.groups ∧ s.groups ≤ 9

def SR (g : CG) (base : Nat) : Nat → Prop := fun b => b = g.c ∨ base ≤ b

/-- The cursor alone has gone on. -/
theorem Rdr.moved {g : CG} {rd base : Nat} {w w' : World} {s : Adz.Rd} (h : Rdr g rd base w s) {i : Nat} (hc : Cur g w' i) (o : Only (· = g.c) w w') (hi : s.i ≤ i) : Rdr g rd base w' { s with i := i } := by
  obtain ⟨iv, svs, i1, i2, i3⟩ := h.it
  obtain ⟨ov, o1, o2⟩ := h.op
  have n0 : ¬ rd = g.c := h.trd.ne h.cur.tc (by decide)
  refine ⟨hc, o.keeps h.r0 n0, ⟨iv, svs, o.keeps i1 n0, row_keeps i2 o (fun b hb e => ?_), i3.keeps o (fun b hb e => ?_)⟩, o.keeps h.r2 n0, ⟨ov, o.keeps o1 n0, row_keeps o2 o (fun b hb e => ?_)⟩,
    o.keepsFrozen i1 h.f1 n0, o.keepsFrozen h.r2 h.f2 n0, o.keepsFrozen o1 h.f3 n0, h.trd.keeps o n0, h.pb, Nat.le_trans h.bs o.size, h.rb, Nat.le_trans h.small hi, Nat.le_trans h.opens hi, h.groups⟩
  · exact (Typ.of_row i2 hb).ne h.cur.tc (by decide) e
  · exact hb.ne h.cur.tc (by decide) e
  · exact (Typ.of_row o2 hb).ne h.cur.tc (by decide) e

theorem Rdr.drewN {g : CG} {rd base : Nat} {w : World} {s : Adz.Rd} (h : Rdr g rd base w s) (n : Nat) : Rdr g rd base (w.drewN n) s :=
  h.moved (h.cur.drewN n) ((Only.refl _ w).drewN n) (Nat.le_refl _)

/-- 'add' behind a step of the cursor. -/
theorem Rdr.add {g : CG} {rd base : Nat} {w : World} {s : Adz.Rd} (h : Rdr g rd base w s) (x : Adz.Item) (sa : Option Addr) (sc : Nat) (hx : SpansAt w (.slice sa x.spans.length sc) x.spans) (hl : s.items.length < s.i) :
    Calls Tryz.prog 210 #[.pointer (some ⟨rd, 0, none⟩), .agg #[.int .i64 x.kind, .int .i64 x.group, .slice sa x.spans.length sc, .int .i64 x.times]] w fun e w' =>
      e = .returned (.tuple #[]) ∧ Rdr g rd base w' { s with items := s.items ++ [x] } ∧ Only (SR g base) w w' := by
  obtain ⟨iv, svs, i1, i2, i3⟩ := h.it
  obtain ⟨ov, o1, o2⟩ := h.op
  have hsm := h.cur.small
  have hle := h.cur.le
  have hne : iv.ownBlock ≠ some rd := row_ne i2 h.trd (by decide)
  have hc := h.cur.tc
  refine (add_calls rd base iv s.items.length _ x.kind x.group x.times sa x.spans.length sc w i1 h.f1 i2 h.bs (by omega) hne).mono ?_
  rintro e w' ⟨rfl, g', cap, q1, q2, q3, q4⟩
  have nc : ¬ (g.c = rd ∨ iv.ownBlock = some g.c) := by
    rintro (e | e)
    · exact h.trd.ne h.cur.tc (by decide) e.symm
    · exact row_ne i2 h.cur.tc (by decide) e
  have nr : g.L.length ≠ 0 → ¬ (g.rb = rd ∨ iv.ownBlock = some g.rb) := by
    rintro hn (e | e)
    · exact h.trd.ne (h.cur.tr hn) (by decide) e.symm
    · exact row_ne i2 (h.cur.tr hn) (by decide) e
  have np : ¬ (g.pb = rd ∨ iv.ownBlock = some g.pb) := by
    rintro (e | e)
    · exact h.trd.ne h.cur.tp (by decide) e.symm
    · exact row_ne i2 h.cur.tp (by decide) e
  refine ⟨rfl, ⟨?_, (q4.others 0 (by decide)).trans h.r0, ⟨_, svs ++ [.slice sa x.spans.length sc], q1, ?_, ?_⟩, (q4.others 2 (by decide)).trans h.r2, ⟨ov, (q4.others 3 (by decide)).trans o1, ?_⟩,
    (q4.frozen 1).trans h.f1, (q4.frozen 2).trans h.f2, (q4.frozen 3).trans h.f3, q4.typ _ h.trd, h.pb, Nat.le_trans h.bs q3.size, h.rb, ?_, h.opens, h.groups⟩, ?_⟩
  · exact h.cur.keeps q3 nc nr np
  · rw [itemsCells_snoc x _ i3, List.length_append]
    exact q2
  · have hS : ∀ b, Typ w b 284 → ¬ (b = rd ∨ iv.ownBlock = some b) := by
      rintro b hb (e | e)
      · exact hb.ne h.trd (by decide) e
      · exact row_ne i2 hb (by decide) e
    exact Spans.snoc (hx.keeps q3 hS) (i3.keeps q3 hS)
  · refine row_keeps o2 q3 (fun b hb => ?_)
    rintro (e | e)
    · exact (Typ.of_row o2 hb).ne h.trd (by decide) e
    · exact row_ne i2 (Typ.of_row o2 hb) (by decide) e
  · simp; omega
  · refine q3.mono (fun b _ => ?_)
    rintro (e | e)
    · exact Or.inr (e ▸ h.rb)
    · exact Or.inr (i2.lt b e).1

theorem spansAt_nil (w : World) : SpansAt w (.slice none 0 0) [] := ⟨none, 0, rfl, fun h => absurd rfl h⟩


theorem itemsCells_get {w : World} : ∀ {xs : List Adz.Item} {vs : List Value}, Spans w xs vs → ∀ k (hk : k < xs.length), ∃ v, SpansAt w v (xs[k]).spans ∧ ∀ o, o < 4 → (itemsCells xs vs)[k * 4 + o]? = (itemCells (xs[k]) v)[o]?
  | [], [], _, k, hk => by simp at hk
  | x :: xs, v :: vs, h, 0, _ => ⟨v, h.1, fun o ho => by
      simp only [itemsCells, Nat.zero_mul, Nat.zero_add, List.getElem_cons_zero]
      rw [List.getElem?_append_left (by simp [itemCells]; omega)]⟩
  | x :: xs, v :: vs, h, k + 1, hk => by
    obtain ⟨u, hu, hc⟩ := itemsCells_get h.2 k (by simpa using hk)
    refine ⟨u, by simpa using hu, fun o ho => ?_⟩
    simp only [itemsCells, List.getElem_cons_succ]
    rw [List.getElem?_append_right (by simp [itemCells]; omega)]
    rw [← hc o ho]
    congr 1
    simp [itemCells]; omega
  | [], _ :: _, h, _, _ => h.elim
  | _ :: _, [], h, _, _ => h.elim
end Go.Proofs.YtbiobhghnldckaaGreatDoor

/- Proved: what the reader of patterns makes, item by item, where all may stand: its functions. Conditions: the reader lies in memory as 'Rdr' says. -/
namespace Go.Proofs.YtbiobhghnldckaaGreatDoor
open Go.RowKit
set_option linter.unusedVariables false
attribute [local go_sem ↓] Go.wp_at_zero Go.wp_at_succ

/-- 'ended' where no '$' is the last. -/
theorem ended_calls {g : CG} {rd base : Nat} {w : World} {s : Adz.Rd} (h : Rdr g rd base w s) (he : Adz.ended s.items = false) :
    Calls Tryz.prog 208 #[.pointer (some ⟨rd, 0, none⟩)] w fun e w' => e = .returned (.bool false) ∧ ∃ n, w' = w.drewN n := by
  obtain ⟨iv, svs, i1, i2, i3⟩ := h.it
  have hsm := h.cur.small
  have hle := h.cur.le
  have hil := h.small
  by_cases hz : s.items.length = 0
  · have h1 : ∃ a c, w.cell? ⟨rd, 1, none⟩ = some (.slice a 0 c) := by
      rcases i2.2 with ⟨rfl, h0⟩ | ⟨gb, cap, cur, rfl, _⟩
      · exact ⟨none, 0, i1⟩
      · exact ⟨_, cap, by rw [i1, hz]⟩
    obtain ⟨a, c, h1⟩ := h1
    clear h i1 i2 i3
    go_enter Tryz.func208, Tryz.ntmps208
    go_wp2_with fail
    go_quiet (fail)
    go_wp2
    go_ret
    exact ⟨rfl, _, rfl⟩
  · obtain ⟨m, hm⟩ : ∃ m, s.items.length = m + 1 := ⟨s.items.length - 1, by omega⟩
    rw [hm] at i2
    have hlt : m < s.items.length := by omega
    obtain ⟨v, _, hc⟩ := itemsCells_get i3 m hlt
    have hk : s.items[m].kind ≠ 1 := by
      intro e
      unfold Adz.ended at he
      rw [List.getLast?_eq_getElem?, hm] at he
      simp [hlt, e] at he
    obtain ⟨gb, cap, rfl⟩ : ∃ gb cap, iv = .slice (some ⟨gb, 0, none⟩) (m + 1) cap := by
      rcases i2.2 with ⟨_, h0⟩ | ⟨gb, cap, cur, rfl, _⟩
      · omega
      · exact ⟨gb, cap, rfl⟩
    have hcell : w.cell? ⟨gb, m * 4, none⟩ = some (.int .i64 s.items[m].kind) := by
      rw [i2.cellAt (m * 4) (by omega)]
      have := hc 0 (by omega)
      simpa [itemCells] using this
    have hb : ((s.items[m].kind : Int) == 1) = false := by simpa using hk
    have hd : decide ((0 : Int) < (m : Int) + 1) = true := decide_eq_true (by omega)
    have hm5 : m ≤ 500 := by omega
    have hw : IntKind.i64.wrap ((m : Int) + 1 - 1) = (m : Int) := by rw [IntKind.wrap_i64]; omega
    generalize s.items[m].kind = kd at *
    clear h i2 i3 hc he hil
    go_enter Tryz.func208, Tryz.ntmps208
    go_wp2_with fail
    go_quiet (fail)
    go_wp2
    go_ret
    exact ⟨rfl, _, rfl⟩

theorem asc_escapable : Asc ⟨#[92, 46, 91, 93, 40, 41, 42, 43, 63, 94, 36, 47, 45]⟩ Adz.escapable := ⟨by decide, by decide, by decide⟩
theorem asc_notAPiece : Asc ⟨#[92, 46, 91, 40, 41, 42, 43, 63, 94, 36, 47]⟩ Adz.notAPiece := ⟨by decide, by decide, by decide⟩

theorem character_ok (g : CG) (rd : Nat) (w : World) (i : Nat) (st : ByteArray) (but : List Int) (hs : Asc st but) (h : Cur g w i) (r0 : w.cell? ⟨rd, 0, none⟩ = some (.pointer (some ⟨g.c, 0, none⟩))) (hne : rd ≠ g.c)
    (r : Int) (i' : Nat) (hr : Adz.character g.L g.pl but i = .ok (r, i')) :
    Calls Tryz.prog 232 #[.pointer (some ⟨rd, 0, none⟩), .string st] w fun e w' => e = .returned (.tuple #[.int .i32 r, .pointer none]) ∧ Cur g w' i' ∧ Only (· = g.c) w w' := by
  unfold Adz.character at hr
  by_cases hb : Adz.peek g.L i = 92
  · simp [hb] at hr
    go_enter Tryz.func232, Tryz.ntmps232
    go_wp2_with fail
    refine (take_yes g w i 92 h hb (by omega)).mono ?_
    rintro e w1 ⟨rfl, hc, ho⟩
    have r1 := ho.keeps r0 hne
    go_wp2_with fail
    refine (escaped_ok g w1 (i + 1) _ _ asc_escapable hc r i' hr).mono ?_
    rintro e w2 ⟨rfl, hc2, ho2⟩
    go_wp2
    go_ret2
    exact ⟨rfl, hc2, ho.trans ho2 (fun _ e => e) (fun _ _ e => e)⟩
  · have hbf : (Adz.peek g.L i == 92) = false := by simp [hb]
    rw [hbf] at hr
    simp only [Bool.false_eq_true, if_false] at hr
    clear hbf
    go_enter Tryz.func232, Tryz.ntmps232
    go_wp2_with fail
    refine (take_no g w i 92 h hb).mono ?_
    rintro e w1 ⟨rfl, n, rfl⟩
    go_wp2_with fail
    refine (plain_ok g _ i _ _ hs (h.drewN _) r i' hr).mono ?_
    rintro e w2 ⟨rfl, hc2, ho2⟩
    go_wp2
    go_ret2
    exact ⟨rfl, hc2, ((Only.refl _ w).drewN _).trans ho2 (fun _ e => e) (fun _ _ e => e)⟩

theorem times_calls (g : CG) (rd : Nat) (w : World) (i : Nat) (h : Cur g w i) (r0 : w.cell? ⟨rd, 0, none⟩ = some (.pointer (some ⟨g.c, 0, none⟩))) (hne : rd ≠ g.c) :
    Calls Tryz.prog 226 #[.pointer (some ⟨rd, 0, none⟩)] w fun e w' => e = .returned (.int .i64 (Adz.times g.L i).1) ∧ Cur g w' (Adz.times g.L i).2 ∧ Only (· = g.c) w w' := by
  unfold Adz.times
  by_cases h1 : Adz.peek g.L i = 42
  · simp only [h1, beq_self_eq_true, if_true]
    go_enter Tryz.func226, Tryz.ntmps226
    go_wp2_with fail
    refine (take_yes g w i 42 h h1 (by omega)).mono ?_
    rintro e w1 ⟨rfl, hc, ho⟩
    go_wp2
    go_ret
    exact ⟨rfl, hc, ho⟩
  · have b1 : (Adz.peek g.L i == 42) = false := by simp [h1]
    by_cases h2 : Adz.peek g.L i = 43
    · simp only [h2, beq_self_eq_true, if_true, show ((43 : Int) == 42) = false from rfl, Bool.false_eq_true, if_false]
      clear b1
      go_enter Tryz.func226, Tryz.ntmps226
      go_wp2_with fail
      refine (take_no g w i 42 h h1).mono ?_
      rintro e w1 ⟨rfl, n, rfl⟩
      go_wp2_with fail
      refine (take_yes g _ i 43 (h.drewN _) h2 (by omega)).mono ?_
      rintro e w1 ⟨rfl, hc, ho⟩
      go_wp2
      go_ret
      exact ⟨rfl, hc, ((Only.refl _ w).drewN _).trans ho (fun _ e => e) (fun _ _ e => e)⟩
    · have b2 : (Adz.peek g.L i == 43) = false := by simp [h2]
      by_cases h3 : Adz.peek g.L i = 63
      · simp only [h3, beq_self_eq_true, if_true, show ((63 : Int) == 42) = false from rfl, show ((63 : Int) == 43) = false from rfl, Bool.false_eq_true, if_false]
        clear b1 b2
        go_enter Tryz.func226, Tryz.ntmps226
        go_wp2_with fail
        refine (take_no g w i 42 h h1).mono ?_
        rintro e w1 ⟨rfl, n, rfl⟩
        go_wp2_with fail
        refine (take_no g _ i 43 (h.drewN _) h2).mono ?_
        rintro e w1 ⟨rfl, n, rfl⟩
        go_wp2_with fail
        refine (take_yes g _ i 63 (h.drewN _) h3 (by omega)).mono ?_
        rintro e w1 ⟨rfl, hc, ho⟩
        go_wp2
        go_ret
        exact ⟨rfl, hc, ((Only.refl _ w).drewN _).trans ho (fun _ e => e) (fun _ _ e => e)⟩
      · have b3 : (Adz.peek g.L i == 63) = false := by simp [h3]
        simp only [b1, b2, b3, Bool.false_eq_true, if_false]
        clear b1 b2 b3
        go_enter Tryz.func226, Tryz.ntmps226
        go_wp2_with fail
        refine (take_no g w i 42 h h1).mono ?_
        rintro e w1 ⟨rfl, n, rfl⟩
        go_wp2_with fail
        refine (take_no g _ i 43 (h.drewN _) h2).mono ?_
        rintro e w1 ⟨rfl, n, rfl⟩
        go_wp2_with fail
        refine (take_no g _ i 63 (h.drewN _) h3).mono ?_
        rintro e w1 ⟨rfl, n, rfl⟩
        go_wp2
        go_ret
        exact ⟨rfl, h.drewN _, (Only.refl _ w).drewN _⟩
end Go.Proofs.YtbiobhghnldckaaGreatDoor

/- Proved: a piece of a pattern is read, where it may stand. Conditions: the reader lies in memory as 'Rdr' says. -/
namespace Go.Proofs.YtbiobhghnldckaaGreatDoor
open Go.RowKit
set_option linter.unusedVariables false
attribute [local go_sem ↓] Go.wp_at_zero Go.wp_at_succ

set_option maxHeartbeats 800000 in
theorem single_ok (g : CG) (rd : Nat) (w : World) (i : Nat) (h : Cur g w i) (r0 : w.cell? ⟨rd, 0, none⟩ = some (.pointer (some ⟨g.c, 0, none⟩))) (hne : rd ≠ g.c)
    (x : Adz.Item) (i' : Nat) (hr : Adz.single g.L g.pl i = .ok (x, i')) :
    Calls Tryz.prog 225 #[.pointer (some ⟨rd, 0, none⟩)] w fun e w' => ∃ sa sc, e = .returned (.tuple #[.agg #[.int .i64 x.kind, .int .i64 x.group, .slice sa x.spans.length sc, .int .i64 x.times], .pointer none]) ∧
      SpansAt w' (.slice sa x.spans.length sc) x.spans ∧ Cur g w' i' ∧ Only (· = g.c) w w' := by
  unfold Adz.single at hr
  have hcl := h.lt
  have lr := World.block_lt_of_cell? w _ r0
  have hnew : w.heap.size ≠ g.c := by omega
  by_cases h1 : Adz.peek g.L i = 46
  · simp [h1] at hr
    obtain ⟨rfl, rfl⟩ := hr
    go_enter Tryz.func225, Tryz.ntmps225
    go_wp2_with fail
    refine (peek_calls g _ i (h.alloc _)).mono ?_
    rintro e w1 ⟨rfl, n, rfl⟩
    rw [h1]
    go_wp2_with fail
    refine (next_calls g _ i ((h.alloc _).drewN _) (Adz.lt_of_peek (by omega))).mono ?_
    rintro e w1 ⟨rfl, hc, ho⟩
    have hk : Cells w1 w.heap.size [.int .i64 0, .int .i64 0, .slice none 0 0, .int .i64 0] := ((Cells.new w _ _).drewN n).keeps ho hnew
    have k0 := hk 0 _ rfl
    have k1 := hk 1 _ rfl
    have k2 := hk 2 _ rfl
    have k3 := hk 3 _ rfl
    clear hk
    go_wp2
    have o4 := set4_only w1 w.heap.size (.int .i64 4) (.int .i64 0) (.slice none 0 0) (.int .i64 0)
    refine bodyPost_ret (v := .tuple #[.agg #[.int .i64 4, .int .i64 0, .slice none 0 0, .int .i64 0], .pointer none]) (by simp [results, Tryz.results225, go_sem, k0, k1, k2, k3]) rfl ⟨none, 0, rfl, spansAt_nil _, ?_, ?_⟩
    · exact hc.keeps o4 (Ne.symm hnew) (fun hn e => by have := (h.tr hn).lt; omega) (fun e => by have := h.tp.lt; omega)
    · exact (((Only.refl (· = g.c) w).alloc _).drewN n |>.trans ho (fun _ e => e) (fun _ _ e => e)).trans o4 (fun _ e => e) (fun x hx e => by omega)
  · have b1 : (Adz.peek g.L i == 46) = false := by simp [h1]
    rw [b1] at hr
    by_cases h2 : Adz.peek g.L i = 91
    · simp [h2, Adz.setOf] at hr
    · have b2 : (Adz.peek g.L i == 91) = false := by simp [h2]
      rw [b2] at hr
      simp only [Bool.false_eq_true, if_false] at hr
      cases hch : Adz.character g.L g.pl Adz.notAPiece i with
      | error f => rw [hch] at hr; cases hr
      | ok q =>
        obtain ⟨c, i1⟩ := q
        rw [hch] at hr
        simp only [Except.ok.injEq, Prod.mk.injEq] at hr
        obtain ⟨rfl, rfl⟩ := hr
        have HB : Hid ((Adz.peek g.L i == 46) = false ∧ (Adz.peek g.L i == 91) = false) := ⟨b1, b2⟩
        have HC : Hid (Adz.character g.L g.pl Adz.notAPiece i = .ok (c, i1)) := hch
        clear hch
        go_enter Tryz.func225, Tryz.ntmps225
        go_wp2_with fail
        refine (peek_calls g _ i (h.alloc _)).mono ?_
        rintro e w1 ⟨rfl, n, rfl⟩
        go_wp2_with fail
        refine (character_ok g rd _ i _ _ asc_notAPiece ((h.alloc _).drewN _) ?_ hne c i1 HC.out).mono ?_
        · simp [World.cell?_alloc_past _ _ _ lr, r0]
        rintro e w1 ⟨rfl, hc, ho⟩
        have hk : Cells w1 w.heap.size [.int .i64 0, .int .i64 0, .slice none 0 0, .int .i64 0] := ((Cells.new w _ _).drewN n).keeps ho hnew
        have k0 := hk 0 _ rfl
        have k1 := hk 1 _ rfl
        have k2 := hk 2 _ rfl
        have k3 := hk 3 _ rfl
        clear hk
        have hlt : w.heap.size < w1.heap.size := by have := ho.size; simp at this; omega
        go_wp2
        have o4 := set4_only w1 w.heap.size (.int .i64 5) (.int .i64 0) (.slice (some ⟨w1.heap.size, 0, none⟩) 1 1) (.int .i64 0)
        have hs4 := set4_size w1 w.heap.size (.int .i64 5) (.int .i64 0) (.slice (some ⟨w1.heap.size, 0, none⟩) 1 1) (.int .i64 0)
        refine bodyPost_ret (v := .tuple #[.agg #[.int .i64 5, .int .i64 0, .slice (some ⟨w1.heap.size, 0, none⟩) 1 1, .int .i64 0], .pointer none]) (by simp [results, Tryz.results225, go_sem, k0, k1, k2, k3, hlt]) rfl ?_
        change ∃ sa sc, _ ∧ SpansAt ((set4 w1 w.heap.size (.int .i64 5) (.int .i64 0) (.slice (some ⟨w1.heap.size, 0, none⟩) 1 1) (.int .i64 0)).alloc (.cells #[.int .i32 c, .int .i32 c] 284)) _ _ ∧ Cur g ((set4 w1 w.heap.size (.int .i64 5) (.int .i64 0) (.slice (some ⟨w1.heap.size, 0, none⟩) 1 1) (.int .i64 0)).alloc (.cells #[.int .i32 c, .int .i32 c] 284)) _ ∧ Only (· = g.c) w ((set4 w1 w.heap.size (.int .i64 5) (.int .i64 0) (.slice (some ⟨w1.heap.size, 0, none⟩) 1 1) (.int .i64 0)).alloc (.cells #[.int .i32 c, .int .i32 c] 284))
        generalize set4 w1 w.heap.size (.int .i64 5) (.int .i64 0) (.slice (some ⟨w1.heap.size, 0, none⟩) 1 1) (.int .i64 0) = w4 at *
        refine ⟨_, 1, rfl, ⟨_, 1, rfl, fun _ => ⟨w1.heap.size, rfl, ?_, ?_⟩⟩, ?_, ?_⟩
        · rw [← hs4]; exact Typ.new w4 _ _ _
        · intro j hj
          have hj0 : j = 0 := by simpa using hj
          subst hj0
          rw [← hs4]
          exact ⟨(Cells.new w4 #[.int .i32 c, .int .i32 c] 284).at 0 _ rfl, (Cells.new w4 #[.int .i32 c, .int .i32 c] 284).at 1 _ rfl⟩
        · exact (hc.keeps o4 (Ne.symm hnew) (fun hn e => by have := (h.tr hn).lt; omega) (fun e => by have := h.tp.lt; omega)).alloc _
        · exact ((((Only.refl (· = g.c) w).alloc _).drewN n |>.trans ho (fun _ e => e) (fun _ _ e => e)).trans o4 (fun _ e => e) (fun x hx e => by omega)).alloc _
end Go.Proofs.YtbiobhghnldckaaGreatDoor

/- Proved: each kind of item is read, where it may stand. Conditions: the reader lies in memory as 'Rdr' says. -/
namespace Go.Proofs.YtbiobhghnldckaaGreatDoor
open Go.RowKit
set_option linter.unusedVariables false
attribute [local go_sem ↓] Go.wp_at_zero Go.wp_at_succ

theorem SR_c {g : CG} {base : Nat} {w w' : World} (o : Only (· = g.c) w w') : Only (SR g base) w w' := o.mono (fun _ _ e => Or.inl e)
theorem SR_trans {g : CG} {base : Nat} {a b c : World} (o : Only (SR g base) a b) (o' : Only (SR g base) b c) : Only (SR g base) a c := o.trans o' (fun _ e => e) (fun _ _ e => e)
theorem Rdr.ne {g : CG} {rd base : Nat} {w : World} {s : Adz.Rd} (h : Rdr g rd base w s) : rd ≠ g.c := h.trd.ne h.cur.tc (by decide)
/-- New blocks turn nothing of the reader. -/
theorem Rdr.alloc {g : CG} {rd base : Nat} {w : World} {s : Adz.Rd} (h : Rdr g rd base w s) (o : Obj) : Rdr g rd base (w.alloc o) s :=
  h.moved (h.cur.alloc o) ((Only.refl _ w).alloc o) (Nat.le_refl _)

/-- A block that is none of the reader's is written. -/
theorem Rdr.aside {g : CG} {rd base : Nat} {w w' : World} {s : Adz.Rd} (h : Rdr g rd base w s) {b : Nat} (o : Only (· = b) w w') (hb : ∀ iv, w.cell? ⟨rd, 1, none⟩ = some iv → iv.ownBlock ≠ some b) (ht : Typ w b 270) : Rdr g rd base w' s := by
  obtain ⟨iv, svs, i1, i2, i3⟩ := h.it
  obtain ⟨ov, o1, o2⟩ := h.op
  have n0 : ¬ rd = b := h.trd.ne ht (by decide)
  refine ⟨h.cur.keeps o (h.cur.tc.ne ht (by decide)) (fun hn => (h.cur.tr hn).ne ht (by decide)) (h.cur.tp.ne ht (by decide)), o.keeps h.r0 n0, ⟨iv, svs, o.keeps i1 n0, row_keeps i2 o (fun c hc e => ?_), i3.keeps o (fun c hc e => hc.ne ht (by decide) e)⟩, o.keeps h.r2 n0, ⟨ov, o.keeps o1 n0, row_keeps o2 o (fun c hc e => (Typ.of_row o2 hc).ne ht (by decide) e)⟩,
    o.keepsFrozen i1 h.f1 n0, o.keepsFrozen h.r2 h.f2 n0, o.keepsFrozen o1 h.f3 n0, h.trd.keeps o n0, h.pb, Nat.le_trans h.bs o.size, h.rb, h.small, h.opens, h.groups⟩
  subst e
  exact hb iv i1 hc

set_option maxHeartbeats 800000 in
theorem piece_ok {g : CG} {rd base : Nat} {w : World} {s : Adz.Rd} (h : Rdr g rd base w s) (x : Adz.Item) (i1 : Nat) (hr : Adz.single g.L g.pl s.i = .ok (x, i1)) :
    Calls Tryz.prog 213 #[.pointer (some ⟨rd, 0, none⟩)] w fun e w' => e = .returned (.pointer none) ∧
      Rdr g rd base w' { s with i := (Adz.times g.L i1).2, items := s.items ++ [{ x with times := (Adz.times g.L i1).1 }] } ∧ Only (SR g base) w w' := by
  have hlt := Adz.single_lt hr
  have hle := Adz.times_le g.L i1
  have hsm := h.small
  have r0 := h.r0
  have HR : Hid (Adz.single g.L g.pl s.i = .ok (x, i1)) := hr
  clear hr
  go_enter Tryz.func213, Tryz.ntmps213
  go_wp2_with fail
  refine (single_ok g rd w s.i h.cur h.r0 h.ne x i1 HR.out).mono ?_
  rintro e w1 ⟨sa, sc, rfl, hsp, hc, ho⟩
  have h1 := h.moved hc ho (by omega)
  have r1 := h1.r0
  have lr := World.block_lt_of_cell? w1 _ r1
  go_wp2_with fail
  have h1a := h1.alloc (.cells #[.int .i64 x.kind, .int .i64 x.group, .slice sa x.spans.length sc, .int .i64 x.times] 270)
  refine (times_calls g rd _ i1 h1a.cur h1a.r0 h.ne).mono ?_
  rintro e w2 ⟨rfl, hc2, ho2⟩
  have h2 := h1a.moved hc2 ho2 hle
  have r2 := h2.r0
  have hcl := h1.cur.lt
  have hn2 : w1.heap.size ≠ g.c := by omega
  have hk : Cells w2 w1.heap.size [.int .i64 x.kind, .int .i64 x.group, .slice sa x.spans.length sc, .int .i64 x.times] := (Cells.new w1 _ _).keeps ho2 hn2
  have ht2 : Typ w2 w1.heap.size 270 := (Typ.new w1 _ _ _).keeps ho2 hn2
  have hrow : ∀ iv, w2.cell? ⟨rd, 1, none⟩ = some iv → iv.ownBlock ≠ some w1.heap.size := by
    intro iv hiv e
    obtain ⟨iv', svs', j1, j2, _⟩ := h1.it
    have := ho2.keeps ((World.cell?_alloc_past _ _ _ lr).trans j1) h.ne
    rw [this] at hiv
    cases hiv
    exact absurd (j2.lt _ e).2 (Nat.lt_irrefl _)
  have k0 := hk 0 _ rfl
  have k1 := hk 1 _ rfl
  have k2 := hk 2 _ rfl
  have k3 := hk 3 _ rfl
  clear hk
  have hneq : rd ≠ w1.heap.size := by omega
  go_wp2_with fail
  have o3 : Only (· = w1.heap.size) w2 (w2.setCell ⟨w1.heap.size, 3, none⟩ (.int .i64 (Adz.times g.L i1).1)) := Only.setCell (S := (· = w1.heap.size)) (p := ⟨w1.heap.size, 3, none⟩) (Only.refl _ w2) (fun _ => rfl) _
  have h3 := h2.aside o3 hrow ht2
  have hspT : ∀ b, Typ w1 b 284 → ¬ (b = g.c) := fun b hb e => hb.ne h1.cur.tc (by decide) e
  have hsp2 : SpansAt w2 (.slice sa x.spans.length sc) x.spans := hsp.keeps ((((Only.refl (· = g.c) w1).alloc _)).trans ho2 (fun _ e => e) (fun _ _ e => e)) hspT
  have hsp3 := hsp2.keeps o3 (fun b hb e => hb.ne ht2 (by decide) e)
  refine (h3.add { x with times := (Adz.times g.L i1).1 } sa sc hsp3 (by simp; omega)).mono ?_
  rintro e w4 ⟨rfl, h4, o4⟩
  go_wp2
  go_ret
  refine ⟨rfl, h4, ?_⟩
  have oa : Only (SR g base) w w2 := (SR_c ho).trans ((((Only.refl (SR g base) w1).alloc _)).trans (SR_c ho2) (fun _ e => e) (fun _ _ e => e)) (fun _ e => e) (fun _ _ e => e)
  exact SR_trans (oa.trans o3 (fun _ e => e) (fun b hb e => by have := ho.size; omega)) o4
end Go.Proofs.YtbiobhghnldckaaGreatDoor

/- Proved: the other kinds of items are read, where they may stand. Conditions: the reader lies in memory as 'Rdr' says. -/
namespace Go.Proofs.YtbiobhghnldckaaGreatDoor
open Go.RowKit
set_option linter.unusedVariables false
attribute [local go_sem ↓] Go.wp_at_zero Go.wp_at_succ

/-- An item without spans is added behind the next rune. -/
theorem Rdr.add0 {g : CG} {rd base : Nat} {w : World} {s : Adz.Rd} (h : Rdr g rd base w s) (k gr : Int) (hl : s.items.length < s.i) :
    Calls Tryz.prog 210 #[.pointer (some ⟨rd, 0, none⟩), .agg #[.int .i64 k, .int .i64 gr, .slice none 0 0, .int .i64 0]] w fun e w' =>
      e = .returned (.tuple #[]) ∧ Rdr g rd base w' { s with items := s.items ++ [⟨k, gr, [], 0⟩] } ∧ Only (SR g base) w w' :=
  h.add ⟨k, gr, [], 0⟩ none 0 (spansAt_nil w) hl

theorem begin_ok {g : CG} {rd base : Nat} {w : World} {s : Adz.Rd} (h : Rdr g rd base w s) (h0 : s.items = []) (hp : s.i < g.L.length) :
    Calls Tryz.prog 209 #[.pointer (some ⟨rd, 0, none⟩)] w fun e w' => e = .returned (.pointer none) ∧
      Rdr g rd base w' { s with i := s.i + 1, items := s.items ++ [⟨0, 0, [], 0⟩] } ∧ Only (SR g base) w w' := by
  obtain ⟨iv, svs, i1, i2, i3⟩ := h.it
  have r0 := h.r0
  obtain ⟨a, c, hiv⟩ : ∃ a c, iv = .slice a 0 c := by
    rcases i2.2 with ⟨rfl, _⟩ | ⟨gb, cap, cur, rfl, _⟩
    · exact ⟨none, 0, rfl⟩
    · exact ⟨some ⟨gb, 0, none⟩, cap, by simp [h0]⟩
  subst hiv
  have hsm := h.small
  clear i2 i3
  go_enter Tryz.func209, Tryz.ntmps209
  go_wp2_with fail
  refine (next_calls g w s.i h.cur hp).mono ?_
  rintro e w1 ⟨rfl, hc, ho⟩
  have h1 := h.moved hc ho (by omega)
  go_wp2_with fail
  refine (h1.add0 0 0 (by simp; omega)).mono ?_
  rintro e w2 ⟨rfl, h2, o2⟩
  go_wp2
  go_ret
  exact ⟨rfl, h2, SR_trans (SR_c ho) o2⟩

theorem Rdr.setGroups {g : CG} {rd base : Nat} {w : World} {s : Adz.Rd} (h : Rdr g rd base w s) (n : Int) (h0 : 0 ≤ n) (h9 : n ≤ 9) :
    Rdr g rd base (w.setCell ⟨rd, 2, none⟩ (.int .i64 n)) { s with groups := n } ∧ Only (SR g base) w (w.setCell ⟨rd, 2, none⟩ (.int .i64 n)) := by
  obtain ⟨iv, svs, i1, i2, i3⟩ := h.it
  obtain ⟨ov, o1, o2⟩ := h.op
  have f := Field.setCell w rd 2 (.int .i64 n)
  have o : Only (· = rd) w (w.setCell ⟨rd, 2, none⟩ (.int .i64 n)) := Only.setCell (S := (· = rd)) (p := ⟨rd, 2, none⟩) (Only.refl _ w) (fun _ => rfl) _
  refine ⟨⟨h.cur.keeps o (Ne.symm h.ne) (fun hn => (h.cur.tr hn).ne h.trd (by decide)) (h.cur.tp.ne h.trd (by decide)), (f.others 0 (by decide)).trans h.r0, ⟨iv, svs, (f.others 1 (by decide)).trans i1, row_keeps i2 o (fun b hb e => (Typ.of_row i2 hb).ne h.trd (by decide) e), i3.keeps o (fun b hb e => hb.ne h.trd (by decide) e)⟩, World.cell?_setCell_same _ _ _ h.r2,
    ⟨ov, (f.others 3 (by decide)).trans o1, row_keeps o2 o (fun b hb e => (Typ.of_row o2 hb).ne h.trd (by decide) e)⟩, (f.frozen 1).trans h.f1, (f.frozen 2).trans h.f2, (f.frozen 3).trans h.f3, f.typ _ h.trd, h.pb, Nat.le_trans h.bs o.size, h.rb, h.small, h.opens, ⟨h0, h9⟩⟩, o.mono (fun b _ e => Or.inr (e ▸ h.rb))⟩

theorem Rdr.setOpens {g : CG} {rd base : Nat} {w w' : World} {s : Adz.Rd} (h : Rdr g rd base w s) {ov v' : Value} (os : List Int) (ho : w.cell? ⟨rd, 3, none⟩ = some ov)
    (q1 : w'.cell? ⟨rd, 3, none⟩ = some v') (q2 : w'.ownsRow base 3 1 v' os.length (os.map (Value.int .i64))) (q3 : Only (fun b => b = rd ∨ ov.ownBlock = some b) w w') (q4 : Field rd 3 w w') (hl : os.length ≤ s.i) :
    Rdr g rd base w' { s with opens := os } ∧ Only (SR g base) w w' := by
  obtain ⟨iv, svs, i1, i2, i3⟩ := h.it
  obtain ⟨ov', o1, o2⟩ := h.op
  rw [ho] at o1
  cases o1
  have nc : ¬ (g.c = rd ∨ ov.ownBlock = some g.c) := by
    rintro (e | e)
    · exact h.ne e.symm
    · exact row_ne o2 h.cur.tc (by decide) e
  have nr : g.L.length ≠ 0 → ¬ (g.rb = rd ∨ ov.ownBlock = some g.rb) := by
    rintro hn (e | e)
    · exact h.trd.ne (h.cur.tr hn) (by decide) e.symm
    · exact row_ne o2 (h.cur.tr hn) (by decide) e
  have np : ¬ (g.pb = rd ∨ ov.ownBlock = some g.pb) := by
    rintro (e | e)
    · exact h.trd.ne h.cur.tp (by decide) e.symm
    · have := (o2.lt _ e).1
      have := h.pb
      omega
  refine ⟨⟨h.cur.keeps q3 nc nr np, (q4.others 0 (by decide)).trans h.r0, ⟨iv, svs, (q4.others 1 (by decide)).trans i1, row_keeps i2 q3 (fun b hb => ?_), i3.keeps q3 (fun b hb => ?_)⟩, (q4.others 2 (by decide)).trans h.r2, ⟨v', q1, q2⟩,
    (q4.frozen 1).trans h.f1, (q4.frozen 2).trans h.f2, (q4.frozen 3).trans h.f3, q4.typ _ h.trd, h.pb, Nat.le_trans h.bs q3.size, h.rb, h.small, hl, h.groups⟩, q3.mono (fun b _ => ?_)⟩
  · rintro (e | e)
    · exact (Typ.of_row i2 hb).ne h.trd (by decide) e
    · exact row_ne o2 (Typ.of_row i2 hb) (by decide) e
  · rintro (e | e)
    · exact hb.ne h.trd (by decide) e
    · exact row_ne o2 hb (by decide) e
  · rintro (e | e)
    · exact Or.inr (e ▸ h.rb)
    · exact Or.inr (o2.lt b e).1

set_option maxRecDepth 100000 in
set_option maxHeartbeats 800000 in
theorem openGroup_ok {g : CG} {rd base : Nat} {w : World} {s : Adz.Rd} (h : Rdr g rd base w s) (h0 : s.groups ≠ 9) (hp : s.i < g.L.length) :
    Calls Tryz.prog 211 #[.pointer (some ⟨rd, 0, none⟩)] w fun e w' => e = .returned (.pointer none) ∧
      Rdr g rd base w' { i := s.i + 1, items := s.items ++ [⟨2, s.groups + 1, [], 0⟩], groups := s.groups + 1, opens := s.opens ++ [s.groups + 1] } ∧ Only (SR g base) w w' := by
  have r0 := h.r0
  have r2 := h.r2
  have hgr := h.groups
  have hb : (s.groups == 9) = false := by simpa using h0
  have hsm := h.small
  have hon := h.opens
  have hcs := h.cur.small
  obtain ⟨i0, hi0, hz0, hz1, hz2⟩ := info_parts infoInt
  go_enter Tryz.func211, Tryz.ntmps211
  go_wp2_with fail
  refine (next_calls g w s.i h.cur hp).mono ?_
  rintro e w1 ⟨rfl, hc, ho⟩
  have h1 := h.moved hc ho (by omega)
  have f2 := h1.f2
  have f3 := h1.f3
  have r1 := h1.r2
  have r10 := h1.r0
  obtain ⟨h2, oo2⟩ := h1.setGroups (s.groups + 1) (by omega) (by omega)
  go_wp2_with fail
  generalize w1.setCell ⟨rd, 2, none⟩ (.int .i64 (s.groups + 1)) = w2 at *
  obtain ⟨ov, o1, o2⟩ := h2.op
  have lr : rd < w2.heap.size := World.block_lt_of_cell? w2 _ o1
  have f3' := h2.f3
  have r2' := h2.r2
  have hne : ov.ownBlock ≠ some rd := row_ne o2 h2.trd (by decide)
  have hbs := h2.bs
  have h1b : ∀ o : Obj, (w2.alloc o).cell? ⟨rd, 3, none⟩ = some ov := fun o => by rw [World.cell?_alloc_past _ _ _ lr]; exact o1
  have f1b : ∀ o : Obj, (w2.alloc o).frozen? ⟨rd, 3, none⟩ = false := fun o => by rw [World.frozen?_alloc_past _ _ _ lr]; exact f3'
  clear f2 f3 r1 r10
  go_region_law
    ((refine step_append_lies _ (by rfl) _ _ _ (by rfl) base 3 i0 _ 1 8 Tryz.underlying35 hi0 hz0 hz1 hz2 rfl (by omega) ov s.opens.length (s.opens.map (Value.int .i64)) (by rfl) ((o2.alloc _).drew)
        ⟨w2.heap.size, 0, none⟩ 1 1 [.int .i64 (s.groups + 1)] (by rfl) (by rfl) (World.news_of_block (cs := #[.int .i64 (s.groups + 1)]) (t := 3) (fr := (0, 0)) (heap_alloc_new w2 _)) (by simp [Value.oneCell'])
        (by omega) (by unfold maxLen; omega) (by omega) (by simp; omega) (w2.heap.size + 1) (by simp) ?_; intro g1 cap w3 hown1 hgrow hat hlt; have kc := (hgrow.cell_far ⟨rd, 3, none⟩ (by simp; omega) (Ne.symm hne)).trans (h1b _); have kf := (hgrow.frozen_far ⟨rd, 3, none⟩ (by simp; omega) (Ne.symm hne)).trans (f1b _)))
  all_goals
    have hv : (Value.slice (some ⟨g1, 0, none⟩) (s.opens.length + 1) cap).ownBlock ≠ some rd := by
      rcases hat with h | h
      · intro e
        simp [Value.ownBlock] at e
        exact hne (by rw [h, e])
      · intro e
        simp [Value.ownBlock] at e
        omega
    obtain ⟨q1, q2, q3, q4⟩ := field_end (((Only.refl _ w2).alloc _).drew) hgrow kc hown1 hv lr hne
    obtain ⟨h3, o3⟩ := h2.setOpens (s.opens ++ [s.groups + 1]) o1 q1 (by simpa using q2) q3 q4 (by simp; omega)
    have r30 := h3.r2
    go_wp2_with fail
    refine (h3.add0 2 (s.groups + 1) (by simp; omega)).mono ?_
    rintro e w4 ⟨rfl, h4, o4⟩
    go_wp2
    go_ret
    exact ⟨rfl, h4, SR_trans (SR_trans (SR_trans (SR_c ho) oo2) o3) o4⟩
end Go.Proofs.YtbiobhghnldckaaGreatDoor

/- Proved: a group is closed; any item is read, where it may stand. Conditions: the reader lies in memory as 'Rdr' says. -/
namespace Go.Proofs.YtbiobhghnldckaaGreatDoor
open Go.RowKit
set_option linter.unusedVariables false
attribute [local go_sem ↓] Go.wp_at_zero Go.wp_at_succ

set_option maxRecDepth 100000 in
set_option maxHeartbeats 800000 in
theorem closeGroup_ok {g : CG} {rd base : Nat} {w : World} {s : Adz.Rd} (h : Rdr g rd base w s) (gl : Int) (os : List Int) (h0 : s.opens = os ++ [gl]) (hp : s.i < g.L.length) :
    Calls Tryz.prog 212 #[.pointer (some ⟨rd, 0, none⟩)] w fun e w' => e = .returned (.pointer none) ∧
      Rdr g rd base w' { s with i := s.i + 1, items := s.items ++ [⟨3, gl, [], 0⟩], opens := os } ∧ Only (SR g base) w w' := by
  have r0 := h.r0
  have hsm := h.small
  have hon := h.opens
  have hcs := h.cur.small
  have hcl := h.cur.le
  obtain ⟨ov, o1, o2⟩ := h.op
  rw [h0] at o2 hon
  simp only [List.length_append, List.length_singleton, List.map_append, List.map_cons, List.map_nil] at o2 hon
  have hm5 : os.length ≤ 500 := by omega
  obtain ⟨ob, cap, rfl⟩ : ∃ ob cap, ov = .slice (some ⟨ob, 0, none⟩) (os.length + 1) cap := by
    rcases o2.2 with ⟨_, h0⟩ | ⟨gb, cap, cur, rfl, _⟩
    · omega
    · exact ⟨gb, cap, rfl⟩
  have hb : (((os.length : Int) + 1) == 0) = false := by simp; omega
  go_enter Tryz.func212, Tryz.ntmps212
  go_wp2_with fail
  refine (next_calls g w s.i h.cur hp).mono ?_
  rintro e w1 ⟨rfl, hc, ho⟩
  have h1 := h.moved hc ho (by omega)
  have r10 := h1.r0
  have o1' := ho.keeps o1 h.ne
  have o2' := row_keeps o2 ho (fun b hb e => (Typ.of_row o2 hb).ne h.cur.tc (by decide) e)
  have hcap : os.length + 1 ≤ cap := by
    rcases o2'.2 with ⟨q, _⟩ | ⟨gb, cap', cur, q, _, _, hn, _⟩
    · cases q
    · cases q; exact hn
  have hlast : w1.cell? ⟨ob, os.length, none⟩ = some (.int .i64 gl) := by
    rw [o2'.cellAt os.length (by omega)]
    simp
  go_wp2_with fail
  refine (h1.add0 3 gl (by simp; omega)).mono ?_
  rintro e w2 ⟨rfl, h2, oo2⟩
  obtain ⟨ov2, p1, p2⟩ := h2.op
  simp only [h0, List.length_append, List.length_singleton, List.map_append, List.map_cons, List.map_nil] at p2
  obtain ⟨ob2, cap2, hv2⟩ : ∃ ob cap, ov2 = .slice (some ⟨ob, 0, none⟩) (os.length + 1) cap := by
    rcases p2.2 with ⟨_, h0⟩ | ⟨gb, cap, cur, q, _⟩
    · omega
    · exact ⟨gb, cap, q⟩
  rw [hv2] at p1 p2
  have hcap2 : os.length + 1 ≤ cap2 := by
    rcases p2.2 with ⟨q, _⟩ | ⟨gb, cap', cur, q, _, _, hn, _⟩
    · cases q
    · cases q; exact hn
  have p3 := ownsRow_pop (by simp) p2
  have f3 := h2.f3
  have fld := Field.setCell w2 rd 3 (.slice (some ⟨ob2, 0, none⟩) os.length cap2)
  have o3 : Only (· = rd) w2 (w2.setCell ⟨rd, 3, none⟩ (.slice (some ⟨ob2, 0, none⟩) os.length cap2)) := Only.setCell (S := (· = rd)) (p := ⟨rd, 3, none⟩) (Only.refl _ w2) (fun _ => rfl) _
  obtain ⟨h3, oo3⟩ := h2.setOpens os p1 (World.cell?_setCell_same _ _ _ p1) (by simpa using row_keeps p3 o3 (fun b hb e => (Typ.of_row p3 hb).ne h2.trd (by decide) e)) (o3.mono (fun _ _ e => Or.inl e)) fld (by simp; omega)
  clear o1 o2 o1' o2' hlast
  go_wp2
  go_ret
  exact ⟨rfl, h3, SR_trans (SR_trans (SR_c ho) oo2) oo3⟩

/-- Any item, where it may stand. -/
theorem item_ok {g : CG} {rd base : Nat} {w : World} {s s' : Adz.Rd} (h : Rdr g rd base w s) (hr : Adz.item g.L g.pl s = .ok s') :
    Calls Tryz.prog 195 #[.pointer (some ⟨rd, 0, none⟩)] w fun e w' => e = .returned (.pointer none) ∧ Rdr g rd base w' s' ∧ Only (SR g base) w w' := by
  have r0 := h.r0
  unfold Adz.item at hr
  by_cases he : Adz.ended s.items = true
  · simp [he] at hr
  · have he' : Adz.ended s.items = false := by simpa using he
    simp only [he', Bool.false_eq_true, if_false] at hr
    have HE : Hid (Adz.ended s.items = false) := he'
    clear he he'
    by_cases c1 : Adz.peek g.L s.i = 94
    · simp only [c1, beq_self_eq_true, if_true] at hr
      by_cases hi : s.items = []
      · simp only [hi, List.isEmpty_nil, if_true, Except.ok.injEq] at hr
        have hp : s.i < g.L.length := Adz.lt_of_peek (by omega)
        go_enter Tryz.func195, Tryz.ntmps195
        go_wp2_with fail
        refine (ended_calls h HE.out).mono ?_
        rintro e w1 ⟨rfl, n, rfl⟩
        go_wp2_with fail
        refine (peek_calls g _ s.i (h.cur.drewN _)).mono ?_
        rintro e w1 ⟨rfl, n2, rfl⟩
        rw [c1]
        go_wp2_with fail
        refine (begin_ok (h.drewN _) hi hp).mono ?_
        rintro e w2 ⟨rfl, h2, o2⟩
        rw [hi] at h2
        rw [hr] at h2
        go_wp2
        go_ret
        exact ⟨rfl, h2, SR_trans ((Only.refl _ w).drewN _) o2⟩
      · simp [hi] at hr
    · have b1 : (Adz.peek g.L s.i == 94) = false := by simpa using c1
      by_cases c2 : Adz.peek g.L s.i = 36
      · simp only [c2, beq_self_eq_true, if_true, show ((36 : Int) == 94) = false from rfl, Bool.false_eq_true, if_false, Except.ok.injEq] at hr
        have hp : s.i < g.L.length := Adz.lt_of_peek (by omega)
        have hsm := h.small
        clear b1
        go_enter Tryz.func195, Tryz.ntmps195
        go_wp2_with fail
        refine (ended_calls h HE.out).mono ?_
        rintro e w1 ⟨rfl, n, rfl⟩
        go_wp2_with fail
        refine (peek_calls g _ s.i (h.cur.drewN _)).mono ?_
        rintro e w1 ⟨rfl, n2, rfl⟩
        rw [c2]
        go_wp2_with fail
        refine (next_calls g _ s.i (h.cur.drewN _) hp).mono ?_
        rintro e w2 ⟨rfl, hc, ho⟩
        have h2 := (h.drewN (n + n2)).moved hc ho (by omega)
        have r2 := h2.r0
        go_wp2_with fail
        refine (h2.add0 1 0 (by simp; omega)).mono ?_
        rintro e w3 ⟨rfl, h3, o3⟩
        go_wp2
        go_ret
        exact ⟨rfl, hr ▸ h3, SR_trans (((Only.refl (SR g base) w).drewN _).trans (SR_c ho) (fun _ e => e) (fun _ _ e => e)) o3⟩
      · have b2 : (Adz.peek g.L s.i == 36) = false := by simpa using c2
        by_cases c3 : Adz.peek g.L s.i = 40
        · simp only [c3, beq_self_eq_true, if_true, show ((40 : Int) == 94) = false from rfl, show ((40 : Int) == 36) = false from rfl, Bool.false_eq_true, if_false] at hr
          by_cases h9 : s.groups = 9
          · simp [h9] at hr
          · have b9 : (s.groups == 9) = false := by simpa using h9
            simp only [b9, Bool.false_eq_true, if_false, Except.ok.injEq] at hr
            have hp : s.i < g.L.length := Adz.lt_of_peek (by omega)
            clear b1 b2 b9
            go_enter Tryz.func195, Tryz.ntmps195
            go_wp2_with fail
            refine (ended_calls h HE.out).mono ?_
            rintro e w1 ⟨rfl, n, rfl⟩
            go_wp2_with fail
            refine (peek_calls g _ s.i (h.cur.drewN _)).mono ?_
            rintro e w1 ⟨rfl, n2, rfl⟩
            rw [c3]
            go_wp2_with fail
            refine (openGroup_ok (h.drewN _) h9 hp).mono ?_
            rintro e w2 ⟨rfl, h2, o2⟩
            go_wp2
            go_ret
            exact ⟨rfl, hr ▸ h2, SR_trans ((Only.refl _ w).drewN _) o2⟩
        · have b3 : (Adz.peek g.L s.i == 40) = false := by simpa using c3
          by_cases c4 : Adz.peek g.L s.i = 41
          · simp only [c4, beq_self_eq_true, if_true, show ((41 : Int) == 94) = false from rfl, show ((41 : Int) == 36) = false from rfl, show ((41 : Int) == 40) = false from rfl, Bool.false_eq_true, if_false] at hr
            cases hl : s.opens.getLast? with
            | none => rw [hl] at hr; cases hr
            | some gl =>
              rw [hl] at hr
              simp only [Except.ok.injEq] at hr
              have h0 : s.opens = s.opens.dropLast ++ [gl] := by
                obtain ⟨ys, hy⟩ := List.getLast?_eq_some_iff.1 hl
                rw [hy]
                simp
              have H0 : Hid (s.opens = s.opens.dropLast ++ [gl]) := h0
              have hp : s.i < g.L.length := Adz.lt_of_peek (by omega)
              clear b1 b2 b3 h0 hl
              go_enter Tryz.func195, Tryz.ntmps195
              go_wp2_with fail
              refine (ended_calls h HE.out).mono ?_
              rintro e w1 ⟨rfl, n, rfl⟩
              go_wp2_with fail
              refine (peek_calls g _ s.i (h.cur.drewN _)).mono ?_
              rintro e w1 ⟨rfl, n2, rfl⟩
              rw [c4]
              go_wp2_with fail
              refine (closeGroup_ok (h.drewN _) gl s.opens.dropLast H0.out hp).mono ?_
              rintro e w2 ⟨rfl, h2, o2⟩
              go_wp2
              go_ret
              exact ⟨rfl, hr ▸ h2, SR_trans ((Only.refl _ w).drewN _) o2⟩
          · have b4 : (Adz.peek g.L s.i == 41) = false := by simpa using c4
            simp only [b1, b2, b3, b4, Bool.false_eq_true, if_false] at hr
            cases hs : Adz.single g.L g.pl s.i with
            | error f => rw [hs] at hr; cases hr
            | ok q =>
              obtain ⟨x, i1⟩ := q
              rw [hs] at hr
              simp only [Except.ok.injEq] at hr
              have HS : Hid (Adz.single g.L g.pl s.i = .ok (x, i1)) := hs
              clear hs
              go_enter Tryz.func195, Tryz.ntmps195
              go_wp2_with fail
              refine (ended_calls h HE.out).mono ?_
              rintro e w1 ⟨rfl, n, rfl⟩
              go_wp2_with fail
              refine (peek_calls g _ s.i (h.cur.drewN _)).mono ?_
              rintro e w1 ⟨rfl, n2, rfl⟩
              go_wp2_with fail
              refine (piece_ok (h.drewN _) x i1 HS.out).mono ?_
              rintro e w2 ⟨rfl, h2, o2⟩
              go_wp2
              go_ret
              exact ⟨rfl, hr ▸ h2, SR_trans ((Only.refl _ w).drewN _) o2⟩
end Go.Proofs.YtbiobhghnldckaaGreatDoor
