/- Proved: each kind of item is read, where it may stand. Conditions: the reader lies in memory as 'Rdr' says. -/
import Derived.Test.YtbiobhghnldckaaGreatDoorRdr2J
import Derived.Test.YtbiobhghnldckaaGreatDoorSpecJ
import Derived.WalkSmall
namespace Go.Proofs.YtbiobhghnldckaaGreatDoor
open Go.RowKit
set_option linter.unusedVariables false
attribute [local go_sem ↓] Go.wp_at_zero Go.wp_at_succ

theorem SR_c {g : CG} {base : Nat} {w w' : World} (o : Only (· = g.c) w w') : Only (SR g base) w w' := o.mono (fun _ _ e => Or.inl e)
theorem SR_trans {g : CG} {base : Nat} {a b c : World} (o : Only (SR g base) a b) (o' : Only (SR g base) b c) : Only (SR g base) a c := o.trans o' (fun _ e => e) (fun _ _ e => e)
theorem Rdr.ne {g : CG} {rd base : Nat} {w : World} {s : Adz.Rd} (h : Rdr g rd base w s) : rd ≠ g.c := h.trd.ne h.cur.tc (by decide)
/-- New blocks turn nothing of the reader. -/
theorem Rdr.alloc {g : CG} {rd base : Nat} {w : World} {s : Adz.Rd} (h : Rdr g rd base w s) (o : Obj) : Rdr g rd base (w.alloc o) s :=
  h.moved (h.cur.alloc o) ((Only.refl _ w).alloc o) (Nat.le_refl _)

/-- A block that is none of the reader's is written. -/
theorem Rdr.aside {g : CG} {rd base : Nat} {w w' : World} {s : Adz.Rd} (h : Rdr g rd base w s) {b : Nat} (o : Only (· = b) w w') (hb : ∀ iv, w.cell? ⟨rd, 1, none⟩ = some iv → iv.ownBlock ≠ some b) (ht : Typ w b 270) : Rdr g rd base w' s := by
  obtain ⟨iv, svs, i1, i2, i3⟩ := h.it
  obtain ⟨ov, o1, o2⟩ := h.op
  have n0 : ¬ rd = b := h.trd.ne ht (by decide)
  refine ⟨h.cur.keeps o (h.cur.tc.ne ht (by decide)) (fun hn => (h.cur.tr hn).ne ht (by decide)) (h.cur.tp.ne ht (by decide)), o.keeps h.r0 n0, ⟨iv, svs, o.keeps i1 n0, row_keeps i2 o (fun c hc e => ?_), i3.keeps o (fun c hc e => hc.ne ht (by decide) e)⟩, o.keeps h.r2 n0, ⟨ov, o.keeps o1 n0, row_keeps o2 o (fun c hc e => (Typ.of_row o2 hc).ne ht (by decide) e)⟩,
    o.keepsFrozen i1 h.f1 n0, o.keepsFrozen h.r2 h.f2 n0, o.keepsFrozen o1 h.f3 n0, h.trd.keeps o n0, h.pb, Nat.le_trans h.bs o.size, h.rb, h.small, h.opens, h.groups⟩
  subst e
  exact hb iv i1 hc

set_option maxHeartbeats 800000 in
theorem piece_ok {g : CG} {rd base : Nat} {w : World} {s : Adz.Rd} (h : Rdr g rd base w s) (x : Adz.Item) (i1 : Nat) (hr : Adz.single g.L g.pl s.i = .ok (x, i1)) :
    Calls Tryz.prog 213 #[.pointer (some ⟨rd, 0, none⟩)] w fun e w' => e = .returned (.pointer none) ∧
      Rdr g rd base w' { s with i := (Adz.times g.L i1).2, items := s.items ++ [{ x with times := (Adz.times g.L i1).1 }] } ∧ Only (SR g base) w w' := by
  have hlt := Adz.single_lt hr
  have hle := Adz.times_le g.L i1
  have hsm := h.small
  have r0 := h.r0
  have HR : Hid (Adz.single g.L g.pl s.i = .ok (x, i1)) := hr
  clear hr
  go_enter Tryz.func213, Tryz.ntmps213
  go_wp2_with fail
  refine (single_ok g rd w s.i h.cur h.r0 h.ne x i1 HR.out).mono ?_
  rintro e w1 ⟨sa, sc, rfl, hsp, hc, ho⟩
  have h1 := h.moved hc ho (by omega)
  have r1 := h1.r0
  have lr := World.block_lt_of_cell? w1 _ r1
  go_wp2_with fail
  have h1a := h1.alloc (.cells #[.int .i64 x.kind, .int .i64 x.group, .slice sa x.spans.length sc, .int .i64 x.times] 270)
  refine (times_calls g rd _ i1 h1a.cur h1a.r0 h.ne).mono ?_
  rintro e w2 ⟨rfl, hc2, ho2⟩
  have h2 := h1a.moved hc2 ho2 hle
  have r2 := h2.r0
  have hcl := h1.cur.lt
  have hn2 : w1.heap.size ≠ g.c := by omega
  have hk : Cells w2 w1.heap.size [.int .i64 x.kind, .int .i64 x.group, .slice sa x.spans.length sc, .int .i64 x.times] := (Cells.new w1 _ _).keeps ho2 hn2
  have ht2 : Typ w2 w1.heap.size 270 := (Typ.new w1 _ _ _).keeps ho2 hn2
  have hrow : ∀ iv, w2.cell? ⟨rd, 1, none⟩ = some iv → iv.ownBlock ≠ some w1.heap.size := by
    intro iv hiv e
    obtain ⟨iv', svs', j1, j2, _⟩ := h1.it
    have := ho2.keeps ((World.cell?_alloc_past _ _ _ lr).trans j1) h.ne
    rw [this] at hiv
    cases hiv
    exact absurd (j2.lt _ e).2 (Nat.lt_irrefl _)
  have k0 := hk 0 _ rfl
  have k1 := hk 1 _ rfl
  have k2 := hk 2 _ rfl
  have k3 := hk 3 _ rfl
  clear hk
  have hneq : rd ≠ w1.heap.size := by omega
  go_wp2_with fail
  have o3 : Only (· = w1.heap.size) w2 (w2.setCell ⟨w1.heap.size, 3, none⟩ (.int .i64 (Adz.times g.L i1).1)) := Only.setCell (S := (· = w1.heap.size)) (p := ⟨w1.heap.size, 3, none⟩) (Only.refl _ w2) (fun _ => rfl) _
  have h3 := h2.aside o3 hrow ht2
  have hspT : ∀ b, Typ w1 b 284 → ¬ (b = g.c) := fun b hb e => hb.ne h1.cur.tc (by decide) e
  have hsp2 : SpansAt w2 (.slice sa x.spans.length sc) x.spans := hsp.keeps ((((Only.refl (· = g.c) w1).alloc _)).trans ho2 (fun _ e => e) (fun _ _ e => e)) hspT
  have hsp3 := hsp2.keeps o3 (fun b hb e => hb.ne ht2 (by decide) e)
  refine (h3.add { x with times := (Adz.times g.L i1).1 } sa sc hsp3 (by simp; omega)).mono ?_
  rintro e w4 ⟨rfl, h4, o4⟩
  go_wp2
  go_ret
  refine ⟨rfl, h4, ?_⟩
  have oa : Only (SR g base) w w2 := (SR_c ho).trans ((((Only.refl (SR g base) w1).alloc _)).trans (SR_c ho2) (fun _ e => e) (fun _ _ e => e)) (fun _ e => e) (fun _ _ e => e)
  exact SR_trans (oa.trans o3 (fun _ e => e) (fun b hb e => by have := ho.size; omega)) o4
end Go.Proofs.YtbiobhghnldckaaGreatDoor

/- Proved: the other kinds of items are read, where they may stand. Conditions: the reader lies in memory as 'Rdr' says. -/
namespace Go.Proofs.YtbiobhghnldckaaGreatDoor
open Go.RowKit
set_option linter.unusedVariables false
attribute [local go_sem ↓] Go.wp_at_zero Go.wp_at_succ

/-- An item without spans is added behind the next rune. -/
theorem Rdr.add0 {g : CG} {rd base : Nat} {w : World} {s : Adz.Rd} (h : Rdr g rd base w s) (k gr : Int) (hl : s.items.length < s.i) :
    Calls Tryz.prog 210 #[.pointer (some ⟨rd, 0, none⟩), .agg #[.int .i64 k, .int .i64 gr, .slice none 0 0, .int .i64 0]] w fun e w' =>
      e = .returned (.tuple #[]) ∧ Rdr g rd base w' { s with items := s.items ++ [⟨k, gr, [], 0⟩] } ∧ Only (SR g base) w w' :=
  h.add ⟨k, gr, [], 0⟩ none 0 (spansAt_nil w) hl

theorem begin_ok {g : CG} {rd base : Nat} {w : World} {s : Adz.Rd} (h : Rdr g rd base w s) (h0 : s.items = []) (hp : s.i < g.L.length) :
    Calls Tryz.prog 209 #[.pointer (some ⟨rd, 0, none⟩)] w fun e w' => e = .returned (.pointer none) ∧
      Rdr g rd base w' { s with i := s.i + 1, items := s.items ++ [⟨0, 0, [], 0⟩] } ∧ Only (SR g base) w w' := by
  obtain ⟨iv, svs, i1, i2, i3⟩ := h.it
  have r0 := h.r0
  obtain ⟨a, c, hiv⟩ : ∃ a c, iv = .slice a 0 c := by
    rcases i2.2 with ⟨rfl, _⟩ | ⟨gb, cap, cur, rfl, _⟩
    · exact ⟨none, 0, rfl⟩
    · exact ⟨some ⟨gb, 0, none⟩, cap, by simp [h0]⟩
  subst hiv
  have hsm := h.small
  clear i2 i3
  go_enter Tryz.func209, Tryz.ntmps209
  go_wp2_with fail
  refine (next_calls g w s.i h.cur hp).mono ?_
  rintro e w1 ⟨rfl, hc, ho⟩
  have h1 := h.moved hc ho (by omega)
  go_wp2_with fail
  refine (h1.add0 0 0 (by simp; omega)).mono ?_
  rintro e w2 ⟨rfl, h2, o2⟩
  go_wp2
  go_ret
  exact ⟨rfl, h2, SR_trans (SR_c ho) o2⟩

theorem Rdr.setGroups {g : CG} {rd base : Nat} {w : World} {s : Adz.Rd} (h : Rdr g rd base w s) (n : Int) (h0 : 0 ≤ n) (h9 : n ≤ 9) :
    Rdr g rd base (w.setCell ⟨rd, 2, none⟩ (.int .i64 n)) { s with groups := n } ∧ Only (SR g base) w (w.setCell ⟨rd, 2, none⟩ (.int .i64 n)) := by
  obtain ⟨iv, svs, i1, i2, i3⟩ := h.it
  obtain ⟨ov, o1, o2⟩ := h.op
  have f := Field.setCell w rd 2 (.int .i64 n)
  have o : Only (· = rd) w (w.setCell ⟨rd, 2, none⟩ (.int .i64 n)) := Only.setCell (S := (· = rd)) (p := ⟨rd, 2, none⟩) (Only.refl _ w) (fun _ => rfl) _
  refine ⟨⟨h.cur.keeps o (Ne.symm h.ne) (fun hn => (h.cur.tr hn).ne h.trd (by decide)) (h.cur.tp.ne h.trd (by decide)), (f.others 0 (by decide)).trans h.r0, ⟨iv, svs, (f.others 1 (by decide)).trans i1, row_keeps i2 o (fun b hb e => (Typ.of_row i2 hb).ne h.trd (by decide) e), i3.keeps o (fun b hb e => hb.ne h.trd (by decide) e)⟩, World.cell?_setCell_same _ _ _ h.r2,
    ⟨ov, (f.others 3 (by decide)).trans o1, row_keeps o2 o (fun b hb e => (Typ.of_row o2 hb).ne h.trd (by decide) e)⟩, (f.frozen 1).trans h.f1, (f.frozen 2).trans h.f2, (f.frozen 3).trans h.f3, f.typ _ h.trd, h.pb, Nat.le_trans h.bs o.size, h.rb, h.small, h.opens, ⟨h0, h9⟩⟩, o.mono (fun b _ e => Or.inr (e ▸ h.rb))⟩

theorem Rdr.setOpens {g : CG} {rd base : Nat} {w w' : World} {s : Adz.Rd} (h : Rdr g rd base w s) {ov v' : Value} (os : List Int) (ho : w.cell? ⟨rd, 3, none⟩ = some ov)
    (q1 : w'.cell? ⟨rd, 3, none⟩ = some v') (q2 : w'.ownsRow base 3 1 v' os.length (os.map (Value.int .i64))) (q3 : Only (fun b => b = rd ∨ ov.ownBlock = some b) w w') (q4 : Field rd 3 w w') (hl : os.length ≤ s.i) :
    Rdr g rd base w' { s with opens := os } ∧ Only (SR g base) w w' := by
  obtain ⟨iv, svs, i1, i2, i3⟩ := h.it
  obtain ⟨ov', o1, o2⟩ := h.op
  rw [ho] at o1
  cases o1
  have nc : ¬ (g.c = rd ∨ ov.ownBlock = some g.c) := by
    rintro (e | e)
    · exact h.ne e.symm
    · exact row_ne o2 h.cur.tc (by decide) e
  have nr : g.L.length ≠ 0 → ¬ (g.rb = rd ∨ ov.ownBlock = some g.rb) := by
    rintro hn (e | e)
    · exact h.trd.ne (h.cur.tr hn) (by decide) e.symm
    · exact row_ne o2 (h.cur.tr hn) (by decide) e
  have np : ¬ (g.pb = rd ∨ ov.ownBlock = some g.pb) := by
    rintro (e | e)
    · exact h.trd.ne h.cur.tp (by decide) e.symm
    · have := (o2.lt _ e).1
      have := h.pb
      omega
  refine ⟨⟨h.cur.keeps q3 nc nr np, (q4.others 0 (by decide)).trans h.r0, ⟨iv, svs, (q4.others 1 (by decide)).trans i1, row_keeps i2 q3 (fun b hb => ?_), i3.keeps q3 (fun b hb => ?_)⟩, (q4.others 2 (by decide)).trans h.r2, ⟨v', q1, q2⟩,
    (q4.frozen 1).trans h.f1, (q4.frozen 2).trans h.f2, (q4.frozen 3).trans h.f3, q4.typ _ h.trd, h.pb, Nat.le_trans h.bs q3.size, h.rb, h.small, hl, h.groups⟩, q3.mono (fun b _ => ?_)⟩
  · rintro (e | e)
    · exact (Typ.of_row i2 hb).ne h.trd (by decide) e
    · exact row_ne o2 (Typ.of_row i2 hb) (by decide) e
  · rintro (e | e)
    · exact hb.ne h.trd (by decide) e
    · exact row_ne o2 hb (by decide) e
  · rintro (e | e)
    · exact Or.inr (e ▸ h.rb)
    · exact Or.inr (o2.lt b e).1

set_option maxRecDepth 100000 in
set_option maxHeartbeats 800000 in
theorem openGroup_ok {g : CG} {rd base : Nat} {w : World} {s : Adz.Rd} (h : Rdr g rd base w s) (h0 : s.groups ≠ 9) (hp : s.i < g.L.length) :
    Calls Tryz.prog 211 #[.pointer (some ⟨rd, 0, none⟩)] w fun e w' => e = .returned (.pointer none) ∧
      Rdr g rd base w' { i := s.i + 1, items := s.items ++ [⟨2, s.groups + 1, [], 0⟩], groups := s.groups + 1, opens := s.opens ++ [s.groups + 1] } ∧ Only (SR g base) w w' := by
  have r0 := h.r0
  have r2 := h.r2
  have hgr := h.groups
  have hb : (s.groups == 9) = false := by simpa using h0
  have hsm := h.small
  have hon := h.opens
  have hcs := h.cur.small
  obtain ⟨i0, hi0, hz0, hz1, hz2⟩ := info_parts infoInt
  go_enter Tryz.func211, Tryz.ntmps211
  go_wp2_with fail
  refine (next_calls g w s.i h.cur hp).mono ?_
  rintro e w1 ⟨rfl, hc, ho⟩
  have h1 := h.moved hc ho (by omega)
  have f2 := h1.f2
  have f3 := h1.f3
  have r1 := h1.r2
  have r10 := h1.r0
  obtain ⟨h2, oo2⟩ := h1.setGroups (s.groups + 1) (by omega) (by omega)
  go_wp2_with fail
  generalize w1.setCell ⟨rd, 2, none⟩ (.int .i64 (s.groups + 1)) = w2 at *
  obtain ⟨ov, o1, o2⟩ := h2.op
  have lr : rd < w2.heap.size := World.block_lt_of_cell? w2 _ o1
  have f3' := h2.f3
  have r2' := h2.r2
  have hne : ov.ownBlock ≠ some rd := row_ne o2 h2.trd (by decide)
  have hbs := h2.bs
  have h1b : ∀ o : Obj, (w2.alloc o).cell? ⟨rd, 3, none⟩ = some ov := fun o => by rw [World.cell?_alloc_past _ _ _ lr]; exact o1
  have f1b : ∀ o : Obj, (w2.alloc o).frozen? ⟨rd, 3, none⟩ = false := fun o => by rw [World.frozen?_alloc_past _ _ _ lr]; exact f3'
  clear f2 f3 r1 r10
  go_region_law
    ((refine step_append_lies _ (by rfl) _ _ _ (by rfl) base 3 i0 _ 1 8 Tryz.underlying35 hi0 hz0 hz1 hz2 rfl (by omega) ov s.opens.length (s.opens.map (Value.int .i64)) (by rfl) ((o2.alloc _).drew)
        ⟨w2.heap.size, 0, none⟩ 1 1 [.int .i64 (s.groups + 1)] (by rfl) (by rfl) (World.news_of_block (cs := #[.int .i64 (s.groups + 1)]) (t := 3) (fr := (0, 0)) (heap_alloc_new w2 _)) (by simp [Value.oneCell'])
        (by omega) (by unfold maxLen; omega) (by omega) (by simp; omega) (w2.heap.size + 1) (by simp) ?_; intro g1 cap w3 hown1 hgrow hat hlt; have kc := (hgrow.cell_far ⟨rd, 3, none⟩ (by simp; omega) (Ne.symm hne)).trans (h1b _); have kf := (hgrow.frozen_far ⟨rd, 3, none⟩ (by simp; omega) (Ne.symm hne)).trans (f1b _)))
  all_goals
    have hv : (Value.slice (some ⟨g1, 0, none⟩) (s.opens.length + 1) cap).ownBlock ≠ some rd := by
      rcases hat with h | h
      · intro e
        simp [Value.ownBlock] at e
        exact hne (by rw [h, e])
      · intro e
        simp [Value.ownBlock] at e
        omega
    obtain ⟨q1, q2, q3, q4⟩ := field_end (((Only.refl _ w2).alloc _).drew) hgrow kc hown1 hv lr hne
    obtain ⟨h3, o3⟩ := h2.setOpens (s.opens ++ [s.groups + 1]) o1 q1 (by simpa using q2) q3 q4 (by simp; omega)
    have r30 := h3.r2
    go_wp2_with fail
    refine (h3.add0 2 (s.groups + 1) (by simp; omega)).mono ?_
    rintro e w4 ⟨rfl, h4, o4⟩
    go_wp2
    go_ret
    exact ⟨rfl, h4, SR_trans (SR_trans (SR_trans (SR_c ho) oo2) o3) o4⟩
end Go.Proofs.YtbiobhghnldckaaGreatDoor
