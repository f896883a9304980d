/- Proved: what the editor puts out is laid behind what it has put out. Conditions: the editor lies in memory as 'Ed' says. -/
import Derived.Test.YtbiobhghnldckaaGreatDoorSub1
import Derived.Lib.Builder
import Derived.Lib.AppendStr
import Derived.Lib.UnsafeStr
import Derived.Laws.Externs
namespace Go.Proofs.YtbiobhghnldckaaGreatDoor
open Go.RowKit
set_option linter.unusedVariables false

/-- The editor lies in memory: its cells, but for its builder's two; what it has put out. -/
structure Ed (w : World) (eb : Nat) (l : List Value) (out : List UInt8) : Prop where
  cells : ∃ p a c, Cells w eb ((l.set 13 p).set 14 (.slice a out.length c)) ∧ (p = .pointer none ∨ p = .pointer (some ⟨eb, 13, none⟩)) ∧ w.ownsRow eb 5 1 (.slice a out.length c) out.length (Lib.byteCells out)
  shape : w.shape? eb = some (108, 16)
  typ : Typ w eb 108
  len : l.length = 16
theorem Ed.get {w : World} {eb : Nat} {l : List Value} {out : List UInt8} (h : Ed w eb l out) (j : Nat) (hj : j ≠ 13 ∧ j ≠ 14) (v : Value) (hv : l[j]? = some v) : w.cell? ⟨eb, j, none⟩ = some v ∧ w.frozen? ⟨eb, j, none⟩ = false := by
  obtain ⟨p, a, c, h1, _⟩ := h.cells
  exact h1 j v (by rw [List.getElem?_set_ne (by omega), List.getElem?_set_ne (by omega)]; exact hv)
theorem Ed.keeps {S : Nat → Prop} {w w' : World} {eb : Nat} {l : List Value} {out : List UInt8} (h : Ed w eb l out) (o : Only S w w') (h1 : ¬ S eb) (h2 : ∀ b, Typ w b 5 → ¬ S b) : Ed w' eb l out := by
  obtain ⟨p, a, c, g1, g2, g3⟩ := h.cells
  exact ⟨⟨p, a, c, g1.keeps o h1, g2, row_keeps g3 o (fun b hb => h2 b (Typ.of_row g3 hb))⟩, (shape_only o h.typ.lt h1).trans h.shape, h.typ.keeps o h1, h.len⟩
theorem Ed.set {w : World} {eb : Nat} {l : List Value} {out : List UInt8} (h : Ed w eb l out) (j : Nat) (hj : j ≠ 13 ∧ j ≠ 14) (v : Value) : Ed (w.setCell ⟨eb, j, none⟩ v) eb (l.set j v) out := by
  obtain ⟨p, a, c, g1, g2, g3⟩ := h.cells
  refine ⟨⟨p, a, c, ?_, g2, row_keeps g3 (only_set w eb j v) (fun b hb e => by subst e; exact absurd ((Typ.of_row g3 hb).one h.typ) (by decide))⟩, shape_set.trans h.shape, h.typ.setCell _ _, by rw [List.length_set]; exact h.len⟩
  have := g1.set j v
  rwa [List.set_comm _ _ (by omega : 14 ≠ j), List.set_comm _ _ (by omega : 13 ≠ j)] at this

set_option maxRecDepth 100000 in
set_option maxHeartbeats 1600000 in
theorem copyCheck_calls (eb : Nat) (w : World) (l : List Value) (out : List UInt8) (h : Ed w eb l out) :
    Calls Tryz.prog 166 #[.pointer (some ⟨eb, 13, none⟩)] w fun e w' => e = .returned (.tuple #[]) ∧ (∃ a c, Cells w' eb ((l.set 13 (.pointer (some ⟨eb, 13, none⟩))).set 14 (.slice a out.length c)) ∧ w'.ownsRow eb 5 1 (.slice a out.length c) out.length (Lib.byteCells out)) ∧ Only (· = eb) w w' ∧ w'.shape? eb = some (108, 16) ∧ Typ w' eb 108 := by
  obtain ⟨p, a, c, g1, g2, g3⟩ := h.cells
  have hl := h.len
  have c13 := g1 13 p (by rw [List.getElem?_set_ne (by omega), List.getElem?_set_self (by omega)])
  have hj : (Tryz.prog.info? 106).map (·.size) = some 2 := by kernel_rfl
  obtain ⟨j, hj1, hj2⟩ := Option.map_eq_some_iff.1 hj
  clear hj
  rcases g2 with rfl | rfl
  · have c0 := c13.1
    have f0 := c13.2
    have hto := Lib.run_to_unsafe (P := Tryz.prog) w ⟨eb, 13, none⟩ Tryz.underlying104 Tryz.underlying241 hj1 (by omega) h.shape (by show 13 < 16; omega)
    have hfrom := Lib.run_from_unsafe (P := Tryz.prog) w ⟨eb, 13, none⟩ Tryz.underlying241 Tryz.underlying104 hj1 h.shape (by kernel_rfl)
    have hex := fun x : Value => run_callFunc_extern (P := Tryz.prog) (w := w) (args := #[x]) Tryz.func192 (by kernel_rfl) (by kernel_rfl) (by kernel_rfl) (e := Extern.AbiNoEscape.same) (by kernel_rfl)
    have hne : ∀ x : Value, (Extern.AbiNoEscape.same #[x]).run Tryz.prog w = .ok x w := fun x => Lib.run_noEscape w x
    have hs := g1.set 13 (.pointer (some ⟨eb, 13, none⟩))
    rw [List.set_comm _ _ (by omega : 14 ≠ 13), List.set_set] at hs
    go_enter Tryz.func166, Tryz.ntmps166
    go_wp2
    go_end0
    exact ⟨rfl, ⟨a, c, hs, row_keeps g3 (only_set w eb 13 _) (fun b hb e => by subst e; exact absurd ((Typ.of_row g3 hb).one h.typ) (by decide))⟩, only_set w eb 13 _, shape_set.trans h.shape, h.typ.setCell _ _⟩
  · have c0 := c13.1
    go_enter Tryz.func166, Tryz.ntmps166
    go_wp2
    rw [Lib.run_neq_ptr_same w _ Tryz.underlying104 hj1]
    go_wp2
    go_end0
    exact ⟨rfl, ⟨a, c, g1, g3⟩, Only.refl _ _, h.shape, h.typ⟩

theorem infoByte : (Tryz.prog.info? 5).map (fun i => (i.zero, i.size, i.bytes)) = some (some (.int .u8 0), 1, 1) := by kernel_rfl

set_option maxRecDepth 100000 in
set_option maxHeartbeats 1600000 in
theorem writeString_calls (eb : Nat) (w : World) (l : List Value) (out : List UInt8) (h : Ed w eb l out) (s : ByteArray) (hlen : out.length + s.size ≤ 1000000) :
    Calls Tryz.prog 138 #[.pointer (some ⟨eb, 13, none⟩), .string s] w fun e w' => (∃ v, e = .returned v) ∧ Ed w' eb l (out ++ s.data.toList) ∧ Only (fun b => b = eb ∨ (Typ w b 5 ∧ eb ≤ b)) w w' := by
  obtain ⟨i0, hi, hz0, hz1, hz2⟩ := info_parts infoByte
  have hl := h.len
  go_enter Tryz.func138, Tryz.ntmps138
  go_wp2_with fail
  refine (copyCheck_calls eb w l out h).mono ?_
  rintro e w1 ⟨rfl, ⟨a, c, g1, g2⟩, o1, s1, t1⟩
  have c14 := g1 14 (.slice a out.length c) (by rw [List.getElem?_set_self (by rw [List.length_set]; omega)])
  have q1 := c14.1
  have q2 := c14.2
  go_wp2_with (at_builtin; refine Lib.wpList_append_own_string _ rfl _ _ 64 9 rfl eb 5 i0 Tryz.underlying64 Tryz.underlying9 hi hz0 hz1 hz2 _ _ _ rfl g2 s rfl ?c3 ?c4 ?c5 ?_)
  case c3 => unfold maxLen; omega
  case c4 => have := t1.lt; omega
  case c5 => have := t1.lt; omega
  intro v' w2 hown' hgrow _
  have ho2 := Only.of_grown hgrow
  have nb : ¬ (Value.slice a out.length c).ownBlock = some eb := fun e => absurd ((Typ.of_row g2 e).one t1) (by decide)
  obtain ⟨a2, c2, rfl⟩ := row_shape hown'
  have k1 := ho2.keeps q1 nb
  have k2 := ho2.keepsFrozen q1 q2 nb
  have g3 := (g1.keeps ho2 nb).set 14 (.slice a2 (out.length + s.size) c2)
  rw [List.set_set] at g3
  have nb2 : ∀ b, (Value.slice a2 (out.length + s.size) c2).ownBlock = some b → ¬ b = eb := fun b e e2 => by subst e2; exact absurd ((Typ.of_row hown' e).one (t1.keeps ho2 nb)) (by decide)
  have hown3 := row_keeps hown' (only_set w2 eb 14 (.slice a2 (out.length + s.size) c2)) nb2
  have e1 : out.length + s.size = (out ++ s.data.toList).length := by rw [List.length_append, Array.length_toList]; rfl
  have e2 : Lib.byteCells out ++ Lib.strCells s = Lib.byteCells (out ++ s.data.toList) := by rw [Lib.strCells_eq, Lib.byteCells_append]
  have HED : Hid (Ed (w2.setCell ⟨eb, 14, none⟩ (.slice a2 (out.length + s.size) c2)) eb l (out ++ s.data.toList)) := by
    rw [e1, e2] at hown3
    rw [e1] at g3
    rw [e1]
    exact ⟨⟨_, a2, c2, g3, Or.inr rfl, hown3⟩, shape_set.trans ((shape_only ho2 t1.lt nb).trans s1), (t1.keeps ho2 nb).setCell _ _, hl⟩
  have HON : Hid (Only (fun b => b = eb ∨ (Typ w b 5 ∧ eb ≤ b)) w (w2.setCell ⟨eb, 14, none⟩ (.slice a2 (out.length + s.size) c2))) := by
    refine Only.setCell (p := ⟨eb, 14, none⟩) (o1.trans ho2 (fun _ e => Or.inl e) (fun b hb e => ?_)) (fun _ => Or.inl rfl) _
    by_cases hbe : b = eb
    · exact Or.inl hbe
    · obtain ⟨cur, fz, hh⟩ := Typ.of_row g2 e
      exact Or.inr ⟨⟨cur, fz, (o1.block b hb hbe).symm.trans hh⟩, (g2.lt b e).1⟩
  clear e1 e2 g3 hown3 hown' hgrow ho2
  go_wp2
  go_ret2
  exact ⟨⟨_, rfl⟩, HED, HON⟩

set_option maxRecDepth 100000 in
set_option maxHeartbeats 1600000 in
theorem appendRune10 (eb : Nat) (w : World) (hB : eb ≤ w.heap.size) (a : Option Addr) (c : Nat) (out : List UInt8) (g : w.ownsRow eb 5 1 (.slice a out.length c) out.length (Lib.byteCells out)) (hlen : out.length ≤ 1000000) :
    Calls Tryz.prog 167 #[.slice a out.length c, .int .i32 10] w fun e w' => ∃ a2 c2, e = .returned (.slice a2 (out.length + 1) c2) ∧ w'.ownsRow eb 5 1 (.slice a2 (out.length + 1) c2) (out.length + 1) (Lib.byteCells (out ++ [10])) ∧ Only (fun b => (Value.slice a out.length c).ownBlock = some b) w w' := by
  obtain ⟨i0, hi, hz0, hz1, hz2⟩ := info_parts infoByte
  have oa : Only (fun _ => False) w (w.alloc (.cells #[.int .u8 10] 5)) := (Only.refl _ w).alloc _
  have ga := row_keeps g oa (fun _ _ => id)
  have hblk := heap_alloc_new w (.cells #[.int .u8 10] 5)
  go_enter Tryz.func167, Tryz.ntmps167
  go_wp2_with (at_builtin; refine wpList_append_lies _ (by rfl) _ _ _ (by rfl) eb 5 i0 _ 1 1 Tryz.underlying64 hi hz0 hz1 hz2 rfl (by omega) (.slice a out.length c) out.length (Lib.byteCells out) (by rfl) ga ⟨w.heap.size, 0, none⟩ 1 1 [.int .u8 10] (by rfl) (by rfl) (World.news_of_block (cs := #[.int .u8 10]) (t := 5) (fr := (0, 0)) hblk) (by simp [Value.oneCell']) (by omega) (by unfold maxLen; omega) (by omega) (by simp only [World.size_alloc]; omega) (w.heap.size + 1) (by simp) ?_; intro g1 cap w2 hown1 hgrow hat hlt1)
  go_ret
  exact ⟨_, _, rfl, by rw [Lib.byteCells_append]; exact hown1, oa.trans (Only.of_grown hgrow) (fun _ e => e.elim) (fun _ _ e => e)⟩

set_option maxRecDepth 100000 in
set_option maxHeartbeats 1600000 in
theorem writeRune10 (eb : Nat) (w : World) (l : List Value) (out : List UInt8) (h : Ed w eb l out) (hlen : out.length ≤ 1000000) :
    Calls Tryz.prog 139 #[.pointer (some ⟨eb, 13, none⟩), .int .i32 10] w fun e w' => (∃ v, e = .returned v) ∧ Ed w' eb l (out ++ [10]) ∧ Only (fun b => b = eb ∨ (Typ w b 5 ∧ eb ≤ b)) w w' := by
  have hl := h.len
  go_enter Tryz.func139, Tryz.ntmps139
  go_wp2_with fail
  refine (copyCheck_calls eb w l out h).mono ?_
  rintro e w1 ⟨rfl, ⟨a, c, g1, g2⟩, o1, s1, t1⟩
  have c14 := g1 14 (.slice a out.length c) (by rw [List.getElem?_set_self (by rw [List.length_set]; omega)])
  have q1 := c14.1
  have q2 := c14.2
  go_wp2_with fail
  refine (appendRune10 eb w1 (Nat.le_of_lt t1.lt) a c out g2 hlen).mono ?_
  rintro e w2 ⟨a2, c2, rfl, hown', ho2⟩
  have nb : ¬ (Value.slice a out.length c).ownBlock = some eb := fun e => absurd ((Typ.of_row g2 e).one t1) (by decide)
  have k1 := ho2.keeps q1 nb
  have k2 := ho2.keepsFrozen q1 q2 nb
  have g3 := (g1.keeps ho2 nb).set 14 (.slice a2 (out.length + 1) c2)
  rw [List.set_set] at g3
  have nb2 : ∀ b, (Value.slice a2 (out.length + 1) c2).ownBlock = some b → ¬ b = eb := fun b e e2 => by subst e2; exact absurd ((Typ.of_row hown' e).one (t1.keeps ho2 nb)) (by decide)
  have hown3 := row_keeps hown' (only_set w2 eb 14 (.slice a2 (out.length + 1) c2)) nb2
  have e1 : out.length + 1 = (out ++ [(10 : UInt8)]).length := by simp
  have HED : Hid (Ed (w2.setCell ⟨eb, 14, none⟩ (.slice a2 (out.length + 1) c2)) eb l (out ++ [10])) := by
    rw [e1] at hown3 g3
    rw [e1]
    exact ⟨⟨_, a2, c2, g3, Or.inr rfl, hown3⟩, shape_set.trans ((shape_only ho2 t1.lt nb).trans s1), (t1.keeps ho2 nb).setCell _ _, hl⟩
  have HON : Hid (Only (fun b => b = eb ∨ (Typ w b 5 ∧ eb ≤ b)) w (w2.setCell ⟨eb, 14, none⟩ (.slice a2 (out.length + 1) c2))) := by
    refine Only.setCell (p := ⟨eb, 14, none⟩) (o1.trans ho2 (fun _ e => Or.inl e) (fun b hb e => ?_)) (fun _ => Or.inl rfl) _
    by_cases hbe : b = eb
    · exact Or.inl hbe
    · obtain ⟨cur, fz, hh⟩ := Typ.of_row g2 e
      exact Or.inr ⟨⟨cur, fz, (o1.block b hb hbe).symm.trans hh⟩, (g2.lt b e).1⟩
  clear e1 g3 hown3 hown' ho2
  go_wp2
  go_ret2
  exact ⟨⟨_, rfl⟩, HED, HON⟩

theorem u8_only {w w' : World} {eb : Nat} (he : Typ w eb 108) (o : Only (fun b => b = eb ∨ (Typ w b 5 ∧ eb ≤ b)) w w') {w2 : World} (o2 : Only (fun b => b = eb ∨ (Typ w' b 5 ∧ eb ≤ b)) w' w2) : Only (fun b => b = eb ∨ (Typ w b 5 ∧ eb ≤ b)) w w2 := by
  refine o.trans o2 (fun _ e => e) (fun b hb e => ?_)
  rcases e with e | ⟨⟨cur, fz, e⟩, e2⟩
  · exact Or.inl e
  · by_cases h : b = eb ∨ (Typ w b 5 ∧ eb ≤ b)
    · exact h
    · exact absurd (Or.inr ⟨⟨cur, fz, (o.block b hb h).symm.trans e⟩, e2⟩) h

set_option maxRecDepth 100000 in
set_option maxHeartbeats 800000 in
theorem goesOn_calls (eb : Nat) (w : World) (e15 : Int) (h : w.cell? ⟨eb, 15, none⟩ = some (.int .i64 e15)) :
    Calls Tryz.prog 44 #[.pointer (some ⟨eb, 0, none⟩)] w fun e w' => e = .returned (.bool (e15 == 0)) ∧ w' = w := by
  go_enter Tryz.func44, Tryz.ntmps44
  go_wp2
  go_ret
  exact ⟨rfl, rfl⟩

set_option maxRecDepth 100000 in
set_option maxHeartbeats 800000 in
theorem builderLen_calls (eb n c : Nat) (a : Option Addr) (w : World) (h : w.cell? ⟨eb, 14, none⟩ = some (.slice a n c)) :
    Calls Tryz.prog 140 #[.pointer (some ⟨eb, 13, none⟩)] w fun e w' => e = .returned (.int .i64 n) ∧ w' = w := by
  go_enter Tryz.func140, Tryz.ntmps140
  go_wp2
  go_ret
  exact ⟨rfl, rfl⟩

set_option maxRecDepth 100000 in
set_option maxHeartbeats 1600000 in
theorem print_ok (eb : Nat) (w : World) (l : List Value) (out : List UInt8) (h : Ed w eb l out) (h15 : l[15]? = some (.int .i64 0)) (s : ByteArray) (hlen : out.length + s.size + 1 ≤ 8000) :
    Calls Tryz.prog 97 #[.pointer (some ⟨eb, 0, none⟩), .string s] w fun e w' => (∃ v, e = .returned v) ∧ Ed w' eb l ((out ++ s.data.toList) ++ [10]) ∧ Only (fun b => b = eb ∨ (Typ w b 5 ∧ eb ≤ b)) w w' := by
  have c15 := (h.get 15 (by omega) _ h15).1
  go_enter Tryz.func97, Tryz.ntmps97
  go_wp2_with fail
  refine (goesOn_calls eb w 0 c15).mono ?_
  rintro e w0 ⟨rfl, rfl⟩
  go_wp2_with fail
  refine (writeString_calls eb w0 l out h s (by omega)).mono ?_
  rintro e w1 ⟨⟨v1, rfl⟩, h1, o1⟩
  go_wp2_with fail
  have el : (out ++ s.data.toList).length = out.length + s.size := by rw [List.length_append, Array.length_toList]; rfl
  have HEL : Hid _ := el
  clear el
  refine (writeRune10 eb w1 l _ h1 (by rw [HEL.out]; omega)).mono ?_
  rintro e w2 ⟨⟨v2, rfl⟩, h2, o2⟩
  obtain ⟨p, a, c, g1, g2, g3⟩ := h2.cells
  have c14 := (g1 14 _ (by rw [List.getElem?_set_self (by rw [List.length_set, h2.len]; omega)])).1
  have elen : ((out ++ s.data.toList) ++ [(10 : UInt8)]).length = out.length + s.size + 1 := by rw [List.length_append, HEL.out]; rfl
  rw [elen] at c14
  have hn : ¬ ((8000 : Int) < ((out.length + s.size + 1 : Nat) : Int)) := by omega
  generalize out.length + s.size + 1 = n at *
  have hd : decide ((8000 : Int) < (n : Int)) = false := by simp; omega
  go_wp2_with fail
  refine (builderLen_calls eb n c a w2 c14).mono ?_
  rintro e w3 ⟨rfl, rfl⟩
  clear g1 g2 g3 elen c14
  go_wp2
  go_end0
  exact ⟨⟨_, rfl⟩, h2, u8_only h.typ o1 o2⟩
end Go.Proofs.YtbiobhghnldckaaGreatDoor
