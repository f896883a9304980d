/- Proved: what one s makes of the space. Conditions: the command and the editor lie in memory. -/
import Derived.Test.YtbiobhghnldckaaGreatDoorK7
import Derived.Deep.RegionHeld3
namespace Go.Proofs.YtbiobhghnldckaaGreatDoor
open Go.RowKit
set_option linter.unusedVariables false
attribute [local go_sem] Oper.semAt_some
namespace Adz
theorem eachGo_len (l0 : List Int) (mat : Nat → List Int) : ∀ (k : Nat) (a e : Int), (eachGo l0 mat k a e).length ≤ k
  | 0, _, _ => by simp [eachGo]
  | k + 1, a, e => by
    unfold eachGo
    split
    · simp
    · simp only []
      split
      · exact Nat.le_succ_of_le (eachGo_len l0 mat k _ _)
      · have := eachGo_len l0 mat k (firstFrom l0 ((mat a.toNat).getD 1 0).toNat) ((mat a.toNat).getD 1 0)
        simp only [List.length_cons]; omega
theorem matches_len (sp : List Int) (xs : List Item) : (matches_ sp xs).length ≤ 2 * sp.length + 3 := eachGo_len _ _ _ _ _
/-- What the matches make: up to where all is told, what was changed, whether one was replaced. -/
def substGo (sp : List Int) (nth : Int) (all : Bool) (ps : List Part) : List (List Int) → Int → Nat → List Int → Bool → Nat × List Int × Bool
  | [], _, k, ch, f => (k, ch, f)
  | m :: ms, n, k, ch, f =>
    if n + 1 < nth then substGo sp nth all ps ms (n + 1) k ch f
    else if all then substGo sp nth all ps ms (n + 1) (m.getD 1 0).toNat ((ch ++ seg sp k (m.getD 0 0)) ++ replAll sp m ps) true
    else ((m.getD 1 0).toNat, (ch ++ seg sp k (m.getD 0 0)) ++ replAll sp m ps, true)
/-- What one s makes of a space. -/
def subst (sp : List Int) (c : Cmd) : List Int :=
  let r := substGo sp c.nth c.all c.repl (matches_ sp c.pat.items) 0 0 [] false
  if r.2.2 then r.2.1 ++ sp.drop r.1 else sp
/-- The places of the matches lie in the space, in order, and nothing grows beyond bounds. -/
def okRun (sp : List Int) (nth : Int) (all : Bool) (ps : List Part) : List (List Int) → Int → Nat → List Int → Prop
  | [], _, k, ch => k ≤ sp.length ∧ ch.length ≤ 20000000
  | m :: ms, n, k, ch =>
    m.length = 20 ∧ inside k (m.getD 0 0) sp.length ∧ inside (m.getD 0 0) (m.getD 1 0) sp.length ∧ ch.length ≤ 20000000 ∧ k ≤ sp.length ∧
    if n + 1 < nth then okRun sp nth all ps ms (n + 1) k ch
    else (∀ p ∈ ps, fits m sp.length p) ∧ (replAll sp m ps).length ≤ 20000000 ∧ ((ch ++ seg sp k (m.getD 0 0)) ++ replAll sp m ps).length ≤ 20000000 ∧
      (all = true → okRun sp nth all ps ms (n + 1) (m.getD 1 0).toNat ((ch ++ seg sp k (m.getD 0 0)) ++ replAll sp m ps))
end Adz

/-- A substitution lies in memory from a place of a block on. -/
structure SubAt (w : World) (cb co : Nat) (c : Adz.Cmd) : Prop where
  typ : Typ w cb 167
  items : ∃ iv, w.cell? ⟨cb, co, none⟩ = some iv ∧ ItemsAt w iv c.pat.items
  parts : ∃ pa pc, w.cell? ⟨cb, co + 2, none⟩ = some (.slice pa c.repl.length pc) ∧ PartsAt w (.slice pa c.repl.length pc) c.repl
  all : w.cell? ⟨cb, co + 3, none⟩ = some (.bool c.all)
  print : w.cell? ⟨cb, co + 4, none⟩ = some (.bool c.print)
  nth : w.cell? ⟨cb, co + 5, none⟩ = some (.int .i64 c.nth)
theorem SubAt.keeps {S : Nat → Prop} {w w' : World} {cb co : Nat} {c : Adz.Cmd} (h : SubAt w cb co c) (o : Only S w w') (h1 : ∀ b, Typ w b 167 → ¬ S b) (h2 : ∀ b, Typ w b 270 → ¬ S b) (h3 : ∀ b, Typ w b 284 → ¬ S b) (h4 : ∀ b, Typ w b 240 → ¬ S b) : SubAt w' cb co c := by
  obtain ⟨iv, i1, i2⟩ := h.items
  obtain ⟨pa, pc, p1, p2⟩ := h.parts
  have n := h1 _ h.typ
  exact ⟨h.typ.keeps o n, ⟨iv, o.keeps i1 n, i2.keeps o h2 h3⟩, ⟨pa, pc, o.keeps p1 n, p2.keeps o h4⟩, o.keeps h.all n, o.keeps h.print n, o.keeps h.nth n⟩
theorem SubAt.quiet {w w' : World} {cb co : Nat} {c : Adz.Cmd} (h : SubAt w cb co c) (o : Only (fun _ => False) w w') : SubAt w' cb co c := h.keeps o (fun _ _ => id) (fun _ _ => id) (fun _ _ => id) (fun _ _ => id)

/-- The variables of substitute, each in a box of its own. -/
structure Boxes (W : World) (B eb cb co : Nat) (a : Option Addr) (N c : Nat) (k num : Int) (f : Bool) : Prop where
  t0 : Typ W B 98
  c0 : W.cell? ⟨B, 0, none⟩ = some (.pointer (some ⟨eb, 0, none⟩))
  t1 : Typ W (B + 1) 190
  c1 : W.cell? ⟨B + 1, 0, none⟩ = some (.pointer (some ⟨cb, co, none⟩))
  t2 : Typ W (B + 1 + 1) 103
  c2 : W.cell? ⟨B + 1 + 1, 0, none⟩ = some (.slice a N c)
  f2 : W.frozen? ⟨B + 1 + 1, 0, none⟩ = false
  t3 : Typ W (B + 1 + 1 + 1) 3
  c3 : W.cell? ⟨B + 1 + 1 + 1, 0, none⟩ = some (.int .i64 k)
  f3 : W.frozen? ⟨B + 1 + 1 + 1, 0, none⟩ = false
  t4 : Typ W (B + 1 + 1 + 1 + 1) 3
  c4 : W.cell? ⟨B + 1 + 1 + 1 + 1, 0, none⟩ = some (.int .i64 num)
  f4 : W.frozen? ⟨B + 1 + 1 + 1 + 1, 0, none⟩ = false
  t5 : Typ W (B + 1 + 1 + 1 + 1 + 1) 4
  c5 : W.cell? ⟨B + 1 + 1 + 1 + 1 + 1, 0, none⟩ = some (.bool f)
  f5 : W.frozen? ⟨B + 1 + 1 + 1 + 1 + 1, 0, none⟩ = false
theorem Boxes.keeps {S : Nat → Prop} {W W' : World} {B eb cb co : Nat} {a : Option Addr} {N c : Nat} {k num : Int} {f : Bool} (h : Boxes W B eb cb co a N c k num f) (o : Only S W W') (hs : ∀ b, B ≤ b → b ≤ B + 5 → ¬ S b) : Boxes W' B eb cb co a N c k num f :=
  ⟨h.t0.keeps o (hs _ (by omega) (by omega)), o.keeps h.c0 (hs _ (by simp) (by simp)), h.t1.keeps o (hs _ (by omega) (by omega)), o.keeps h.c1 (hs _ (by simp) (by simp)),
   h.t2.keeps o (hs _ (by omega) (by omega)), o.keeps h.c2 (hs _ (by simp; omega) (by simp)), o.keepsFrozen h.c2 h.f2 (hs _ (by simp; omega) (by simp)),
   h.t3.keeps o (hs _ (by omega) (by omega)), o.keeps h.c3 (hs _ (by simp; omega) (by simp)), o.keepsFrozen h.c3 h.f3 (hs _ (by simp; omega) (by simp)),
   h.t4.keeps o (hs _ (by omega) (by omega)), o.keeps h.c4 (hs _ (by simp; omega) (by simp)), o.keepsFrozen h.c4 h.f4 (hs _ (by simp; omega) (by simp)),
   h.t5.keeps o (hs _ (by omega) (by omega)), o.keeps h.c5 (hs _ (by simp; omega) (by simp)), o.keepsFrozen h.c5 h.f5 (hs _ (by simp; omega) (by simp))⟩
theorem cell_other {W : World} {b c : Nat} {v u : Value} (h : W.cell? ⟨c, 0, none⟩ = some v) (hn : c ≠ b) : (W.setCell ⟨b, 0, none⟩ u).cell? ⟨c, 0, none⟩ = some v := by
  rw [World.cell?_setCell_other W ⟨b, 0, none⟩ ⟨c, 0, none⟩ _ (by intro h; injection h; omega)]; exact h
theorem frozen_set {W : World} {p q : Addr} {u : Value} (h : W.frozen? q = false) : (W.setCell p u).frozen? q = false := by rw [World.frozen?_setCell]; exact h
theorem Boxes.set2 {W : World} {B eb cb co : Nat} {a : Option Addr} {N c : Nat} {k num : Int} {f : Bool} (h : Boxes W B eb cb co a N c k num f) (a' : Option Addr) (N' c' : Nat) : Boxes (W.setCell ⟨B + 1 + 1, 0, none⟩ (.slice a' N' c')) B eb cb co a' N' c' k num f :=
  ⟨h.t0.setCell _ _, cell_other h.c0 (by omega), h.t1.setCell _ _, cell_other h.c1 (by omega), h.t2.setCell _ _, World.cell?_setCell_same _ _ _ h.c2, frozen_set h.f2, h.t3.setCell _ _, cell_other h.c3 (by omega), frozen_set h.f3, h.t4.setCell _ _, cell_other h.c4 (by omega), frozen_set h.f4, h.t5.setCell _ _, cell_other h.c5 (by omega), frozen_set h.f5⟩
theorem Boxes.set3 {W : World} {B eb cb co : Nat} {a : Option Addr} {N c : Nat} {k num : Int} {f : Bool} (h : Boxes W B eb cb co a N c k num f) (k' : Int) : Boxes (W.setCell ⟨B + 1 + 1 + 1, 0, none⟩ (.int .i64 k')) B eb cb co a N c k' num f :=
  ⟨h.t0.setCell _ _, cell_other h.c0 (by omega), h.t1.setCell _ _, cell_other h.c1 (by omega), h.t2.setCell _ _, cell_other h.c2 (by omega), frozen_set h.f2, h.t3.setCell _ _, World.cell?_setCell_same _ _ _ h.c3, frozen_set h.f3, h.t4.setCell _ _, cell_other h.c4 (by omega), frozen_set h.f4, h.t5.setCell _ _, cell_other h.c5 (by omega), frozen_set h.f5⟩
theorem Boxes.set4 {W : World} {B eb cb co : Nat} {a : Option Addr} {N c : Nat} {k num : Int} {f : Bool} (h : Boxes W B eb cb co a N c k num f) (n' : Int) : Boxes (W.setCell ⟨B + 1 + 1 + 1 + 1, 0, none⟩ (.int .i64 n')) B eb cb co a N c k n' f :=
  ⟨h.t0.setCell _ _, cell_other h.c0 (by omega), h.t1.setCell _ _, cell_other h.c1 (by omega), h.t2.setCell _ _, cell_other h.c2 (by omega), frozen_set h.f2, h.t3.setCell _ _, cell_other h.c3 (by omega), frozen_set h.f3, h.t4.setCell _ _, World.cell?_setCell_same _ _ _ h.c4, frozen_set h.f4, h.t5.setCell _ _, cell_other h.c5 (by omega), frozen_set h.f5⟩
theorem Boxes.set5 {W : World} {B eb cb co : Nat} {a : Option Addr} {N c : Nat} {k num : Int} {f : Bool} (h : Boxes W B eb cb co a N c k num f) (f' : Bool) : Boxes (W.setCell ⟨B + 1 + 1 + 1 + 1 + 1, 0, none⟩ (.bool f')) B eb cb co a N c k num f' :=
  ⟨h.t0.setCell _ _, cell_other h.c0 (by omega), h.t1.setCell _ _, cell_other h.c1 (by omega), h.t2.setCell _ _, cell_other h.c2 (by omega), frozen_set h.f2, h.t3.setCell _ _, cell_other h.c3 (by omega), frozen_set h.f3, h.t4.setCell _ _, cell_other h.c4 (by omega), frozen_set h.f4, h.t5.setCell _ _, World.cell?_setCell_same _ _ _ h.c5, frozen_set h.f5⟩
/-- What holds between two rounds. -/
structure SI (w W : World) (B Bl eb cb co : Nat) (num : Int) (k : Nat) (ch : List Int) (f : Bool) (a : Option Addr) (N c : Nat) : Prop where
  box : Boxes W B eb cb co a N c k num f
  row : W.ownsRow B 21 1 (.slice a N c) N (ch.map (.int .i32))
  len : N = ch.length
  own : ∀ b, (Value.slice a N c).ownBlock = some b → Bl + 1 < b
  only : Only (fun _ => False) w W
theorem SI.lets {w W W' : World} {B Bl eb cb co : Nat} {num : Int} {k : Nat} {ch : List Int} {f : Bool} {a : Option Addr} {N c : Nat} (h : SI w W B Bl eb cb co num k ch f a N c) (hB : w.heap.size = B) (hl : B + 5 < Bl) (o : Only (fun b => (Typ W b 258 ∧ Bl ≤ b) ∨ b = Bl ∨ b = Bl + 1) W W') : SI w W' B Bl eb cb co num k ch f a N c := by
  have nt : ∀ {b : Nat} {T : TypeId}, Typ W b T → T ≠ 258 → b ≠ Bl → b ≠ Bl + 1 → ¬ ((Typ W b 258 ∧ Bl ≤ b) ∨ b = Bl ∨ b = Bl + 1) := fun ht hn n1 n2 e => by
    rcases e with e | e | e
    · exact hn (ht.one e.1)
    · exact n1 e
    · exact n2 e
  refine ⟨h.box.keeps o (fun b h1 h2 e => ?_), row_keeps h.row o (fun b hb => nt (Typ.of_row h.row hb) (by decide) (by have := h.own b hb; omega) (by have := h.own b hb; omega)), h.len, h.own, h.only.trans o (fun _ e => e) (fun b hb e => ?_)⟩
  · rcases e with e | e | e
    · have := e.2; omega
    · omega
    · omega
  · rcases e with e | e | e
    · have := e.2; omega
    · omega
    · omega
theorem SI.upd {w W W' : World} {B Bl eb cb co b : Nat} {num num' : Int} {k k' : Nat} {ch : List Int} {f f' : Bool} {a : Option Addr} {N c : Nat} (h : SI w W B Bl eb cb co num k ch f a N c) (hB : w.heap.size = B) (hl : B + 5 < Bl) (o : Only (· = b) W W') (h1 : B ≤ b) (h2 : b ≤ B + 5) (ht : Typ W b 3 ∨ Typ W b 4) (hb : Boxes W' B eb cb co a N c k' num' f') : SI w W' B Bl eb cb co num' k' ch f' a N c ∧ KpB Bl W W' := by
  have nr : ∀ c', Typ W c' 21 → ¬ c' = b := fun c' hc e => by
    subst e
    rcases ht with ht | ht
    · exact absurd (hc.one ht) (by decide)
    · exact absurd (hc.one ht) (by decide)
  refine ⟨⟨hb, row_keeps h.row o (fun b' hb' => nr b' (Typ.of_row h.row hb')), h.len, h.own, h.only.trans o (fun _ e => e) (fun b' hb' e => by omega)⟩, (· = b), o, fun c' e => ?_⟩
  subst e
  rcases ht with ht | ht
  · exact Or.inl ⟨by omega, Or.inl ht⟩
  · exact Or.inl ⟨by omega, Or.inr (Or.inl ht)⟩
theorem SI.quiet {w W W' : World} {B Bl eb cb co : Nat} {num : Int} {k : Nat} {ch : List Int} {f : Bool} {a : Option Addr} {N c : Nat} (h : SI w W B Bl eb cb co num k ch f a N c) (o : Only (fun _ => False) W W') : SI w W' B Bl eb cb co num k ch f a N c :=
  ⟨h.box.keeps o (fun _ _ _ => id), row_keeps h.row o (fun _ _ => id), h.len, h.own, h.only.trans o (fun _ e => e) (fun _ _ e => e.elim)⟩
theorem SI.append {w W W' : World} {B Bl eb cb co : Nat} {num : Int} {k : Nat} {ch ch2 : List Int} {f : Bool} {a a2 : Option Addr} {N c N2 c2 : Nat} (h : SI w W B Bl eb cb co num k ch f a N c) (hB : w.heap.size = B) (hl : B + 5 < Bl) (o : Only (fun b => (Value.slice a N c).ownBlock = some b) W W') (hown : W'.ownsRow B 21 1 (.slice a2 N2 c2) N2 (ch2.map (.int .i32))) (hlen : N2 = ch2.length) (hat : ∀ b, (Value.slice a2 N2 c2).ownBlock = some b → (Value.slice a N c).ownBlock = some b ∨ Bl + 1 < b) :
    SI w (W'.setCell ⟨B + 1 + 1, 0, none⟩ (.slice a2 N2 c2)) B Bl eb cb co num k ch2 f a2 N2 c2 ∧ KpB Bl W (W'.setCell ⟨B + 1 + 1, 0, none⟩ (.slice a2 N2 c2)) := by
  have ho : ∀ b, (Value.slice a N c).ownBlock = some b → Bl + 1 < b := h.own
  have hb' := h.box.keeps o (fun b h1 h2 e => by have := ho b e; omega)
  have os := only_set W' (B + 1 + 1) 0 (.slice a2 N2 c2)
  refine ⟨⟨hb'.set2 a2 N2 c2, row_keeps hown os (fun b hb e => by subst e; exact absurd ((Typ.of_row hown hb).one hb'.t2) (by decide)), hlen, fun b hb => ?_, ?_⟩, fun c' => (Value.slice a N c).ownBlock = some c' ∨ c' = B + 1 + 1, o.trans os (fun _ e => Or.inl e) (fun _ _ e => Or.inr e), fun c' e => ?_⟩
  · rcases hat b hb with e | e
    · exact ho b e
    · exact e
  · exact (h.only.trans (o.trans os (fun _ e => Or.inl e) (fun _ _ e => Or.inr e) : Only (fun b => (Value.slice a N c).ownBlock = some b ∨ b = B + 1 + 1) W _) (fun _ e => e) (fun b hb e => by
      rcases e with e | e
      · have := ho b e; omega
      · omega))
  · rcases e with e | e
    · exact Or.inr (Or.inl (Typ.of_row h.row e))
    · subst e; exact Or.inl ⟨by omega, Or.inr (Or.inr h.box.t2)⟩
end Go.Proofs.YtbiobhghnldckaaGreatDoor

/- Proved: what one s makes of the space. Conditions: the command and the editor lie in memory. -/
namespace Go.Proofs.YtbiobhghnldckaaGreatDoor
open Go.RowKit
set_option linter.unusedVariables false
attribute [local go_sem] Oper.semAt_some

theorem set_same {l : List Value} {j : Nat} {v : Value} (h : l[j]? = some v) : l.set j v = l := by
  apply List.ext_getElem?
  intro i
  by_cases e : j = i
  · subst e; rw [List.getElem?_set_self', h]; rfl
  · rw [List.getElem?_set_ne e]
theorem Sl.of_row {w : World} {base : Nat} {a : Option Addr} {N c : Nat} {xs : List Int} (h : w.ownsRow base 21 1 (.slice a N c) N (xs.map (.int .i32))) : Sl w a xs ∧ N ≤ c := by
  rcases h.2 with ⟨e, h0⟩ | ⟨g, cap, cur, hv, _, hg, hcap, _, hsz, htake⟩
  · injection e with e1 e2 e3
    subst e1; subst e2; subst e3
    have hl := h.1
    simp at hl
    exact ⟨Or.inl ⟨rfl, hl⟩, Nat.le_refl _⟩
  · injection hv with e1 e2 e3
    subst e1; subst e3
    have hl := h.1
    rw [List.length_map, Nat.mul_one] at hl
    refine ⟨Or.inr ⟨g, 0, rfl, ⟨cur, (0, 0), hg⟩, fun j hj => ?_⟩, hcap⟩
    rw [cell_of_row _ g (0 + j) cur _ (0, 0) hg, Nat.zero_add]
    have hx : (cur.toList.take (N * 1))[j]? = some (.int .i32 (xs.getD j 0)) := by
      rw [htake, List.getElem?_map, List.getD_eq_getElem?_getD, List.getElem?_eq_getElem hj]; rfl
    rw [List.getElem?_take, if_pos (by omega), Array.getElem?_toList] at hx
    exact hx
theorem boxes_new (w : World) (eb cb co : Nat) : Boxes ((((((w.alloc (.cells #[.pointer (some ⟨eb, 0, none⟩)] 98)).alloc (.cells #[.pointer (some ⟨cb, co, none⟩)] 190)).alloc (.cells #[.slice none 0 0] 103)).alloc (.cells #[.int .i64 0] 3)).alloc (.cells #[.int .i64 0] 3)).alloc (.cells #[.bool false] 4)) w.heap.size eb cb co none 0 0 0 0 false := by
  have nx : ∀ (u : World) (v : Value) (T : TypeId) (b : Nat), b = u.heap.size → Typ (u.alloc (.cells #[v] T)) b T ∧ (u.alloc (.cells #[v] T)).cell? ⟨b, 0, none⟩ = some v ∧ (u.alloc (.cells #[v] T)).frozen? ⟨b, 0, none⟩ = false := fun u v T b e => by
    subst e
    exact ⟨Typ.new _ _ _ _, ((Cells.new u #[v] T) 0 v rfl).1, ((Cells.new u #[v] T) 0 v rfl).2⟩
  have up : ∀ (u : World) (o : Obj) {T : TypeId} {b : Nat} {v : Value}, (Typ u b T ∧ u.cell? ⟨b, 0, none⟩ = some v ∧ u.frozen? ⟨b, 0, none⟩ = false) → (Typ (u.alloc o) b T ∧ (u.alloc o).cell? ⟨b, 0, none⟩ = some v ∧ (u.alloc o).frozen? ⟨b, 0, none⟩ = false) := fun u o T b v h => by
    have oo : Only (fun _ => False) u (u.alloc o) := (Only.refl _ u).alloc o
    exact ⟨h.1.keeps oo id, oo.keeps h.2.1 id, oo.keepsFrozen h.2.1 h.2.2 id⟩
  have h0 := up _ (.cells #[.bool false] 4) (up _ (.cells #[.int .i64 0] 3) (up _ (.cells #[.int .i64 0] 3) (up _ (.cells #[.slice none 0 0] 103) (up _ (.cells #[.pointer (some ⟨cb, co, none⟩)] 190) (nx w (.pointer (some ⟨eb, 0, none⟩)) 98 w.heap.size rfl)))))
  have h1 := up _ (.cells #[.bool false] 4) (up _ (.cells #[.int .i64 0] 3) (up _ (.cells #[.int .i64 0] 3) (up _ (.cells #[.slice none 0 0] 103) (nx (w.alloc (.cells #[.pointer (some ⟨eb, 0, none⟩)] 98)) (.pointer (some ⟨cb, co, none⟩)) 190 (w.heap.size + 1) (by simp)))))
  have h2 := up _ (.cells #[.bool false] 4) (up _ (.cells #[.int .i64 0] 3) (up _ (.cells #[.int .i64 0] 3) (nx ((w.alloc (.cells #[.pointer (some ⟨eb, 0, none⟩)] 98)).alloc (.cells #[.pointer (some ⟨cb, co, none⟩)] 190)) (.slice none 0 0) 103 (w.heap.size + 1 + 1) (by simp))))
  have h3 := up _ (.cells #[.bool false] 4) (up _ (.cells #[.int .i64 0] 3) (nx (((w.alloc (.cells #[.pointer (some ⟨eb, 0, none⟩)] 98)).alloc (.cells #[.pointer (some ⟨cb, co, none⟩)] 190)).alloc (.cells #[.slice none 0 0] 103)) (.int .i64 0) 3 (w.heap.size + 1 + 1 + 1) (by simp)))
  have h4 := up _ (.cells #[.bool false] 4) (nx ((((w.alloc (.cells #[.pointer (some ⟨eb, 0, none⟩)] 98)).alloc (.cells #[.pointer (some ⟨cb, co, none⟩)] 190)).alloc (.cells #[.slice none 0 0] 103)).alloc (.cells #[.int .i64 0] 3)) (.int .i64 0) 3 (w.heap.size + 1 + 1 + 1 + 1) (by simp))
  have h5 := nx (((((w.alloc (.cells #[.pointer (some ⟨eb, 0, none⟩)] 98)).alloc (.cells #[.pointer (some ⟨cb, co, none⟩)] 190)).alloc (.cells #[.slice none 0 0] 103)).alloc (.cells #[.int .i64 0] 3)).alloc (.cells #[.int .i64 0] 3)) (.bool false) 4 (w.heap.size + 1 + 1 + 1 + 1 + 1) (by simp)
  exact ⟨h0.1, h0.2.1, h1.1, h1.2.1, h2.1, h2.2.1, h2.2.2, h3.1, h3.2.1, h3.2.2, h4.1, h4.2.1, h4.2.2, h5.1, h5.2.1, h5.2.2⟩

set_option maxRecDepth 100000 in
set_option maxHeartbeats 3200000 in
theorem substitute_calls (c : Adz.Cmd) (cb co : Nat) (eb : Nat) (w : World) (hc : SubAt w cb co c) (ra : Option Addr) (rc : Nat) (sp : List Int) (he : Typ w eb 108) (l : List Value) (hE : Cells w eb l) (hl4 : l[4]? = some (.slice ra sp.length rc)) (r8 : Bool) (hl8 : l[8]? = some (.bool r8)) (hpr : c.print = false) (hsl : Sl w ra sp) (hrc : sp.length ≤ rc)
    (hk : c.pat.items.length ≤ 1000) (hf : ∀ x ∈ c.pat.items, x.spans.length ≤ 1000) (hn : sp.length ≤ 1000000) (hg : ∀ x ∈ c.pat.items, 1 ≤ x.group ∧ x.group ≤ 9 ∨ (x.kind ≠ 2 ∧ x.kind ≠ 3)) (hpl : c.repl.length ≤ 1000)
    (hok : Adz.okRun sp c.nth c.all c.repl (Adz.matches_ sp c.pat.items) 0 0 []) :
    CallsIn Fence.wide 0 Tryz.prog 135 #[.pointer (some ⟨eb, 0, none⟩), .pointer (some ⟨cb, co, none⟩)] w fun e w' => (∃ v, e = .returned v) ∧ ∃ a' c' v8, Cells w' eb ((l.set 4 (.slice a' (Adz.subst sp c).length c')).set 8 v8) ∧ (∃ b, v8 = .bool b) ∧ Sl w' a' (Adz.subst sp c) ∧ (Adz.subst sp c).length ≤ c' ∧ Typ w' eb 108 ∧ Only (fun b => b = eb) w w' ∧ w'.shape? eb = w.shape? eb := by
  have h4 : w.cell? ⟨eb, 4, none⟩ = some (.slice ra sp.length rc) := (hE 4 _ hl4).1
  obtain ⟨iv, i1, i2⟩ := hc.items
  refine callsIn_of_wp_marks Tryz.func135 rfl trivial ?_ rfl
  simp only [Tryz.ntmps135, List.size_toArray, List.length_cons, List.length_nil, Nat.reduceAdd, Nat.reduceSub, Array.replicate_succ, Array.replicate_zero, List.push_toArray, List.append_toArray, List.nil_append, List.cons_append]
  gi_wp2
  have o0 : Only (fun _ => False) w ((((((w.alloc (.cells #[.pointer (some ⟨eb, 0, none⟩)] 98)).alloc (.cells #[.pointer (some ⟨cb, co, none⟩)] 190)).alloc (.cells #[.slice none 0 0] 103)).alloc (.cells #[.int .i64 0] 3)).alloc (.cells #[.int .i64 0] 3)).alloc (.cells #[.bool false] 4)) := ((((((Only.refl _ w).alloc _).alloc _).alloc _).alloc _).alloc _).alloc _
  have hb0 : Boxes ((((((w.alloc (.cells #[.pointer (some ⟨eb, 0, none⟩)] 98)).alloc (.cells #[.pointer (some ⟨cb, co, none⟩)] 190)).alloc (.cells #[.slice none 0 0] 103)).alloc (.cells #[.int .i64 0] 3)).alloc (.cells #[.int .i64 0] 3)).alloc (.cells #[.bool false] 4)) w.heap.size eb cb co none 0 0 0 0 false := boxes_new w eb cb co
  have hz0 : ((((((w.alloc (.cells #[.pointer (some ⟨eb, 0, none⟩)] 98)).alloc (.cells #[.pointer (some ⟨cb, co, none⟩)] 190)).alloc (.cells #[.slice none 0 0] 103)).alloc (.cells #[.int .i64 0] 3)).alloc (.cells #[.int .i64 0] 3)).alloc (.cells #[.bool false] 4)).heap.size = w.heap.size + 6 := by simp
  generalize ((((((w.alloc (.cells #[.pointer (some ⟨eb, 0, none⟩)] 98)).alloc (.cells #[.pointer (some ⟨cb, co, none⟩)] 190)).alloc (.cells #[.slice none 0 0] 103)).alloc (.cells #[.int .i64 0] 3)).alloc (.cells #[.int .i64 0] 3)).alloc (.cells #[.bool false] 4)) = w0 at *
  have od : Only (fun _ => False) w w0.drew := o0.drew
  have q0 := hb0.c0
  have q1 := hb0.c1
  have q4 := o0.keeps h4 id
  have cm := matches_calls cb co ra sp.length rc w0.drew
  refine wpIn_wide.2 ?_
  go_region_held3 (fun u => u.cell? ⟨w.heap.size, 0, none⟩ = some (.pointer (some ⟨eb, 0, none⟩)) ∧ u.cell? ⟨w.heap.size + 1, 0, none⟩ = some (.pointer (some ⟨cb, co, none⟩)) ∧ u.cell? ⟨eb, 4, none⟩ = some (.slice ra sp.length rc)) (first | exact ⟨q0, q1, q4⟩ | exact ⟨k0, k1, k4⟩) ((go_at_call 164; refine cm.mono ?_; clear cm; rintro e w1 ⟨b1, b2, rfl, g1, g2, g3, g4, o1⟩; have k0 := o1.keeps (p := ⟨w.heap.size, 0, none⟩) q0 id; have k1 := o1.keeps (p := ⟨w.heap.size + 1, 0, none⟩) q1 id; have k4 := o1.keeps (p := ⟨eb, 4, none⟩) q4 id))
  have hzl : w1.heap.size = w1.heap.size := rfl
  have ow1 : Only (fun _ => False) w w1 := od.trans o1 (fun _ e => e) (fun _ _ e => e)
  have hb1 := (hb0.keeps (S := fun _ => False) (((Only.refl _ w0).drew).trans o1 (fun _ e => e) (fun _ _ e => e)) (fun _ _ _ => id))
  have hBl : w.heap.size + 5 < w1.heap.size := by
    have := o1.size
    have e : w0.drew.heap.size = w0.heap.size := rfl
    omega
  have hi1 := ow1.keeps i1 id
  have hit1 := i2.keeps ow1 (fun _ _ => id) (fun _ _ => id)
  have hsl1 := hsl.keeps ow1 (fun _ _ _ => id)
  clear k0 k1 k4 q0 q1 q4 od o0 hb0 hz0 o1 g3 g4
  generalize hms : Adz.matches_ sp c.pat.items = ms at *
  have tsr : ∀ {b : Nat} {T : TypeId}, Typ w b T → T ≠ 258 → ¬ False := fun _ _ h3 => h3
  gi_wp2
  rename_i Q0 K0 hK0 hHeld0
  clear hHeld0
  obtain ⟨I, hI⟩ : ∃ I : List (List Int) → World → Prop, Hid (∀ pre W, I pre W ↔ ∃ k ch f a N c', SI w W w.heap.size w1.heap.size eb cb co pre.length k ch f a N c' ∧ Adz.substGo sp c.nth c.all c.repl ms 0 0 [] false = Adz.substGo sp c.nth c.all c.repl (ms.drop pre.length) pre.length k ch f ∧ Adz.okRun sp c.nth c.all c.repl (ms.drop pre.length) pre.length k ch) := ⟨fun pre W => ∃ k ch f a N c', SI w W w.heap.size w1.heap.size eb cb co pre.length k ch f a N c' ∧ Adz.substGo sp c.nth c.all c.repl ms 0 0 [] false = Adz.substGo sp c.nth c.all c.repl (ms.drop pre.length) pre.length k ch f ∧ Adz.okRun sp c.nth c.all c.repl (ms.drop pre.length) pre.length k ch, fun _ _ => Iff.rfl⟩
  obtain ⟨Ix, hIx⟩ : ∃ Ix : Code → List (List Int) → World → Prop, Hid (∀ code pre W, Ix code pre W ↔ ∃ k ch f a N c', SI w W w.heap.size w1.heap.size eb cb co pre.length k ch f a N c' ∧ Adz.substGo sp c.nth c.all c.repl ms 0 0 [] false = (k, ch, f) ∧ code = .exit 0 ∧ ch.length ≤ 20000000 ∧ k ≤ sp.length) := ⟨fun code pre W => ∃ k ch f a N c', SI w W w.heap.size w1.heap.size eb cb co pre.length k ch f a N c' ∧ Adz.substGo sp c.nth c.all c.repl ms 0 0 [] false = (k, ch, f) ∧ code = .exit 0 ∧ ch.length ≤ 20000000 ∧ k ≤ sp.length, fun _ _ _ => Iff.rfl⟩
  refine range_law (α := List Int) (S := fun ys => ys = ms) (Sp := fun pre => pre <+: ms ∧ pre ≠ []) (Ok := fun pre => pre <+: ms) (Kp := KpB w1.heap.size) (gf := 190) (lb := #[.pointer (some ⟨b1, 0, none⟩), .pointer (some ⟨b2, 0, none⟩)]) (by first | rfl | simp [Act.eval]) (enters_of Tryz.func190 (by kernel_rfl) rfl) (encs := fun x => #[.agg (x.map (.int .i64)).toArray]) (fun _ => rfl) 258 ?_ (fun h k => h.trans k) (fun W r o h => KpB.put o h)
    I Ix
    ?_ ?_ ?_ ?_ ?_ ?_
  · -- the iterator
    intro l J Jx W hO hJ hJx hY h0
    have := matches1_in c.pat.items sp cb co iv ra rc hk hf hn hg b1 b2 l J Jx w1.heap.size hJ hJx (by rw [hms]; exact hY) W hO.size (hO.keeps g1 id) (hO.keeps g2 id) (hO.keeps hi1 id) (hit1.keeps hO (fun _ _ => id) (fun _ _ => id)) (hsl1.space.keeps hO (fun _ _ => id)) h0
    rw [hms] at this
    exact this
  · rintro s W W' hs ho
    obtain ⟨k, ch, f, a, N, c', h1, h2, h3⟩ := (hI.out _ _).1 hs
    exact (hI.out _ _).2 ⟨k, ch, f, a, N, c', h1.lets rfl hBl ho, h2, h3⟩
  · rintro code s W W' hs ho
    obtain ⟨k, ch, f, a, N, c', h1, h2, h3⟩ := (hIx.out _ _ _).1 hs
    exact (hIx.out _ _ _).2 ⟨k, ch, f, a, N, c', h1.lets rfl hBl ho, h2, h3⟩
  · refine (hI.out _ _).2 ⟨0, [], false, none, 0, 0, ⟨hb1, World.ownsRow_nil _ _ _ _, rfl, fun b hb => by simp [Value.ownBlock] at hb, ow1.mono (fun _ _ e => e.elim)⟩, ?_, ?_⟩
    · simp
    · simpa using hok
  · -- a round
    rintro pre x W r hIW hpre hl
    obtain ⟨k, ch, f, a, N, c', hsi, heq, hrun⟩ := (hI.out _ _).1 hIW
    clear hIW
    obtain ⟨tl, htl⟩ := hpre
    have hdrop : ms.drop pre.length = x :: ms.drop (pre.length + 1) := by
      rw [← htl]; simp [List.append_assoc, List.drop_append]
    rw [hdrop] at heq hrun
    unfold Adz.okRun at hrun
    obtain ⟨hx20, hk0, hm01, hchl, hks, hif⟩ := hrun
    have hLlt : w1.heap.size + 1 < W.heap.size := (Array.getElem?_eq_some_iff.1 hl).1
    have hMn := MatchAt.new W
    have hi219 : (Tryz.prog.info? 219).map (·.size) = some 20 := by kernel_rfl
    have hi2 : (Tryz.prog.info? 219).map (·.size) = some (x.map (Value.int .i64)).toArray.size := by rw [List.size_toArray, List.length_map, hx20]; exact hi219
    have hz2 : ((x.map (Value.int .i64)).toArray.all (·.oneCell')) = true := all_oneCell_toArray (by intro v hv; simp at hv; obtain ⟨a, _, rfl⟩ := hv; rfl)
    have hth := hMn.there
    rw [show (20 : Nat) = (x.map (Value.int .i64)).toArray.size by rw [List.size_toArray, List.length_map, hx20]] at hth
    have HI2 : Hid _ := hi2
    have HTH : Hid _ := hth
    clear hi2 hth hi219
    simp only [List.zip_toArray, List.zip_cons_cons, List.zip_nil_right, List.size_toArray, List.foldl_toArray', List.foldl_cons, List.foldl_nil, List.setIfInBounds_toArray, List.set_cons_zero, List.set_cons_succ]
    refine region_inRound rfl (fun ⟨_, _, h⟩ => h) ?_
    go_wp2_with (refine wpList_store_mid (by rfl) 219 _ _ (by rfl) W.heap.size 0 (x.map (Value.int .i64)).toArray (by rfl) (by rfl) HTH.out HI2.out hz2 ?_)
    have hM3 := hMn.store x hx20
    have oV : Only (fun _ => False) W ((W.alloc (.cells zeros20 219)).setCells W.heap.size 0 (x.map (.int .i64))) := by
      refine ((Only.refl _ W).alloc _).trans (setCells_only W.heap.size _ _ 0) (fun _ e => e) (fun b hb e => by omega)
    unfold zeros20 at hM3 oV
    generalize ((W.alloc (.cells _ 219)).setCells W.heap.size 0 (x.map (.int .i64))) = V at *
    refine ⟨⟨oV.block _ (by omega) id, oV.block _ (by omega) id⟩, KpB.quiet oV, fun r' => ?_⟩
    have oP := only_putObj V (w1.heap.size + 1) (.loop r')
    have hM := hM3.keeps oP (by omega)
    have hsi2 := hsi.lets rfl hBl ((oV.trans oP (fun _ e => e.elim) (fun _ _ e => Or.inr (Or.inr e)) : Only (fun b => (Typ W b 258 ∧ w1.heap.size ≤ b) ∨ b = w1.heap.size ∨ b = w1.heap.size + 1) W _))
    have hsz : w1.heap.size + 1 < (V.putObj (w1.heap.size + 1) (.loop r')).heap.size := by have := oV.size; simp; omega
    have hszm : W.heap.size < (V.putObj (w1.heap.size + 1) (.loop r')).heap.size := hM.typ.lt
    clear hsi oV oP hM3 hMn HI2 HTH hz2 hl
    generalize V.putObj (w1.heap.size + 1) (.loop r') = U at *
    generalize hBm : W.heap.size = Bm at *
    have hlen : pre.length + 1 ≤ 2000003 := by
      have h1 := Adz.matches_len sp c.pat.items
      rw [hms, ← htl] at h1
      simp only [List.length_append, List.length_cons, List.length_nil] at h1
      omega
    have hw : IntKind.i64.wrap ((pre.length : Int) + 1) = (pre.length : Int) + 1 := by rw [IntKind.wrap_i64]; omega
    have c4 := hsi2.box.c4
    have f4 := hsi2.box.f4
    refine wpIn_block ?_
    refine wpIn_seq_k fun K1 hK1 => ?_
    refine region_inRound rfl (fun ⟨_, _, h⟩ => h) ?_
    go_wp2
    clear c4 f4
    obtain ⟨hs1, kp1⟩ := hsi2.upd rfl hBl (only_set U (w.heap.size + 1 + 1 + 1 + 1) 0 (.int .i64 ((pre.length : Int) + 1))) (by omega) (by omega) (Or.inl hsi2.box.t4) (hsi2.box.set4 ((pre.length : Int) + 1))
    have hM1 := hM.keeps (only_set U (w.heap.size + 1 + 1 + 1 + 1) 0 (.int .i64 ((pre.length : Int) + 1))) (by omega)
    have bl1 := (only_set U (w.heap.size + 1 + 1 + 1 + 1) 0 (.int .i64 ((pre.length : Int) + 1))).block
    have st1 : (U.setCell ⟨w.heap.size + 1 + 1 + 1 + 1, 0, none⟩ (.int .i64 ((pre.length : Int) + 1))).heap[w1.heap.size]? = U.heap[w1.heap.size]? ∧ (U.setCell ⟨w.heap.size + 1 + 1 + 1 + 1, 0, none⟩ (.int .i64 ((pre.length : Int) + 1))).heap[w1.heap.size + 1]? = U.heap[w1.heap.size + 1]? := ⟨bl1 _ (by omega) (by omega), bl1 _ (by omega) (by omega)⟩
    clear bl1 hM hsi2
    generalize U.setCell ⟨w.heap.size + 1 + 1 + 1 + 1, 0, none⟩ (.int .i64 ((pre.length : Int) + 1)) = U1 at *
    -- how many have come, against the number that is asked
    have hcU := hc.keeps hs1.only (fun b hb => tsr hb (by decide)) (fun b hb => tsr hb (by decide)) (fun b hb => tsr hb (by decide)) (fun b hb => tsr hb (by decide))
    have hS : (fun u : World => u.cell? ⟨w.heap.size + 1 + 1 + 1 + 1, 0, none⟩ = some (.int .i64 ((pre.length : Int) + 1)) ∧ u.cell? ⟨w.heap.size + 1, 0, none⟩ = some (.pointer (some ⟨cb, co, none⟩)) ∧ u.cell? ⟨cb, co + 5, none⟩ = some (.int .i64 c.nth)) U1.drew := ⟨hs1.box.c4, hs1.box.c1, hcU.nth⟩
    refine wpIn_seq_k fun K2 hK2 => ?_
    refine wpIn_seq_k fun K3 hK3 => ?_
    refine region_inRound_any (by kernel_rfl) rfl (fun ⟨_, _, h⟩ => h) ?_
    refine wpAny_of_held (S := fun u : World => u.cell? ⟨w.heap.size + 1 + 1 + 1 + 1, 0, none⟩ = some (.int .i64 ((pre.length : Int) + 1)) ∧ u.cell? ⟨w.heap.size + 1, 0, none⟩ = some (.pointer (some ⟨cb, co, none⟩)) ∧ u.cell? ⟨cb, co + 5, none⟩ = some (.int .i64 c.nth)) _ _ _ _ ?_
    refine wpAnyH_take (i := 0) (v := ?_) rfl (by kernel_rfl) (by kernel_rfl) (by kernel_rfl) (fun _ _ _ h => h) (Or.inl ⟨by rfl, ?_⟩) hS ?_
    rotate_left
    · intro u hu
      obtain ⟨s1, s2, s3⟩ := hu
      go_simp
      try with_reducible rfl
    simp only [Act.put, List.getElem_toArray, List.getElem_cons_zero, List.setIfInBounds_toArray, List.set_cons_zero, List.set_cons_succ]
    refine wpAnyH_take (i := 1) (v := ?_) rfl (by kernel_rfl) (by kernel_rfl) (by kernel_rfl) (fun _ _ _ h => h) (Or.inl ⟨by rfl, ?_⟩) hS ?_
    rotate_left
    · intro u hu
      obtain ⟨s1, s2, s3⟩ := hu
      go_simp
      try with_reducible rfl
    simp only [Act.put, List.getElem_toArray, List.getElem_cons_zero, List.getElem_cons_succ, List.setIfInBounds_toArray, List.set_cons_zero, List.set_cons_succ]
    refine wpAnyH_take (i := 2) (v := ?_) rfl (by kernel_rfl) (by kernel_rfl) (by kernel_rfl) (fun _ _ _ h => h) (Or.inl ⟨by rfl, ?_⟩) hS ?_
    rotate_left
    · intro u hu
      obtain ⟨s1, s2, s3⟩ := hu
      go_simp
      try with_reducible rfl
    simp only [Act.put, List.getElem_toArray, List.getElem_cons_zero, List.getElem_cons_succ, List.setIfInBounds_toArray, List.set_cons_zero, List.set_cons_succ]
    refine wpAnyH_take (i := 3) (v := ?_) rfl (by kernel_rfl) (by kernel_rfl) (by kernel_rfl) (fun _ _ _ h => h) (Or.inl ⟨by rfl, ?_⟩) hS ?_
    rotate_left
    · intro u hu
      obtain ⟨s1, s2, s3⟩ := hu
      go_simp
      try with_reducible rfl
    simp only [Act.put, List.getElem_toArray, List.getElem_cons_zero, List.getElem_cons_succ, List.setIfInBounds_toArray, List.set_cons_zero, List.set_cons_succ]
    refine wpAnyH_take (i := 4) (v := ?_) rfl (by kernel_rfl) (by kernel_rfl) (by kernel_rfl) (fun _ _ _ h => h) (Or.inl ⟨by rfl, ?_⟩) hS ?_
    rotate_left
    · intro u hu
      obtain ⟨s1, s2, s3⟩ := hu
      go_simp
      try with_reducible rfl
    simp only [Act.put, List.getElem_toArray, List.getElem_cons_zero, List.getElem_cons_succ, List.setIfInBounds_toArray, List.set_cons_zero, List.set_cons_succ]
    refine wpAnyH_take (i := 5) (v := ?_) rfl (by kernel_rfl) (by kernel_rfl) (by kernel_rfl) (fun _ _ _ h => h) (Or.inl ⟨by rfl, ?_⟩) hS ?_
    rotate_left
    · intro u hu
      obtain ⟨s1, s2, s3⟩ := hu
      go_simp
      try with_reducible rfl
    simp only [Act.put, List.getElem_toArray, List.getElem_cons_zero, List.getElem_cons_succ, List.setIfInBounds_toArray, List.set_cons_zero, List.set_cons_succ]
    refine wpAnyH_done (by kernel_rfl) ?_ _
    refine hK3 _ _ ?_
    clear hK3 K3 hS
    have hs1d := hs1.quiet ((Only.refl (fun _ => False) U1).drew)
    have kp1d := kp1.trans (KpB.quiet (B0 := w1.heap.size) ((Only.refl (fun _ => False) U1).drew))
    have st1d : U1.drew.heap[w1.heap.size]? = U.heap[w1.heap.size]? ∧ U1.drew.heap[w1.heap.size + 1]? = U.heap[w1.heap.size + 1]? := st1
    have hM1d := hM1.keeps (S := fun _ => False) ((Only.refl _ U1).drew) id
    have hcd := hcU.quiet ((Only.refl (fun _ => False) U1).drew)
    clear hs1 kp1 st1 hM1 hcU
    generalize U1.drew = U2 at *
    by_cases hnth : (pre.length : Int) + 1 < c.nth
    · rw [if_pos hnth] at hif
      have heq2 := heq
      simp only [Adz.substGo] at heq2
      rw [if_pos hnth] at heq2
      refine wpIn_cond (t := true) (by first | rfl | simp [Act.eval, hnth]) ?_
      refine wpIn_exit ?_
      refine ⟨st1d, kp1d, (hI.out _ _).2 ⟨k, ch, f, a, N, c', ?_, ?_, ?_⟩⟩
      · rw [List.length_append]; exact hs1d
      · rw [List.length_append]; exact heq2
      · rw [List.length_append]; exact hif
    · rw [if_neg hnth] at hif
      refine wpIn_cond (t := false) (by first | rfl | simp [Act.eval, hnth]) ?_
      refine wpIn_skip ?_
      refine hK2 _ _ ?_
      clear hK2 K2
      have c5 := hs1d.box.c5
      have f5 := hs1d.box.f5
      refine wpIn_seq_k fun K7 hK7 => ?_
      refine region_inRound rfl (fun ⟨_, _, h⟩ => h) ?_
      go_wp2
      clear c5 f5
      obtain ⟨hs3, kp3⟩ := hs1d.upd rfl hBl (only_set U2 (w.heap.size + 1 + 1 + 1 + 1 + 1) 0 (.bool true)) (by omega) (by omega) (Or.inr hs1d.box.t5) (hs1d.box.set5 true)
      have hM3 := hM1d.keeps (only_set U2 (w.heap.size + 1 + 1 + 1 + 1 + 1) 0 (.bool true)) (by omega)
      have hz2 : U.heap.size ≤ U2.heap.size := by obtain ⟨S, o, _⟩ := kp1d; exact o.size
      have bl3 := (only_set U2 (w.heap.size + 1 + 1 + 1 + 1 + 1) 0 (.bool true)).block
      have st3 : (U2.setCell ⟨w.heap.size + 1 + 1 + 1 + 1 + 1, 0, none⟩ (.bool true)).heap[w1.heap.size]? = U.heap[w1.heap.size]? ∧ (U2.setCell ⟨w.heap.size + 1 + 1 + 1 + 1 + 1, 0, none⟩ (.bool true)).heap[w1.heap.size + 1]? = U.heap[w1.heap.size + 1]? := ⟨(bl3 _ (by omega) (by omega)).trans st1d.1, (bl3 _ (by omega) (by omega)).trans st1d.2⟩
      have kp3' := kp1d.trans kp3
      clear bl3 kp3 kp1d st1d hM1d hs1d hcd
      generalize U2.setCell ⟨w.heap.size + 1 + 1 + 1 + 1 + 1, 0, none⟩ (.bool true) = U3 at *
      -- what is ahead of the match is laid behind what was changed
      obtain ⟨mf, hmf⟩ : ∃ mf : Nat, x.getD 0 0 = mf := ⟨(x.getD 0 0).toNat, by have := hm01.1; omega⟩
      obtain ⟨mt, hmt⟩ : ∃ mt : Nat, x.getD 1 0 = mt := ⟨(x.getD 1 0).toNat, by have := hm01.1; have := hm01.2.1; omega⟩
      have hin1 := hk0
      rw [hmf] at hin1
      have hin2 := hm01
      rw [hmf, hmt] at hin2
      have hx1 : k ≤ mf := by have := hin1.2.1; omega
      have hx2 : mf ≤ sp.length := by have := hin1.2.2; omega
      have hx3 : mf ≤ mt := by have := hin2.2.1; omega
      have hx4 : mt ≤ sp.length := by have := hin2.2.2; omega
      have hx5 : mf ≤ rc := by omega
      clear hin1 hin2
      have hsegl := Adz.seg_len sp k mf hx1 hx2
      have od3 : Only (fun _ => False) U3 U3.drew := (Only.refl _ U3).drew
      have hs3d := hs3.quiet od3
      have h4d := hs3d.only.keeps h4 (tsr he (by decide))
      have hsld := hsl.keeps hs3d.only (fun b o e => by
        rcases hsl with ⟨e2, _⟩ | ⟨rb, ro, e2, ht, _⟩
        · rw [e2] at e; cases e
        · rw [e2] at e; injection e with e; injection e with e1 e2; subst e1; exact tsr ht (by decide))
      have m0 : U3.drew.cell? ⟨Bm, 0, none⟩ = some (.int .i64 mf) := by
        have := (hM3.keeps od3 id).cells 0 (.int .i64 mf) (by rw [List.getElem?_map, ← hmf, List.getD_eq_getElem?_getD, List.getElem?_eq_getElem (by omega)]; rfl)
        rwa [Nat.zero_add] at this
      have hcs := hsld.cut rc k mf hx1 hx2 hrc
      have hc2 := hs3d.box.c2
      have ht2 := hs3d.box.t2
      have hS : (fun u : World => u.cell? ⟨w.heap.size, 0, none⟩ = some (.pointer (some ⟨eb, 0, none⟩)) ∧ u.cell? ⟨eb, 4, none⟩ = some (.slice ra sp.length rc) ∧ u.cell? ⟨w.heap.size + 1 + 1 + 1, 0, none⟩ = some (.int .i64 k) ∧ u.cell? ⟨Bm, 0, none⟩ = some (.int .i64 mf)) U3.drew := ⟨hs3d.box.c0, h4d, hs3d.box.c3, m0⟩
      refine wpIn_seq_k fun K8 hK8 => ?_
      refine region_inRound_any (by kernel_rfl) rfl (fun ⟨_, _, h⟩ => h) ?_
      refine wpAny_of_held (S := fun u : World => u.cell? ⟨w.heap.size, 0, none⟩ = some (.pointer (some ⟨eb, 0, none⟩)) ∧ u.cell? ⟨eb, 4, none⟩ = some (.slice ra sp.length rc) ∧ u.cell? ⟨w.heap.size + 1 + 1 + 1, 0, none⟩ = some (.int .i64 k) ∧ u.cell? ⟨Bm, 0, none⟩ = some (.int .i64 mf)) _ _ _ _ ?_
      refine wpAnyH_take (i := 1) (v := ?_) rfl (by kernel_rfl) (by kernel_rfl) (by kernel_rfl) (fun _ _ _ h => h) (Or.inl ⟨by rfl, ?_⟩) hS ?_
      rotate_left
      · intro u hu
        obtain ⟨s1, s2, s3, s4⟩ := hu
        go_simp
        try with_reducible rfl
      simp only [Act.put, List.getElem_toArray, List.getElem_cons_zero, List.getElem_cons_succ, List.setIfInBounds_toArray, List.set_cons_zero, List.set_cons_succ]
      refine wpAnyH_take (i := 2) (v := ?_) rfl (by kernel_rfl) (by kernel_rfl) (by kernel_rfl) (fun _ _ _ h => h) (Or.inl ⟨by rfl, ?_⟩) hS ?_
      rotate_left
      · intro u hu
        obtain ⟨s1, s2, s3, s4⟩ := hu
        go_simp
        try with_reducible rfl
      simp only [Act.put, List.getElem_toArray, List.getElem_cons_zero, List.getElem_cons_succ, List.setIfInBounds_toArray, List.set_cons_zero, List.set_cons_succ]
      refine wpAnyH_take (i := 3) (v := ?_) rfl (by kernel_rfl) (by kernel_rfl) (by kernel_rfl) (fun _ _ _ h => h) (Or.inl ⟨by rfl, ?_⟩) hS ?_
      rotate_left
      · intro u hu
        obtain ⟨s1, s2, s3, s4⟩ := hu
        go_simp
        try with_reducible rfl
      simp only [Act.put, List.getElem_toArray, List.getElem_cons_zero, List.getElem_cons_succ, List.setIfInBounds_toArray, List.set_cons_zero, List.set_cons_succ]
      refine wpAnyH_take (i := 4) (v := ?_) rfl (by kernel_rfl) (by kernel_rfl) (by kernel_rfl) (fun _ _ _ h => h) (Or.inl ⟨by rfl, ?_⟩) hS ?_
      rotate_left
      · intro u hu
        obtain ⟨s1, s2, s3, s4⟩ := hu
        go_simp
        try with_reducible rfl
      simp only [Act.put, List.getElem_toArray, List.getElem_cons_zero, List.getElem_cons_succ, List.setIfInBounds_toArray, List.set_cons_zero, List.set_cons_succ]
      refine wpAnyH_take (i := 5) (v := ?_) rfl (by kernel_rfl) (by kernel_rfl) (by kernel_rfl) (fun _ _ _ h => h) (Or.inl ⟨by rfl, ?_⟩) hS ?_
      rotate_left
      · intro u hu
        obtain ⟨s1, s2, s3, s4⟩ := hu
        go_simp
        try with_reducible rfl
      simp only [Act.put, List.getElem_toArray, List.getElem_cons_zero, List.getElem_cons_succ, List.setIfInBounds_toArray, List.set_cons_zero, List.set_cons_succ]
      refine wpAnyH_take (i := 6) (v := ?_) rfl (by kernel_rfl) (by kernel_rfl) (by kernel_rfl) (fun _ _ _ h => h) (Or.inl ⟨by rfl, ?_⟩) hS ?_
      rotate_left
      · intro u hu
        obtain ⟨s1, s2, s3, s4⟩ := hu
        go_simp
        try with_reducible rfl
      simp only [Act.put, List.getElem_toArray, List.getElem_cons_zero, List.getElem_cons_succ, List.setIfInBounds_toArray, List.set_cons_zero, List.set_cons_succ]
      refine wpAnyH_take (i := 7) (v := ?_) rfl (by kernel_rfl) (by kernel_rfl) (by kernel_rfl) (fun _ _ _ h => h) (Or.inl ⟨by rfl, ?_⟩) hS ?_
      rotate_left
      · intro u hu
        obtain ⟨s1, s2, s3, s4⟩ := hu
        go_simp
        try with_reducible rfl
      simp only [Act.put, List.getElem_toArray, List.getElem_cons_zero, List.getElem_cons_succ, List.setIfInBounds_toArray, List.set_cons_zero, List.set_cons_succ]
      refine wpAnyH_take (i := 8) (v := ?_) rfl (by kernel_rfl) (by kernel_rfl) (by kernel_rfl) (fun _ _ _ h => h) (Or.inl ⟨by rfl, ?_⟩) hS ?_
      rotate_left
      · intro u hu
        obtain ⟨s1, s2, s3, s4⟩ := hu
        go_simp
        try with_reducible rfl
      simp only [Act.put, List.getElem_toArray, List.getElem_cons_zero, List.getElem_cons_succ, List.setIfInBounds_toArray, List.set_cons_zero, List.set_cons_succ]
      refine wpAnyH_take (i := 9) (v := ?_) rfl (by kernel_rfl) (by kernel_rfl) (by kernel_rfl) (fun _ _ _ h => h) (Or.inl ⟨by rfl, ?_⟩) hS ?_
      rotate_left
      · intro u hu
        obtain ⟨s1, s2, s3, s4⟩ := hu
        go_simp
        try with_reducible rfl
      simp only [Act.put, List.getElem_toArray, List.getElem_cons_zero, List.getElem_cons_succ, List.setIfInBounds_toArray, List.set_cons_zero, List.set_cons_succ]
      refine wpAnyH_ready (rs := [0]) (by kernel_rfl) (by simp) (AllReadyH.cons rfl (fun K' hK' => ?_) AllReadyH.nil)
      go_simp
      refine hK'.out _ _ hS (fun hS => ?_)
      clear hK' K'
      refine wpAnyH_ready (rs := [10]) (by kernel_rfl) (by simp) (AllReadyH.cons rfl (fun K' hK' => ?_) AllReadyH.nil)
      refine step_append_runes _ (by rfl) _ _ (by rfl) w.heap.size (.slice a N c') N ch (by rfl) hs3d.row _ _ (Adz.seg sp k mf) _ (by rfl) hsegl.symm hcs (by have := hs3d.len; omega) (by have := hs3d.only.size; omega) ?_
      intro a2 c2 w2 hown2 ho2 hat2
      generalize (if rc = k then ra else Option.map (fun x => x.add k) ra) = sa at *
      have nown : ∀ b, (Value.slice a N c').ownBlock = some b → w1.heap.size + 1 < b := hs3d.own
      have hbx2 := hs3d.box.keeps ho2 (fun b h1 h2 e => by have := nown b e; omega)
      have ty2 : ∀ {b : Nat} {T : TypeId}, Typ U3.drew b T → T ≠ 21 → ¬ (Value.slice a N c').ownBlock = some b := fun h1 h2 e => h2 (h1.one (Typ.of_row hs3d.row e))
      have heU := he.keeps hs3d.only (tsr he (by decide))
      have h42 := ho2.keeps h4d (ty2 heU (by decide))
      have hMd := hM3.keeps od3 id
      have hM2 := hMd.keeps ho2 (ty2 hMd.typ (by decide))
      have m02 := ho2.keeps m0 (ty2 hMd.typ (by decide))
      refine hK'.out _ _ ⟨hbx2.c0, h42, hbx2.c3, m02⟩ (fun hS => ?_)
      clear hK' K'
      simp only [Act.put, List.getElem_toArray, List.getElem_cons_zero, List.getElem_cons_succ, List.setIfInBounds_toArray, List.set_cons_zero, List.set_cons_succ]
      refine wpAnyH_ready (rs := [11]) (by kernel_rfl) (by simp) (AllReadyH.cons rfl (fun K' hK' => ?_) AllReadyH.nil)
      have bc2 := hbx2.c2
      have bf2 := hbx2.f2
      have hat3 : ∀ b, (Value.slice a2 (N + (mf - k)) c2).ownBlock = some b → (Value.slice a N c').ownBlock = some b ∨ w1.heap.size + 1 < b := fun b hb => by
        rcases hat2 with e | e
        · exact Or.inl (e ▸ hb)
        · rw [e] at hb; injection hb with hb; right
          have e3 : U3.drew.heap.size = U3.heap.size := rfl
          have := (Array.getElem?_eq_some_iff.1 (show U3.heap[w1.heap.size + 1]? = some _ from st3.2.trans (Array.getElem?_eq_getElem hsz))).1
          omega
      obtain ⟨hs4, kp4⟩ := hs3d.append rfl hBl ho2 hown2 (by rw [List.length_append, hsegl, hs3d.len]) hat3
      have h44 := (only_set w2 (w.heap.size + 1 + 1) 0 (.slice a2 (N + (mf - k)) c2)).keeps h42 (by have e3 := he.lt; simp; omega)
      have hM4 := hM2.keeps (only_set w2 (w.heap.size + 1 + 1) 0 (.slice a2 (N + (mf - k)) c2)) (by omega)
      have m04 := (only_set w2 (w.heap.size + 1 + 1) 0 (.slice a2 (N + (mf - k)) c2)).keeps m02 (by simp; omega)
      go_simp
      refine hK'.out _ _ ⟨hs4.box.c0, h44, hs4.box.c3, m04⟩ (fun hS => ?_)
      clear hK' K'
      refine wpAnyH_done (by kernel_rfl) ?_ _
      refine hK8 _ _ ?_
      clear hK8 K8 hS
      have kp4' := (kp3'.trans (KpB.quiet (B0 := w1.heap.size) od3)).trans kp4
      have hz4 : U.heap.size ≤ (w2.setCell ⟨w.heap.size + 1 + 1, 0, none⟩ (.slice a2 (N + (mf - k)) c2)).heap.size := by obtain ⟨S, o, _⟩ := kp4'; exact o.size
      have oall : Only (fun b => b ≠ w1.heap.size ∧ b ≠ w1.heap.size + 1) U3 (w2.setCell ⟨w.heap.size + 1 + 1, 0, none⟩ (.slice a2 (N + (mf - k)) c2)) := by
        refine od3.trans ((ho2.trans (only_set w2 (w.heap.size + 1 + 1) 0 (.slice a2 (N + (mf - k)) c2)) (fun _ e => Or.inl e) (fun _ _ e => Or.inr e) : Only (fun b => (Value.slice a N c').ownBlock = some b ∨ b = w.heap.size + 1 + 1) _ _)) (fun _ e => e.elim) (fun b hb e => ?_)
        rcases e with e | e
        · have := nown b e; omega
        · omega
      have hU3 : w1.heap.size + 1 < U3.heap.size := (Array.getElem?_eq_some_iff.1 (show U3.heap[w1.heap.size + 1]? = some _ from st3.2.trans (Array.getElem?_eq_getElem hsz))).1
      have st4 : (w2.setCell ⟨w.heap.size + 1 + 1, 0, none⟩ (.slice a2 (N + (mf - k)) c2)).heap[w1.heap.size]? = U.heap[w1.heap.size]? ∧ (w2.setCell ⟨w.heap.size + 1 + 1, 0, none⟩ (.slice a2 (N + (mf - k)) c2)).heap[w1.heap.size + 1]? = U.heap[w1.heap.size + 1]? := ⟨(oall.block _ (by omega) (by omega)).trans st3.1, (oall.block _ (by omega) (by omega)).trans st3.2⟩
      clear oall kp4 kp3' st3 hs3 hs3d hM3 hMd hM2 m02 m0 h42 h44 m04 h4d hsld hbx2 bc2 bf2 hown2 ho2 hat2 hat3 heU ty2 nown hc2 ht2 od3
      generalize hN2 : N + (mf - k) = N2 at *
      generalize w2.setCell ⟨w.heap.size + 1 + 1, 0, none⟩ (.slice a2 N2 c2) = U4 at *
      generalize hch2 : ch ++ Adz.seg sp k mf = ch2 at *
      -- the match's replacement
      have od4 : Only (fun _ => False) U4 U4.drew := (Only.refl _ U4).drew
      have hs4d := hs4.quiet od4
      have h4d := hs4d.only.keeps h4 (tsr he (by decide))
      have hsld := hsl.keeps hs4d.only (fun b o e => by
        rcases hsl with ⟨e2, _⟩ | ⟨rb, ro, e2, ht, _⟩
        · rw [e2] at e; cases e
        · rw [e2] at e; injection e with e; injection e with e1 e2; subst e1; exact tsr ht (by decide))
      have hcd := hc.keeps hs4d.only (fun b hb => tsr hb (by decide)) (fun b hb => tsr hb (by decide)) (fun b hb => tsr hb (by decide)) (fun b hb => tsr hb (by decide))
      obtain ⟨pa, pc, p1, p2⟩ := hcd.parts
      have hMd := hM4.keeps od4 id
      have hc2 := hs4d.box.c2
      obtain ⟨hfits, hrl, hchl2, hall⟩ := hif
      rw [hmf, hch2] at hchl2 hall
      have hlen2 := hs4d.len
      subst hlen2
      have hsep : ∀ b o, ra = some ⟨b, o, none⟩ → (Value.slice a2 ch2.length c2).ownBlock ≠ some b := fun b o e e2 => by
        have := hs4d.own b e2
        rcases hsl with ⟨e3, _⟩ | ⟨rb, ro, e3, ht, _⟩
        · rw [e3] at e; cases e
        · rw [e3] at e; injection e with e; injection e with e1 e4; subst e1
          have := ht.lt; omega
      have hcall := replace_calls c.repl pa pc U4.drew p2 hpl w.heap.size (by have := hs4d.only.size; omega) a2 c2 ch2 hs4d.row ra rc sp hsld hrc hsep Bm x hMd hfits hm01 (by simp only [List.length_append] at hchl2; omega)
      have hS : (fun u : World => u.cell? ⟨w.heap.size + 1, 0, none⟩ = some (.pointer (some ⟨cb, co, none⟩)) ∧ u.cell? ⟨cb, co + 2, none⟩ = some (.slice pa c.repl.length pc) ∧ u.cell? ⟨w.heap.size, 0, none⟩ = some (.pointer (some ⟨eb, 0, none⟩)) ∧ u.cell? ⟨eb, 4, none⟩ = some (.slice ra sp.length rc)) U4.drew := ⟨hs4d.box.c1, p1, hs4d.box.c0, h4d⟩
      refine wpIn_seq_k fun K9 hK9 => ?_
      refine region_inRound_any (by kernel_rfl) rfl (fun ⟨_, _, h⟩ => h) ?_
      refine wpAny_of_held (S := fun u : World => u.cell? ⟨w.heap.size + 1, 0, none⟩ = some (.pointer (some ⟨cb, co, none⟩)) ∧ u.cell? ⟨cb, co + 2, none⟩ = some (.slice pa c.repl.length pc) ∧ u.cell? ⟨w.heap.size, 0, none⟩ = some (.pointer (some ⟨eb, 0, none⟩)) ∧ u.cell? ⟨eb, 4, none⟩ = some (.slice ra sp.length rc)) _ _ _ _ ?_
      refine wpAnyH_take (i := 1) (v := ?_) rfl (by kernel_rfl) (by kernel_rfl) (by kernel_rfl) (fun _ _ _ h => h) (Or.inl ⟨by rfl, ?_⟩) hS ?_
      rotate_left
      · intro u hu
        obtain ⟨s1, s2, s3, s4⟩ := hu
        go_simp
        try with_reducible rfl
      simp only [Act.put, List.getElem_toArray, List.getElem_cons_zero, List.getElem_cons_succ, List.setIfInBounds_toArray, List.set_cons_zero, List.set_cons_succ]
      refine wpAnyH_take (i := 2) (v := ?_) rfl (by kernel_rfl) (by kernel_rfl) (by kernel_rfl) (fun _ _ _ h => h) (Or.inl ⟨by rfl, ?_⟩) hS ?_
      rotate_left
      · intro u hu
        obtain ⟨s1, s2, s3, s4⟩ := hu
        go_simp
        try with_reducible rfl
      simp only [Act.put, List.getElem_toArray, List.getElem_cons_zero, List.getElem_cons_succ, List.setIfInBounds_toArray, List.set_cons_zero, List.set_cons_succ]
      refine wpAnyH_take (i := 3) (v := ?_) rfl (by kernel_rfl) (by kernel_rfl) (by kernel_rfl) (fun _ _ _ h => h) (Or.inl ⟨by rfl, ?_⟩) hS ?_
      rotate_left
      · intro u hu
        obtain ⟨s1, s2, s3, s4⟩ := hu
        go_simp
        try with_reducible rfl
      simp only [Act.put, List.getElem_toArray, List.getElem_cons_zero, List.getElem_cons_succ, List.setIfInBounds_toArray, List.set_cons_zero, List.set_cons_succ]
      refine wpAnyH_take (i := 4) (v := ?_) rfl (by kernel_rfl) (by kernel_rfl) (by kernel_rfl) (fun _ _ _ h => h) (Or.inl ⟨by rfl, ?_⟩) hS ?_
      rotate_left
      · intro u hu
        obtain ⟨s1, s2, s3, s4⟩ := hu
        go_simp
        try with_reducible rfl
      simp only [Act.put, List.getElem_toArray, List.getElem_cons_zero, List.getElem_cons_succ, List.setIfInBounds_toArray, List.set_cons_zero, List.set_cons_succ]
      refine wpAnyH_take (i := 5) (v := ?_) rfl (by kernel_rfl) (by kernel_rfl) (by kernel_rfl) (fun _ _ _ h => h) (Or.inl ⟨by rfl, ?_⟩) hS ?_
      rotate_left
      · intro u hu
        obtain ⟨s1, s2, s3, s4⟩ := hu
        go_simp
        try with_reducible rfl
      simp only [Act.put, List.getElem_toArray, List.getElem_cons_zero, List.getElem_cons_succ, List.setIfInBounds_toArray, List.set_cons_zero, List.set_cons_succ]
      refine wpAnyH_take (i := 6) (v := ?_) rfl (by kernel_rfl) (by kernel_rfl) (by kernel_rfl) (fun _ _ _ h => h) (Or.inl ⟨by rfl, ?_⟩) hS ?_
      rotate_left
      · intro u hu
        obtain ⟨s1, s2, s3, s4⟩ := hu
        go_simp
        try with_reducible rfl
      simp only [Act.put, List.getElem_toArray, List.getElem_cons_zero, List.getElem_cons_succ, List.setIfInBounds_toArray, List.set_cons_zero, List.set_cons_succ]
      refine wpAnyH_take (i := 7) (v := ?_) rfl (by kernel_rfl) (by kernel_rfl) (by kernel_rfl) (fun _ _ _ h => h) (Or.inl ⟨by rfl, ?_⟩) hS ?_
      rotate_left
      · intro u hu
        obtain ⟨s1, s2, s3, s4⟩ := hu
        go_simp
        try with_reducible rfl
      simp only [Act.put, List.getElem_toArray, List.getElem_cons_zero, List.getElem_cons_succ, List.setIfInBounds_toArray, List.set_cons_zero, List.set_cons_succ]
      refine wpAnyH_take (i := 8) (v := ?_) rfl (by kernel_rfl) (by kernel_rfl) (by kernel_rfl) (fun _ _ _ h => h) (Or.inl ⟨by rfl, ?_⟩) hS ?_
      rotate_left
      · intro u hu
        obtain ⟨s1, s2, s3, s4⟩ := hu
        go_simp
        try with_reducible rfl
      simp only [Act.put, List.getElem_toArray, List.getElem_cons_zero, List.getElem_cons_succ, List.setIfInBounds_toArray, List.set_cons_zero, List.set_cons_succ]
      refine wpAnyH_ready (rs := [0]) (by kernel_rfl) (by simp) (AllReadyH.cons rfl (fun K' hK' => ?_) AllReadyH.nil)
      go_simp
      refine hK'.out _ _ hS (fun hS => ?_)
      clear hK' K'
      refine wpAnyH_ready (rs := [9]) (by kernel_rfl) (by simp) (AllReadyH.cons rfl (fun K' hK' => ?_) AllReadyH.nil)
      go_simp
      refine hcall.mono ?_
      clear hcall
      rintro e w3 ⟨a3, c3, N3, hN3, rfl, hown3, ho3, hat3⟩
      have nown : ∀ b, (Value.slice a2 ch2.length c2).ownBlock = some b → w1.heap.size + 1 < b := hs4d.own
      have ty4 : ∀ {b : Nat} {T : TypeId}, Typ U4.drew b T → T ≠ 21 → ¬ (Value.slice a2 ch2.length c2).ownBlock = some b := fun h1 h2 e => h2 (h1.one (Typ.of_row hs4d.row e))
      have hbx3 := hs4d.box.keeps ho3 (fun b h1 h2 e => by have := nown b e; omega)
      have heU := he.keeps hs4d.only (tsr he (by decide))
      have h43 := ho3.keeps h4d (ty4 heU (by decide))
      have p13 := ho3.keeps p1 (ty4 hcd.typ (by decide))
      have hM3 := hMd.keeps ho3 (ty4 hMd.typ (by decide))
      refine hK'.out _ _ ⟨hbx3.c1, p13, hbx3.c0, h43⟩ (fun hS => ?_)
      clear hK' K'
      refine wpAnyH_ready (rs := [10]) (by kernel_rfl) (by simp) (AllReadyH.cons rfl (fun K' hK' => ?_) AllReadyH.nil)
      have HN3 : Hid _ := hN3
      clear hN3
      have bc2 := hbx3.c2
      have bf2 := hbx3.f2
      have hU4 : w1.heap.size + 1 < U4.drew.heap.size := (Array.getElem?_eq_some_iff.1 (show U4.heap[w1.heap.size + 1]? = some _ from st4.2.trans (Array.getElem?_eq_getElem hsz))).1
      obtain ⟨hs5, kp5⟩ := hs4d.append rfl hBl ho3 hown3 (by rw [List.length_append]; exact HN3.out) (fun b hb => by
        rcases hat3 b hb with e | e
        · exact Or.inl e
        · right; omega)
      have os5 := only_set w3 (w.heap.size + 1 + 1) 0 (.slice a3 N3 c3)
      have h45 := os5.keeps h43 (by have e3 := he.lt; simp; omega)
      have p15 := os5.keeps p13 (by have e3 := hc.typ.lt; simp; omega)
      have hM5 := hM3.keeps os5 (by omega)
      go_simp
      refine hK'.out _ _ ⟨hs5.box.c1, p15, hs5.box.c0, h45⟩ (fun hS => ?_)
      clear hK' K'
      refine wpAnyH_done (by kernel_rfl) ?_ _
      refine hK9 _ _ ?_
      clear hK9 K9 hS
      have kp5' := (kp4'.trans (KpB.quiet (B0 := w1.heap.size) od4)).trans kp5
      have oall : Only (fun b => b ≠ w1.heap.size ∧ b ≠ w1.heap.size + 1) U4 (w3.setCell ⟨w.heap.size + 1 + 1, 0, none⟩ (.slice a3 N3 c3)) := by
        refine od4.trans ((ho3.trans os5 (fun _ e => Or.inl e) (fun _ _ e => Or.inr e) : Only (fun b => (Value.slice a2 ch2.length c2).ownBlock = some b ∨ b = w.heap.size + 1 + 1) _ _)) (fun _ e => e.elim) (fun b hb e => ?_)
        rcases e with e | e
        · have := nown b e; omega
        · omega
      have e4 : U4.drew.heap.size = U4.heap.size := rfl
      have st5 : (w3.setCell ⟨w.heap.size + 1 + 1, 0, none⟩ (.slice a3 N3 c3)).heap[w1.heap.size]? = U.heap[w1.heap.size]? ∧ (w3.setCell ⟨w.heap.size + 1 + 1, 0, none⟩ (.slice a3 N3 c3)).heap[w1.heap.size + 1]? = U.heap[w1.heap.size + 1]? := ⟨(oall.block _ (by omega) (by omega)).trans st4.1, (oall.block _ (by omega) (by omega)).trans st4.2⟩
      have hz5 : U.heap.size ≤ (w3.setCell ⟨w.heap.size + 1 + 1, 0, none⟩ (.slice a3 N3 c3)).heap.size := by obtain ⟨S, o, _⟩ := kp5'; exact o.size
      clear oall kp5 kp4' st4 hs4 hs4d hM4 hMd hM3 h43 h45 h4d hsld hbx3 bc2 bf2 hown3 ho3 hat3 heU ty4 nown hc2 od4 p1 p2 p13 p15 os5 hcd hsep e4 hU4 hz4
      generalize w3.setCell ⟨w.heap.size + 1 + 1, 0, none⟩ (.slice a3 N3 c3) = U5 at *
      -- up to where all is told
      have m1 : U5.cell? ⟨Bm, 1, none⟩ = some (.int .i64 mt) := by
        have := hM5.cells 1 (.int .i64 mt) (by rw [List.getElem?_map, ← hmt, List.getD_eq_getElem?_getD, List.getElem?_eq_getElem (by omega)]; rfl)
        rwa [Nat.zero_add] at this
      have c3' := hs5.box.c3
      have f3' := hs5.box.f3
      refine wpIn_seq_k fun K10 hK10 => ?_
      refine region_inRound rfl (fun ⟨_, _, h⟩ => h) ?_
      go_wp2
      clear c3' f3' m1
      obtain ⟨hs6, kp6⟩ := hs5.upd (k' := mt) rfl hBl (only_set U5 (w.heap.size + 1 + 1 + 1) 0 (.int .i64 mt)) (by omega) (by omega) (Or.inl hs5.box.t3) (hs5.box.set3 mt)
      have kp6' := kp5'.trans kp6
      have bl6 := (only_set U5 (w.heap.size + 1 + 1 + 1) 0 (.int .i64 mt)).block
      have st6 : (U5.setCell ⟨w.heap.size + 1 + 1 + 1, 0, none⟩ (.int .i64 mt)).heap[w1.heap.size]? = U.heap[w1.heap.size]? ∧ (U5.setCell ⟨w.heap.size + 1 + 1 + 1, 0, none⟩ (.int .i64 mt)).heap[w1.heap.size + 1]? = U.heap[w1.heap.size + 1]? := ⟨(bl6 _ (by omega) (by omega)).trans st5.1, (bl6 _ (by omega) (by omega)).trans st5.2⟩
      clear bl6 kp6 kp5' st5 hs5 hM5
      generalize U5.setCell ⟨w.heap.size + 1 + 1 + 1, 0, none⟩ (.int .i64 mt) = U6 at *
      have hc6 := hc.keeps hs6.only (fun b hb => tsr hb (by decide)) (fun b hb => tsr hb (by decide)) (fun b hb => tsr hb (by decide)) (fun b hb => tsr hb (by decide))
      have a6 := hc6.all
      have b6 := hs6.box.c1
      have heq2 := heq
      simp only [Adz.substGo] at heq2
      rw [if_neg (by omega), hmf, hmt, hch2, Int.toNat_natCast] at heq2
      rw [hmt, Int.toNat_natCast] at hall
      rcases hca : c.all with _ | _
      · rw [hca] at a6
        have e9 : Adz.substGo sp c.nth c.all c.repl ms 0 0 [] false = (mt, ch2 ++ Adz.replAll sp x c.repl, true) := by
          rw [heq2, hca]; rfl
        have H9 : Hid _ := e9
        have HCA : Hid _ := hca
        clear e9 heq2 heq hca
        refine wpIn_seq_k fun K11 hK11 => ?_
        refine region_inRound rfl (fun ⟨_, _, h⟩ => h) ?_
        go_wp2
        refine wpIn_cond (t := true) (by first | rfl | simp [Act.eval]) ?_
        refine wpIn_exit ?_
        refine ⟨st6, (hIx.out _ _ _).2 ⟨mt, ch2 ++ Adz.replAll sp x c.repl, true, a3, N3, c3, ?_, H9.out, rfl, hchl2, hx4⟩⟩
        rw [List.length_append]; exact hs6
      · rw [hca] at a6
        have e9 : Adz.substGo sp c.nth c.all c.repl ms 0 0 [] false = Adz.substGo sp c.nth c.all c.repl (ms.drop (pre.length + 1)) ((pre.length : Int) + 1) mt (ch2 ++ Adz.replAll sp x c.repl) true := by
          rw [heq2, if_pos hca]
        have h9 := hall hca
        have H9 : Hid _ := e9
        have HCA : Hid _ := hca
        have HOK : Hid _ := h9
        clear e9 heq2 heq hca h9 hall
        refine wpIn_seq_k fun K11 hK11 => ?_
        refine region_inRound rfl (fun ⟨_, _, h⟩ => h) ?_
        go_wp2
        refine wpIn_cond (t := false) (by first | rfl | simp [Act.eval]) ?_
        refine wpIn_skip ?_
        refine ⟨st6, kp6', (hI.out _ _).2 ⟨mt, ch2 ++ Adz.replAll sp x c.repl, true, a3, N3, c3, ?_, ?_, ?_⟩⟩
        · rw [List.length_append]; exact hs6
        · rw [List.length_append]; exact H9.out
        · rw [List.length_append]; exact HOK.out
  · intro xs W hxs hIW hD
    subst hxs
    obtain ⟨k, ch, f, a, N, c', hsi, heq, hrun⟩ := (hI.out _ _).1 hIW
    rw [List.drop_length] at heq hrun
    simp only [Adz.substGo] at heq
    obtain ⟨hks, hchl⟩ := hrun
    refine hK0 _ _ ?_
    clear hK0 K0 hI hIx I Ix hIW
    have c5 := hsi.box.c5
    have heW := he.keeps hsi.only (tsr he (by decide))
    have hEW := hE.keeps hsi.only (tsr he (by decide))
    have hlb : eb < w.heap.size := he.lt
    rcases f with _ | _
    · have hsub : Adz.subst sp c = sp := by unfold Adz.subst; rw [hms, heq]; rfl
      gi_wp2
      refine ⟨by simp, .inl ⟨_, _, rfl, run_takeDeferred hD, ?_⟩⟩
      have oP := only_putObj W w1.heap.size (.deferred none)
      refine ⟨_, results_none rfl _ _ _, ⟨_, rfl⟩, ra, rc, .bool r8, ?_, ⟨_, rfl⟩, ?_, ?_, heW.keeps oP (by omega), ?_, (shape_only oP heW.lt (by omega)).trans (shape_only hsi.only he.lt (tsr he (by decide)))⟩
      · rw [hsub, set_same hl4, set_same hl8]; exact hEW.keeps oP (by omega)
      · rw [hsub]
        refine (hsl.keeps hsi.only (fun b o e => ?_)).keeps oP (fun b o e => ?_)
        · rcases hsl with ⟨e2, _⟩ | ⟨rb, ro, e2, ht, _⟩
          · rw [e2] at e; cases e
          · rw [e2] at e; injection e with e; injection e with e1 e2; subst e1; exact tsr ht (by decide)
        · rcases hsl with ⟨e2, _⟩ | ⟨rb, ro, e2, ht, _⟩
          · rw [e2] at e; cases e
          · rw [e2] at e; injection e with e; injection e with e1 e2; subst e1; have := ht.lt; omega
      · rw [hsub]; exact hrc
      · exact hsi.only.trans oP (fun _ e => e.elim) (fun b hb e => by omega)
    · have hsub : Adz.subst sp c = ch ++ Adz.seg sp k sp.length := by
        unfold Adz.subst; rw [hms, heq]
        simp only [Adz.seg, Int.toNat_natCast, if_true]
        rw [List.take_of_length_le (by simp)]
      have hSB := hsub
      clear hsub
      have HSB : Hid _ := hSB
      clear hSB heq
      gi_wp2
      have hsegl := Adz.seg_len sp k sp.length hks (Nat.le_refl _)
      have od : Only (fun _ => False) W W.drew := (Only.refl _ W).drew
      have hsd := hsi.quiet od
      have h4d := hsd.only.keeps h4 (tsr he (by decide))
      have hsld := hsl.keeps hsd.only (fun b o e => by
        rcases hsl with ⟨e2, _⟩ | ⟨rb, ro, e2, ht, _⟩
        · rw [e2] at e; cases e
        · rw [e2] at e; injection e with e; injection e with e1 e2; subst e1; exact tsr ht (by decide))
      have hcs := hsld.cut rc k sp.length hks (Nat.le_refl _) hrc
      have hkr : k ≤ sp.length := hks
      have hS : (fun u : World => u.cell? ⟨w.heap.size, 0, none⟩ = some (.pointer (some ⟨eb, 0, none⟩)) ∧ u.cell? ⟨w.heap.size + 1 + 1, 0, none⟩ = some (.slice a N c') ∧ u.cell? ⟨w.heap.size + 1 + 1 + 1, 0, none⟩ = some (.int .i64 k)) W.drew := ⟨hsd.box.c0, hsd.box.c2, hsd.box.c3⟩
      refine wpIn_wide.2 ?_
      refine wp_region_noPanic ?_
      refine wp_region_held (S := fun u : World => u.cell? ⟨w.heap.size, 0, none⟩ = some (.pointer (some ⟨eb, 0, none⟩)) ∧ u.cell? ⟨w.heap.size + 1 + 1, 0, none⟩ = some (.slice a N c') ∧ u.cell? ⟨w.heap.size + 1 + 1 + 1, 0, none⟩ = some (.int .i64 k)) (by kernel_rfl) ?_
      change wpAnyH _ _ _ _ _ _ _ _ W.drew
      refine wpAnyH_take (i := 0) (v := ?_) rfl (by kernel_rfl) (by kernel_rfl) (by kernel_rfl) (fun _ _ _ h => h) (Or.inl ⟨by rfl, ?_⟩) hS ?_
      rotate_left
      · intro u hu
        obtain ⟨s1, s2, s3⟩ := hu
        go_simp
        try with_reducible rfl
      simp only [Act.put, List.getElem_toArray, List.getElem_cons_zero, List.setIfInBounds_toArray, List.set_cons_zero, List.set_cons_succ]
      refine wpAnyH_take (i := 1) (v := ?_) rfl (by kernel_rfl) (by kernel_rfl) (by kernel_rfl) (fun _ _ _ h => h) (Or.inl ⟨by rfl, ?_⟩) hS ?_
      rotate_left
      · intro u hu
        obtain ⟨s1, s2, s3⟩ := hu
        go_simp
        try with_reducible rfl
      simp only [Act.put, List.getElem_toArray, List.getElem_cons_zero, List.getElem_cons_succ, List.setIfInBounds_toArray, List.set_cons_zero, List.set_cons_succ]
      refine wpAnyH_take (i := 2) (v := ?_) rfl (by kernel_rfl) (by kernel_rfl) (by kernel_rfl) (fun _ _ _ h => h) (Or.inl ⟨by rfl, ?_⟩) hS ?_
      rotate_left
      · intro u hu
        obtain ⟨s1, s2, s3⟩ := hu
        go_simp
        try with_reducible rfl
      simp only [Act.put, List.getElem_toArray, List.getElem_cons_zero, List.getElem_cons_succ, List.setIfInBounds_toArray, List.set_cons_zero, List.set_cons_succ]
      refine wpAnyH_take (i := 3) (v := ?_) rfl (by kernel_rfl) (by kernel_rfl) (by kernel_rfl) (fun _ _ _ h => h) (Or.inl ⟨by rfl, ?_⟩) hS ?_
      rotate_left
      · intro u hu
        obtain ⟨s1, s2, s3⟩ := hu
        go_simp
        try with_reducible rfl
      simp only [Act.put, List.getElem_toArray, List.getElem_cons_zero, List.getElem_cons_succ, List.setIfInBounds_toArray, List.set_cons_zero, List.set_cons_succ]
      refine wpAnyH_take (i := 4) (v := ?_) rfl (by kernel_rfl) (by kernel_rfl) (by kernel_rfl) (fun _ _ _ h => h) (Or.inl ⟨by rfl, ?_⟩) hS ?_
      rotate_left
      · intro u hu
        obtain ⟨s1, s2, s3⟩ := hu
        go_simp
        try with_reducible rfl
      simp only [Act.put, List.getElem_toArray, List.getElem_cons_zero, List.getElem_cons_succ, List.setIfInBounds_toArray, List.set_cons_zero, List.set_cons_succ]
      refine wpAnyH_take (i := 6) (v := ?_) rfl (by kernel_rfl) (by kernel_rfl) (by kernel_rfl) (fun _ _ _ h => h) (Or.inl ⟨by rfl, ?_⟩) hS ?_
      rotate_left
      · intro u hu
        obtain ⟨s1, s2, s3⟩ := hu
        go_simp
        try with_reducible rfl
      simp only [Act.put, List.getElem_toArray, List.getElem_cons_zero, List.getElem_cons_succ, List.setIfInBounds_toArray, List.set_cons_zero, List.set_cons_succ]
      refine wpAnyH_ready (rs := [5]) (by kernel_rfl) (by simp) (AllReadyH.cons rfl (fun K' hK' => ?_) AllReadyH.nil)
      go_simp
      refine hK'.out _ _ hS (fun hS => ?_)
      clear hK' K'
      refine wpAnyH_take (i := 7) (v := ?_) rfl (by kernel_rfl) (by kernel_rfl) (by kernel_rfl) (fun _ _ _ h => h) (Or.inl ⟨by rfl, ?_⟩) hS ?_
      rotate_left
      · intro u hu
        obtain ⟨s1, s2, s3⟩ := hu
        go_simp
        try with_reducible rfl
      simp only [Act.put, List.getElem_toArray, List.getElem_cons_zero, List.getElem_cons_succ, List.setIfInBounds_toArray, List.set_cons_zero, List.set_cons_succ]
      refine wpAnyH_ready (rs := [8]) (by kernel_rfl) (by simp) (AllReadyH.cons rfl (fun K' hK' => ?_) AllReadyH.nil)
      refine step_append_runes _ (by rfl) _ _ (by rfl) w.heap.size (.slice a N c') N ch (by rfl) hsd.row _ _ (Adz.seg sp k sp.length) _ (by rfl) hsegl.symm hcs (by have := hsd.len; omega) (by have := hsd.only.size; omega) ?_
      intro a2 c2 w2 hown2 ho2 hat2
      generalize (if rc = k then ra else Option.map (fun x => x.add k) ra) = sa at *
      have nown : ∀ b, (Value.slice a N c').ownBlock = some b → w1.heap.size + 1 < b := hsd.own
      have hbx2 := hsd.box.keeps ho2 (fun b h1 h2 e => by have := nown b e; omega)
      refine hK'.out _ _ ⟨hbx2.c0, hbx2.c2, hbx2.c3⟩ (fun hS => ?_)
      clear hK' K'
      simp only [Act.put, List.getElem_toArray, List.getElem_cons_zero, List.getElem_cons_succ, List.setIfInBounds_toArray, List.set_cons_zero, List.set_cons_succ]
      refine wpAnyH_take (i := 9) (v := ?_) rfl (by kernel_rfl) (by kernel_rfl) (by kernel_rfl) (fun _ _ _ h => h) (Or.inl ⟨by rfl, ?_⟩) hS ?_
      rotate_left
      · intro u hu
        obtain ⟨s1, s2, s3⟩ := hu
        go_simp
        try with_reducible rfl
      simp only [Act.put, List.getElem_toArray, List.getElem_cons_zero, List.getElem_cons_succ, List.setIfInBounds_toArray, List.set_cons_zero, List.set_cons_succ]
      refine wpAnyH_take (i := 10) (v := ?_) rfl (by kernel_rfl) (by kernel_rfl) (by kernel_rfl) (fun _ _ _ h => h) (Or.inl ⟨by rfl, ?_⟩) hS ?_
      rotate_left
      · intro u hu
        obtain ⟨s1, s2, s3⟩ := hu
        go_simp
        try with_reducible rfl
      simp only [Act.put, List.getElem_toArray, List.getElem_cons_zero, List.getElem_cons_succ, List.setIfInBounds_toArray, List.set_cons_zero, List.set_cons_succ]
      have nb : ∀ b, (Value.slice a N c').ownBlock = some b → ¬ b = eb := fun b e => by have := nown b e; omega
      have hEd := hEW.keeps od id
      have hE2 := hEd.keeps ho2 (fun e => nb eb e rfl)
      have e4 := hE2 4 _ hl4
      have g4 := e4.1
      have f4 := e4.2
      refine wpAnyH_ready (rs := [11]) (by kernel_rfl) (by simp) (AllReadyH.cons rfl (fun K' hK' => ?_) AllReadyH.nil)
      have os3 := only_set w2 eb 4 (.slice a2 (N + (sp.length - k)) c2)
      have hbx3 := hbx2.keeps os3 (fun b h1 h2 e => by omega)
      go_simp
      refine hK'.out _ _ ⟨hbx3.c0, hbx3.c2, hbx3.c3⟩ (fun hS => ?_)
      clear hK' K' e4 g4 f4
      refine wpAnyH_done (by kernel_rfl) ?_ _
      refine NoPanic.normal ?_
      have nbn : ∀ b, (Value.slice a2 (N + (sp.length - k)) c2).ownBlock = some b → b ≠ eb ∧ b ≠ w1.heap.size := fun b hb => by
        have hDl := (Array.getElem?_eq_some_iff.1 hD).1
        have ez : W.drew.heap.size = W.heap.size := rfl
        rcases hat2 with e | e
        · have := nown b (e ▸ hb); omega
        · rw [e] at hb; injection hb with hb; omega
      have hsl2 := Sl.of_row hown2
      have hE3 := hE2.set 4 (.slice a2 (N + (sp.length - k)) c2)
      have hE3' : (l.set 4 (.slice a2 (N + (sp.length - k)) c2))[8]? = some (.bool r8) := by rw [List.getElem?_set_ne (by omega)]; exact hl8
      have hE4 := hE3.set 8 (.bool true)
      have g8 := (hE3 8 _ hE3').1
      have f8 := (hE3 8 _ hE3').2
      have hsl3 := hsl2.1.keeps os3 (fun b o e => by subst e; exact (nbn b rfl).1)
      have os4 := only_set (w2.setCell ⟨eb, 4, none⟩ (.slice a2 (N + (sp.length - k)) c2)) eb 8 (.bool true)
      have hsl4 := hsl3.keeps os4 (fun b o e => by subst e; exact (nbn b rfl).1)
      have he4 : Typ ((w2.setCell ⟨eb, 4, none⟩ (.slice a2 (N + (sp.length - k)) c2)).setCell ⟨eb, 8, none⟩ (.bool true)) eb 108 := (((heW.keeps od id).keeps ho2 (fun e => nb eb e rfl)).setCell _ _).setCell _ _
      have hbx4 := hbx3.keeps os4 (fun b h1 h2 e => by omega)
      have oAll : Only (fun b => b = eb ∨ False) w ((w2.setCell ⟨eb, 4, none⟩ (.slice a2 (N + (sp.length - k)) c2)).setCell ⟨eb, 8, none⟩ (.bool true)) := by
        have h1 : Only (fun b => b = eb ∨ False) w w2 := hsd.only.trans ho2 (fun _ e => Or.inr e) (fun b hb e => by have := nown b e; omega)
        exact Only.setCell (p := ⟨eb, 8, none⟩) (Only.setCell (p := ⟨eb, 4, none⟩) h1 (fun _ => Or.inl rfl) _) (fun _ => Or.inl rfl) _
      have hDd : ((w2.setCell ⟨eb, 4, none⟩ (.slice a2 (N + (sp.length - k)) c2)).setCell ⟨eb, 8, none⟩ (.bool true)).heap[w1.heap.size]? = some (.deferred (some [])) := by
        have hDl := (Array.getElem?_eq_some_iff.1 hD).1
        have h1 : w2.heap[w1.heap.size]? = some (.deferred (some [])) := (ho2.block _ hDl (fun e => by have := nown _ e; omega)).trans hD
        have h2 := (os3.block w1.heap.size (Array.getElem?_eq_some_iff.1 h1).1 (by omega)).trans h1
        exact (os4.block w1.heap.size (Array.getElem?_eq_some_iff.1 h2).1 (by omega)).trans h2
      have hc4 : ((w2.setCell ⟨eb, 4, none⟩ (.slice a2 (N + (sp.length - k)) c2)).setCell ⟨eb, 8, none⟩ (.bool true)).cell? ⟨cb, co + 4, none⟩ = some (.bool c.print) := oAll.keeps hc.print (fun e => by
        rcases e with e | e
        · exact (he.ne hc.typ (by decide)) e.symm
        · exact tsr hc.typ (by decide) e)
      rw [hpr] at hc4
      have hNL : Hid ((Adz.subst sp c).length = N + (sp.length - k)) := by show _ = _; rw [HSB.out, List.length_append, hsegl, hsd.len]
      have hcap := hsl2.2
      have hshp : Hid (((w2.setCell ⟨eb, 4, none⟩ (.slice a2 (N + (sp.length - k)) c2)).setCell ⟨eb, 8, none⟩ (.bool true)).shape? eb = w.shape? eb) := shape_set.trans (shape_set.trans ((shape_only ho2 (heW.keeps od id).lt (fun e => nb eb e rfl)).trans (shape_only hsd.only he.lt (tsr he (by decide)))))
      have q0 := hbx3.c0
      have q1 := hbx4.c1
      clear hE2 hE3 hEd hbx2 hbx3 hbx4 hsd hsi hown2 ho2 hat2 hsl2 hsl3 nown nb od os3 os4 hS c5 hcs hsld h4d
      gi_wp2
      refine ⟨by simp, .inl ⟨_, _, rfl, run_takeDeferred hDd, ?_⟩⟩
      have oP := only_putObj ((w2.setCell ⟨eb, 4, none⟩ (.slice a2 (N + (sp.length - k)) c2)).setCell ⟨eb, 8, none⟩ (.bool true)) w1.heap.size (.deferred none)
      refine ⟨_, results_none rfl _ _ _, ⟨_, rfl⟩, a2, c2, .bool true, ?_, (by first | exact ⟨_, rfl⟩ | exact Or.inr rfl), ?_, ?_, he4.keeps oP (by omega), ?_, (shape_only oP he4.lt (by omega)).trans hshp.out⟩
      · rw [hNL.out]; exact hE4.keeps oP (by omega)
      · rw [HSB.out]; exact hsl4.keeps oP (fun b o e => by subst e; exact (nbn b rfl).2)
      · rw [hNL.out]; exact hcap
      · exact oAll.trans oP (fun _ e => e.elim id False.elim) (fun b hb e => by omega)
  · intro code pre W hsp hIW hD
    obtain ⟨k, ch, f, a, N, c', hsi, heq, rfl, hchl, hks⟩ := (hIx.out _ _ _).1 hIW
    refine wpIn_exit ?_
    refine hK0 _ _ ?_
    clear hK0 K0 hI hIx I Ix hIW
    have c5 := hsi.box.c5
    have heW := he.keeps hsi.only (tsr he (by decide))
    have hEW := hE.keeps hsi.only (tsr he (by decide))
    have hlb : eb < w.heap.size := he.lt
    rcases f with _ | _
    · have hsub : Adz.subst sp c = sp := by unfold Adz.subst; rw [hms, heq]; rfl
      gi_wp2
      refine ⟨by simp, .inl ⟨_, _, rfl, run_takeDeferred hD, ?_⟩⟩
      have oP := only_putObj W w1.heap.size (.deferred none)
      refine ⟨_, results_none rfl _ _ _, ⟨_, rfl⟩, ra, rc, .bool r8, ?_, ⟨_, rfl⟩, ?_, ?_, heW.keeps oP (by omega), ?_, (shape_only oP heW.lt (by omega)).trans (shape_only hsi.only he.lt (tsr he (by decide)))⟩
      · rw [hsub, set_same hl4, set_same hl8]; exact hEW.keeps oP (by omega)
      · rw [hsub]
        refine (hsl.keeps hsi.only (fun b o e => ?_)).keeps oP (fun b o e => ?_)
        · rcases hsl with ⟨e2, _⟩ | ⟨rb, ro, e2, ht, _⟩
          · rw [e2] at e; cases e
          · rw [e2] at e; injection e with e; injection e with e1 e2; subst e1; exact tsr ht (by decide)
        · rcases hsl with ⟨e2, _⟩ | ⟨rb, ro, e2, ht, _⟩
          · rw [e2] at e; cases e
          · rw [e2] at e; injection e with e; injection e with e1 e2; subst e1; have := ht.lt; omega
      · rw [hsub]; exact hrc
      · exact hsi.only.trans oP (fun _ e => e.elim) (fun b hb e => by omega)
    · have hsub : Adz.subst sp c = ch ++ Adz.seg sp k sp.length := by
        unfold Adz.subst; rw [hms, heq]
        simp only [Adz.seg, Int.toNat_natCast, if_true]
        rw [List.take_of_length_le (by simp)]
      have hSB := hsub
      clear hsub
      have HSB : Hid _ := hSB
      clear hSB heq
      gi_wp2
      have hsegl := Adz.seg_len sp k sp.length hks (Nat.le_refl _)
      have od : Only (fun _ => False) W W.drew := (Only.refl _ W).drew
      have hsd := hsi.quiet od
      have h4d := hsd.only.keeps h4 (tsr he (by decide))
      have hsld := hsl.keeps hsd.only (fun b o e => by
        rcases hsl with ⟨e2, _⟩ | ⟨rb, ro, e2, ht, _⟩
        · rw [e2] at e; cases e
        · rw [e2] at e; injection e with e; injection e with e1 e2; subst e1; exact tsr ht (by decide))
      have hcs := hsld.cut rc k sp.length hks (Nat.le_refl _) hrc
      have hkr : k ≤ sp.length := hks
      have hS : (fun u : World => u.cell? ⟨w.heap.size, 0, none⟩ = some (.pointer (some ⟨eb, 0, none⟩)) ∧ u.cell? ⟨w.heap.size + 1 + 1, 0, none⟩ = some (.slice a N c') ∧ u.cell? ⟨w.heap.size + 1 + 1 + 1, 0, none⟩ = some (.int .i64 k)) W.drew := ⟨hsd.box.c0, hsd.box.c2, hsd.box.c3⟩
      refine wpIn_wide.2 ?_
      refine wp_region_noPanic ?_
      refine wp_region_held (S := fun u : World => u.cell? ⟨w.heap.size, 0, none⟩ = some (.pointer (some ⟨eb, 0, none⟩)) ∧ u.cell? ⟨w.heap.size + 1 + 1, 0, none⟩ = some (.slice a N c') ∧ u.cell? ⟨w.heap.size + 1 + 1 + 1, 0, none⟩ = some (.int .i64 k)) (by kernel_rfl) ?_
      change wpAnyH _ _ _ _ _ _ _ _ W.drew
      refine wpAnyH_take (i := 0) (v := ?_) rfl (by kernel_rfl) (by kernel_rfl) (by kernel_rfl) (fun _ _ _ h => h) (Or.inl ⟨by rfl, ?_⟩) hS ?_
      rotate_left
      · intro u hu
        obtain ⟨s1, s2, s3⟩ := hu
        go_simp
        try with_reducible rfl
      simp only [Act.put, List.getElem_toArray, List.getElem_cons_zero, List.setIfInBounds_toArray, List.set_cons_zero, List.set_cons_succ]
      refine wpAnyH_take (i := 1) (v := ?_) rfl (by kernel_rfl) (by kernel_rfl) (by kernel_rfl) (fun _ _ _ h => h) (Or.inl ⟨by rfl, ?_⟩) hS ?_
      rotate_left
      · intro u hu
        obtain ⟨s1, s2, s3⟩ := hu
        go_simp
        try with_reducible rfl
      simp only [Act.put, List.getElem_toArray, List.getElem_cons_zero, List.getElem_cons_succ, List.setIfInBounds_toArray, List.set_cons_zero, List.set_cons_succ]
      refine wpAnyH_take (i := 2) (v := ?_) rfl (by kernel_rfl) (by kernel_rfl) (by kernel_rfl) (fun _ _ _ h => h) (Or.inl ⟨by rfl, ?_⟩) hS ?_
      rotate_left
      · intro u hu
        obtain ⟨s1, s2, s3⟩ := hu
        go_simp
        try with_reducible rfl
      simp only [Act.put, List.getElem_toArray, List.getElem_cons_zero, List.getElem_cons_succ, List.setIfInBounds_toArray, List.set_cons_zero, List.set_cons_succ]
      refine wpAnyH_take (i := 3) (v := ?_) rfl (by kernel_rfl) (by kernel_rfl) (by kernel_rfl) (fun _ _ _ h => h) (Or.inl ⟨by rfl, ?_⟩) hS ?_
      rotate_left
      · intro u hu
        obtain ⟨s1, s2, s3⟩ := hu
        go_simp
        try with_reducible rfl
      simp only [Act.put, List.getElem_toArray, List.getElem_cons_zero, List.getElem_cons_succ, List.setIfInBounds_toArray, List.set_cons_zero, List.set_cons_succ]
      refine wpAnyH_take (i := 4) (v := ?_) rfl (by kernel_rfl) (by kernel_rfl) (by kernel_rfl) (fun _ _ _ h => h) (Or.inl ⟨by rfl, ?_⟩) hS ?_
      rotate_left
      · intro u hu
        obtain ⟨s1, s2, s3⟩ := hu
        go_simp
        try with_reducible rfl
      simp only [Act.put, List.getElem_toArray, List.getElem_cons_zero, List.getElem_cons_succ, List.setIfInBounds_toArray, List.set_cons_zero, List.set_cons_succ]
      refine wpAnyH_take (i := 6) (v := ?_) rfl (by kernel_rfl) (by kernel_rfl) (by kernel_rfl) (fun _ _ _ h => h) (Or.inl ⟨by rfl, ?_⟩) hS ?_
      rotate_left
      · intro u hu
        obtain ⟨s1, s2, s3⟩ := hu
        go_simp
        try with_reducible rfl
      simp only [Act.put, List.getElem_toArray, List.getElem_cons_zero, List.getElem_cons_succ, List.setIfInBounds_toArray, List.set_cons_zero, List.set_cons_succ]
      refine wpAnyH_ready (rs := [5]) (by kernel_rfl) (by simp) (AllReadyH.cons rfl (fun K' hK' => ?_) AllReadyH.nil)
      go_simp
      refine hK'.out _ _ hS (fun hS => ?_)
      clear hK' K'
      refine wpAnyH_take (i := 7) (v := ?_) rfl (by kernel_rfl) (by kernel_rfl) (by kernel_rfl) (fun _ _ _ h => h) (Or.inl ⟨by rfl, ?_⟩) hS ?_
      rotate_left
      · intro u hu
        obtain ⟨s1, s2, s3⟩ := hu
        go_simp
        try with_reducible rfl
      simp only [Act.put, List.getElem_toArray, List.getElem_cons_zero, List.getElem_cons_succ, List.setIfInBounds_toArray, List.set_cons_zero, List.set_cons_succ]
      refine wpAnyH_ready (rs := [8]) (by kernel_rfl) (by simp) (AllReadyH.cons rfl (fun K' hK' => ?_) AllReadyH.nil)
      refine step_append_runes _ (by rfl) _ _ (by rfl) w.heap.size (.slice a N c') N ch (by rfl) hsd.row _ _ (Adz.seg sp k sp.length) _ (by rfl) hsegl.symm hcs (by have := hsd.len; omega) (by have := hsd.only.size; omega) ?_
      intro a2 c2 w2 hown2 ho2 hat2
      generalize (if rc = k then ra else Option.map (fun x => x.add k) ra) = sa at *
      have nown : ∀ b, (Value.slice a N c').ownBlock = some b → w1.heap.size + 1 < b := hsd.own
      have hbx2 := hsd.box.keeps ho2 (fun b h1 h2 e => by have := nown b e; omega)
      refine hK'.out _ _ ⟨hbx2.c0, hbx2.c2, hbx2.c3⟩ (fun hS => ?_)
      clear hK' K'
      simp only [Act.put, List.getElem_toArray, List.getElem_cons_zero, List.getElem_cons_succ, List.setIfInBounds_toArray, List.set_cons_zero, List.set_cons_succ]
      refine wpAnyH_take (i := 9) (v := ?_) rfl (by kernel_rfl) (by kernel_rfl) (by kernel_rfl) (fun _ _ _ h => h) (Or.inl ⟨by rfl, ?_⟩) hS ?_
      rotate_left
      · intro u hu
        obtain ⟨s1, s2, s3⟩ := hu
        go_simp
        try with_reducible rfl
      simp only [Act.put, List.getElem_toArray, List.getElem_cons_zero, List.getElem_cons_succ, List.setIfInBounds_toArray, List.set_cons_zero, List.set_cons_succ]
      refine wpAnyH_take (i := 10) (v := ?_) rfl (by kernel_rfl) (by kernel_rfl) (by kernel_rfl) (fun _ _ _ h => h) (Or.inl ⟨by rfl, ?_⟩) hS ?_
      rotate_left
      · intro u hu
        obtain ⟨s1, s2, s3⟩ := hu
        go_simp
        try with_reducible rfl
      simp only [Act.put, List.getElem_toArray, List.getElem_cons_zero, List.getElem_cons_succ, List.setIfInBounds_toArray, List.set_cons_zero, List.set_cons_succ]
      have nb : ∀ b, (Value.slice a N c').ownBlock = some b → ¬ b = eb := fun b e => by have := nown b e; omega
      have hEd := hEW.keeps od id
      have hE2 := hEd.keeps ho2 (fun e => nb eb e rfl)
      have e4 := hE2 4 _ hl4
      have g4 := e4.1
      have f4 := e4.2
      refine wpAnyH_ready (rs := [11]) (by kernel_rfl) (by simp) (AllReadyH.cons rfl (fun K' hK' => ?_) AllReadyH.nil)
      have os3 := only_set w2 eb 4 (.slice a2 (N + (sp.length - k)) c2)
      have hbx3 := hbx2.keeps os3 (fun b h1 h2 e => by omega)
      go_simp
      refine hK'.out _ _ ⟨hbx3.c0, hbx3.c2, hbx3.c3⟩ (fun hS => ?_)
      clear hK' K' e4 g4 f4
      refine wpAnyH_done (by kernel_rfl) ?_ _
      refine NoPanic.normal ?_
      have nbn : ∀ b, (Value.slice a2 (N + (sp.length - k)) c2).ownBlock = some b → b ≠ eb ∧ b ≠ w1.heap.size := fun b hb => by
        have hDl := (Array.getElem?_eq_some_iff.1 hD).1
        have ez : W.drew.heap.size = W.heap.size := rfl
        rcases hat2 with e | e
        · have := nown b (e ▸ hb); omega
        · rw [e] at hb; injection hb with hb; omega
      have hsl2 := Sl.of_row hown2
      have hE3 := hE2.set 4 (.slice a2 (N + (sp.length - k)) c2)
      have hE3' : (l.set 4 (.slice a2 (N + (sp.length - k)) c2))[8]? = some (.bool r8) := by rw [List.getElem?_set_ne (by omega)]; exact hl8
      have hE4 := hE3.set 8 (.bool true)
      have g8 := (hE3 8 _ hE3').1
      have f8 := (hE3 8 _ hE3').2
      have hsl3 := hsl2.1.keeps os3 (fun b o e => by subst e; exact (nbn b rfl).1)
      have os4 := only_set (w2.setCell ⟨eb, 4, none⟩ (.slice a2 (N + (sp.length - k)) c2)) eb 8 (.bool true)
      have hsl4 := hsl3.keeps os4 (fun b o e => by subst e; exact (nbn b rfl).1)
      have he4 : Typ ((w2.setCell ⟨eb, 4, none⟩ (.slice a2 (N + (sp.length - k)) c2)).setCell ⟨eb, 8, none⟩ (.bool true)) eb 108 := (((heW.keeps od id).keeps ho2 (fun e => nb eb e rfl)).setCell _ _).setCell _ _
      have hbx4 := hbx3.keeps os4 (fun b h1 h2 e => by omega)
      have oAll : Only (fun b => b = eb ∨ False) w ((w2.setCell ⟨eb, 4, none⟩ (.slice a2 (N + (sp.length - k)) c2)).setCell ⟨eb, 8, none⟩ (.bool true)) := by
        have h1 : Only (fun b => b = eb ∨ False) w w2 := hsd.only.trans ho2 (fun _ e => Or.inr e) (fun b hb e => by have := nown b e; omega)
        exact Only.setCell (p := ⟨eb, 8, none⟩) (Only.setCell (p := ⟨eb, 4, none⟩) h1 (fun _ => Or.inl rfl) _) (fun _ => Or.inl rfl) _
      have hDd : ((w2.setCell ⟨eb, 4, none⟩ (.slice a2 (N + (sp.length - k)) c2)).setCell ⟨eb, 8, none⟩ (.bool true)).heap[w1.heap.size]? = some (.deferred (some [])) := by
        have hDl := (Array.getElem?_eq_some_iff.1 hD).1
        have h1 : w2.heap[w1.heap.size]? = some (.deferred (some [])) := (ho2.block _ hDl (fun e => by have := nown _ e; omega)).trans hD
        have h2 := (os3.block w1.heap.size (Array.getElem?_eq_some_iff.1 h1).1 (by omega)).trans h1
        exact (os4.block w1.heap.size (Array.getElem?_eq_some_iff.1 h2).1 (by omega)).trans h2
      have hc4 : ((w2.setCell ⟨eb, 4, none⟩ (.slice a2 (N + (sp.length - k)) c2)).setCell ⟨eb, 8, none⟩ (.bool true)).cell? ⟨cb, co + 4, none⟩ = some (.bool c.print) := oAll.keeps hc.print (fun e => by
        rcases e with e | e
        · exact (he.ne hc.typ (by decide)) e.symm
        · exact tsr hc.typ (by decide) e)
      rw [hpr] at hc4
      have hNL : Hid ((Adz.subst sp c).length = N + (sp.length - k)) := by show _ = _; rw [HSB.out, List.length_append, hsegl, hsd.len]
      have hcap := hsl2.2
      have hshp : Hid (((w2.setCell ⟨eb, 4, none⟩ (.slice a2 (N + (sp.length - k)) c2)).setCell ⟨eb, 8, none⟩ (.bool true)).shape? eb = w.shape? eb) := shape_set.trans (shape_set.trans ((shape_only ho2 (heW.keeps od id).lt (fun e => nb eb e rfl)).trans (shape_only hsd.only he.lt (tsr he (by decide)))))
      have q0 := hbx3.c0
      have q1 := hbx4.c1
      clear hE2 hE3 hEd hbx2 hbx3 hbx4 hsd hsi hown2 ho2 hat2 hsl2 hsl3 nown nb od os3 os4 hS c5 hcs hsld h4d
      gi_wp2
      refine ⟨by simp, .inl ⟨_, _, rfl, run_takeDeferred hDd, ?_⟩⟩
      have oP := only_putObj ((w2.setCell ⟨eb, 4, none⟩ (.slice a2 (N + (sp.length - k)) c2)).setCell ⟨eb, 8, none⟩ (.bool true)) w1.heap.size (.deferred none)
      refine ⟨_, results_none rfl _ _ _, ⟨_, rfl⟩, a2, c2, .bool true, ?_, (by first | exact ⟨_, rfl⟩ | exact Or.inr rfl), ?_, ?_, he4.keeps oP (by omega), ?_, (shape_only oP he4.lt (by omega)).trans hshp.out⟩
      · rw [hNL.out]; exact hE4.keeps oP (by omega)
      · rw [HSB.out]; exact hsl4.keeps oP (fun b o e => by subst e; exact (nbn b rfl).2)
      · rw [hNL.out]; exact hcap
      · exact oAll.trans oP (fun _ e => e.elim id False.elim) (fun b hb e => by omega)
end Go.Proofs.YtbiobhghnldckaaGreatDoor

/- Proved: the editor's small functions, where nothing is wrong. Conditions: the editor lies in memory as 'Ed' says. -/
namespace Go.Proofs.YtbiobhghnldckaaGreatDoor
open Go.RowKit
set_option linter.unusedVariables false

set_option maxRecDepth 100000 in
set_option maxHeartbeats 1600000 in
theorem checkSpace_ok (eb : Nat) (w : World) (l : List Value) (out : List UInt8) (h : Ed w eb l out) (h15 : l[15]? = some (.int .i64 0)) (ra ha : Option Addr) (n m rc hc : Nat) (h4 : l[4]? = some (.slice ra n rc)) (h5 : l[5]? = some (.slice ha m hc)) (hn : n ≤ 400) (hm : m ≤ 400) :
    Calls Tryz.prog 93 #[.pointer (some ⟨eb, 0, none⟩)] w fun e w' => (∃ v, e = .returned v) ∧ Only (fun _ => False) w w' := by
  have c15 := (h.get 15 (by omega) _ h15).1
  have c4 := (h.get 4 (by omega) _ h4).1
  have c5 := (h.get 5 (by omega) _ h5).1
  have hg : ∀ k, Calls Tryz.prog 44 #[.pointer (some ⟨eb, 0, none⟩)] (w.drewN k) fun e w' => e = .returned (.bool true) ∧ w' = w.drewN k := fun k => goesOn_calls eb (w.drewN k) 0 c15
  have d2 : decide ((400 : Int) < max (n : Int) m) = false := by simp; omega
  go_enter Tryz.func93, Tryz.ntmps93
  go_wp2_with fail
  go_quiet ((go_at_call 44; exact (hg _).mono (fun e w1 ⟨he, hw1⟩ => ⟨he, _, hw1⟩)))
  go_wp2
  go_end0
  exact ⟨⟨_, rfl⟩, (Only.refl _ w).drewN _⟩

set_option maxRecDepth 100000 in
set_option maxHeartbeats 1600000 in
theorem countStep_ok (eb : Nat) (w : World) (l : List Value) (out : List UInt8) (h : Ed w eb l out) (h15 : l[15]? = some (.int .i64 0)) (st : Nat) (h12 : l[12]? = some (.int .i64 st)) (hst : st < 5000) :
    Calls Tryz.prog 94 #[.pointer (some ⟨eb, 0, none⟩)] w fun e w' => (∃ v, e = .returned v) ∧ Ed w' eb (l.set 12 (.int .i64 ((st : Int) + 1))) out ∧ Only (· = eb) w w' := by
  have c12 := h.get 12 (by omega) _ h12
  have q1 := c12.1
  have q2 := c12.2
  have hw : IntKind.i64.wrap ((st : Int) + 1) = (st : Int) + 1 := by rw [IntKind.wrap_i64]; omega
  have hE := h.set 12 (by omega) (.int .i64 ((st : Int) + 1))
  have c15 := (hE.get 15 (by omega) (.int .i64 0) (by rw [List.getElem?_set_ne (by omega)]; exact h15)).1
  have d1 : decide ((5000 : Int) < (st : Int) + 1) = false := by simp; omega
  have hO := only_set w eb 12 (.int .i64 ((st : Int) + 1))
  go_enter Tryz.func94, Tryz.ntmps94
  go_wp2_with fail
  refine (goesOn_calls eb _ 0 c15).mono ?_
  rintro e w1 ⟨rfl, rfl⟩
  go_wp2
  go_end0
  exact ⟨⟨_, rfl⟩, hE, hO⟩

set_option maxRecDepth 100000 in
set_option maxHeartbeats 1600000 in
theorem tellQueue_none (eb : Nat) (w : World) (l : List Value) (out : List UInt8) (h : Ed w eb l out) (c : Nat) (a : Option Addr) (h6 : l[6]? = some (.slice a 0 c)) :
    Calls Tryz.prog 98 #[.pointer (some ⟨eb, 0, none⟩)] w fun e w' => (∃ v, e = .returned v) ∧ Ed w' eb (l.set 6 (.slice none 0 0)) out ∧ Only (· = eb) w w' := by
  have c6 := h.get 6 (by omega) _ h6
  have q1 := c6.1
  have q2 := c6.2
  have hE := h.set 6 (by omega) (.slice none 0 0)
  have hO := only_set w eb 6 (.slice none 0 0)
  go_enter Tryz.func98, Tryz.ntmps98
  go_wp2_with fail
  go_loopg [9] 0 (fun k v wr => v = .int .i64 0 ∧ wr = w)
  case atStart => exact ⟨rfl, rfl⟩
  case round =>
    obtain ⟨rfl, rfl⟩ := hrel
    go_wp2
    go_end0
    exact ⟨⟨_, rfl⟩, hE, hO⟩

theorem Sl.of_space {w : World} {b : Nat} {sp : List Int} (h : SpaceAt w (some ⟨b, 0, none⟩) sp) (ht : Typ w b 21) : Sl w (some ⟨b, 0, none⟩) sp := by
  refine Or.inr ⟨b, 0, rfl, ht, fun j hj => ?_⟩
  obtain ⟨rb, ro, e, _, hc⟩ := h (by intro e; simp [e] at hj)
  injection e with e
  injection e with e1 e2
  subst e1; subst e2
  exact hc j hj
theorem run_string_runes (w : World) (a : Option Addr) (c : Nat) (sp : List Int) (h : Sl w a sp) : (convert 103 9 (.slice a sp.length c)).run Tryz.prog w = .ok (.string (runesBytes sp)) w := by
  rcases h with ⟨rfl, rfl⟩ | ⟨rb, ro, rfl, ht, hc⟩
  · exact run_convert_runes_nil w _ _ 21 0 c Tryz.underlying103 Tryz.underlying21 Tryz.underlying9
  · have := run_convert_runes (P := Tryz.prog) w 103 9 21 ⟨rb, ro, none⟩ sp.length c sp (Nat.le_refl _) Tryz.underlying103 Tryz.underlying21 Tryz.underlying9 (fun j hj => by rw [Addr.add_mid]; exact hc j hj)
    rwa [List.take_length] at this

set_option maxRecDepth 100000 in
set_option maxHeartbeats 1600000 in
theorem end_ok (eb : Nat) (w : World) (l : List Value) (out : List UInt8) (h : Ed w eb l out) (h15 : l[15]? = some (.int .i64 0)) (h1 : l[1]? = some (.bool false)) (ra ha qa : Option Addr) (m rc hc qc : Nat) (sp : List Int) (h4 : l[4]? = some (.slice ra sp.length rc)) (hsl : Sl w ra sp) (h5 : l[5]? = some (.slice ha m hc)) (h6 : l[6]? = some (.slice qa 0 qc)) (hn : sp.length ≤ 400) (hm : m ≤ 400) (hlen : out.length + (runesBytes sp).size + 1 ≤ 8000) :
    Calls Tryz.prog 72 #[.pointer (some ⟨eb, 0, none⟩)] w fun e w' => (∃ v, e = .returned v) ∧ Ed w' eb (l.set 6 (.slice none 0 0)) ((out ++ (runesBytes sp).data.toList) ++ [10]) ∧ Only (fun b => b = eb ∨ (Typ w b 5 ∧ eb ≤ b)) w w' := by
  have hcv0 := fun (u : World) (hu : Sl u ra sp) => run_string_runes u ra rc sp hu
  generalize runesBytes sp = tx at *
  go_enter Tryz.func72, Tryz.ntmps72
  go_wp2_with fail
  refine (checkSpace_ok eb w l out h h15 ra ha sp.length m rc hc h4 h5 hn hm).mono ?_
  rintro e w1 ⟨⟨v1, rfl⟩, o1⟩
  have hE1 := h.keeps o1 id (fun _ _ => id)
  have c1 := (hE1.get 1 (by omega) _ h1).1
  have c4 := (hE1.get 4 (by omega) _ h4).1
  have hs1 := hsl.keeps o1 (fun _ _ _ => id)
  have hcv := hcv0 w1 hs1
  clear hcv0
  go_wp2_with fail
  refine (print_ok eb w1 l out hE1 h15 tx hlen).mono ?_
  rintro e w2 ⟨⟨v2, rfl⟩, hE2, o2⟩
  go_wp2_with fail
  refine (tellQueue_none eb w2 l _ hE2 qc qa h6).mono ?_
  rintro e w3 ⟨⟨v3, rfl⟩, hE3, o3⟩
  go_wp2
  go_end0
  have o12 : Only (fun b => b = eb ∨ (Typ w b 5 ∧ eb ≤ b)) w w2 := u8_only h.typ (o1.mono (fun _ _ e => e.elim)) o2
  exact ⟨⟨_, rfl⟩, hE3, o12.trans o3 (fun _ e => e) (fun _ _ e => Or.inl e)⟩

set_option maxRecDepth 100000 in
set_option maxHeartbeats 1600000 in
theorem end_quiet (eb : Nat) (w : World) (l : List Value) (out : List UInt8) (h : Ed w eb l out) (h15 : l[15]? = some (.int .i64 0)) (h1 : l[1]? = some (.bool true)) (ra ha qa : Option Addr) (n m rc hc qc : Nat) (h4 : l[4]? = some (.slice ra n rc)) (h5 : l[5]? = some (.slice ha m hc)) (h6 : l[6]? = some (.slice qa 0 qc)) (hn : n ≤ 400) (hm : m ≤ 400) :
    Calls Tryz.prog 72 #[.pointer (some ⟨eb, 0, none⟩)] w fun e w' => (∃ v, e = .returned v) ∧ Ed w' eb (l.set 6 (.slice none 0 0)) out ∧ Only (fun b => b = eb ∨ (Typ w b 5 ∧ eb ≤ b)) w w' := by
  go_enter Tryz.func72, Tryz.ntmps72
  go_wp2_with fail
  refine (checkSpace_ok eb w l out h h15 ra ha n m rc hc h4 h5 hn hm).mono ?_
  rintro e w1 ⟨⟨v1, rfl⟩, o1⟩
  have hE1 := h.keeps o1 id (fun _ _ => id)
  have c1 := (hE1.get 1 (by omega) _ h1).1
  go_wp2_with fail
  refine (tellQueue_none eb w1 l _ hE1 qc qa h6).mono ?_
  rintro e w3 ⟨⟨v3, rfl⟩, hE3, o3⟩
  go_wp2
  go_end0
  exact ⟨⟨_, rfl⟩, hE3, o1.trans o3 (fun _ e => e.elim) (fun _ _ e => Or.inl e)⟩

set_option maxRecDepth 100000 in
set_option maxHeartbeats 1600000 in
theorem read_ok (eb : Nat) (w : World) (l : List Value) (out : List UInt8) (h : Ed w eb l out) (lb lo n c k : Nat) (s : ByteArray) (h2 : l[2]? = some (.slice (some ⟨lb, lo, none⟩) n c)) (h3 : l[3]? = some (.int .i64 k)) (r8 : Bool) (h8 : l[8]? = some (.bool r8)) (hk : k < n) (hn : n ≤ 4000) (hl : w.cell? ⟨lb, lo + k, none⟩ = some (.string s)) (hs : s.size ≤ 3000) :
    Calls Tryz.prog 70 #[.pointer (some ⟨eb, 0, none⟩)] w fun e w' => ∃ b rc, e = .returned (.slice (some ⟨b, 0, none⟩) (Adz.runes s).length rc) ∧ Sl w' (some ⟨b, 0, none⟩) (Adz.runes s) ∧ (Adz.runes s).length ≤ rc ∧ Ed w' eb ((l.set 3 (.int .i64 ((k : Int) + 1))).set 8 (.bool false)) out ∧ Only (· = eb) w w' := by
  have c2 := (h.get 2 (by omega) _ h2).1
  have c3 := h.get 3 (by omega) _ h3
  have q3 := c3.1
  have f3 := c3.2
  have hw : IntKind.i64.wrap ((k : Int) + 1) = (k : Int) + 1 := by rw [IntKind.wrap_i64]; omega
  have hkk : (k : Int) < n := by omega
  go_enter Tryz.func70, Tryz.ntmps70
  go_wp2_with fail
  go_quiet (fail)
  have hEd := h.keeps (S := fun _ => False) ((Only.refl _ w).drewN nq) id (fun _ _ => id)
  have hO0 : Only (fun _ => False) w (w.drewN nq) := (Only.refl _ w).drewN nq
  generalize w.drewN nq = u at *
  have q3' := (hEd.get 3 (by omega) _ h3).1
  have f3' := (hEd.get 3 (by omega) _ h3).2
  have hE1 := hEd.set 3 (by omega) (.int .i64 ((k : Int) + 1))
  have h8' : (l.set 3 (.int .i64 ((k : Int) + 1)))[8]? = some (.bool r8) := by rw [List.getElem?_set_ne (by omega)]; exact h8
  have q8 := (hE1.get 8 (by omega) _ h8').1
  have f8 := (hE1.get 8 (by omega) _ h8').2
  have hE2 := hE1.set 8 (by omega) (.bool false)
  have hO2 : Only (· = eb) w ((u.setCell ⟨eb, 3, none⟩ (.int .i64 ((k : Int) + 1))).setCell ⟨eb, 8, none⟩ (.bool false)) := only2 ((hO0.trans (only_set u eb 3 (.int .i64 ((k : Int) + 1))) (fun _ e => e.elim) (fun _ _ e => e))) (only_set _ eb 8 (.bool false))
  obtain ⟨rc, w4, hrun, hsp4, ho4, hcap4, ht4⟩ := conv_runes ((u.setCell ⟨eb, 3, none⟩ (.int .i64 ((k : Int) + 1))).setCell ⟨eb, 8, none⟩ (.bool false)) s (by omega)
  have hz : ((u.setCell ⟨eb, 3, none⟩ (.int .i64 ((k : Int) + 1))).setCell ⟨eb, 8, none⟩ (.bool false)).heap.size = u.heap.size := by simp [World.setCell]
  have HS4 : Hid _ := hsp4
  clear hsp4
  have hS4 := HS4.out
  rw [hz] at hS4 ht4
  have HS5 : Hid _ := Sl.of_space hS4 ht4
  clear hS4 HS4 ht4
  go_wp2
  go_ret
  exact ⟨_, rc, rfl, HS5.out, hcap4, hE2.keeps ho4 id (fun _ _ => id), hO2.trans ho4 (fun _ e => e) (fun _ _ e => e.elim)⟩
end Go.Proofs.YtbiobhghnldckaaGreatDoor

/- Proved: one cycle of the editor over a program that is one s. Conditions: the editor and the program lie in memory. -/
namespace Go.Proofs.YtbiobhghnldckaaGreatDoor
open Go.RowKit
set_option linter.unusedVariables false

/-- A command s without an address lies in memory. -/
structure OneCmd (w : World) (g : Nat) (c : Adz.Cmd) : Prop where
  what : w.cell? ⟨g, 0, none⟩ = some (.int .i32 115)
  addrs : ∃ aa ac, w.cell? ⟨g, 1, none⟩ = some (.slice aa 0 ac)
  neg : w.cell? ⟨g, 2, none⟩ = some (.bool false)
  sub : SubAt w g 6 c
theorem OneCmd.keeps {S : Nat → Prop} {w w' : World} {g : Nat} {c : Adz.Cmd} (h : OneCmd w g c) (o : Only S w w') (h1 : ∀ b, Typ w b 167 → ¬ S b) (h2 : ∀ b, Typ w b 270 → ¬ S b) (h3 : ∀ b, Typ w b 284 → ¬ S b) (h4 : ∀ b, Typ w b 240 → ¬ S b) : OneCmd w' g c := by
  obtain ⟨aa, ac, ha⟩ := h.addrs
  have n := h1 _ h.sub.typ
  exact ⟨o.keeps h.what n, ⟨aa, ac, o.keeps ha n⟩, o.keeps h.neg n, h.sub.keeps o h1 h2 h3 h4⟩
/-- .. over what the editor's own functions turn. -/
theorem OneCmd.ed {w w' : World} {g eb : Nat} {c : Adz.Cmd} (h : OneCmd w g c) (he : Typ w eb 108) (o : Only (fun b => b = eb ∨ (Typ w b 5 ∧ eb ≤ b) ∨ (Typ w b 258 ∧ eb ≤ b)) w w') : OneCmd w' g c := by
  have k : ∀ {T : TypeId}, T ≠ 108 → T ≠ 5 → T ≠ 258 → ∀ b, Typ w b T → ¬ (b = eb ∨ (Typ w b 5 ∧ eb ≤ b) ∨ (Typ w b 258 ∧ eb ≤ b)) := fun n1 n2 n3 b hb e => by
    rcases e with e | e | e
    · subst e; exact n1 (hb.one he)
    · exact n2 (hb.one e.1)
    · exact n3 (hb.one e.1)
  exact h.keeps o (k (by decide) (by decide) (by decide)) (k (by decide) (by decide) (by decide)) (k (by decide) (by decide) (by decide)) (k (by decide) (by decide) (by decide))

set_option maxRecDepth 100000 in
set_option maxHeartbeats 1600000 in
theorem means0 (eb g cap : Nat) (w : World) (h0 : w.cell? ⟨eb, 0, none⟩ = some (.slice (some ⟨g, 0, none⟩) 1 cap)) (aa : Option Addr) (ac : Nat) (ha : w.cell? ⟨g, 1, none⟩ = some (.slice aa 0 ac)) :
    Calls Tryz.prog 95 #[.pointer (some ⟨eb, 0, none⟩), .int .i64 0] w fun e w' => e = .returned (.bool true) ∧ w' = w := by
  go_enter Tryz.func95, Tryz.ntmps95
  go_wp2
  go_ret
  exact ⟨rfl, rfl⟩

/-- What one s asks of a space, so that nothing goes wrong. -/
structure Fine (sp : List Int) (c : Adz.Cmd) : Prop where
  k : c.pat.items.length ≤ 1000
  f : ∀ x ∈ c.pat.items, x.spans.length ≤ 1000
  n : sp.length ≤ 400
  g : ∀ x ∈ c.pat.items, 1 ≤ x.group ∧ x.group ≤ 9 ∨ (x.kind ≠ 2 ∧ x.kind ≠ 3)
  pl : c.repl.length ≤ 1000
  ok : Adz.okRun sp c.nth c.all c.repl (Adz.matches_ sp c.pat.items) 0 0 []
  pr : c.print = false
  less : (Adz.subst sp c).length ≤ 400

theorem sub_ed (c : Adz.Cmd) (g eb : Nat) (w : World) (l : List Value) (out : List UInt8) (h : Ed w eb l out) (hc : OneCmd w g c) (ra : Option Addr) (rc : Nat) (sp : List Int) (h4 : l[4]? = some (.slice ra sp.length rc)) (r8 : Bool) (h8 : l[8]? = some (.bool r8)) (hsl : Sl w ra sp) (hrc : sp.length ≤ rc) (hf : Fine sp c) :
    Calls Tryz.prog 135 #[.pointer (some ⟨eb, 0, none⟩), .pointer (some ⟨g, 6, none⟩)] w fun e w' => (∃ v, e = .returned v) ∧ ∃ a' c' b8, Ed w' eb ((l.set 4 (.slice a' (Adz.subst sp c).length c')).set 8 (.bool b8)) out ∧ Sl w' a' (Adz.subst sp c) ∧ (Adz.subst sp c).length ≤ c' ∧ Only (· = eb) w w' := by
  obtain ⟨p, a, c0, g1, g2, g3⟩ := h.cells
  refine (callsIn_wide.1 (substitute_calls c g 6 eb w hc.sub ra rc sp h.typ _ g1 (by rw [List.getElem?_set_ne (by omega), List.getElem?_set_ne (by omega)]; exact h4) r8 (by rw [List.getElem?_set_ne (by omega), List.getElem?_set_ne (by omega)]; exact h8) hf.pr hsl hrc hf.k hf.f (by have := hf.n; omega) hf.g hf.pl hf.ok)).mono ?_
  rintro e w' ⟨he, a', c', v8, q1, ⟨b8, rfl⟩, q2, q3, q4, q5, q6⟩
  refine ⟨he, a', c', b8, ⟨⟨p, a, c0, ?_, g2, ?_⟩, q6.trans h.shape, q4, by rw [List.length_set, List.length_set]; exact h.len⟩, q2, q3, q5⟩
  · rwa [List.set_comm _ _ (by omega : 14 ≠ 4), List.set_comm _ _ (by omega : 13 ≠ 4), List.set_comm _ _ (by omega : 14 ≠ 8), List.set_comm _ _ (by omega : 13 ≠ 8)] at q1
  · refine row_keeps g3 q5 (fun b hb e => ?_)
    subst e; exact absurd ((Typ.of_row g3 hb).one h.typ) (by decide)

set_option maxRecDepth 100000 in
set_option maxHeartbeats 1600000 in
theorem do_s (c : Adz.Cmd) (g eb : Nat) (w : World) (l : List Value) (out : List UInt8) (h : Ed w eb l out) (hc : OneCmd w g c) (ra : Option Addr) (rc : Nat) (sp : List Int) (h4 : l[4]? = some (.slice ra sp.length rc)) (r8 : Bool) (h8 : l[8]? = some (.bool r8)) (hsl : Sl w ra sp) (hrc : sp.length ≤ rc) (hf : Fine sp c) :
    Calls Tryz.prog 96 #[.pointer (some ⟨eb, 0, none⟩), .pointer (some ⟨g, 0, none⟩)] w fun e w' => (∃ v, e = .returned v) ∧ ∃ a' c' b8, Ed w' eb ((l.set 4 (.slice a' (Adz.subst sp c).length c')).set 8 (.bool b8)) out ∧ Sl w' a' (Adz.subst sp c) ∧ (Adz.subst sp c).length ≤ c' ∧ Only (· = eb) w w' := by
  have q0 := hc.what
  have hcall := sub_ed c g eb w l out h hc ra rc sp h4 r8 h8 hsl hrc hf
  go_enter Tryz.func96, Tryz.ntmps96
  go_wp2_with fail
  refine hcall.mono ?_
  rintro e w1 ⟨⟨v, rfl⟩, hh⟩
  go_wp2
  go_end0
  exact ⟨⟨_, rfl⟩, hh⟩
end Go.Proofs.YtbiobhghnldckaaGreatDoor

/- Proved: one cycle of the editor over a program that is one s. Conditions: the editor and the program lie in memory. -/
namespace Go.Proofs.YtbiobhghnldckaaGreatDoor
open Go.RowKit
set_option linter.unusedVariables false

theorem ed_only {w w' w2 : World} {eb : Nat} {S T : Nat → Prop} (o : Only S w w') (o2 : Only T w' w2) (h1 : ∀ b, S b → b = eb ∨ (Typ w b 5 ∧ eb ≤ b) ∨ (Typ w b 258 ∧ eb ≤ b)) (h2 : ∀ b, T b → b = eb ∨ (Typ w' b 5 ∧ eb ≤ b) ∨ (Typ w' b 258 ∧ eb ≤ b)) : Only (fun b => b = eb ∨ (Typ w b 5 ∧ eb ≤ b) ∨ (Typ w b 258 ∧ eb ≤ b)) w w2 := by
  refine o.trans o2 h1 (fun b hb e => ?_)
  by_cases hs : S b
  · exact h1 b hs
  · have ty : ∀ {T : TypeId}, Typ w' b T → Typ w b T := fun ⟨cur, fz, e⟩ => ⟨cur, fz, (o.block b hb hs).symm.trans e⟩
    rcases h2 b e with e | e | e
    · exact Or.inl e
    · exact Or.inr (Or.inl ⟨ty e.1, e.2⟩)
    · exact Or.inr (Or.inr ⟨ty e.1, e.2⟩)

set_option maxRecDepth 100000 in
set_option maxHeartbeats 1600000 in
theorem step_s (c : Adz.Cmd) (g cap eb : Nat) (w : World) (l : List Value) (out : List UInt8) (h : Ed w eb l out) (hc : OneCmd w g c) (h0 : l[0]? = some (.slice (some ⟨g, 0, none⟩) 1 cap)) (h15 : l[15]? = some (.int .i64 0)) (h9 : l[9]? = some (.int .i64 0)) (st : Nat) (h12 : l[12]? = some (.int .i64 st)) (hst : st < 5000) (ha : Option Addr) (m hcc : Nat) (h5 : l[5]? = some (.slice ha m hcc)) (hm : m ≤ 400)
    (ra : Option Addr) (rc : Nat) (sp : List Int) (h4 : l[4]? = some (.slice ra sp.length rc)) (r8 : Bool) (h8 : l[8]? = some (.bool r8)) (hsl : Sl w ra sp) (hrc : sp.length ≤ rc) (hf : Fine sp c) :
    Calls Tryz.prog 71 #[.pointer (some ⟨eb, 0, none⟩)] w fun e w' => (∃ v, e = .returned v) ∧ ∃ a' c' b8, Ed w' eb ((((l.set 12 (.int .i64 ((st : Int) + 1))).set 9 (.int .i64 1)).set 4 (.slice a' (Adz.subst sp c).length c')).set 8 (.bool b8)) out ∧ Sl w' a' (Adz.subst sp c) ∧ (Adz.subst sp c).length ≤ c' ∧ Only (fun b => b = eb ∨ (Typ w b 5 ∧ eb ≤ b) ∨ (Typ w b 258 ∧ eb ≤ b)) w w' := by
  go_enter Tryz.func71, Tryz.ntmps71
  go_wp2_with fail
  refine (checkSpace_ok eb w l out h h15 ra ha sp.length m rc hcc h4 h5 hf.n hm).mono ?_
  rintro e w1 ⟨⟨v1, rfl⟩, o1⟩
  have hE1 := h.keeps o1 id (fun _ _ => id)
  go_wp2_with fail
  refine (countStep_ok eb w1 l out hE1 h15 st h12 hst).mono ?_
  rintro e w2 ⟨⟨v2, rfl⟩, hE2, o2⟩
  have g15 : (l.set 12 (.int .i64 ((st : Int) + 1)))[15]? = some (.int .i64 0) := by rw [List.getElem?_set_ne (by omega)]; exact h15
  have g9 : (l.set 12 (.int .i64 ((st : Int) + 1)))[9]? = some (.int .i64 0) := by rw [List.getElem?_set_ne (by omega)]; exact h9
  have g0 : (l.set 12 (.int .i64 ((st : Int) + 1)))[0]? = some (.slice (some ⟨g, 0, none⟩) 1 cap) := by rw [List.getElem?_set_ne (by omega)]; exact h0
  have c15 := (hE2.get 15 (by omega) _ g15).1
  have c9 := hE2.get 9 (by omega) _ g9
  have q9 := c9.1
  have f9 := c9.2
  have c0 := (hE2.get 0 (by omega) _ g0).1
  clear c9
  go_wp2_with fail
  refine (goesOn_calls eb _ 0 c15).mono ?_
  rintro e w3 ⟨rfl, rfl⟩
  have hE3 := hE2.set 9 (by omega) (.int .i64 1)
  have o3 := only_set w3 eb 9 (.int .i64 1)
  have o13 : Only (fun b => b = eb ∨ (Typ w b 5 ∧ eb ≤ b) ∨ (Typ w b 258 ∧ eb ≤ b)) w (w3.setCell ⟨eb, 9, none⟩ (.int .i64 1)) := (o1.trans (only2 o2 o3) (fun _ e => e.elim) (fun _ _ e => Or.inl e))
  have hc3 := hc.ed h.typ o13
  go_wp2_with fail
  have hsl3 := hsl.keeps o13 (fun b o e => by
    rcases hsl with ⟨e2, _⟩ | ⟨rb, ro, e2, ht, _⟩
    · rw [e2] at e; cases e
    · rw [e2] at e; injection e with e; injection e with e1 e2; subst e1
      intro e3
      rcases e3 with e3 | e3 | e3
      · subst e3; exact absurd (ht.one h.typ) (by decide)
      · exact absurd (ht.one e3.1) (by decide)
      · exact absurd (ht.one e3.1) (by decide))
  generalize w3.setCell ⟨eb, 9, none⟩ (.int .i64 1) = u at *
  obtain ⟨aa, ac, haa⟩ := hc3.addrs
  have k0 : ((l.set 12 (.int .i64 ((st : Int) + 1))).set 9 (.int .i64 1))[0]? = some (.slice (some ⟨g, 0, none⟩) 1 cap) := by rw [List.getElem?_set_ne (by omega)]; exact g0
  have cu0 := (hE3.get 0 (by omega) _ k0).1
  have hmm : ∀ k, Calls Tryz.prog 95 #[.pointer (some ⟨eb, 0, none⟩), .int .i64 0] (u.drewN k) fun e w' => e = .returned (.bool true) ∧ w' = u.drewN k := fun k => means0 eb g cap (u.drewN k) cu0 aa ac haa
  have hn2 := hc3.neg
  go_quiet ((go_at_call 95; exact (hmm _).mono (fun e w1 ⟨he, hw1⟩ => ⟨he, _, hw1⟩)))
  have oq : Only (fun _ => False) u (u.drewN nq) := (Only.refl _ u).drewN nq
  have hE4 := hE3.keeps oq id (fun _ _ => id)
  have hc4 := hc3.keeps oq (fun _ _ => id) (fun _ _ => id) (fun _ _ => id) (fun _ _ => id)
  have hsl4 := hsl3.keeps oq (fun _ _ _ => id)
  generalize u.drewN nq = u4 at *
  have k4 : ((l.set 12 (.int .i64 ((st : Int) + 1))).set 9 (.int .i64 1))[4]? = some (.slice ra sp.length rc) := by rw [List.getElem?_set_ne (by omega), List.getElem?_set_ne (by omega)]; exact h4
  have k8 : ((l.set 12 (.int .i64 ((st : Int) + 1))).set 9 (.int .i64 1))[8]? = some (.bool r8) := by rw [List.getElem?_set_ne (by omega), List.getElem?_set_ne (by omega)]; exact h8
  have hcall := do_s c g eb u4 _ out hE4 hc4 ra rc sp k4 r8 k8 hsl4 hrc hf
  have o14 := o13.trans oq (fun _ e => e) (fun _ _ e => e.elim)
  clear hmm cu0 haa hn2 hE3 hc3 hsl3 o13 o3 oq c0 q9 f9 c15
  go_wp2_with fail
  refine hcall.mono ?_
  rintro e w5 ⟨⟨v5, rfl⟩, a', c', b8, r1, r2, r3, r4⟩
  go_wp2
  go_end0
  exact ⟨⟨_, rfl⟩, a', c', b8, r1, r2, r3, ed_only o14 r4 (fun _ e => e) (fun b e => Or.inl e)⟩
end Go.Proofs.YtbiobhghnldckaaGreatDoor

/- Proved: one cycle of the editor over a program that is one s. Conditions: the editor and the program lie in memory. -/
namespace Go.Proofs.YtbiobhghnldckaaGreatDoor
open Go.RowKit
set_option linter.unusedVariables false
/-- What is put out behind a cycle. -/
def Adz.told (q : Bool) (out : List UInt8) (sp : List Int) : List UInt8 := if q then out else (out ++ (runesBytes sp).data.toList) ++ [10]

theorem sl_ed {w w' : World} {eb : Nat} {ra : Option Addr} {sp : List Int} (hsl : Sl w ra sp) (he : Typ w eb 108) (o : Only (fun b => b = eb ∨ (Typ w b 5 ∧ eb ≤ b) ∨ (Typ w b 258 ∧ eb ≤ b)) w w') : Sl w' ra sp := hsl.keeps o (fun b o e => by
    rcases hsl with ⟨e2, _⟩ | ⟨rb, ro, e2, ht, _⟩
    · rw [e2] at e; cases e
    · rw [e2] at e; injection e with e; injection e with e1 e2; subst e1
      intro e3
      rcases e3 with e3 | e3 | e3
      · subst e3; exact absurd (ht.one he) (by decide)
      · exact absurd (ht.one e3.1) (by decide)
      · exact absurd (ht.one e3.1) (by decide))

set_option maxRecDepth 100000 in
set_option maxHeartbeats 3200000 in
theorem cycle_s (c : Adz.Cmd) (g cap eb : Nat) (w : World) (l : List Value) (out : List UInt8) (h : Ed w eb l out) (hc : OneCmd w g c) (h0 : l[0]? = some (.slice (some ⟨g, 0, none⟩) 1 cap)) (q : Bool) (h1 : l[1]? = some (.bool q)) (h15 : l[15]? = some (.int .i64 0)) (st : Nat) (h12 : l[12]? = some (.int .i64 st)) (hst : st < 5000) (ha : Option Addr) (m hcc : Nat) (h5 : l[5]? = some (.slice ha m hcc)) (hm : m ≤ 400) (qa : Option Addr) (qc : Nat) (h6 : l[6]? = some (.slice qa 0 qc))
    (lb lo n lc k : Nat) (s : ByteArray) (h2 : l[2]? = some (.slice (some ⟨lb, lo, none⟩) n lc)) (h3 : l[3]? = some (.int .i64 k)) (hk : k < n) (hn : n ≤ 4000) (hl : w.cell? ⟨lb, lo + k, none⟩ = some (.string s)) (hs : s.size ≤ 3000) (r8 : Bool) (h8 : l[8]? = some (.bool r8)) (hf : Fine (Adz.runes s) c) (hlen : out.length + (runesBytes (Adz.subst (Adz.runes s) c)).size + 1 ≤ 8000) :
    Calls Tryz.prog 46 #[.pointer (some ⟨eb, 0, none⟩)] w fun e w' => (∃ v, e = .returned v) ∧ ∃ l', Ed w' eb l' (Adz.told q out (Adz.subst (Adz.runes s) c)) ∧ l'[15]? = some (.int .i64 0) ∧ l'[3]? = some (.int .i64 ((k : Int) + 1)) ∧ l'[2]? = l[2]? ∧ l'[11]? = l[11]? ∧ Only (fun b => b = eb ∨ (Typ w b 5 ∧ eb ≤ b) ∨ (Typ w b 258 ∧ eb ≤ b)) w w' := by
  have hL := h.len
  have hread := read_ok eb w l out h lb lo n lc k s h2 h3 r8 h8 hk hn hl hs
  generalize Adz.runes s = sp at *
  obtain ⟨v4, h4⟩ : ∃ v, l[4]? = some v := ⟨_, List.getElem?_eq_getElem (by omega)⟩
  obtain ⟨v9, h9⟩ : ∃ v, l[9]? = some v := ⟨_, List.getElem?_eq_getElem (by omega)⟩
  obtain ⟨v10, h10⟩ : ∃ v, l[10]? = some v := ⟨_, List.getElem?_eq_getElem (by omega)⟩
  go_enter Tryz.func46, Tryz.ntmps46
  go_wp2_with fail
  refine hread.mono ?_
  clear hread
  rintro e w1 ⟨b, rc, rfl, hsl1, hrc, hE1, o1⟩
  generalize hl1 : (l.set 3 (.int .i64 ((k : Int) + 1))).set 8 (.bool false) = l1 at *
  have gt : ∀ j v, j ≠ 3 → j ≠ 8 → l[j]? = some v → l1[j]? = some v := fun j v n1 n2 hv => by rw [← hl1, List.getElem?_set_ne (by omega), List.getElem?_set_ne (by omega)]; exact hv
  have g3 : l1[3]? = some (.int .i64 ((k : Int) + 1)) := by rw [← hl1, List.getElem?_set_ne (by omega), List.getElem?_set_self (by omega)]
  have g8 : l1[8]? = some (.bool false) := by rw [← hl1, List.getElem?_set_self (by rw [List.length_set]; omega)]
  have p4 := hE1.get 4 (by omega) _ (gt 4 _ (by omega) (by omega) h4)
  have q4 := p4.1
  have f4 := p4.2
  have hE2 := hE1.set 4 (by omega) (.slice (some ⟨b, 0, none⟩) sp.length rc)
  have p9 := hE2.get 9 (by omega) _ ((List.getElem?_set_ne (by omega)).trans (gt 9 _ (by omega) (by omega) h9))
  have q9 := p9.1
  have f9 := p9.2
  have hE3 := hE2.set 9 (by omega) (.int .i64 0)
  have p10 := hE3.get 10 (by omega) _ ((List.getElem?_set_ne (by omega)).trans ((List.getElem?_set_ne (by omega)).trans (gt 10 _ (by omega) (by omega) h10)))
  have q10 := p10.1
  have f10 := p10.2
  have hE4 := hE3.set 10 (by omega) (.bool false)
  have o4 : Only (· = eb) w _ := only2 (only2 (only2 o1 (only_set w1 eb 4 (.slice (some ⟨b, 0, none⟩) sp.length rc))) (only_set _ eb 9 (.int .i64 0))) (only_set _ eb 10 (.bool false))
  have nb : b ≠ eb := by
    rcases hsl1 with ⟨e, _⟩ | ⟨rb, ro, e, ht, _⟩
    · cases e
    · injection e with e; injection e with e1 e2; subst e1; exact ht.ne hE1.typ (by decide)
  have hsl4 := ((hsl1.keeps (only_set w1 eb 4 (.slice (some ⟨b, 0, none⟩) sp.length rc)) (fun b' o e => by injection e with e; injection e with e1 e2; subst e1; exact nb)).keeps (only_set _ eb 9 (.int .i64 0)) (fun b' o e => by injection e with e; injection e with e1 e2; subst e1; exact nb)).keeps (only_set _ eb 10 (.bool false)) (fun b' o e => by injection e with e; injection e with e1 e2; subst e1; exact nb)
  clear p4 p9 p10
  go_wp2_with fail
  clear q4 f4 q9 f9 q10 f10 hE1 hE2 hE3
  generalize ((w1.setCell ⟨eb, 4, none⟩ (.slice (some ⟨b, 0, none⟩) sp.length rc)).setCell ⟨eb, 9, none⟩ (.int .i64 0)).setCell ⟨eb, 10, none⟩ (.bool false) = w4 at *
  generalize hl4 : ((l1.set 4 (.slice (some ⟨b, 0, none⟩) sp.length rc)).set 9 (.int .i64 0)).set 10 (.bool false) = l4 at *
  have hL1 : l1.length = 16 := by rw [← hl1, List.length_set, List.length_set]; exact hL
  have gu : ∀ j v, j ≠ 3 → j ≠ 8 → j ≠ 4 → j ≠ 9 → j ≠ 10 → l[j]? = some v → l4[j]? = some v := fun j v n1 n2 n3 n4 n5 hv => by rw [← hl4, List.getElem?_set_ne (by omega), List.getElem?_set_ne (by omega), List.getElem?_set_ne (by omega)]; exact gt j v n1 n2 hv
  have e3 : l4[3]? = some (.int .i64 ((k : Int) + 1)) := by rw [← hl4, List.getElem?_set_ne (by omega), List.getElem?_set_ne (by omega), List.getElem?_set_ne (by omega)]; exact g3
  have e8 : l4[8]? = some (.bool false) := by rw [← hl4, List.getElem?_set_ne (by omega), List.getElem?_set_ne (by omega), List.getElem?_set_ne (by omega)]; exact g8
  have e4 : l4[4]? = some (.slice (some ⟨b, 0, none⟩) sp.length rc) := by rw [← hl4, List.getElem?_set_ne (by omega), List.getElem?_set_ne (by omega), List.getElem?_set_self (by omega)]
  have e9 : l4[9]? = some (.int .i64 0) := by rw [← hl4, List.getElem?_set_ne (by omega), List.getElem?_set_self (by rw [List.length_set]; omega)]
  have e10 : l4[10]? = some (.bool false) := by rw [← hl4, List.getElem?_set_self (by rw [List.length_set, List.length_set]; omega)]
  have oo4 : Only (fun b => b = eb ∨ (Typ w b 5 ∧ eb ≤ b) ∨ (Typ w b 258 ∧ eb ≤ b)) w w4 := o4.mono (fun _ _ e => Or.inl e)
  have hc4 := hc.ed h.typ oo4
  go_loopg [] 1 (fun k wr => (k = 1 ∧ wr = w4) ∨ (k = 0 ∧ ∃ a' c' b8 l5, l5 = (((l4.set 12 (.int .i64 ((st : Int) + 1))).set 9 (.int .i64 1)).set 4 (.slice a' (Adz.subst sp c).length c')).set 8 (.bool b8) ∧ Hid (Ed wr eb l5 out) ∧ Hid (Sl wr a' (Adz.subst sp c)) ∧ Hid (Only (fun b => b = eb ∨ (Typ w b 5 ∧ eb ≤ b) ∨ (Typ w b 258 ∧ eb ≤ b)) w wr)))
  case atStart => exact Or.inl ⟨rfl, rfl⟩
  case round =>
    rcases hrel with ⟨rfl, rfl⟩ | ⟨rfl, a', c', b8, l5, hl5, hE5, hsl5, o5⟩
    · have d15 := (hE4.get 15 (by omega) _ (gu 15 _ (by omega) (by omega) (by omega) (by omega) (by omega) h15)).1
      have d9 := (hE4.get 9 (by omega) _ e9).1
      have d0 := (hE4.get 0 (by omega) _ (gu 0 _ (by omega) (by omega) (by omega) (by omega) (by omega) h0)).1
      have hg : ∀ k, Calls Tryz.prog 44 #[.pointer (some ⟨eb, 0, none⟩)] (wr.drewN k) fun e w' => e = .returned (.bool true) ∧ w' = wr.drewN k := fun k => goesOn_calls eb (wr.drewN k) 0 d15
      go_wp2_with fail
      go_quiet ((go_at_call 44; exact (hg _).mono (fun e w1 ⟨he, hw1⟩ => ⟨he, _, hw1⟩)))
      have oq : Only (fun _ => False) wr (wr.drewN nq) := (Only.refl _ wr).drewN nq
      have hEq := hE4.keeps oq id (fun _ _ => id)
      have hcq := hc4.keeps oq (fun _ _ => id) (fun _ _ => id) (fun _ _ => id) (fun _ _ => id)
      have hslq := hsl4.keeps oq (fun _ _ _ => id)
      have ooq := oo4.trans oq (fun _ e => e) (fun _ _ e => e.elim)
      generalize wr.drewN nq = u at *
      have hcall := step_s c g cap eb u l4 out hEq hcq (gu 0 _ (by omega) (by omega) (by omega) (by omega) (by omega) h0) (gu 15 _ (by omega) (by omega) (by omega) (by omega) (by omega) h15) e9 st (gu 12 _ (by omega) (by omega) (by omega) (by omega) (by omega) h12) hst ha m hcc (gu 5 _ (by omega) (by omega) (by omega) (by omega) (by omega) h5) hm (some ⟨b, 0, none⟩) rc sp e4 false e8 hslq hrc hf
      clear d15 d9 d0 hg oq
      go_wp2_with fail
      refine hcall.mono ?_
      rintro e w5 ⟨⟨v5, rfl⟩, a', c', b8, r1, r2, r3, r4⟩
      go_wp2
      go_roundg 0
      case measure => omega
      case rel => exact Or.inr ⟨rfl, a', c', b8, _, rfl, r1, r2, ed_only ooq r4 (fun _ e => e) (fun _ e => e)⟩
    · have hE5' : Ed wr eb l5 out := hE5
      have gw : ∀ j v, j ≠ 3 → j ≠ 8 → j ≠ 4 → j ≠ 9 → j ≠ 10 → j ≠ 12 → l[j]? = some v → l5[j]? = some v := fun j v n1 n2 n3 n4 n5 n6 hv => by rw [hl5, List.getElem?_set_ne (by omega), List.getElem?_set_ne (by omega), List.getElem?_set_ne (by omega), List.getElem?_set_ne (by omega)]; exact gu j v n1 n2 n3 n4 n5 hv
      have hL4 := hE4.len
      have i9 : l5[9]? = some (.int .i64 1) := by rw [hl5, List.getElem?_set_ne (by omega), List.getElem?_set_ne (by omega), List.getElem?_set_self (by rw [List.length_set]; omega)]
      have i4 : l5[4]? = some (.slice a' (Adz.subst sp c).length c') := by rw [hl5, List.getElem?_set_ne (by omega), List.getElem?_set_self (by rw [List.length_set, List.length_set]; omega)]
      have i3 : l5[3]? = some (.int .i64 ((k : Int) + 1)) := by rw [hl5, List.getElem?_set_ne (by omega), List.getElem?_set_ne (by omega), List.getElem?_set_ne (by omega), List.getElem?_set_ne (by omega)]; exact e3
      have i10 : l5[10]? = some (.bool false) := by rw [hl5, List.getElem?_set_ne (by omega), List.getElem?_set_ne (by omega), List.getElem?_set_ne (by omega), List.getElem?_set_ne (by omega)]; exact e10
      have j15 := gw 15 _ (by omega) (by omega) (by omega) (by omega) (by omega) (by omega) h15
      have d15 := (hE5'.get 15 (by omega) _ j15).1
      have d9 := (hE5'.get 9 (by omega) _ i9).1
      have d0 := (hE5'.get 0 (by omega) _ (gw 0 _ (by omega) (by omega) (by omega) (by omega) (by omega) (by omega) h0)).1
      have hg : ∀ k, Calls Tryz.prog 44 #[.pointer (some ⟨eb, 0, none⟩)] (wr.drewN k) fun e w' => e = .returned (.bool true) ∧ w' = wr.drewN k := fun k => goesOn_calls eb (wr.drewN k) 0 d15
      go_wp2_with fail
      go_quiet ((go_at_call 44; exact (hg _).mono (fun e w1 ⟨he, hw1⟩ => ⟨he, _, hw1⟩)))
      have oq : Only (fun _ => False) wr (wr.drewN nq) := (Only.refl _ wr).drewN nq
      have hEq := hE5'.keeps oq id (fun _ _ => id)
      have hslq := hsl5.out.keeps oq (fun _ _ _ => id)
      have ooq := o5.out.trans oq (fun _ e => e) (fun _ _ e => e.elim)
      generalize wr.drewN nq = u at *
      clear d15 d9 d0 hg oq hl5 hE5' hE5 hsl5 o5
      have d15 := (hEq.get 15 (by omega) _ j15).1
      have d10 := (hEq.get 10 (by omega) _ i10).1
      have eL : l5.length = 16 := hEq.len
      have f2 : (l5.set 6 (.slice none 0 0))[2]? = l[2]? := by rw [List.getElem?_set_ne (by omega), h2]; exact gw 2 _ (by omega) (by omega) (by omega) (by omega) (by omega) (by omega) h2
      have f11 : (l5.set 6 (.slice none 0 0))[11]? = l[11]? := by
        rw [List.getElem?_set_ne (by omega)]
        obtain ⟨v11, h11⟩ : ∃ v, l[11]? = some v := ⟨_, List.getElem?_eq_getElem (by omega)⟩
        rw [h11]; exact gw 11 _ (by omega) (by omega) (by omega) (by omega) (by omega) (by omega) h11
      have f3 : (l5.set 6 (.slice none 0 0))[3]? = some (.int .i64 ((k : Int) + 1)) := by rw [List.getElem?_set_ne (by omega)]; exact i3
      have f15 : (l5.set 6 (.slice none 0 0))[15]? = some (.int .i64 0) := by rw [List.getElem?_set_ne (by omega)]; exact j15
      have hend : Calls Tryz.prog 72 #[.pointer (some ⟨eb, 0, none⟩)] u fun e w' => (∃ v, e = .returned v) ∧ Ed w' eb (l5.set 6 (.slice none 0 0)) (Adz.told q out (Adz.subst sp c)) ∧ Only (fun b => b = eb ∨ (Typ u b 5 ∧ eb ≤ b)) u w' := by
        cases q with
        | false => exact end_ok eb u l5 out hEq j15 (gw 1 _ (by omega) (by omega) (by omega) (by omega) (by omega) (by omega) h1) a' ha qa m c' hcc qc _ i4 hslq (gw 5 _ (by omega) (by omega) (by omega) (by omega) (by omega) (by omega) h5) (gw 6 _ (by omega) (by omega) (by omega) (by omega) (by omega) (by omega) h6) hf.less hm hlen
        | true => exact end_quiet eb u l5 out hEq j15 (gw 1 _ (by omega) (by omega) (by omega) (by omega) (by omega) (by omega) h1) a' ha qa _ m c' hcc qc i4 (gw 5 _ (by omega) (by omega) (by omega) (by omega) (by omega) (by omega) h5) (gw 6 _ (by omega) (by omega) (by omega) (by omega) (by omega) (by omega) h6) hf.less hm
      go_wp2_with fail
      refine (goesOn_calls eb _ 0 d15).mono ?_
      rintro e w6 ⟨rfl, rfl⟩
      go_wp2_with fail
      refine hend.mono ?_
      rintro e w7 ⟨⟨v7, rfl⟩, hE7, o7⟩
      go_wp2
      go_end0
      exact ⟨⟨_, rfl⟩, _, hE7, f15, f3, f2, f11, ed_only ooq o7 (fun _ e => e) (fun b e => e.imp id Or.inl)⟩
end Go.Proofs.YtbiobhghnldckaaGreatDoor
