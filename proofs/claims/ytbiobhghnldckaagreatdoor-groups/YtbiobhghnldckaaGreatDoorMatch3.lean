/- Proved: small laws: the ends of a pattern's items, and how their rows lie in memory. No condition. -/
import Derived.Test.YtbiobhghnldckaaGreatDoorMatch2
namespace Go.Proofs.YtbiobhghnldckaaGreatDoor
open Go.RowKit
set_option linter.unusedVariables false
namespace Adz
/-- the ends of an item from a place on, by the runes and by the next item's ends from there on -/
def endsGo (x : Item) (n : Int) : Nat → List Int → List Int → List Int
  | j, [], b0 :: _ => [endAt x none j n 0 0 b0]
  | j, r :: rs, b0 :: b1 :: bs => let rest := endsGo x n (j + 1) rs (b1 :: bs); endAt x (some r) j n (rest.headD 0) b1 b0 :: rest
  | _, _, _ => []
def ends (x : Item) (sp bh : List Int) : List Int := endsGo x sp.length 0 sp bh
theorem endsGo_length (x : Item) (n : Int) : ∀ (rs : List Int) (bh : List Int) (j : Nat), bh.length = rs.length + 1 → (endsGo x n j rs bh).length = bh.length
  | [], [b], j, h => by simp [endsGo]
  | [], [], j, h => by simp at h
  | [], b :: c :: l, j, h => by simp at h
  | r :: rs, [], j, h => by simp at h
  | r :: rs, [b], j, h => by simp at h
  | r :: rs, b :: c :: l, j, h => by
    simp only [endsGo, List.length_cons]
    rw [endsGo_length x n rs (c :: l) (j + 1) (by simpa using h)]
    simp
theorem endsGo_lt (x : Item) (n : Int) : ∀ (rs : List Int) (bh : List Int) (j k : Nat), bh.length = rs.length + 1 → k < rs.length →
    (endsGo x n j rs bh).getD k 0 = endAt x (some (rs.getD k 0)) ((j + k : Nat) : Int) n ((endsGo x n j rs bh).getD (k + 1) 0) (bh.getD (k + 1) 0) (bh.getD k 0)
  | [], bh, j, k, h, hk => by simp at hk
  | r :: rs, [], j, k, h, hk => by simp at h
  | r :: rs, [b], j, k, h, hk => by simp at h
  | r :: rs, b :: c :: l, j, 0, h, hk => by
    simp only [endsGo, List.getD_cons_zero, List.getD_cons_succ, Nat.add_zero]
    cases endsGo x n (j + 1) rs (c :: l) <;> simp
  | r :: rs, b :: c :: l, j, k + 1, h, hk => by
    have := endsGo_lt x n rs (c :: l) (j + 1) k (by simpa using h) (by simpa using hk)
    simp only [endsGo, List.getD_cons_succ]
    rw [this, show j + 1 + k = j + (k + 1) by omega]
    simp
theorem endsGo_eq (x : Item) (n : Int) : ∀ (rs : List Int) (bh : List Int) (j : Nat), bh.length = rs.length + 1 →
    (endsGo x n j rs bh).getD rs.length 0 = endAt x none ((j + rs.length : Nat) : Int) n 0 0 (bh.getD rs.length 0)
  | [], [b], j, h => by simp [endsGo]
  | [], [], j, h => by simp at h
  | [], b :: c :: l, j, h => by simp at h
  | r :: rs, [], j, h => by simp at h
  | r :: rs, [b], j, h => by simp at h
  | r :: rs, b :: c :: l, j, h => by
    have := endsGo_eq x n rs (c :: l) (j + 1) (by simpa using h)
    simp only [endsGo, List.length_cons, List.getD_cons_succ]
    rw [this, show j + 1 + rs.length = j + (rs.length + 1) by omega]
theorem ends_lt (x : Item) (sp bh : List Int) (h : bh.length = sp.length + 1) (k : Nat) (hk : k < sp.length) :
    (ends x sp bh).getD k 0 = endAt x (some (sp.getD k 0)) k sp.length ((ends x sp bh).getD (k + 1) 0) (bh.getD (k + 1) 0) (bh.getD k 0) := by
  have := endsGo_lt x sp.length sp bh 0 k h hk
  simpa [ends] using this
theorem ends_eq (x : Item) (sp bh : List Int) (h : bh.length = sp.length + 1) : (ends x sp bh).getD sp.length 0 = endAt x none sp.length sp.length 0 0 (bh.getD sp.length 0) := by
  have := endsGo_eq x sp.length sp bh 0 h
  simpa [ends] using this
theorem ends_length (x : Item) (sp bh : List Int) (h : bh.length = sp.length + 1) : (ends x sp bh).length = bh.length := endsGo_length x _ sp bh 0 h
end Adz

/-- A slice of runes lies in memory. -/
def SpaceAt (w : World) (ra : Option Addr) (sp : List Int) : Prop := sp ≠ [] → ∃ rb ro, ra = some ⟨rb, ro, none⟩ ∧ Typ w rb 21 ∧ ∀ j, j < sp.length → w.cell? ⟨rb, ro + j, none⟩ = some (.int .i32 (sp.getD j 0))
theorem SpaceAt.keeps {S : Nat → Prop} {w w' : World} {ra : Option Addr} {sp : List Int} (h : SpaceAt w ra sp) (o : Only S w w') (hs : ∀ b, Typ w b 21 → ¬ S b) : SpaceAt w' ra sp := by
  intro hne
  obtain ⟨rb, ro, e, ht, hc⟩ := h hne
  exact ⟨rb, ro, e, ht.keeps o (hs _ ht), fun j hj => o.keeps (hc j hj) (hs _ ht)⟩
/-- A row of places lies in memory. -/
structure Ints (w : World) (b : Nat) (l : List Int) : Prop where
  typ : Typ w b 3
  cell : ∀ j, j < l.length → w.cell? ⟨b, j, none⟩ = some (.int .i64 (l.getD j 0))
theorem Ints.keeps {S : Nat → Prop} {w w' : World} {b : Nat} {l : List Int} (h : Ints w b l) (o : Only S w w') (hs : ¬ S b) : Ints w' b l :=
  ⟨h.typ.keeps o hs, fun j hj => o.keeps (h.cell j hj) hs⟩
set_option maxRecDepth 100000 in
theorem mk_ints (w : World) (n : Nat) (hn : n ≤ 2000000) : (Instr.makeSlice 35 (.int .i64 n) (.int .i64 n)).run Tryz.prog w = .ok (.slice (some ⟨w.heap.size, 0, none⟩) n n) (w.alloc (.cells (madeCells #[.int .i64 0] n) 3)) := by
  have h := run_make (P := Tryz.prog) (w := w) 35 3 _ (.int .i64 0) (by rfl) (by rfl) (by rfl) .i64 .i64 n n (by omega) (by omega) (by show (8 : Int) * n ≤ _; omega) (by omega)
  have e : Tryz.prog.types[3].size = 1 := by rfl
  rw [h, e, Int.toNat_natCast, Nat.mul_one]
  rfl
namespace Adz
def allEnds (sp : List Int) : List Item → List (List Int)
  | [] => [List.replicate (sp.length + 1) 0]
  | x :: xs => ends x sp ((allEnds sp xs).headD []) :: allEnds sp xs
theorem allEnds_length (sp : List Int) : ∀ xs : List Item, (allEnds sp xs).length = xs.length + 1
  | [] => rfl
  | x :: xs => by simp [allEnds, allEnds_length sp xs]
theorem allEnds_width (sp : List Int) : ∀ (xs : List Item) (i : Nat), i ≤ xs.length → ((allEnds sp xs).getD i []).length = sp.length + 1
  | [], i, h => by
    have : i = 0 := by simpa using h
    subst this
    simp [allEnds]
  | x :: xs, 0, h => by
    have hw := allEnds_width sp xs 0 (by omega)
    have e : (allEnds sp xs).headD [] = (allEnds sp xs).getD 0 [] := by cases allEnds sp xs <;> rfl
    simp only [allEnds, List.getD_cons_zero]
    rw [ends_length x sp _ (by rw [e]; exact hw), e, hw]
  | x :: xs, i + 1, h => by
    simp only [allEnds, List.getD_cons_succ]
    exact allEnds_width sp xs i (by simpa using h)
theorem allEnds_last (sp : List Int) : ∀ xs : List Item, (allEnds sp xs).getD xs.length [] = List.replicate (sp.length + 1) 0
  | [] => rfl
  | x :: xs => by simp only [allEnds, List.length_cons, List.getD_cons_succ]; exact allEnds_last sp xs
theorem allEnds_at (sp : List Int) : ∀ (xs : List Item) (i : Nat) (h : i < xs.length), (allEnds sp xs).getD i [] = ends xs[i] sp ((allEnds sp xs).getD (i + 1) [])
  | x :: xs, 0, h => by
    have e : (allEnds sp xs).headD [] = (allEnds sp xs).getD 0 [] := by cases allEnds sp xs <;> rfl
    simp only [allEnds, List.getD_cons_zero, List.getD_cons_succ, List.getElem_cons_zero]
    rw [e]
  | x :: xs, i + 1, h => by
    simp only [allEnds, List.getD_cons_succ, List.getElem_cons_succ]
    exact allEnds_at sp xs i (by simpa using h)
  | [], _, h => by simp at h
end Adz
set_option maxRecDepth 100000 in
theorem mk_rows (w : World) (n : Nat) (hn : n ≤ 2000000) : (Instr.makeSlice 77 (.int .i64 n) (.int .i64 n)).run Tryz.prog w = .ok (.slice (some ⟨w.heap.size, 0, none⟩) n n) (w.alloc (.cells (madeCells #[.slice none 0 0] n) 35)) := by
  have h := run_make (P := Tryz.prog) (w := w) 77 35 _ (.slice none 0 0) (by rfl) (by rfl) (by rfl) .i64 .i64 n n (by omega) (by omega) (by show (24 : Int) * n ≤ _; omega) (by omega)
  have e : Tryz.prog.types[35].size = 1 := by rfl
  rw [h, e, Int.toNat_natCast, Nat.mul_one]
  rfl
theorem ItemsAt.get {w : World} {a : Option Addr} {n c : Nat} {xs : List Adz.Item} (h : ItemsAt w (.slice a n c) xs) (hf : ∀ x ∈ xs, x.spans.length ≤ 1000) (hne : xs ≠ []) :
    ∃ ib, a = some ⟨ib, 0, none⟩ ∧ Typ w ib 270 ∧ ∀ i (hi : i < xs.length), ItemAt w ib (i * 4) xs[i] ∧ w.cell? ⟨ib, i * 4 + 1, none⟩ = some (.int .i64 xs[i].group) := by
  obtain ⟨svs, h1, h2⟩ := h
  rcases h1.2 with ⟨_, e⟩ | ⟨g, cap, cur, hv, _, hg, hcap, _, hsz, htake⟩
  · exact absurd (List.length_eq_zero_iff.1 e) hne
  · injection hv with e1 e2 e3
    refine ⟨g, e1, ⟨cur, (0, 0), hg⟩, fun i hi => ?_⟩
    obtain ⟨v, hv, hc⟩ := itemsCells_get h2 i hi
    have hcell : ∀ o u, o < 4 → (itemCells xs[i] v)[o]? = some u → w.cell? ⟨g, i * 4 + o, none⟩ = some u := by
      intro o u ho hu
      rw [cell_of_row _ g (i * 4 + o) cur _ (0, 0) hg]
      have hx := hc o ho
      rw [hu, ← htake, List.getElem?_take] at hx
      have : i * 4 + o < xs.length * 4 := by omega
      simpa [this] using hx
    obtain ⟨sa, sc, rfl, hsp⟩ := hv
    exact ⟨⟨hcell 0 _ (by omega) rfl, ⟨sa, sc, hcell 2 _ (by omega) rfl, ⟨sa, sc, rfl, hsp⟩⟩, hcell 3 _ (by omega) rfl, hf _ (List.getElem_mem hi)⟩, hcell 1 _ (by omega) rfl⟩


/-- Rows of places lie in memory, one block each, from a block on. -/
structure Mat (w : World) (ab base K n : Nat) (F : Nat → Nat → Int) : Prop where
  typ : Typ w ab 35
  cell : ∀ j, j < K → w.cell? ⟨ab, j, none⟩ = some (.slice (some ⟨base + j, 0, none⟩) (n + 1) (n + 1))
  rows : ∀ j, j < K → Typ w (base + j) 3
  place : ∀ j t, j < K → t ≤ n → w.cell? ⟨base + j, t, none⟩ = some (.int .i64 (F j t)) ∧ w.frozen? ⟨base + j, t, none⟩ = false
theorem Mat.keeps {S : Nat → Prop} {w w' : World} {ab base K n : Nat} {F : Nat → Nat → Int} (h : Mat w ab base K n F) (o : Only S w w') (hs : ∀ c, Typ w c 35 → ¬ S c) (hs2 : ∀ c, Typ w c 3 → ¬ S c) : Mat w' ab base K n F :=
  ⟨h.typ.keeps o (hs _ h.typ), fun j hj => o.keeps (h.cell j hj) (hs _ h.typ), fun j hj => (h.rows j hj).keeps o (hs2 _ (h.rows j hj)),
    fun j t hj ht => ⟨o.keeps (h.place j t hj ht).1 (hs2 _ (h.rows j hj)), o.keepsFrozen (h.place j t hj ht).1 (h.place j t hj ht).2 (hs2 _ (h.rows j hj))⟩⟩
theorem Mat.like {w : World} {ab base K n : Nat} {F G : Nat → Nat → Int} (h : Mat w ab base K n F) (e : ∀ j t, j < K → t ≤ n → F j t = G j t) : Mat w ab base K n G :=
  ⟨h.typ, h.cell, h.rows, fun j t hj ht => by rw [← e j t hj ht]; exact h.place j t hj ht⟩
theorem Mat.set {w : World} {ab base K n : Nat} {F : Nat → Nat → Int} (h : Mat w ab base K n F) (i s : Nat) (hi : i < K) (hs : s ≤ n) (v : Int) : Mat (w.setCell ⟨base + i, s, none⟩ (.int .i64 v)) ab base K n (fun j t => if j = i ∧ t = s then v else F j t) := by
  have o := only_set w (base + i) s (.int .i64 v)
  have na : ab ≠ base + i := h.typ.ne (h.rows i hi) (by decide)
  refine ⟨h.typ.setCell _ _, fun j hj => o.keeps (h.cell j hj) na, fun j hj => (h.rows j hj).setCell _ _, fun j t hj ht => ⟨?_, ?_⟩⟩
  · by_cases e : j = i ∧ t = s
    · obtain ⟨rfl, rfl⟩ := e
      simp only [and_self, if_true]
      exact World.cell?_setCell_same _ _ _ (h.place j t hj ht).1
    · rw [if_neg e, World.cell?_setCell_other w ⟨base + i, s, none⟩ ⟨base + j, t, none⟩ _ (by intro h; injection h; omega)]
      exact (h.place j t hj ht).1
  · rw [World.frozen?_setCell]; exact (h.place j t hj ht).2
/-- The first m of these rows are made, of zeros. -/
structure MatTo (w : World) (ab base K m n : Nat) : Prop where
  typ : Typ w ab 35
  any : ∀ j, j < K → (∃ v, w.cell? ⟨ab, j, none⟩ = some v) ∧ w.frozen? ⟨ab, j, none⟩ = false
  cell : ∀ j, j < m → w.cell? ⟨ab, j, none⟩ = some (.slice (some ⟨base + j, 0, none⟩) (n + 1) (n + 1))
  rows : ∀ j, j < m → Typ w (base + j) 3
  place : ∀ j t, j < m → t ≤ n → w.cell? ⟨base + j, t, none⟩ = some (.int .i64 0) ∧ w.frozen? ⟨base + j, t, none⟩ = false
theorem MatTo.made (w : World) (base K n : Nat) : MatTo (w.alloc (.cells (madeCells #[.slice none 0 0] K) 35)) w.heap.size base K 0 n := by
  have hc := Cells.new w (madeCells #[.slice none 0 0] K) 35
  rw [toList_madeCells_one] at hc
  refine ⟨Typ.new w _ _ _, fun j hj => ?_, fun j hj => by omega, fun j hj => by omega, fun j t hj => by omega⟩
  have := hc j (.slice none 0 0) (by simp [hj])
  exact ⟨⟨_, this.1⟩, this.2⟩
theorem MatTo.keeps {S : Nat → Prop} {w w' : World} {ab base K m n : Nat} (h : MatTo w ab base K m n) (o : Only S w w') (hs : ∀ c, Typ w c 35 → ¬ S c) (hs2 : ∀ c, Typ w c 3 → ¬ S c) : MatTo w' ab base K m n :=
  ⟨h.typ.keeps o (hs _ h.typ), fun j hj => ⟨⟨_, o.keeps (h.any j hj).1.choose_spec (hs _ h.typ)⟩, o.keepsFrozen (h.any j hj).1.choose_spec (h.any j hj).2 (hs _ h.typ)⟩, fun j hj => o.keeps (h.cell j hj) (hs _ h.typ), fun j hj => (h.rows j hj).keeps o (hs2 _ (h.rows j hj)),
    fun j t hj ht => ⟨o.keeps (h.place j t hj ht).1 (hs2 _ (h.rows j hj)), o.keepsFrozen (h.place j t hj ht).1 (h.place j t hj ht).2 (hs2 _ (h.rows j hj))⟩⟩
theorem MatTo.add {w : World} {ab base K m n : Nat} (h : MatTo w ab base K m n) (hm : m < K) (hb : base + m = w.heap.size) :
    MatTo ((w.setCell ⟨ab, m, none⟩ (.slice (some ⟨base + m, 0, none⟩) (n + 1) (n + 1))).alloc (.cells (madeCells #[.int .i64 0] (n + 1)) 3)) ab base K (m + 1) n := by
  obtain ⟨u, hu⟩ := (h.any m hm).1
  have os := only_set w ab m (.slice (some ⟨base + m, 0, none⟩) (n + 1) (n + 1))
  generalize hw1 : w.setCell ⟨ab, m, none⟩ (.slice (some ⟨base + m, 0, none⟩) (n + 1) (n + 1)) = w1 at *
  have hs1 : w1.heap.size = w.heap.size := by rw [← hw1]; simp [World.setCell]
  have oa : Only (fun _ => False) w1 (w1.alloc (.cells (madeCells #[.int .i64 0] (n + 1)) 3)) := (Only.refl _ w1).alloc _
  have t1 : Typ w1 ab 35 := by rw [← hw1]; exact h.typ.setCell _ _
  have hc := Cells.new w1 (madeCells #[.int .i64 0] (n + 1)) 3
  rw [toList_madeCells_one, hs1, ← hb] at hc
  have tn := Typ.new w1 (madeCells #[.int .i64 0] (n + 1)) 3 (0, 0)
  rw [hs1, ← hb] at tn
  have h1 : ∀ j, j < K → (∃ v, w1.cell? ⟨ab, j, none⟩ = some v) ∧ w1.frozen? ⟨ab, j, none⟩ = false := fun j hj => by
    rw [← hw1]
    refine ⟨?_, by rw [World.frozen?_setCell]; exact (h.any j hj).2⟩
    by_cases e : j = m
    · subst e; exact ⟨_, World.cell?_setCell_same _ _ _ hu⟩
    · obtain ⟨y, hy⟩ := (h.any j hj).1
      exact ⟨y, by rw [World.cell?_setCell_other w ⟨ab, m, none⟩ ⟨ab, j, none⟩ _ (by intro h; injection h; omega)]; exact hy⟩
  have h2 : ∀ j, j < m + 1 → w1.cell? ⟨ab, j, none⟩ = some (.slice (some ⟨base + j, 0, none⟩) (n + 1) (n + 1)) := fun j hj => by
    rw [← hw1]
    by_cases e : j = m
    · subst e; exact World.cell?_setCell_same _ _ _ hu
    · rw [World.cell?_setCell_other w ⟨ab, m, none⟩ ⟨ab, j, none⟩ _ (by intro h; injection h; omega)]; exact h.cell j (by omega)
  refine ⟨t1.keeps oa id, fun j hj => ⟨⟨_, oa.keeps (h1 j hj).1.choose_spec id⟩, oa.keepsFrozen (h1 j hj).1.choose_spec (h1 j hj).2 id⟩, fun j hj => oa.keeps (h2 j hj) id, fun j hj => ?_, fun j t hj ht => ?_⟩
  · by_cases e : j = m
    · subst e; exact tn
    · exact ((h.rows j (by omega)).keeps os (fun c => (h.typ.ne (h.rows j (by omega)) (by decide)) c.symm)).keeps oa id
  · by_cases e : j = m
    · subst e; exact hc t (.int .i64 0) (by rw [List.getElem?_replicate]; simp; omega)
    · have nn := fun c => (h.typ.ne (h.rows j (by omega)) (by decide)) (Eq.symm c)
      have p := h.place j t (by omega) ht
      have q := os.keeps p.1 nn
      exact ⟨oa.keeps q id, oa.keepsFrozen q (os.keepsFrozen p.1 p.2 nn) id⟩
theorem MatTo.full {w : World} {ab base K n : Nat} (h : MatTo w ab base K K n) : Mat w ab base K n (fun _ _ => 0) := ⟨h.typ, h.cell, h.rows, h.place⟩
end Go.Proofs.YtbiobhghnldckaaGreatDoor
