/- Proved: small laws on memory: which blocks a call may have turned ('Only'), and what then still holds. No condition. -/
import Derived.WalkKit
import Derived.Deep.Draws
namespace Go.Proofs.YtbiobhghnldckaaGreatDoor
open Go.RowKit

/-- Of the blocks that were there, only those of S may have turned; the streams are as they were; no block has gone. -/
structure Only (S : Nat → Prop) (w w' : World) : Prop where
  os : w'.os = w.os
  tape : w'.tape = w.tape
  output : w'.output = w.output
  size : w.heap.size ≤ w'.heap.size
  block : ∀ k, k < w.heap.size → ¬ S k → w'.heap[k]? = w.heap[k]?

theorem Only.refl (S : Nat → Prop) (w : World) : Only S w w := ⟨rfl, rfl, rfl, Nat.le_refl _, fun _ _ _ => rfl⟩
theorem Only.trans {S T U : Nat → Prop} {a b c : World} (h : Only S a b) (k : Only T b c) (hs : ∀ x, S x → U x) (ht : ∀ x, x < a.heap.size → T x → U x) : Only U a c :=
  ⟨k.os.trans h.os, k.tape.trans h.tape, k.output.trans h.output, Nat.le_trans h.size k.size,
   fun i hi hu => (k.block i (Nat.lt_of_lt_of_le hi h.size) (fun e => hu (ht i hi e))).trans (h.block i hi (fun e => hu (hs i e)))⟩
theorem Only.mono {S U : Nat → Prop} {a b : World} (h : Only S a b) (hs : ∀ x, x < a.heap.size → S x → U x) : Only U a b :=
  ⟨h.os, h.tape, h.output, h.size, fun i hi hu => h.block i hi (fun e => hu (hs i hi e))⟩
theorem Only.drew {S : Nat → Prop} {a w : World} (h : Only S a w) : Only S a w.drew := ⟨h.os, h.tape, h.output, h.size, h.block⟩
theorem Only.drewN {S : Nat → Prop} {a w : World} (h : Only S a w) (n : Nat) : Only S a (w.drewN n) := ⟨h.os, h.tape, h.output, h.size, h.block⟩
theorem Only.alloc {S : Nat → Prop} {a w : World} (h : Only S a w) (o : Obj) : Only S a (w.alloc o) :=
  ⟨h.os, h.tape, h.output, Nat.le_trans h.size (by simp), fun k hk hs => (Below.heap_alloc _ _ _ (Nat.lt_of_lt_of_le hk h.size)).trans (h.block k hk hs)⟩
theorem Only.setCell {S : Nat → Prop} {a w : World} (h : Only S a w) {p : Addr} (hp : p.block < a.heap.size → S p.block) (u : Value) : Only S a (w.setCell p u) :=
  ⟨h.os, h.tape, h.output, Nat.le_trans h.size (by simp [World.setCell]), fun k hk hs =>
    (Below.heap_setCell _ _ _ _ (fun e => hs (by subst e; exact hp hk))).trans (h.block k hk hs)⟩
theorem Only.cell {S : Nat → Prop} {w w' : World} (h : Only S w w') {p : Addr} (hp : p.block < w.heap.size) (hs : ¬ S p.block) : w'.cell? p = w.cell? p :=
  World.cell?_of_block (w := w) (h.block p.block hp hs)
theorem Only.frozen {S : Nat → Prop} {w w' : World} (h : Only S w w') {p : Addr} (hp : p.block < w.heap.size) (hs : ¬ S p.block) : w'.frozen? p = w.frozen? p :=
  World.frozen?_of_block (w := w) (h.block p.block hp hs)
/-- A cell that is there stays what it was. -/
theorem Only.keeps {S : Nat → Prop} {w w' : World} (h : Only S w w') {p : Addr} {v : Value} (hc : w.cell? p = some v) (hs : ¬ S p.block) : w'.cell? p = some v :=
  (h.cell (World.block_lt_of_cell? _ _ hc) hs).trans hc
theorem Only.keepsFrozen {S : Nat → Prop} {w w' : World} (h : Only S w w') {p : Addr} {v : Value} (hc : w.cell? p = some v) (hf : w.frozen? p = false) (hs : ¬ S p.block) : w'.frozen? p = false :=
  (h.frozen (World.block_lt_of_cell? _ _ hc) hs).trans hf
theorem Only.below {S : Nat → Prop} {w w' : World} (h : Only S w w') (B : Nat) (hB : B ≤ w.heap.size) (hs : ∀ k, k < B → ¬ S k) : Below B w w' :=
  ⟨h.os, h.tape, h.output, h.size, fun k hk => h.block k (Nat.lt_of_lt_of_le hk hB) (hs k hk)⟩
theorem Only.of_below {w w' : World} (h : Below w.heap.size w w') (S : Nat → Prop) : Only S w w' :=
  ⟨h.os, h.tape, h.output, h.size, fun k hk _ => h.block k hk⟩
theorem Only.of_grown {w w' : World} {row : Option Nat} (h : w.grownBy w' row) : Only (fun k => row = some k) w w' :=
  ⟨h.os, h.tape, h.output, h.size, fun k hk hs => h.block k hk (fun e => hs e.symm)⟩

/-- Block b is a row of cells of type T. -/
def Typ (w : World) (b : Nat) (T : TypeId) : Prop := ∃ cur fz, w.heap[b]? = some (.cells cur T fz)
theorem Typ.lt {w : World} {b : Nat} {T : TypeId} (h : Typ w b T) : b < w.heap.size := by
  obtain ⟨c, f, h⟩ := h
  exact (Array.getElem?_eq_some_iff.1 h).1
theorem Typ.one {w : World} {b : Nat} {T U : TypeId} (h : Typ w b T) (k : Typ w b U) : T = U := by
  obtain ⟨c, f, h⟩ := h
  obtain ⟨c', f', k⟩ := k
  rw [h] at k
  simp at k
  exact k.2.1
theorem Typ.ne {w : World} {b c : Nat} {T U : TypeId} (h : Typ w b T) (k : Typ w c U) (hn : T ≠ U) : b ≠ c := fun e => by subst e; exact hn (h.one k)
theorem Typ.keeps {S : Nat → Prop} {w w' : World} {b : Nat} {T : TypeId} (h : Typ w b T) (o : Only S w w') (hs : ¬ S b) : Typ w' b T := by
  obtain ⟨c, f, h⟩ := h
  exact ⟨c, f, (o.block b (Array.getElem?_eq_some_iff.1 h).1 hs).trans h⟩
theorem Typ.drewN {w : World} {b : Nat} {T : TypeId} (h : Typ w b T) (n : Nat) : Typ (w.drewN n) b T := h
theorem Typ.drew {w : World} {b : Nat} {T : TypeId} (h : Typ w b T) : Typ w.drew b T := h
theorem Typ.alloc {w : World} {b : Nat} {T : TypeId} (h : Typ w b T) (o : Obj) : Typ (w.alloc o) b T := by
  have hl := h.lt
  obtain ⟨c, f, h⟩ := h
  exact ⟨c, f, (Below.heap_alloc _ _ _ hl).trans h⟩
theorem Typ.new (w : World) (c : Array Value) (T : TypeId) (fz : Nat × Nat) : Typ (w.alloc (.cells c T fz)) w.heap.size T := ⟨c, fz, heap_alloc_new w _⟩
theorem Typ.setCell {w : World} {b : Nat} {T : TypeId} (h : Typ w b T) (p : Addr) (v : Value) : Typ (w.setCell p v) b T := by
  obtain ⟨c, f, h⟩ := h
  by_cases e : b = p.block
  · subst e
    refine ⟨if p.spot.isSome then c else c.setIfInBounds p.off v, f, ?_⟩
    simp only [World.setCell, Array.getElem?_modify, if_pos, h, Option.map_some]
  · exact ⟨c, f, (Below.heap_setCell _ _ _ _ e).trans h⟩
theorem Typ.of_row {w : World} {base : Nat} {e : TypeId} {size : Nat} {v : Value} {n : Nat} {xs : List Value} (h : w.ownsRow base e size v n xs) {b : Nat} (hb : v.ownBlock = some b) : Typ w b e := by
  rcases h.2 with ⟨rfl, _⟩ | ⟨g, cap, cur, rfl, _, hg, _⟩
  · simp [Value.ownBlock] at hb
  · simp [Value.ownBlock] at hb
    subst hb
    exact ⟨cur, (0, 0), hg⟩
theorem row_ne {w : World} {base : Nat} {e : TypeId} {size : Nat} {v : Value} {n : Nat} {xs : List Value} (h : w.ownsRow base e size v n xs) {b : Nat} {T : TypeId} (t : Typ w b T) (hn : T ≠ e) : v.ownBlock ≠ some b :=
  fun hb => hn (t.one (Typ.of_row h hb))
theorem row_keeps {S : Nat → Prop} {w w' : World} {base : Nat} {e : TypeId} {size : Nat} {v : Value} {n : Nat} {xs : List Value} (h : w.ownsRow base e size v n xs) (o : Only S w w') (hs : ∀ b, v.ownBlock = some b → ¬ S b) : w'.ownsRow base e size v n xs := by
  refine ⟨h.1, ?_⟩
  rcases h.2 with hn | ⟨g, cap, cur, rfl, hb, hgg, rest⟩
  · exact .inl hn
  · refine .inr ⟨g, cap, cur, rfl, hb, ?_, rest⟩
    rw [o.block g (Array.getElem?_eq_some_iff.1 hgg).1 (hs g rfl)]
    exact hgg

/-- Of block fb only the cell at fo may have turned. -/
structure Field (fb fo : Nat) (w w' : World) : Prop where
  others : ∀ o, o ≠ fo → w'.cell? ⟨fb, o, none⟩ = w.cell? ⟨fb, o, none⟩
  frozen : ∀ o, w'.frozen? ⟨fb, o, none⟩ = w.frozen? ⟨fb, o, none⟩
  typ : ∀ T, Typ w fb T → Typ w' fb T
theorem Field.setCell (w : World) (fb fo : Nat) (v : Value) : Field fb fo w (w.setCell ⟨fb, fo, none⟩ v) :=
  ⟨fun o ho => World.cell?_setCell_other _ _ _ _ (by simp), fun o => World.frozen?_setCell _ _ _ _, fun _ h => h.setCell _ _⟩

/-- Behind 'x.f = append(x.f, ..)' through a pointer. -/
theorem field_end {w wb w1 : World} {fb fo : Nat} {iv v' : Value} {e : TypeId} {size M base : Nat} {ys : List Value} (hb : Only (fun _ => False) w wb) (hgrow : wb.grownBy w1 iv.ownBlock)
    (kc : w1.cell? ⟨fb, fo, none⟩ = some iv) (hown : w1.ownsRow base e size v' M ys) (hv : v'.ownBlock ≠ some fb) (hlt : fb < w.heap.size) (hne : iv.ownBlock ≠ some fb) :
    (w1.setCell ⟨fb, fo, none⟩ v').cell? ⟨fb, fo, none⟩ = some v' ∧ (w1.setCell ⟨fb, fo, none⟩ v').ownsRow base e size v' M ys ∧ Only (fun b => b = fb ∨ iv.ownBlock = some b) w (w1.setCell ⟨fb, fo, none⟩ v') ∧
      Field fb fo w (w1.setCell ⟨fb, fo, none⟩ v') := by
  have o1 : Only (fun b => iv.ownBlock = some b) w w1 := Only.trans hb (Only.of_grown hgrow) (fun x h => h.elim) (fun x _ h => h)
  have f := Field.setCell w1 fb fo v'
  refine ⟨World.cell?_setCell_same _ _ _ kc, ?_, ?_, ?_⟩
  · exact row_keeps hown (Only.setCell (S := (· = fb)) (p := ⟨fb, fo, none⟩) (Only.refl _ w1) (fun _ => rfl) v') (fun b h e => hv (by rw [h, e]))
  · exact Only.setCell (S := fun b => b = fb ∨ iv.ownBlock = some b) (p := ⟨fb, fo, none⟩) (o1.mono (fun x _ h => Or.inr h)) (fun _ => Or.inl rfl) v'
  · exact ⟨fun o ho => (f.others o ho).trans (o1.cell (p := ⟨fb, o, none⟩) hlt hne), fun o => (f.frozen o).trans (o1.frozen (p := ⟨fb, o, none⟩) hlt hne), fun T h => f.typ T (h.keeps o1 hne)⟩

/-- From its beginning on, block b holds these cells, and they may be written. -/
def Cells (w : World) (b : Nat) (l : List Value) : Prop := ∀ j v, l[j]? = some v → w.cell? ⟨b, j, none⟩ = some v ∧ w.frozen? ⟨b, j, none⟩ = false
theorem Cells.new (w : World) (c : Array Value) (T : TypeId) : Cells (w.alloc (.cells c T)) w.heap.size c.toList := by
  intro j v hv
  have hb := heap_alloc_new w (.cells c T)
  refine ⟨?_, ?_⟩
  · rw [cell_of_row _ w.heap.size j c T (0, 0) hb]
    simpa using hv
  · unfold World.frozen?
    rw [hb]
    simp
theorem Cells.keeps {S : Nat → Prop} {w w' : World} {b : Nat} {l : List Value} (h : Cells w b l) (o : Only S w w') (hs : ¬ S b) : Cells w' b l := fun j v hv =>
  ⟨o.keeps (h j v hv).1 hs, o.keepsFrozen (h j v hv).1 (h j v hv).2 hs⟩
theorem Cells.drewN {w : World} {b : Nat} {l : List Value} (h : Cells w b l) (n : Nat) : Cells (w.drewN n) b l := h
theorem Cells.drew {w : World} {b : Nat} {l : List Value} (h : Cells w b l) : Cells w.drew b l := h
theorem Cells.alloc {w : World} {b : Nat} {l : List Value} (h : Cells w b l) (o : Obj) : Cells (w.alloc o) b l :=
  h.keeps (S := fun _ => False) ((Only.refl _ w).alloc o) id
end Go.Proofs.YtbiobhghnldckaaGreatDoor

/- Proved: more small laws on memory. No condition. -/
namespace Go.Proofs.YtbiobhghnldckaaGreatDoor
open Go.RowKit

/-- The four cells of a block are written. -/
def set4 (w : World) (b : Nat) (v0 v1 v2 v3 : Value) : World := (((w.setCell ⟨b, 0, none⟩ v0).setCell ⟨b, 1, none⟩ v1).setCell ⟨b, 2, none⟩ v2).setCell ⟨b, 3, none⟩ v3
theorem set4_only (w : World) (b : Nat) (v0 v1 v2 v3 : Value) : Only (· = b) w (set4 w b v0 v1 v2 v3) :=
  Only.setCell (S := (· = b)) (p := ⟨b, 3, none⟩) (Only.setCell (S := (· = b)) (p := ⟨b, 2, none⟩) (Only.setCell (S := (· = b)) (p := ⟨b, 1, none⟩) (Only.setCell (S := (· = b)) (p := ⟨b, 0, none⟩) (Only.refl _ w) (fun _ => rfl) _) (fun _ => rfl) _) (fun _ => rfl) _) (fun _ => rfl) _
theorem set4_size (w : World) (b : Nat) (v0 v1 v2 v3 : Value) : (set4 w b v0 v1 v2 v3).heap.size = w.heap.size := by simp [set4, World.setCell]
theorem Cells.at {w : World} {b : Nat} {l : List Value} (h : Cells w b l) (j : Nat) (v : Value) (hv : l[j]? = some v) : w.cell? ⟨b, j, none⟩ = some v := (h j v hv).1
theorem row_shape {w : World} {base : Nat} {e : TypeId} {size : Nat} {v : Value} {n : Nat} {xs : List Value} (h : w.ownsRow base e size v n xs) : ∃ a cap, v = .slice a n cap := by
  rcases h.2 with ⟨rfl, rfl⟩ | ⟨g, cap, cur, rfl, _⟩
  · exact ⟨_, _, rfl⟩
  · exact ⟨_, _, rfl⟩
end Go.Proofs.YtbiobhghnldckaaGreatDoor
