/- Proved: small laws on memory: which blocks a call may have turned ('Only'), and what then still holds. No condition. -/
import Derived.WalkKit
import Derived.Deep.Draws
import Derived.Test.YtbiobhghnldckaaGreatDoorProg
import Derived.Test.YtbiobhghnldckaaGreatDoorSpecJ
import Derived.Test.YtbiobhghnldckaaGreatDoorShelf
import Derived.WalkLawsBesides
import Derived.BigQuiet
import Derived.Deep.QuietTactic
import Derived.Deep.LoopGhost
namespace Go.Proofs.YtbiobhghnldckaaGreatDoor
open Go.RowKit

/-- Of the blocks that were there, only those of S may have turned; the streams are as they were; no block has gone. -/
structure Only (S : Nat → Prop) (w w' : World) : Prop where
  os : w'.os = w.os
  tape : w'.tape = w.tape
  output : w'.output = w.output
  size : w.heap.size ≤ w'.heap.size
  block : ∀ k, k < w.heap.size → ¬ S k → w'.heap[k]? = w.heap[k]?

theorem Only.refl (S : Nat → Prop) (w : World) : Only S w w := ⟨rfl, rfl, rfl, Nat.le_refl _, fun _ _ _ => rfl⟩
theorem Only.trans {S T U : Nat → Prop} {a b c : World} (h : Only S a b) (k : Only T b c) (hs : ∀ x, S x → U x) (ht : ∀ x, x < a.heap.size → T x → U x) : Only U a c :=
  ⟨k.os.trans h.os, k.tape.trans h.tape, k.output.trans h.output, Nat.le_trans h.size k.size,
   fun i hi hu => (k.block i (Nat.lt_of_lt_of_le hi h.size) (fun e => hu (ht i hi e))).trans (h.block i hi (fun e => hu (hs i e)))⟩
theorem Only.mono {S U : Nat → Prop} {a b : World} (h : Only S a b) (hs : ∀ x, x < a.heap.size → S x → U x) : Only U a b :=
  ⟨h.os, h.tape, h.output, h.size, fun i hi hu => h.block i hi (fun e => hu (hs i hi e))⟩
theorem Only.drew {S : Nat → Prop} {a w : World} (h : Only S a w) : Only S a w.drew := ⟨h.os, h.tape, h.output, h.size, h.block⟩
theorem Only.drewN {S : Nat → Prop} {a w : World} (h : Only S a w) (n : Nat) : Only S a (w.drewN n) := ⟨h.os, h.tape, h.output, h.size, h.block⟩
theorem Only.alloc {S : Nat → Prop} {a w : World} (h : Only S a w) (o : Obj) : Only S a (w.alloc o) :=
  ⟨h.os, h.tape, h.output, Nat.le_trans h.size (by simp), fun k hk hs => (Below.heap_alloc _ _ _ (Nat.lt_of_lt_of_le hk h.size)).trans (h.block k hk hs)⟩
theorem Only.setCell {S : Nat → Prop} {a w : World} (h : Only S a w) {p : Addr} (hp : p.block < a.heap.size → S p.block) (u : Value) : Only S a (w.setCell p u) :=
  ⟨h.os, h.tape, h.output, Nat.le_trans h.size (by simp [World.setCell]), fun k hk hs =>
    (Below.heap_setCell _ _ _ _ (fun e => hs (by subst e; exact hp hk))).trans (h.block k hk hs)⟩
theorem Only.cell {S : Nat → Prop} {w w' : World} (h : Only S w w') {p : Addr} (hp : p.block < w.heap.size) (hs : ¬ S p.block) : w'.cell? p = w.cell? p :=
  World.cell?_of_block (w := w) (h.block p.block hp hs)
theorem Only.frozen {S : Nat → Prop} {w w' : World} (h : Only S w w') {p : Addr} (hp : p.block < w.heap.size) (hs : ¬ S p.block) : w'.frozen? p = w.frozen? p :=
  World.frozen?_of_block (w := w) (h.block p.block hp hs)
/-- A cell that is there stays what it was. -/
theorem Only.keeps {S : Nat → Prop} {w w' : World} (h : Only S w w') {p : Addr} {v : Value} (hc : w.cell? p = some v) (hs : ¬ S p.block) : w'.cell? p = some v :=
  (h.cell (World.block_lt_of_cell? _ _ hc) hs).trans hc
theorem Only.keepsFrozen {S : Nat → Prop} {w w' : World} (h : Only S w w') {p : Addr} {v : Value} (hc : w.cell? p = some v) (hf : w.frozen? p = false) (hs : ¬ S p.block) : w'.frozen? p = false :=
  (h.frozen (World.block_lt_of_cell? _ _ hc) hs).trans hf
theorem Only.below {S : Nat → Prop} {w w' : World} (h : Only S w w') (B : Nat) (hB : B ≤ w.heap.size) (hs : ∀ k, k < B → ¬ S k) : Below B w w' :=
  ⟨h.os, h.tape, h.output, h.size, fun k hk => h.block k (Nat.lt_of_lt_of_le hk hB) (hs k hk)⟩
theorem Only.of_below {w w' : World} (h : Below w.heap.size w w') (S : Nat → Prop) : Only S w w' :=
  ⟨h.os, h.tape, h.output, h.size, fun k hk _ => h.block k hk⟩
theorem Only.of_grown {w w' : World} {row : Option Nat} (h : w.grownBy w' row) : Only (fun k => row = some k) w w' :=
  ⟨h.os, h.tape, h.output, h.size, fun k hk hs => h.block k hk (fun e => hs e.symm)⟩

/-- Block b is a row of cells of type T. -/
def Typ (w : World) (b : Nat) (T : TypeId) : Prop := ∃ cur fz, w.heap[b]? = some (.cells cur T fz)
theorem Typ.lt {w : World} {b : Nat} {T : TypeId} (h : Typ w b T) : b < w.heap.size := by
  obtain ⟨c, f, h⟩ := h
  exact (Array.getElem?_eq_some_iff.1 h).1
theorem Typ.one {w : World} {b : Nat} {T U : TypeId} (h : Typ w b T) (k : Typ w b U) : T = U := by
  obtain ⟨c, f, h⟩ := h
  obtain ⟨c', f', k⟩ := k
  rw [h] at k
  simp at k
  exact k.2.1
theorem Typ.ne {w : World} {b c : Nat} {T U : TypeId} (h : Typ w b T) (k : Typ w c U) (hn : T ≠ U) : b ≠ c := fun e => by subst e; exact hn (h.one k)
theorem Typ.keeps {S : Nat → Prop} {w w' : World} {b : Nat} {T : TypeId} (h : Typ w b T) (o : Only S w w') (hs : ¬ S b) : Typ w' b T := by
  obtain ⟨c, f, h⟩ := h
  exact ⟨c, f, (o.block b (Array.getElem?_eq_some_iff.1 h).1 hs).trans h⟩
theorem Typ.drewN {w : World} {b : Nat} {T : TypeId} (h : Typ w b T) (n : Nat) : Typ (w.drewN n) b T := h
theorem Typ.drew {w : World} {b : Nat} {T : TypeId} (h : Typ w b T) : Typ w.drew b T := h
theorem Typ.alloc {w : World} {b : Nat} {T : TypeId} (h : Typ w b T) (o : Obj) : Typ (w.alloc o) b T := by
  have hl := h.lt
  obtain ⟨c, f, h⟩ := h
  exact ⟨c, f, (Below.heap_alloc _ _ _ hl).trans h⟩
theorem Typ.new (w : World) (c : Array Value) (T : TypeId) (fz : Nat × Nat) : Typ (w.alloc (.cells c T fz)) w.heap.size T := ⟨c, fz, heap_alloc_new w _⟩
theorem Typ.setCell {w : World} {b : Nat} {T : TypeId} (h : Typ w b T) (p : Addr) (v : Value) : Typ (w.setCell p v) b T := by
  obtain ⟨c, f, h⟩ := h
  by_cases e : b = p.block
  · subst e
    refine ⟨if p.spot.isSome then c else c.setIfInBounds p.off v, f, ?_⟩
    simp only [World.setCell, Array.getElem?_modify, if_pos, h, Option.map_some]
  · exact ⟨c, f, (Below.heap_setCell _ _ _ _ e).trans h⟩
theorem Typ.of_row {w : World} {base : Nat} {e : TypeId} {size : Nat} {v : Value} {n : Nat} {xs : List Value} (h : w.ownsRow base e size v n xs) {b : Nat} (hb : v.ownBlock = some b) : Typ w b e := by
  rcases h.2 with ⟨rfl, _⟩ | ⟨g, cap, cur, rfl, _, hg, _⟩
  · simp [Value.ownBlock] at hb
  · simp [Value.ownBlock] at hb
    subst hb
    exact ⟨cur, (0, 0), hg⟩
theorem row_ne {w : World} {base : Nat} {e : TypeId} {size : Nat} {v : Value} {n : Nat} {xs : List Value} (h : w.ownsRow base e size v n xs) {b : Nat} {T : TypeId} (t : Typ w b T) (hn : T ≠ e) : v.ownBlock ≠ some b :=
  fun hb => hn (t.one (Typ.of_row h hb))
theorem row_keeps {S : Nat → Prop} {w w' : World} {base : Nat} {e : TypeId} {size : Nat} {v : Value} {n : Nat} {xs : List Value} (h : w.ownsRow base e size v n xs) (o : Only S w w') (hs : ∀ b, v.ownBlock = some b → ¬ S b) : w'.ownsRow base e size v n xs := by
  refine ⟨h.1, ?_⟩
  rcases h.2 with hn | ⟨g, cap, cur, rfl, hb, hgg, rest⟩
  · exact .inl hn
  · refine .inr ⟨g, cap, cur, rfl, hb, ?_, rest⟩
    rw [o.block g (Array.getElem?_eq_some_iff.1 hgg).1 (hs g rfl)]
    exact hgg

/-- Of block fb only the cell at fo may have turned. -/
structure Field (fb fo : Nat) (w w' : World) : Prop where
  others : ∀ o, o ≠ fo → w'.cell? ⟨fb, o, none⟩ = w.cell? ⟨fb, o, none⟩
  frozen : ∀ o, w'.frozen? ⟨fb, o, none⟩ = w.frozen? ⟨fb, o, none⟩
  typ : ∀ T, Typ w fb T → Typ w' fb T
theorem Field.setCell (w : World) (fb fo : Nat) (v : Value) : Field fb fo w (w.setCell ⟨fb, fo, none⟩ v) :=
  ⟨fun o ho => World.cell?_setCell_other _ _ _ _ (by simp), fun o => World.frozen?_setCell _ _ _ _, fun _ h => h.setCell _ _⟩

/-- Behind 'x.f = append(x.f, ..)' through a pointer. -/
theorem field_end {w wb w1 : World} {fb fo : Nat} {iv v' : Value} {e : TypeId} {size M base : Nat} {ys : List Value} (hb : Only (fun _ => False) w wb) (hgrow : wb.grownBy w1 iv.ownBlock)
    (kc : w1.cell? ⟨fb, fo, none⟩ = some iv) (hown : w1.ownsRow base e size v' M ys) (hv : v'.ownBlock ≠ some fb) (hlt : fb < w.heap.size) (hne : iv.ownBlock ≠ some fb) :
    (w1.setCell ⟨fb, fo, none⟩ v').cell? ⟨fb, fo, none⟩ = some v' ∧ (w1.setCell ⟨fb, fo, none⟩ v').ownsRow base e size v' M ys ∧ Only (fun b => b = fb ∨ iv.ownBlock = some b) w (w1.setCell ⟨fb, fo, none⟩ v') ∧
      Field fb fo w (w1.setCell ⟨fb, fo, none⟩ v') := by
  have o1 : Only (fun b => iv.ownBlock = some b) w w1 := Only.trans hb (Only.of_grown hgrow) (fun x h => h.elim) (fun x _ h => h)
  have f := Field.setCell w1 fb fo v'
  refine ⟨World.cell?_setCell_same _ _ _ kc, ?_, ?_, ?_⟩
  · exact row_keeps hown (Only.setCell (S := (· = fb)) (p := ⟨fb, fo, none⟩) (Only.refl _ w1) (fun _ => rfl) v') (fun b h e => hv (by rw [h, e]))
  · exact Only.setCell (S := fun b => b = fb ∨ iv.ownBlock = some b) (p := ⟨fb, fo, none⟩) (o1.mono (fun x _ h => Or.inr h)) (fun _ => Or.inl rfl) v'
  · exact ⟨fun o ho => (f.others o ho).trans (o1.cell (p := ⟨fb, o, none⟩) hlt hne), fun o => (f.frozen o).trans (o1.frozen (p := ⟨fb, o, none⟩) hlt hne), fun T h => f.typ T (h.keeps o1 hne)⟩

/-- From its beginning on, block b holds these cells, and they may be written. -/
def Cells (w : World) (b : Nat) (l : List Value) : Prop := ∀ j v, l[j]? = some v → w.cell? ⟨b, j, none⟩ = some v ∧ w.frozen? ⟨b, j, none⟩ = false
theorem Cells.new (w : World) (c : Array Value) (T : TypeId) : Cells (w.alloc (.cells c T)) w.heap.size c.toList := by
  intro j v hv
  have hb := heap_alloc_new w (.cells c T)
  refine ⟨?_, ?_⟩
  · rw [cell_of_row _ w.heap.size j c T (0, 0) hb]
    simpa using hv
  · unfold World.frozen?
    rw [hb]
    simp
theorem Cells.keeps {S : Nat → Prop} {w w' : World} {b : Nat} {l : List Value} (h : Cells w b l) (o : Only S w w') (hs : ¬ S b) : Cells w' b l := fun j v hv =>
  ⟨o.keeps (h j v hv).1 hs, o.keepsFrozen (h j v hv).1 (h j v hv).2 hs⟩
theorem Cells.drewN {w : World} {b : Nat} {l : List Value} (h : Cells w b l) (n : Nat) : Cells (w.drewN n) b l := h
theorem Cells.drew {w : World} {b : Nat} {l : List Value} (h : Cells w b l) : Cells w.drew b l := h
theorem Cells.alloc {w : World} {b : Nat} {l : List Value} (h : Cells w b l) (o : Obj) : Cells (w.alloc o) b l :=
  h.keeps (S := fun _ => False) ((Only.refl _ w).alloc o) id
end Go.Proofs.YtbiobhghnldckaaGreatDoor

/- Proved: more small laws on memory. No condition. -/
namespace Go.Proofs.YtbiobhghnldckaaGreatDoor
open Go.RowKit

/-- The four cells of a block are written. -/
def set4 (w : World) (b : Nat) (v0 v1 v2 v3 : Value) : World := (((w.setCell ⟨b, 0, none⟩ v0).setCell ⟨b, 1, none⟩ v1).setCell ⟨b, 2, none⟩ v2).setCell ⟨b, 3, none⟩ v3
theorem set4_only (w : World) (b : Nat) (v0 v1 v2 v3 : Value) : Only (· = b) w (set4 w b v0 v1 v2 v3) :=
  Only.setCell (S := (· = b)) (p := ⟨b, 3, none⟩) (Only.setCell (S := (· = b)) (p := ⟨b, 2, none⟩) (Only.setCell (S := (· = b)) (p := ⟨b, 1, none⟩) (Only.setCell (S := (· = b)) (p := ⟨b, 0, none⟩) (Only.refl _ w) (fun _ => rfl) _) (fun _ => rfl) _) (fun _ => rfl) _) (fun _ => rfl) _
theorem set4_size (w : World) (b : Nat) (v0 v1 v2 v3 : Value) : (set4 w b v0 v1 v2 v3).heap.size = w.heap.size := by simp [set4, World.setCell]
theorem Cells.at {w : World} {b : Nat} {l : List Value} (h : Cells w b l) (j : Nat) (v : Value) (hv : l[j]? = some v) : w.cell? ⟨b, j, none⟩ = some v := (h j v hv).1
theorem row_shape {w : World} {base : Nat} {e : TypeId} {size : Nat} {v : Value} {n : Nat} {xs : List Value} (h : w.ownsRow base e size v n xs) : ∃ a cap, v = .slice a n cap := by
  rcases h.2 with ⟨rfl, rfl⟩ | ⟨g, cap, cur, rfl, _⟩
  · exact ⟨_, _, rfl⟩
  · exact ⟨_, _, rfl⟩
end Go.Proofs.YtbiobhghnldckaaGreatDoor

/- Proved: strings.ContainsRune at a text of ASCII and any well-formed rune. -/
namespace Go.Proofs.YtbiobhghnldckaaGreatDoor
open Go.RowKit
set_option linter.unusedVariables false

theorem encode_high (r : Int) (h1 : 128 ≤ r) : ∃ E : ByteArray, Utf8.encode r = E ∧ 2 ≤ E.size ∧ E.size ≤ 4 ∧ ∀ h : E.size - 1 < E.size, 128 ≤ E[E.size - 1].toNat := by
  refine ⟨_, rfl, ?_⟩
  unfold Utf8.encode
  have hc : ∀ c : Nat, c % 64 < 64 := fun c => Nat.mod_lt _ (by omega)
  have key : ∀ c : Nat, 128 ≤ (UInt8.ofNat (128 + c % 64)).toNat := fun c => by
    have := hc c
    simp [UInt8.toNat_ofNat]; omega
  generalize hcc : (if Utf8.valid r = true then r.toNat else Utf8.runeError) = c
  have hge : 128 ≤ c := by
    rw [← hcc]
    split
    · omega
    · decide
  simp only [show ¬ c < 0x80 by omega, if_false]
  split
  · exact ⟨by simp [ByteArray.size], by simp [ByteArray.size], fun h => key c⟩
  · split
    · exact ⟨by simp [ByteArray.size], by simp [ByteArray.size], fun h => key c⟩
    · exact ⟨by simp [ByteArray.size], by simp [ByteArray.size], fun h => key c⟩

theorem indexByte_miss (l : List UInt8) (c : UInt8) (h : ∀ b ∈ l, b ≠ c) : Lib.indexByte l c = -1 := by
  induction l with
  | nil => rfl
  | cons b l ih =>
    have hb := h b (by simp)
    have := ih (fun x hx => h x (by simp [hx]))
    simp [Lib.indexByte, hb, this]

theorem extract_mem {s : ByteArray} {a b : Nat} {x : UInt8} (h : x ∈ (s.extract a b).data.toList) : x ∈ s.data.toList := by
  rw [Lib.extract_data] at h
  exact List.mem_of_mem_drop (List.mem_of_mem_take h)

set_option maxRecDepth 100000 in
set_option maxHeartbeats 400000 in
theorem indexRune_high (s : ByteArray) (r : Int) (w : World) (h1 : 128 ≤ r) (h2 : r ≤ 1114111) (h3 : r ≠ 65533) (h4 : Lib.validRune r = true)
    (hsz : s.size ≤ 1000) (hasc : ∀ b ∈ s.data.toList, b.toNat < 128) :
    Calls Tryz.prog 233 #[.string s, .int .i32 r] w fun e w' => e = .returned (.int .i64 (-1)) ∧ ∃ n, w' = w.drewN n := by
  obtain ⟨E, hE, e1, e2, e3⟩ := encode_high r h1
  obtain ⟨m, hm⟩ : ∃ m, E.size = m + 1 := ⟨E.size - 1, by omega⟩
  have e3 : ∀ h : m < E.size, 128 ≤ E[m].toNat := by
    intro h
    have := e3 (by omega)
    simp only [hm, Nat.add_sub_cancel] at this
    exact this
  have b1 : decide (0 ≤ r) = true := by simp; omega
  have b2 : decide (r < 128) = false := by simp; omega
  have b3 : (r == 65533) = false := by simp; omega
  have HV : Hid (Lib.validRune r = true) := h4
  clear h4 h3
  go_enter Tryz.func233, Tryz.ntmps233
  go_wp2_with fail
  refine (Tryz.utf8_ValidRune r w).mono ?_
  rintro e w' ⟨rfl, rfl⟩
  rw [HV.out]
  go_wp2_with fail
  go_step3
  go_wp2_with fail
  go_loopg [9, 10] 0 (fun k a b wr => k = 0 ∧ a = .int .i64 m ∧ b = .int .i64 0 ∧ wr = w')
  case atStart => exact ⟨rfl, rfl, rfl, rfl⟩
  case round =>
    obtain ⟨rfl, rfl, rfl, rfl⟩ := hrel
    have hmE : m < E.size := by omega
    have hm4 : m ≤ 4 := by omega
    have hw : IntKind.i64.wrap ((m : Int) + 1) = (m : Int) + 1 := by rw [IntKind.wrap_i64]; omega
    clear hm e1 e2
    by_cases hlt : m < s.size
    · have hne : ((s[m].toNat : Int) != (E[m].toNat : Int)) = true := by
        have q1 := hasc s[m] (Array.mem_toList_iff.2 (Array.getElem_mem hlt))
        have q2 := e3 (by omega)
        rw [bne_iff_ne]; omega
      have hsl : ∀ wx, (Instr.slice 9 (.string s) (some (.int .i64 ((m : Int) + 1))) none none).run Tryz.prog wx = .ok (.string (s.extract (m + 1) s.size)) wx := fun wx => by
        rw [run_slice_string_l wx _ s Tryz.underlying9 .i64 _ (by omega) (by omega)]
        rfl
      have hcall : ∀ wx, Calls Tryz.prog 237 #[.string (s.extract (m + 1) s.size), .int .u8 (E[m].toNat : Int)] wx fun e w' => e = .returned (.int .i64 (-1)) ∧ w' = wx := fun wx => by
        have := Tryz.strings_IndexByte (s.extract (m + 1) s.size) (E[m].toNat : Int) wx
        rw [indexByte_miss _ _ (fun b hb => ?_)] at this
        · exact this
        · have q1 := hasc b (extract_mem hb)
          have q2 := e3 hmE
          intro e
          subst e
          simp at q1
          omega
      go_wp2_with fail
      go_step3
      go_wp2_with fail
      go_quiet (fail)
      go_wp2_with fail
      go_quiet ((go_at_call 237; exact (hcall _).mono (fun e w1 ⟨he, hw1⟩ => ⟨he, _, hw1⟩)))
      go_wp2_with fail
      rw [Exit.noGoto_ret]
      go_wp2
      rw [Exit.noGoto_ret]
      go_ret
      exact ⟨rfl, _, rfl⟩
    · go_wp2
      rw [Exit.noGoto_ret]
      go_ret
      exact ⟨rfl, 0, rfl⟩

theorem contains_bytes (l : List UInt8) (r : Int) (h0 : 0 ≤ r) (h1 : r < 256) : decide (0 ≤ Lib.indexByte l r.toNat.toUInt8) = (l.map (fun b => (b.toNat : Int))).contains r := by
  have hr : (r.toNat.toUInt8).toNat = r.toNat := by simp [Nat.toUInt8]; omega
  induction l with
  | nil => simp [Lib.indexByte]
  | cons b l ih =>
    have hge := Lib.indexByte_ge l r.toNat.toUInt8
    by_cases hb : b = r.toNat.toUInt8
    · have e : (b.toNat : Int) = r := by rw [hb, hr]; omega
      simp [Lib.indexByte, ← hb, e]
    · have e : ¬ r = (b.toNat : Int) := by
        intro e
        exact hb (UInt8.toNat_inj.1 (by rw [hr]; omega))
      have e2 : (r == (b.toNat : Int)) = false := by simp [e]
      rw [List.map_cons, List.contains_cons, e2, Bool.false_or, ← ih]
      simp only [Lib.indexByte, beq_iff_eq, hb, if_false]
      by_cases h9 : Lib.indexByte l r.toNat.toUInt8 = -1
      · simp [h9]
      · simp only [h9, if_false]
        exact decide_eq_decide.2 ⟨by omega, by omega⟩

/-- strings.ContainsRune at a text of ASCII, and any well-formed rune but the one that stands for what is none. -/
theorem containsRune_calls (s : ByteArray) (may : List Int) (r : Int) (w : World) (hs : s.data.toList.map (fun b => (b.toNat : Int)) = may) (hasc : ∀ c ∈ may, c < 128) (hsz : may.length ≤ 1000)
    (h0 : 0 ≤ r) (h2 : r ≤ 1114111) (h3 : r ≠ 65533) (h4 : Lib.validRune r = true) :
    Calls Tryz.prog 227 #[.string s, .int .i32 r] w fun e w' => e = .returned (.bool (may.contains r)) ∧ ∃ n, w' = w.drewN n := by
  by_cases h1 : r < 128
  · refine (Tryz.strings_ContainsRune_ascii s r w h0 h1).mono ?_
    rintro e w' ⟨rfl, rfl⟩
    rw [contains_bytes _ r h0 (by omega), hs]
    exact ⟨rfl, 0, rfl⟩
  · have hf : may.contains r = false := by
      rw [List.contains_eq_any_beq, List.any_eq_false]
      intro c hc
      have := hasc c hc
      simp; omega
    have hsz' : s.size ≤ 1000 := by
      have e : s.data.toList.length = may.length := by rw [← hs, List.length_map]
      have e2 : s.data.toList.length = s.data.size := Array.length_toList
      show s.data.size ≤ 1000
      omega
    have hb : ∀ b ∈ s.data.toList, b.toNat < 128 := by
      intro b hb
      have := hasc (b.toNat : Int) (by rw [← hs]; exact List.mem_map_of_mem hb)
      omega
    rw [hf]
    go_enter Tryz.func227, Tryz.ntmps227
    go_wp2_with fail
    refine (indexRune_high s r w (by omega) h2 h3 h4 hsz' hb).mono ?_
    rintro e w' ⟨rfl, n, rfl⟩
    go_wp2
    go_ret
    exact ⟨rfl, n, rfl⟩
end Go.Proofs.YtbiobhghnldckaaGreatDoor

/- Proved: what the functions of package source do to a cursor. Conditions: the cursor lies in memory as 'Cur' says. -/
namespace Go.Proofs.YtbiobhghnldckaaGreatDoor
open Go.RowKit
set_option linter.unusedVariables false

/-- Where a cursor lies, and the script that it goes through. -/
structure CG where
  c : Nat
  rb : Nat
  rcap : Nat
  pb : Nat
  pcap : Nat
  L : List Int
  pl : List Int

structure Cur (g : CG) (w : World) (i : Nat) : Prop where
  c0 : ∃ a, w.cell? ⟨g.c, 0, none⟩ = some (.slice a g.L.length g.rcap) ∧ (g.L.length ≠ 0 → a = some ⟨g.rb, 0, none⟩)
  c1 : w.cell? ⟨g.c, 1, none⟩ = some (.slice (some ⟨g.pb, 0, none⟩) (g.L.length + 1) g.pcap)
  c2 : w.cell? ⟨g.c, 2, none⟩ = some (.int .i64 i)
  f2 : w.frozen? ⟨g.c, 2, none⟩ = false
  rs : ∀ j, j < g.L.length → w.cell? ⟨g.rb, j, none⟩ = some (.int .i32 (Adz.peek g.L j))
  ps : ∀ j, j ≤ g.L.length → w.cell? ⟨g.pb, j, none⟩ = some (.int .i64 (Adz.place g.pl j))
  tc : Typ w g.c 144
  tr : g.L.length ≠ 0 → Typ w g.rb 21
  tp : Typ w g.pb 3
  rc : g.rb ≠ g.c
  pc : g.pb ≠ g.c
  le : i ≤ g.L.length
  small : g.L.length ≤ 500
  runes : ∀ j, j < g.L.length → 0 ≤ Adz.peek g.L j ∧ Adz.peek g.L j ≤ 1114111 ∧ Adz.peek g.L j ≠ 65533 ∧ Lib.validRune (Adz.peek g.L j) = true

theorem peek_end {g : CG} {w : World} {i : Nat} (h : Cur g w i) : Adz.peek g.L i = -1 ↔ g.L.length ≤ i := by
  constructor
  · intro e
    by_cases hl : i < g.L.length
    · have := (h.runes i hl).1; omega
    · omega
  · intro hl
    simp [Adz.peek, List.getElem?_eq_none hl]

/-- A cursor stays what it was where its blocks do. -/
theorem Cur.keeps {g : CG} {S : Nat → Prop} {w w' : World} {i : Nat} (h : Cur g w i) (o : Only S w w') (s0 : ¬ S g.c) (s1 : g.L.length ≠ 0 → ¬ S g.rb) (s2 : ¬ S g.pb) : Cur g w' i := by
  obtain ⟨a, h0, ha⟩ := h.c0
  exact ⟨⟨a, o.keeps h0 s0, ha⟩, o.keeps h.c1 s0, o.keeps h.c2 s0, o.keepsFrozen h.c2 h.f2 s0, fun j hj => o.keeps (h.rs j hj) (s1 (by omega)), fun j hj => o.keeps (h.ps j hj) s2, h.tc.keeps o s0, fun e => (h.tr e).keeps o (s1 e), h.tp.keeps o s2, h.rc, h.pc, h.le, h.small, h.runes⟩

theorem Cur.drewN {g : CG} {w : World} {i : Nat} (h : Cur g w i) (n : Nat) : Cur g (w.drewN n) i :=
  h.keeps (S := fun _ => False) ((Only.refl _ _).drewN n) id (fun _ => id) id

theorem Cur.lt {g : CG} {w : World} {i : Nat} (h : Cur g w i) : g.c < w.heap.size := h.tc.lt
theorem Cur.alloc {g : CG} {w : World} {i : Nat} (h : Cur g w i) (o : Obj) : Cur g (w.alloc o) i :=
  h.keeps (S := fun _ => False) ((Only.refl _ _).alloc o) id (fun _ => id) id

theorem cell_setCell_ne (w : World) (a b : Addr) (v : Value) (h : a.block ≠ b.block) : (w.setCell b v).cell? a = w.cell? a :=
  World.cell?_of_block (w := w) (Below.heap_setCell _ _ _ _ h)

/-- One step on. -/
theorem Cur.step {g : CG} {w : World} {i : Nat} (h : Cur g w i) (i' : Nat) (hl : i' ≤ g.L.length) : Cur g (w.setCell ⟨g.c, 2, none⟩ (.int .i64 i')) i' := by
  obtain ⟨a, h0, ha⟩ := h.c0
  refine ⟨⟨a, ?_, ha⟩, ?_, ?_, ?_, fun j hj => ?_, fun j hj => ?_, h.tc.setCell _ _, fun e => (h.tr e).setCell _ _, h.tp.setCell _ _, h.rc, h.pc, hl, h.small, h.runes⟩
  · rw [World.cell?_setCell_other _ _ _ _ (by simp)]; exact h0
  · rw [World.cell?_setCell_other _ _ _ _ (by simp)]; exact h.c1
  · rw [World.cell?_setCell_same _ _ _ h.c2]
  · rw [World.frozen?_setCell]; exact h.f2
  · rw [cell_setCell_ne _ _ _ _ (by simpa using h.rc)]; exact h.rs j hj
  · rw [cell_setCell_ne _ _ _ _ (by simpa using h.pc)]; exact h.ps j hj

set_option maxHeartbeats 400000 in
theorem peek_calls (g : CG) (w : World) (i : Nat) (h : Cur g w i) :
    Calls Tryz.prog 51 #[.pointer (some ⟨g.c, 0, none⟩)] w fun e w' => e = .returned (.int .i32 (Adz.peek g.L i)) ∧ ∃ n, w' = w.drewN n := by
  obtain ⟨a, h0, ha⟩ := h.c0
  have h2 := h.c2
  have hs := h.small
  have hle := h.le
  by_cases hlt : i < g.L.length
  · obtain rfl := ha (by omega)
    have hr := h.rs i hlt
    clear ha h
    go_enter Tryz.func51, Tryz.ntmps51
    go_wp2_with fail
    go_quiet (fail)
    go_wp2_with fail
    go_quiet (fail)
    go_wp2
    go_ret
    exact ⟨rfl, _, World.drewN_drewN _ _ _⟩
  · have he := (peek_end h).2 (by omega)
    rw [he]
    clear ha h he
    go_enter Tryz.func51, Tryz.ntmps51
    go_wp2_with fail
    go_quiet (fail)
    go_wp2
    go_ret
    exact ⟨rfl, _, rfl⟩

set_option maxHeartbeats 400000 in
theorem next_calls (g : CG) (w : World) (i : Nat) (h : Cur g w i) (hl : i < g.L.length) :
    Calls Tryz.prog 75 #[.pointer (some ⟨g.c, 0, none⟩)] w fun e w' => e = .returned (.int .i32 (Adz.peek g.L i)) ∧ Cur g w' (i + 1) ∧ Only (· = g.c) w w' := by
  have h2 := h.c2
  have f2 := h.f2
  have hs := h.small
  have hp := (h.runes i hl).1
  have hne : (Adz.peek g.L i != -1) = true := by rw [bne_iff_ne]; omega
  go_enter Tryz.func75, Tryz.ntmps75
  go_wp2_with fail
  refine (peek_calls g w i h).mono ?_
  rintro e w' ⟨rfl, n, rfl⟩
  go_wp2
  go_ret
  refine ⟨rfl, ?_, ?_⟩
  · have := (h.drewN n).step (i + 1) (by omega)
    rw [show ((i + 1 : Nat) : Int) = (i : Int) + 1 from by omega] at this
    exact this
  · exact Only.setCell (S := (· = g.c)) (p := ⟨g.c, 2, none⟩) ((Only.refl _ w).drewN n) (fun _ => rfl) _

theorem take_yes (g : CG) (w : World) (i : Nat) (r : Int) (h : Cur g w i) (hp : Adz.peek g.L i = r) (hr : 0 ≤ r) :
    Calls Tryz.prog 144 #[.pointer (some ⟨g.c, 0, none⟩), .int .i32 r] w fun e w' => e = .returned (.bool true) ∧ Cur g w' (i + 1) ∧ Only (· = g.c) w w' := by
  have hl : i < g.L.length := by
    have := (peek_end h)
    omega
  subst hp
  go_enter Tryz.func144, Tryz.ntmps144
  go_wp2_with fail
  refine (peek_calls g w i h).mono ?_
  rintro e w' ⟨rfl, n, rfl⟩
  go_wp2_with fail
  refine (next_calls g _ i (h.drewN n) hl).mono ?_
  rintro e w' ⟨rfl, hc, ho⟩
  go_wp2
  go_ret
  exact ⟨rfl, hc, ((Only.refl _ w).drewN n).trans ho (fun _ e => e) (fun _ _ e => e)⟩

theorem take_no (g : CG) (w : World) (i : Nat) (r : Int) (h : Cur g w i) (hp : Adz.peek g.L i ≠ r) :
    Calls Tryz.prog 144 #[.pointer (some ⟨g.c, 0, none⟩), .int .i32 r] w fun e w' => e = .returned (.bool false) ∧ ∃ n, w' = w.drewN n := by
  have hne : (Adz.peek g.L i != r) = true := by rw [bne_iff_ne]; exact hp
  go_enter Tryz.func144, Tryz.ntmps144
  go_wp2_with fail
  refine (peek_calls g w i h).mono ?_
  rintro e w' ⟨rfl, n, rfl⟩
  go_wp2
  go_ret
  exact ⟨rfl, n, rfl⟩

theorem place_calls (g : CG) (w : World) (i : Nat) (h : Cur g w i) :
    Calls Tryz.prog 101 #[.pointer (some ⟨g.c, 0, none⟩)] w fun e w' => e = .returned (.int .i64 (Adz.place g.pl i)) ∧ ∃ n, w' = w.drewN n := by
  have h1 := h.c1
  have h2 := h.c2
  have hp := h.ps i h.le
  have hl := h.le
  have hs := h.small
  clear h
  go_enter Tryz.func101, Tryz.ntmps101
  go_wp2_with fail
  go_quiet (fail)
  go_wp2
  go_ret
  exact ⟨rfl, _, rfl⟩

theorem isBlank_calls (r : Int) (w : World) : Calls Tryz.prog 74 #[.int .i32 r] w fun e w' => e = .returned (.bool (Adz.isBlank r)) ∧ w' = w := by
  by_cases h : r = 32
  · have hb : (r == 32) = true := by simp [h]
    subst h
    go_enter Tryz.func74, Tryz.ntmps74
    go_wp2
    go_ret
    exact ⟨rfl, rfl⟩
  · have hb : (r == 32) = false := by simp [h]
    have e : Adz.isBlank r = (r == 9) := by simp [Adz.isBlank, hb]
    rw [e]
    go_enter Tryz.func74, Tryz.ntmps74
    go_wp2
    go_ret
    exact ⟨rfl, rfl⟩

theorem isDigit_calls (r : Int) (w : World) : Calls Tryz.prog 168 #[.int .i32 r] w fun e w' => e = .returned (.bool (Adz.isDigit r)) ∧ w' = w := by
  by_cases h : 48 ≤ r
  · have hb : decide (48 ≤ r) = true := by simp [h]
    have e : Adz.isDigit r = decide (r ≤ 57) := by simp [Adz.isDigit, h]
    rw [e]
    go_enter Tryz.func168, Tryz.ntmps168
    go_wp2
    go_ret
    exact ⟨rfl, rfl⟩
  · have hb : decide (48 ≤ r) = false := by simp [h]
    have e : Adz.isDigit r = false := by simp [Adz.isDigit, h]
    rw [e]
    go_enter Tryz.func168, Tryz.ntmps168
    go_wp2
    go_ret
    exact ⟨rfl, rfl⟩

theorem isLetter_calls (r : Int) (w : World) : Calls Tryz.prog 171 #[.int .i32 r] w fun e w' => e = .returned (.bool (Adz.isLetter r)) ∧ w' = w := by
  by_cases h : 97 ≤ r
  · have hb : decide (97 ≤ r) = true := by simp [h]
    have e : Adz.isLetter r = decide (r ≤ 122) := by simp [Adz.isLetter, h]
    rw [e]
    go_enter Tryz.func171, Tryz.ntmps171
    go_wp2
    go_ret
    exact ⟨rfl, rfl⟩
  · have hb : decide (97 ≤ r) = false := by simp [h]
    have e : Adz.isLetter r = false := by simp [Adz.isLetter, h]
    rw [e]
    go_enter Tryz.func171, Tryz.ntmps171
    go_wp2
    go_ret
    exact ⟨rfl, rfl⟩

theorem tell_calls (a b : Int) (w : World) : Calls Tryz.prog 48 #[.int .i64 a, .int .i64 b] w fun e w' =>
    e = .returned (.pointer (some ⟨w.heap.size, 0, none⟩)) ∧ w' = w.alloc (.cells #[.int .i64 a, .int .i64 b] 73) := by
  go_enter Tryz.func48, Tryz.ntmps48
  go_wp2
  go_ret
  exact ⟨rfl, rfl⟩

theorem blanks_calls (g : CG) (w : World) (i : Nat) (h : Cur g w i) :
    Calls Tryz.prog 145 #[.pointer (some ⟨g.c, 0, none⟩)] w fun e w' => e = .returned (.tuple #[]) ∧ Cur g w' (Adz.blanks g.L i) ∧ Only (· = g.c) w w' := by
  go_enter Tryz.func145, Tryz.ntmps145
  go_wp2_with fail
  go_loopg [] (g.L.length - i) (fun k wr => ∃ j, Hid (Cur g wr j) ∧ j + k = g.L.length ∧ Hid (Adz.blanks g.L j = Adz.blanks g.L i) ∧ Hid (Only (· = g.c) w wr))
  case atStart => exact ⟨i, h, by have := h.le; omega, rfl, Only.refl _ _⟩
  case round =>
    obtain ⟨j, hc, hk, hb, ho⟩ := hrel
    have HK : Hid (j + gk = g.L.length) := hk
    clear hk
    by_cases hbl : Adz.isBlank (Adz.peek g.L j) = true
    · have hl : j < g.L.length := Adz.lt_of_blank hbl
      go_wp2_with fail
      refine (peek_calls g wr j hc).mono ?_
      rintro e w' ⟨rfl, n, rfl⟩
      go_wp2_with fail
      refine (isBlank_calls _ _).mono ?_
      rintro e w' ⟨rfl, rfl⟩
      go_wp2_with fail
      refine (next_calls g _ j (Cur.drewN hc n) hl).mono ?_
      rintro e w' ⟨rfl, hc', ho'⟩
      go_wp2
      go_roundg (gk - 1)
      case measure => have := HK.out; omega
      case rel => exact ⟨j + 1, hc', by have := HK.out; omega, (Adz.blanks_step hbl).symm.trans hb, (Only.drewN ho n).trans ho' (fun _ e => e) (fun _ _ e => e)⟩
    · have hbf : Adz.isBlank (Adz.peek g.L j) = false := by simpa using hbl
      go_wp2_with fail
      refine (peek_calls g wr j hc).mono ?_
      rintro e w' ⟨rfl, n, rfl⟩
      go_wp2_with fail
      refine (isBlank_calls _ _).mono ?_
      rintro e w' ⟨rfl, rfl⟩
      go_wp2
      go_end0
      refine ⟨rfl, ?_, Only.drewN ho n⟩
      rw [← Hid.out hb, Adz.blanks_stop hbf]
      exact Cur.drewN hc n
end Go.Proofs.YtbiobhghnldckaaGreatDoor

/- Proved: source.Escaped and source.Plain, where they find what may stand. Conditions: the cursor lies in memory as 'Cur' says. -/
namespace Go.Proofs.YtbiobhghnldckaaGreatDoor
open Go.RowKit
set_option linter.unusedVariables false

/-- A constant text of ASCII, as the list of its runes. -/
structure Asc (s : ByteArray) (may : List Int) : Prop where
  eq : s.data.toList.map (fun b => (b.toNat : Int)) = may
  asc : ∀ c ∈ may, 0 ≤ c ∧ c < 128
  len : may.length ≤ 1000

set_option maxHeartbeats 400000 in
theorem escaped_ok (g : CG) (w : World) (i : Nat) (s : ByteArray) (may : List Int) (hs : Asc s may) (h : Cur g w i) (r : Int) (i' : Nat) (hr : Adz.escaped g.L g.pl may i = .ok (r, i')) :
    Calls Tryz.prog 216 #[.pointer (some ⟨g.c, 0, none⟩), .string s] w fun e w' => e = .returned (.tuple #[.int .i32 r, .pointer none]) ∧ Cur g w' i' ∧ Only (· = g.c) w w' := by
  unfold Adz.escaped at hr
  by_cases hn : Adz.peek g.L i = 110
  · simp [hn] at hr
    obtain ⟨rfl, rfl⟩ := hr
    go_enter Tryz.func216, Tryz.ntmps216
    go_wp2_with fail
    refine (take_yes g w i 110 h hn (by omega)).mono ?_
    rintro e w' ⟨rfl, hc, ho⟩
    go_wp2
    go_ret2
    exact ⟨rfl, hc, ho⟩
  · have hb : (Adz.peek g.L i == 110) = false := by simp [hn]
    rw [hb] at hr
    by_cases hm : may.contains (Adz.peek g.L i) = true
    · rw [hm] at hr
      simp at hr
      obtain ⟨rfl, rfl⟩ := hr
      have hmem : Adz.peek g.L i ∈ may := by simpa using hm
      have hl : i < g.L.length := Adz.lt_of_peek (by have := (hs.asc _ hmem).1; omega)
      obtain ⟨q0, q1, q2, q3⟩ := h.runes i hl
      have HM : Hid (may.contains (Adz.peek g.L i) = true) := hm
      have HV : Hid (Lib.validRune (Adz.peek g.L i) = true) := q3
      clear hm q3 hb
      go_enter Tryz.func216, Tryz.ntmps216
      go_wp2_with fail
      refine (take_no g w i 110 h hn).mono ?_
      rintro e w' ⟨rfl, n, rfl⟩
      go_wp2_with fail
      refine (peek_calls g _ i (h.drewN n)).mono ?_
      rintro e w' ⟨rfl, n2, rfl⟩
      go_wp2_with fail
      refine (containsRune_calls s may _ _ hs.eq (fun c hc => (hs.asc c hc).2) hs.len q0 q1 q2 HV.out).mono ?_
      rintro e w' ⟨rfl, n3, rfl⟩
      rw [HM.out]
      go_wp2_with fail
      refine (next_calls g _ i (h.drewN _) hl).mono ?_
      rintro e w' ⟨rfl, hc, ho⟩
      go_wp2
      go_ret2
      exact ⟨rfl, hc, ((Only.refl _ w).drewN _).trans ho (fun _ e => e) (fun _ _ e => e)⟩
    · simp only [Bool.not_eq_true] at hm
      rw [hm] at hr
      simp at hr

set_option maxHeartbeats 400000 in
theorem plain_ok (g : CG) (w : World) (i : Nat) (s : ByteArray) (but : List Int) (hs : Asc s but) (h : Cur g w i) (r : Int) (i' : Nat) (hr : Adz.plain g.L g.pl but i = .ok (r, i')) :
    Calls Tryz.prog 215 #[.pointer (some ⟨g.c, 0, none⟩), .string s] w fun e w' => e = .returned (.tuple #[.int .i32 r, .pointer none]) ∧ Cur g w' i' ∧ Only (· = g.c) w w' := by
  unfold Adz.plain at hr
  by_cases hbad : (Adz.peek g.L i == -1 || Adz.peek g.L i == 10 || but.contains (Adz.peek g.L i)) = true
  · rw [if_pos hbad] at hr
    cases hr
  · rw [if_neg hbad] at hr
    simp only [Except.ok.injEq, Prod.mk.injEq] at hr
    obtain ⟨rfl, rfl⟩ := hr
    simp only [Bool.not_eq_true, Bool.or_eq_false_iff] at hbad
    obtain ⟨⟨b1, b2⟩, b3⟩ := hbad
    have hl : i < g.L.length := Adz.lt_of_peek (by simpa using b1)
    obtain ⟨q0, q1, q2, q3⟩ := h.runes i hl
    have HM : Hid (but.contains (Adz.peek g.L i) = false) := b3
    have HV : Hid (Lib.validRune (Adz.peek g.L i) = true) := q3
    clear b3 q3
    go_enter Tryz.func215, Tryz.ntmps215
    go_wp2_with fail
    refine (peek_calls g w i h).mono ?_
    rintro e w' ⟨rfl, n, rfl⟩
    go_wp2_with fail
    refine (containsRune_calls s but _ _ hs.eq (fun c hc => (hs.asc c hc).2) hs.len q0 q1 q2 HV.out).mono ?_
    rintro e w' ⟨rfl, n2, rfl⟩
    rw [HM.out]
    go_wp2_with fail
    refine (next_calls g _ i (h.drewN _) hl).mono ?_
    rintro e w' ⟨rfl, hc, ho⟩
    go_wp2
    go_ret2
    exact ⟨rfl, hc, ((Only.refl _ w).drewN _).trans ho (fun _ e => e) (fun _ _ e => e)⟩
end Go.Proofs.YtbiobhghnldckaaGreatDoor
