/- Proved: appending runes to runes; a text's runes; runes' text. Conditions: the rows lie in memory. -/
import Derived.Test.YtbiobhghnldckaaGreatDoorMatch3
import Derived.Laws.IdiomStrings
import Derived.Laws.Cover4
namespace Go.Proofs.YtbiobhghnldckaaGreatDoor
open Go.RowKit
set_option linter.unusedVariables false
namespace Adz
def runesGo (s : ByteArray) : Nat → Nat → List Int
  | 0, _ => []
  | b + 1, i => if i < s.size then Int.ofNat (Utf8.decode s i).1 :: runesGo s b (i + (Utf8.decode s i).2) else []
/-- A text's runes. -/
def runes (s : ByteArray) : List Int := runesGo s s.size 0
theorem runesFrom_eq (s : ByteArray) : ∀ (b i : Nat) (acc : Array Value), (Conv.runesFrom s b i acc).toList = acc.toList ++ (runesGo s b i).map (.int .i32)
  | 0, i, acc => by simp [Conv.runesFrom, runesGo]
  | b + 1, i, acc => by
    unfold Conv.runesFrom runesGo
    split
    · simp only []
      rw [runesFrom_eq s b]
      simp
    · simp
theorem runesGo_len (s : ByteArray) : ∀ (b i : Nat), (runesGo s b i).length ≤ b
  | 0, i => by simp [runesGo]
  | b + 1, i => by
    unfold runesGo
    split
    · have := runesGo_len s b (i + (Utf8.decode s i).2); simp; omega
    · simp
theorem runes_len (s : ByteArray) : (runes s).length ≤ s.size := runesGo_len s _ _
theorem runesFrom_all (s : ByteArray) : (Conv.runesFrom s s.size 0 #[]).toList = (runes s).map (.int .i32) := by
  rw [runesFrom_eq]; simp [runes]
theorem runesFrom_size (s : ByteArray) : (Conv.runesFrom s s.size 0 #[]).size = (runes s).length := by
  rw [← Array.length_toList, runesFrom_all, List.length_map]
end Adz

theorem append_none (w : World) (ty : TypeId) (v : Value) (k c : Nat) {base : Nat} {e : TypeId} {xs : List Value} (hown : w.ownsRow base e 1 v k xs) :
    (Builtin.append_ #[103, 103] ty #[v, .slice none 0 c]).run Tryz.prog w = .ok v w := by
  have hcap : ∃ a cap, v = .slice a k cap ∧ k ≤ cap := by
    rcases hown.2 with ⟨rfl, rfl⟩ | ⟨g, cap, cur, rfl, _, _, h, _⟩
    · exact ⟨_, _, rfl, Nat.le_refl _⟩
    · exact ⟨_, _, rfl, h⟩
  obtain ⟨a, cap, rfl, hc⟩ := hcap
  obtain ⟨i, hi, hz0, hz1, hz2⟩ := info_parts infoRune
  have hu := run_underlying (P := Tryz.prog) (w := w) Tryz.underlying103
  have hsz : (sizeOf 21).run Tryz.prog w = .ok 1 w := by simp [sizeOf, typeInfo, hi, hz1]
  cases a <;> simp [Builtin.append_, hu, hsz, Builtin.lenOf, Builtin.firstCells, hc, storeCells, Sem.run_bind, Result.andThen]

theorem run_append_runes (w : World) (ty : TypeId) (base : Nat) (v : Value) (k : Nat) (xs : List Int) (hown : w.ownsRow base 21 1 v k (xs.map (.int .i32))) (a : Option Addr) (c : Nat) (sp : List Int) (hs : SpaceAt w a sp) (hkn : k + sp.length ≤ 100000000) (hb : base ≤ w.heap.size) :
    ∃ v' w', (Builtin.append_ #[103, 103] ty #[v, .slice a sp.length c]).run Tryz.prog w = .ok v' w' ∧ w'.ownsRow base 21 1 v' (k + sp.length) ((xs ++ sp).map (.int .i32)) ∧ w.grownBy w' v.ownBlock ∧ (v'.ownBlock = v.ownBlock ∨ v'.ownBlock = some w.heap.size) := by
  obtain ⟨i, hi, hz0, hz1, hz2⟩ := info_parts infoRune
  by_cases he : sp = []
  · subst he
    cases a with
    | none => exact ⟨v, w, append_none w ty v k c hown, by simpa using hown, ⟨rfl, rfl, rfl, Nat.le_refl _, fun _ _ _ => rfl⟩, Or.inl rfl⟩
    | some ad =>
      obtain ⟨v', w', h1, h2, h3, _, h5⟩ := run_append_own_at (P := Tryz.prog) w base 103 ty 21 i _ 1 4 Tryz.underlying103 hi hz0 hz1 hz2 rfl (by omega) v k _ hown ad 0 c [] rfl (by simp) (by simp) (by unfold maxLen; omega) (by simp at hkn; omega) hb
      exact ⟨v', w', h1, by simpa using h2, h3, h5⟩
  · obtain ⟨rb, ro, rfl, _, hc⟩ := hs he
    obtain ⟨v', w', h1, h2, h3, _, h5⟩ := run_append_own_at (P := Tryz.prog) w base 103 ty 21 i _ 1 4 Tryz.underlying103 hi hz0 hz1 hz2 rfl (by omega) v k _ hown ⟨rb, ro, none⟩ sp.length c (sp.map (.int .i32)) (by simp) (fun j u hu => by
      rw [Addr.add_mid]
      rw [List.getElem?_map] at hu
      cases hj : sp[j]? with
      | none => rw [hj] at hu; cases hu
      | some r =>
        rw [hj] at hu
        simp at hu
        subst hu
        have hl : j < sp.length := (List.getElem?_eq_some_iff.1 hj).1
        rw [hc j hl, List.getD_eq_getElem?_getD, hj]; rfl) (by intro u hu; simp at hu; obtain ⟨r, _, rfl⟩ := hu; rfl) (by unfold maxLen; omega) (by omega) hb
    exact ⟨v', w', h1, by simpa using h2, h3, h5⟩

/-- At the operation. -/
theorem wp_append_runes (w : World) {o : Oper} {a : Act} {K : Act → World → Prop} {Q : Exit → Act → World → Prop} (s x : Operand)
    (ho : o.op = .call { callee := .builtin .append, args := #[s, x], argTypes := #[103, 103] }) (base : Nat) (v : Value) (k : Nat) (xs : List Int) (hv : a.eval s = v) (hown : w.ownsRow base 21 1 v k (xs.map (.int .i32))) (ad : Option Addr) (c : Nat) (sp : List Int) (n : Nat) (hx : a.eval x = .slice ad n c) (hn : n = sp.length) (hs : SpaceAt w ad sp) (hkn : k + n ≤ 100000000) (hb : base ≤ w.heap.size)
    (h : ∀ a' c' w', w'.ownsRow base 21 1 (.slice a' (k + n) c') (k + n) ((xs ++ sp).map (.int .i32)) → Only (fun b => v.ownBlock = some b) w w' → ((Value.slice a' (k + n) c').ownBlock = v.ownBlock ∨ (Value.slice a' (k + n) c').ownBlock = some w.heap.size) → K (a.put o.dst (.slice a' (k + n) c')) w') : o.wp Tryz.prog a w K Q := by
  subst hn
  obtain ⟨v', w', hr, h2, h3, h4⟩ := run_append_runes w o.type base v k xs hown ad c sp hs hkn hb
  obtain ⟨a', c', rfl⟩ := row_shape h2
  unfold Oper.wp execOp
  simp only [ho, resolve, invoke, builtin, Sem.run_bind, Sem.run_pure, Result.andThen_ok, List.map_toArray, List.map_cons, List.map_nil, hv, hx, hr]
  exact h a' c' w' h2 (Only.of_grown h3) h4
theorem step_append_runes (w : World) {ops : Array Oper} {o : Oper} {a : Act} {K : Act → World → Prop} {Q : Exit → Act → World → Prop} {E : Prop} (hgd : o.guard = none) (s x : Operand)
    (ho : o.op = .call { callee := .builtin .append, args := #[s, x], argTypes := #[103, 103] }) (base : Nat) (v : Value) (k : Nat) (xs : List Int) (hv : a.eval s = v) (hown : w.ownsRow base 21 1 v k (xs.map (.int .i32))) (ad : Option Addr) (c : Nat) (sp : List Int) (n : Nat) (hx : a.eval x = .slice ad n c) (hn : n = sp.length) (hs : SpaceAt w ad sp) (hkn : k + n ≤ 100000000) (hb : base ≤ w.heap.size)
    (h : ∀ a' c' w', w'.ownsRow base 21 1 (.slice a' (k + n) c') (k + n) ((xs ++ sp).map (.int .i32)) → Only (fun b => v.ownBlock = some b) w w' → ((Value.slice a' (k + n) c').ownBlock = v.ownBlock ∨ (Value.slice a' (k + n) c').ownBlock = some w.heap.size) → K (a.put o.dst (.slice a' (k + n) c')) w') :
    if Region.wanted o (yielded ops a.tmps) = true then Oper.wp Tryz.prog o a w K Q else E := by
  rw [if_pos (by simp [Region.wanted, hgd])]
  exact wp_append_runes w s x ho base v k xs hv hown ad c sp n hx hn hs hkn hb h
theorem wpList_append_runes (w : World) {ops : Array Oper} {rest : List Oper} {o : Oper} {a : Act} {Q : Exit → Act → World → Prop} (hgd : o.guard = none) (s x : Operand)
    (ho : o.op = .call { callee := .builtin .append, args := #[s, x], argTypes := #[103, 103] }) (base : Nat) (v : Value) (k : Nat) (xs : List Int) (hv : a.eval s = v) (hown : w.ownsRow base 21 1 v k (xs.map (.int .i32))) (ad : Option Addr) (c : Nat) (sp : List Int) (n : Nat) (hx : a.eval x = .slice ad n c) (hn : n = sp.length) (hs : SpaceAt w ad sp) (hkn : k + n ≤ 100000000) (hb : base ≤ w.heap.size)
    (h : ∀ a' c' w', w'.ownsRow base 21 1 (.slice a' (k + n) c') (k + n) ((xs ++ sp).map (.int .i32)) → Only (fun b => v.ownBlock = some b) w w' → ((Value.slice a' (k + n) c').ownBlock = v.ownBlock ∨ (Value.slice a' (k + n) c').ownBlock = some w.heap.size) → wpList Tryz.prog ops Q rest (a.put o.dst (.slice a' (k + n) c')) w') :
    wpList Tryz.prog ops Q (o :: rest) a w :=
  wpList_plain hgd fun _ hK => wp_append_runes w s x ho base v k xs hv hown ad c sp n hx hn hs hkn hb (fun a' c' w' h1 h2 h3 => hK _ _ (h a' c' w' h1 h2 h3))

/-- '[]rune(s)'. -/
theorem conv_runes (w : World) (s : ByteArray) (hs : s.size ≤ 1000000) : ∃ c w', (convert 9 103 (.string s)).run Tryz.prog w = .ok (.slice (some ⟨w.heap.size, 0, none⟩) (Adz.runes s).length c) w' ∧ SpaceAt w' (some ⟨w.heap.size, 0, none⟩) (Adz.runes s) ∧ Only (fun _ => False) w w' ∧ (Adz.runes s).length ≤ c ∧ Typ w' w.heap.size 21 := by
  have hz := Adz.runesFrom_size s
  have hl := Adz.runes_len s
  have hrun := run_runes_of_string (P := Tryz.prog) w 9 103 21 s Tryz.underlying9 Tryz.underlying103 Tryz.underlying21 (by rw [hz]; omega)
  have hge := grownCap_ge w (Conv.runesFrom s s.size 0 #[]).size 0 21
  generalize hcap : grownCap w (Conv.runesFrom s s.size 0 #[]).size 0 21 = cap at *
  have hcells := Cells.new w.drew (Conv.runesFrom s s.size 0 #[] ++ Array.replicate (cap - (Conv.runesFrom s s.size 0 #[]).size) (.int .i32 0)) 21
  have htyp := Typ.new w.drew (Conv.runesFrom s s.size 0 #[] ++ Array.replicate (cap - (Conv.runesFrom s s.size 0 #[]).size) (.int .i32 0)) 21 (0, 0)
  have hblk := heap_alloc_new w.drew (.cells (Conv.runesFrom s s.size 0 #[] ++ Array.replicate (cap - (Conv.runesFrom s s.size 0 #[]).size) (.int .i32 0)) 21)
  rw [hz] at hrun
  refine ⟨cap, _, hrun, ?_, ((Only.refl _ w).drew).alloc _, by rw [hz] at hge; exact hge, by rw [← hz]; exact htyp⟩
  · intro _
    refine ⟨_, 0, rfl, by rw [← hz]; exact htyp, fun j hj => ?_⟩
    rw [← hz]
    refine (hcells (0 + j) _ ?_).1
    rw [Array.toList_append, Adz.runesFrom_all, Nat.zero_add, List.getElem?_append_left (by rw [List.length_map]; exact hj), List.getElem?_map, List.getD_eq_getElem?_getD, List.getElem?_eq_getElem hj]
    rfl
end Go.Proofs.YtbiobhghnldckaaGreatDoor
