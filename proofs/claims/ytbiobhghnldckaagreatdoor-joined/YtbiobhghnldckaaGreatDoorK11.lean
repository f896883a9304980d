/- Proved: what the editor holds, laid in memory as a state of a plain Lean twin; a line is read, a space is printed. Conditions: the editor lies in memory as 'EM' says. -/
import Derived.Test.YtbiobhghnldckaaGreatDoorK8
namespace Go.Proofs.YtbiobhghnldckaaGreatDoor
open Go.RowKit
set_option linter.unusedVariables false

/-- The runes of a text, as a row that no one else holds. -/
theorem conv_own (w : World) (s : ByteArray) (hs : s.size ≤ 1000000) : ∃ c w', (convert 9 103 (.string s)).run Tryz.prog w = .ok (.slice (some ⟨w.heap.size, 0, none⟩) (Adz.runes s).length c) w' ∧ w'.ownsRow w.heap.size 21 1 (.slice (some ⟨w.heap.size, 0, none⟩) (Adz.runes s).length c) (Adz.runes s).length ((Adz.runes s).map (.int .i32)) ∧ Only (fun _ => False) w w' := by
  have hz := Adz.runesFrom_size s
  have hl := Adz.runes_len s
  have hrun := run_runes_of_string (P := Tryz.prog) w 9 103 21 s Tryz.underlying9 Tryz.underlying103 Tryz.underlying21 (by rw [hz]; omega)
  have hge := grownCap_ge w (Conv.runesFrom s s.size 0 #[]).size 0 21
  have hle := grownCap_le_maxLen w (Conv.runesFrom s s.size 0 #[]).size 0 21 (by rw [hz]; unfold maxLen; omega)
  generalize hcap : grownCap w (Conv.runesFrom s s.size 0 #[]).size 0 21 = cap at *
  have hblk := heap_alloc_new w.drew (.cells (Conv.runesFrom s s.size 0 #[] ++ Array.replicate (cap - (Conv.runesFrom s s.size 0 #[]).size) (.int .i32 0)) 21)
  rw [hz] at hrun hge
  refine ⟨cap, _, hrun, ⟨by rw [List.length_map, Nat.mul_one], Or.inr ⟨w.heap.size, cap, _, rfl, Nat.le_refl _, by rw [← hz]; exact hblk, hge, hle, ?_, ?_⟩⟩, ((Only.refl _ w).drew).alloc _⟩
  · rw [Array.size_append, Array.size_replicate, hz]; omega
  · rw [Array.toList_append, Adz.runesFrom_all, Nat.mul_one, List.take_left' (by rw [List.length_map])]

namespace Adz
/-- What is fixed while an editor runs. -/
structure Fx where
  cv : Value
  q : Bool
  la : Option Addr
  lc : Nat
  lines : List ByteArray
  ov : Value
  lo : Nat
/-- What an editor holds. -/
structure Es where
  line : Nat := 0
  sp : List Int := []
  hold : List Int := []
  queue : List ByteArray := []
  r8 : Bool := false
  next : Nat := 0
  drop : Bool := false
  over : Bool := false
  steps : Nat := 0
  out : List UInt8 := []
  opens : List Bool := []
end Adz
def edCells (X : Adz.Fx) (E : Adz.Es) (sv hv qv : Value) : List Value :=
  [X.cv, .bool X.q, .slice X.la X.lines.length X.lc, .int .i64 E.line, sv, hv, qv, X.ov, .bool E.r8, .int .i64 E.next, .bool E.drop, .bool E.over, .int .i64 E.steps, .pointer none, .slice none 0 0, .int .i64 0]
/-- The lines of a text lie in memory, ahead of a block. -/
def LinesAt (w : World) (eb : Nat) (la : Option Addr) (ls : List ByteArray) : Prop := ls = [] ∨ ∃ lb, la = some ⟨lb, 0, none⟩ ∧ lb < eb ∧ lb < w.heap.size ∧ ∀ k (hk : k < ls.length), w.cell? ⟨lb, k, none⟩ = some (.string ls[k])
theorem LinesAt.keeps {S : Nat → Prop} {w w' : World} {eb : Nat} {la : Option Addr} {ls : List ByteArray} (h : LinesAt w eb la ls) (o : Only S w w') (hs : ∀ b, b < eb → ¬ S b) : LinesAt w' eb la ls := by
  rcases h with h | ⟨lb, e, h1, h2, h3⟩
  · exact Or.inl h
  · exact Or.inr ⟨lb, e, h1, Nat.lt_of_lt_of_le h2 o.size, fun k hk => o.keeps (h3 k hk) (hs lb h1)⟩
/-- Runes in a row of their own. -/
def HoldAt (w : World) (B : Nat) (v : Value) (l : List Int) : Prop := w.ownsRow B 21 1 v l.length (l.map (.int .i32))
theorem HoldAt.keeps {S : Nat → Prop} {w w' : World} {B : Nat} {v : Value} {l : List Int} (h : HoldAt w B v l) (o : Only S w w') (hs : ∀ b, Typ w b 21 → ¬ S b) : HoldAt w' B v l :=
  row_keeps (show w.ownsRow B 21 1 v l.length (l.map (.int .i32)) from h) o (fun b hb => hs b (Typ.of_row (show w.ownsRow B 21 1 v l.length (l.map (.int .i32)) from h) hb))
/-- Which commands are open, where that is known. -/
def OpensAt (w : World) (eb : Nat) (X : Adz.Fx) (l : List Bool) : Prop := l = [] ∨ ∃ ob c, X.ov = .slice (some ⟨ob, 0, none⟩) l.length c ∧ ob < eb ∧ X.lo ≤ ob ∧ Typ w ob 4 ∧ ∀ k b, l[k]? = some b → w.cell? ⟨ob, k, none⟩ = some (.bool b) ∧ w.frozen? ⟨ob, k, none⟩ = false
theorem OpensAt.keeps {S : Nat → Prop} {w w' : World} {eb : Nat} {X : Adz.Fx} {l : List Bool} (h : OpensAt w eb X l) (o : Only S w w') (hs : ∀ b, b < eb → ¬ S b) : OpensAt w' eb X l := by
  rcases h with h | ⟨ob, c, e, h1, h2, h3, h4⟩
  · exact Or.inl h
  · exact Or.inr ⟨ob, c, e, h1, h2, h3.keeps o (hs ob h1), fun k b hk => ⟨o.keeps (h4 k b hk).1 (hs ob h1), o.keepsFrozen (h4 k b hk).1 (h4 k b hk).2 (hs ob h1)⟩⟩
/-- The editor lies in memory, with what it holds. -/
structure EM (w : World) (eb : Nat) (X : Adz.Fx) (E : Adz.Es) (sa : Option Addr) (sc : Nat) (ha : Option Addr) (hc : Nat) (qa : Option Addr) (qc : Nat) : Prop where
  ed : Ed w eb (edCells X E (.slice sa E.sp.length sc) (.slice ha E.hold.length hc) (.slice qa E.queue.length qc)) E.out
  sp : w.ownsRow (eb + 1) 21 1 (.slice sa E.sp.length sc) E.sp.length (E.sp.map (.int .i32))
  hold : HoldAt w (eb + 1) (.slice ha E.hold.length hc) E.hold
  queue : w.ownsRow (eb + 1) 9 1 (.slice qa E.queue.length qc) E.queue.length (E.queue.map .string)
  apart : ∀ b, (Value.slice sa E.sp.length sc).ownBlock = some b → (Value.slice ha E.hold.length hc).ownBlock ≠ some b
  lines : LinesAt w eb X.la X.lines
  opens : OpensAt w eb X E.opens
/-- .. over what turns nothing of its. -/
theorem EM.quiet {w w' : World} {eb : Nat} {X : Adz.Fx} {E : Adz.Es} {sa ha qa : Option Addr} {sc hc qc : Nat} (h : EM w eb X E sa sc ha hc qa qc) (o : Only (fun _ => False) w w') : EM w' eb X E sa sc ha hc qa qc :=
  ⟨h.ed.keeps o id (fun _ _ => id), row_keeps h.sp o (fun _ _ => id), h.hold.keeps o (fun _ _ => id), row_keeps h.queue o (fun _ _ => id), h.apart, h.lines.keeps o (fun _ _ => id), h.opens.keeps o (fun _ _ => id)⟩
/-- What the editor's own functions turn: the editor, and bytes that it has made. -/
def Own8 (w : World) (eb b : Nat) : Prop := b = eb ∨ (Typ w b 5 ∧ eb ≤ b)
/-- .. with what waits told. -/
theorem EM.told {w w' : World} {eb : Nat} {X : Adz.Fx} {E E' : Adz.Es} {sa ha qa : Option Addr} {sc hc qc : Nat} (h : EM w eb X E sa sc ha hc qa qc) (o : Only (fun b => b = eb ∨ (Typ w b 5 ∧ eb ≤ b)) w w')
    (he : Ed w' eb (edCells X E' (.slice sa E'.sp.length sc) (.slice ha E'.hold.length hc) (.slice none E'.queue.length 0)) E'.out) (h1 : E'.sp = E.sp) (h2 : E'.hold = E.hold) (h3 : E'.queue = []) (h4 : E'.opens = E.opens := by rfl) : EM w' eb X E' sa sc ha hc none 0 := by
  have n : ∀ {b : Nat} {T : TypeId}, Typ w b T → T ≠ 5 → T ≠ 108 → ¬ (b = eb ∨ (Typ w b 5 ∧ eb ≤ b)) := fun ht n1 n2 e => by
    rcases e with e | e
    · subst e; exact n2 (ht.one h.ed.typ)
    · exact n1 (ht.one e.1)
  refine ⟨he, ?_, ?_, ?_, ?_, h.lines.keeps o (fun b hb e => by rcases e with e | e <;> omega), by rw [h4]; exact h.opens.keeps o (fun b hb e => by rcases e with e | e <;> omega)⟩
  · rw [h1]; exact row_keeps h.sp o (fun b hb => n (Typ.of_row h.sp hb) (by decide) (by decide))
  · rw [h2]; exact h.hold.keeps o (fun b hb => n hb (by decide) (by decide))
  · rw [h3]; exact World.ownsRow_nil _ _ _ _
  · rw [h1, h2]; exact h.apart
/-- .. over what turns the editor and its bytes. -/
theorem EM.turned {w w' : World} {eb : Nat} {X : Adz.Fx} {E E' : Adz.Es} {sa ha qa : Option Addr} {sc hc qc : Nat} (h : EM w eb X E sa sc ha hc qa qc) (o : Only (fun b => b = eb ∨ (Typ w b 5 ∧ eb ≤ b)) w w')
    (he : Ed w' eb (edCells X E' (.slice sa E'.sp.length sc) (.slice ha E'.hold.length hc) (.slice qa E'.queue.length qc)) E'.out) (h1 : E'.sp = E.sp) (h2 : E'.hold = E.hold) (h3 : E'.queue = E.queue) (h4 : E'.opens = E.opens := by rfl) : EM w' eb X E' sa sc ha hc qa qc := by
  have n : ∀ {b : Nat} {T : TypeId}, Typ w b T → T ≠ 5 → T ≠ 108 → ¬ (b = eb ∨ (Typ w b 5 ∧ eb ≤ b)) := fun ht n1 n2 e => by
    rcases e with e | e
    · subst e; exact n2 (ht.one h.ed.typ)
    · exact n1 (ht.one e.1)
  refine ⟨he, ?_, ?_, ?_, ?_, h.lines.keeps o (fun b hb e => by rcases e with e | e <;> omega), by rw [h4]; exact h.opens.keeps o (fun b hb e => by rcases e with e | e <;> omega)⟩
  · rw [h1]; exact row_keeps h.sp o (fun b hb => n (Typ.of_row h.sp hb) (by decide) (by decide))
  · rw [h2]; exact h.hold.keeps o (fun b hb => n hb (by decide) (by decide))
  · rw [h3]; exact row_keeps h.queue o (fun b hb => n (Typ.of_row h.queue hb) (by decide) (by decide))
  · rw [h1, h2]; exact h.apart
end Go.Proofs.YtbiobhghnldckaaGreatDoor

/- Proved: what waits is told; the end of a cycle; a line is read. Conditions: the editor lies in memory as 'EM' says. -/
namespace Go.Proofs.YtbiobhghnldckaaGreatDoor
open Go.RowKit
set_option linter.unusedVariables false

namespace Adz
/-- Texts are put out, one after the other, each with its end. -/
def outs : List UInt8 → List ByteArray → List UInt8
  | out, [] => out
  | out, t :: ts => outs ((out ++ t.data.toList) ++ [10]) ts
theorem outs_len : ∀ (ts : List ByteArray) (out : List UInt8), out.length ≤ (outs out ts).length
  | [], out => Nat.le_refl _
  | t :: ts, out => by
    have := outs_len ts ((out ++ t.data.toList) ++ [10])
    simp only [List.length_append] at this
    show out.length ≤ (outs ((out ++ t.data.toList) ++ [10]) ts).length
    omega
theorem outs_snoc : ∀ (ts : List ByteArray) (out : List UInt8) (t : ByteArray), outs out (ts ++ [t]) = (outs out ts ++ t.data.toList) ++ [10]
  | [], _, _ => rfl
  | x :: ts, out, t => outs_snoc ts ((out ++ x.data.toList) ++ [10]) t
theorem outs_append : ∀ (ts us : List ByteArray) (out : List UInt8), outs out (ts ++ us) = outs (outs out ts) us
  | [], _, _ => rfl
  | x :: ts, us, out => outs_append ts us ((out ++ x.data.toList) ++ [10])
end Adz

theorem row_get {w : World} {base : Nat} {T : TypeId} {a : Option Addr} {n c : Nat} {xs : List Value} (h : w.ownsRow base T 1 (.slice a n c) n xs) (hn : 0 < n) : ∃ g, a = some ⟨g, 0, none⟩ ∧ base ≤ g ∧ Typ w g T ∧ ∀ k v, xs[k]? = some v → w.cell? ⟨g, k, none⟩ = some v := by
  rcases h.2 with ⟨_, e⟩ | ⟨g, cap, cur, hv, hb, hg, _, _, hsz, htake⟩
  · omega
  · injection hv with e1 e2 e3
    refine ⟨g, e1, hb, ⟨cur, (0, 0), hg⟩, fun k v hk => ?_⟩
    rw [cell_of_row _ g k cur _ (0, 0) hg]
    rw [← htake, List.getElem?_take] at hk
    split at hk
    · rw [Array.getElem?_toList] at hk; exact hk
    · cases hk

set_option maxRecDepth 100000 in
set_option maxHeartbeats 1600000 in
theorem tell_ok (w : World) (eb : Nat) (X : Adz.Fx) (E : Adz.Es) (sa ha qa : Option Addr) (sc hc qc : Nat) (h : EM w eb X E sa sc ha hc qa qc) (hlen : (Adz.outs E.out E.queue).length ≤ 8000) (hq : E.queue.length ≤ 100000) :
    Calls Tryz.prog 98 #[.pointer (some ⟨eb, 0, none⟩)] w fun e w' => (∃ v, e = .returned v) ∧ EM w' eb X { E with queue := [], out := Adz.outs E.out E.queue } sa sc ha hc none 0 ∧ Only (fun b => b = eb ∨ (Typ w b 5 ∧ eb ≤ b)) w w' := by
  have c6 := h.ed.get 6 (by omega) _ rfl
  have q1 := c6.1
  clear c6
  go_enter Tryz.func98, Tryz.ntmps98
  go_wp2_with fail
  go_loopg [9] E.queue.length (fun k v wr => ∃ j : Nat, v = .int .i64 j ∧ j + k = E.queue.length ∧ Hid (Ed wr eb (edCells X E (.slice sa E.sp.length sc) (.slice ha E.hold.length hc) (.slice qa E.queue.length qc)) (Adz.outs E.out (E.queue.take j))) ∧ Hid (Only (fun b => b = eb ∨ (Typ w b 5 ∧ eb ≤ b)) w wr))
  case atStart => exact ⟨0, rfl, by omega, h.ed, Only.refl _ _⟩
  case round =>
    obtain ⟨j, rfl, hjk, hE, hO⟩ := hrel
    have HJ : Hid (j + gk = E.queue.length) := hjk
    have hjl : j ≤ E.queue.length := by omega
    clear hjk
    by_cases hlt : j < E.queue.length
    · obtain ⟨g, rfl, hgb, hgt, hcells⟩ := row_get h.queue (by omega)
      have ng : ¬ (g = eb ∨ (Typ w g 5 ∧ eb ≤ g)) := fun e => by
        rcases e with e | e
        · omega
        · exact absurd (hgt.one e.1) (by decide)
      have hcell := hO.out.keeps (hcells j (.string E.queue[j]) (by rw [List.getElem?_map, List.getElem?_eq_getElem hlt]; rfl)) ng
      have hbound : (Adz.outs E.out (E.queue.take j)).length + E.queue[j].size + 1 ≤ 8000 := by
        have e1 : E.queue = (E.queue.take j ++ [E.queue[j]]) ++ E.queue.drop (j + 1) := by rw [List.append_assoc, List.singleton_append, List.getElem_cons_drop, List.take_append_drop]
        have e2 := Adz.outs_len (E.queue.drop (j + 1)) (Adz.outs E.out (E.queue.take j ++ [E.queue[j]]))
        rw [← Adz.outs_append, ← e1, Adz.outs_snoc] at e2
        simp only [List.length_append, List.length_singleton, Array.length_toList] at e2
        have : E.queue[j].size = E.queue[j].data.size := rfl
        omega
      have hnext : Adz.outs E.out (E.queue.take (j + 1)) = (Adz.outs E.out (E.queue.take j) ++ E.queue[j].data.toList) ++ [10] := by
        rw [← Adz.outs_snoc, List.take_append_getElem]
      have hpr := print_ok eb wr _ _ hE.out rfl E.queue[j] hbound
      rw [← hnext] at hpr
      have HO : Hid _ := hO.out
      clear hbound hnext hE hO hcells
      generalize E.queue[j] = tx at *
      have hjn : (j : Int) < (E.queue.length : Int) := by omega
      go_wp2_with fail
      refine hpr.mono ?_
      clear hpr
      rintro e w1 ⟨⟨v1, rfl⟩, h1, o1⟩
      go_wp2
      go_roundg (gk - 1)
      case measure => have := HJ.out; omega
      case rel => exact ⟨j + 1, by go_num, by have := HJ.out; omega, h1, u8_only h.ed.typ HO.out o1⟩
    · have hje : j = E.queue.length := by omega
      subst hje
      rw [List.take_length] at hE
      have hEq := hE.out
      have c6 := hEq.get 6 (by omega) _ rfl
      have k1 := c6.1
      have k2 := c6.2
      have hE2 := hEq.set 6 (by omega) (.slice none 0 0)
      have o2 := only_set wr eb 6 (.slice none 0 0)
      have HF : Hid (Only (fun b => b = eb ∨ (Typ w b 5 ∧ eb ≤ b)) w (wr.setCell ⟨eb, 6, none⟩ (.slice none 0 0))) := hO.out.trans o2 (fun _ e => e) (fun _ _ e => Or.inl e)
      clear c6 hE hO
      go_wp2
      go_end0
      exact ⟨⟨_, rfl⟩, h.told HF.out hE2 rfl rfl rfl, HF.out⟩

set_option maxRecDepth 100000 in
set_option maxHeartbeats 1600000 in
/-- A cycle's end. -/
theorem endM (w : World) (eb : Nat) (X : Adz.Fx) (E : Adz.Es) (sa ha qa : Option Addr) (sc hc qc : Nat) (h : EM w eb X E sa sc ha hc qa qc) (hn : E.sp.length ≤ 400) (hm : E.hold.length ≤ 400) (hlen : (Adz.outs (Adz.told X.q E.out E.sp) E.queue).length ≤ 8000) (hq : E.queue.length ≤ 100000) :
    Calls Tryz.prog 72 #[.pointer (some ⟨eb, 0, none⟩)] w fun e w' => (∃ v, e = .returned v) ∧ EM w' eb X { E with queue := [], out := Adz.outs (Adz.told X.q E.out E.sp) E.queue } sa sc ha hc none 0 ∧ Only (fun b => b = eb ∨ (Typ w b 5 ∧ eb ≤ b)) w w' := by
  have h1 := (h.ed.get 1 (by omega) _ rfl).1
  cases hX : X.q with
  | true =>
    rw [hX] at hlen h1
    have hlen' : (Adz.outs E.out E.queue).length ≤ 8000 := hlen
    have HT : Hid (Adz.told true E.out E.sp = E.out) := rfl
    go_enter Tryz.func72, Tryz.ntmps72
    go_wp2_with fail
    refine (checkSpace_ok eb w _ _ h.ed rfl sa ha E.sp.length E.hold.length sc hc rfl rfl hn hm).mono ?_
    rintro e w1 ⟨⟨v1, rfl⟩, o1⟩
    have hM1 := h.quiet o1
    have c1 := o1.keeps h1 id
    go_wp2_with fail
    refine (tell_ok w1 eb X E sa ha qa sc hc qc hM1 hlen' hq).mono ?_
    rintro e w2 ⟨⟨v2, rfl⟩, hM2, o2⟩
    go_wp2
    go_end0
    exact ⟨⟨_, rfl⟩, hM2, u8_only h.ed.typ (o1.mono (fun _ _ e => e.elim)) o2⟩
  | false =>
    rw [hX] at hlen h1
    have hlen' : (Adz.outs ((E.out ++ (runesBytes E.sp).data.toList) ++ [10]) E.queue).length ≤ 8000 := hlen
    have hb := Adz.outs_len E.queue ((E.out ++ (runesBytes E.sp).data.toList) ++ [10])
    have hb2 : E.out.length + (runesBytes E.sp).size + 1 ≤ 8000 := by
      simp only [List.length_append, List.length_singleton, Array.length_toList] at hb
      have : (runesBytes E.sp).size = (runesBytes E.sp).data.size := rfl
      omega
    have hcv0 := fun (u : World) (hu : Sl u sa E.sp) => run_string_runes u sa sc E.sp hu
    have hsl := (Sl.of_row h.sp).1
    have hE' : Adz.told false E.out E.sp = (E.out ++ (runesBytes E.sp).data.toList) ++ [10] := rfl
    rw [hE']
    clear hE' hlen hb
    generalize runesBytes E.sp = tx at *
    go_enter Tryz.func72, Tryz.ntmps72
    go_wp2_with fail
    refine (checkSpace_ok eb w _ _ h.ed rfl sa ha E.sp.length E.hold.length sc hc rfl rfl hn hm).mono ?_
    rintro e w1 ⟨⟨v1, rfl⟩, o1⟩
    have hM1 := h.quiet o1
    have c1 := o1.keeps h1 id
    have c4 := (hM1.ed.get 4 (by omega) _ rfl).1
    have hcv := hcv0 w1 (hsl.keeps o1 (fun _ _ _ => id))
    clear hcv0
    go_wp2_with fail
    refine (print_ok eb w1 _ _ hM1.ed rfl tx hb2).mono ?_
    rintro e w2 ⟨⟨v2, rfl⟩, hE2, o2⟩
    have hM2 : EM w2 eb X { E with out := (E.out ++ tx.data.toList) ++ [10] } sa sc ha hc qa qc := hM1.turned o2 hE2 rfl rfl rfl
    go_wp2_with fail
    refine (tell_ok w2 eb X _ sa ha qa sc hc qc hM2 hlen' hq).mono ?_
    rintro e w3 ⟨⟨v3, rfl⟩, hM3, o3⟩
    go_wp2
    go_end0
    exact ⟨⟨_, rfl⟩, hM3, u8_only h.ed.typ (u8_only h.ed.typ (o1.mono (fun _ _ e => e.elim)) o2) o3⟩
end Go.Proofs.YtbiobhghnldckaaGreatDoor

/- Proved: a line is read. Conditions: the editor lies in memory as 'EM' says. -/
namespace Go.Proofs.YtbiobhghnldckaaGreatDoor
open Go.RowKit
set_option linter.unusedVariables false

/-- .. with cells of the editor's own turned. -/
theorem EM.cells {w w' : World} {eb : Nat} {X : Adz.Fx} {E E' : Adz.Es} {sa ha qa : Option Addr} {sc hc qc : Nat} (h : EM w eb X E sa sc ha hc qa qc) (o : Only (· = eb) w w')
    (he : Ed w' eb (edCells X E' (.slice sa E'.sp.length sc) (.slice ha E'.hold.length hc) (.slice qa E'.queue.length qc)) E'.out) (h1 : E'.sp = E.sp) (h2 : E'.hold = E.hold) (h3 : E'.queue = E.queue) (h4 : E'.opens = E.opens := by rfl) : EM w' eb X E' sa sc ha hc qa qc :=
  h.turned (o.mono (fun _ _ e => Or.inl e)) he h1 h2 h3 h4

set_option maxRecDepth 100000 in
set_option maxHeartbeats 1600000 in
theorem readM (w : World) (eb : Nat) (X : Adz.Fx) (E : Adz.Es) (sa ha qa : Option Addr) (sc hc qc : Nat) (h : EM w eb X E sa sc ha hc qa qc) (hk : E.line < X.lines.length) (hn : X.lines.length ≤ 4000) (hs : X.lines[E.line].size ≤ 3000) :
    Calls Tryz.prog 70 #[.pointer (some ⟨eb, 0, none⟩)] w fun e w' => ∃ b rc, e = .returned (.slice (some ⟨b, 0, none⟩) (Adz.runes X.lines[E.line]).length rc) ∧ w'.ownsRow w.heap.size 21 1 (.slice (some ⟨b, 0, none⟩) (Adz.runes X.lines[E.line]).length rc) (Adz.runes X.lines[E.line]).length ((Adz.runes X.lines[E.line]).map (.int .i32)) ∧
      EM w' eb X { E with line := E.line + 1, r8 := false } sa sc ha hc qa qc ∧ Only (· = eb) w w' := by
  have c2 := (h.ed.get 2 (by omega) _ rfl).1
  obtain ⟨lb, hla, hlb, hll, hlines⟩ : ∃ lb, X.la = some ⟨lb, 0, none⟩ ∧ lb < eb ∧ lb < w.heap.size ∧ ∀ k (hk : k < X.lines.length), w.cell? ⟨lb, k, none⟩ = some (.string X.lines[k]) := by
    rcases h.lines with e | e
    · rw [e] at hk; simp at hk
    · exact e
  have hl := hlines E.line hk
  rw [hla] at c2
  have c3 := h.ed.get 3 (by omega) _ rfl
  have q3 := c3.1
  have f3 := c3.2
  have hw : IntKind.i64.wrap ((E.line : Int) + 1) = (E.line : Int) + 1 := by rw [IntKind.wrap_i64]; omega
  have hkk : (E.line : Int) < X.lines.length := by omega
  clear hlines c3
  generalize X.lines[E.line] = ln at *
  go_enter Tryz.func70, Tryz.ntmps70
  go_wp2_with fail
  go_quiet (fail)
  have hO0 : Only (fun _ => False) w (w.drewN nq) := (Only.refl _ w).drewN nq
  have hM := h.quiet hO0
  have hwz : (w.drewN nq).heap.size = w.heap.size := rfl
  generalize w.drewN nq = u at *
  have q3' := (hM.ed.get 3 (by omega) _ rfl).1
  have f3' := (hM.ed.get 3 (by omega) _ rfl).2
  have hE1 := hM.ed.set 3 (by omega) (.int .i64 ((E.line : Int) + 1))
  have q8 := (hE1.get 8 (by omega) _ rfl).1
  have f8 := (hE1.get 8 (by omega) _ rfl).2
  have hE2 := hE1.set 8 (by omega) (.bool false)
  have hO2 : Only (· = eb) w ((u.setCell ⟨eb, 3, none⟩ (.int .i64 ((E.line : Int) + 1))).setCell ⟨eb, 8, none⟩ (.bool false)) := only2 ((hO0.trans (only_set u eb 3 (.int .i64 ((E.line : Int) + 1))) (fun _ e => e.elim) (fun _ _ e => e))) (only_set _ eb 8 (.bool false))
  have hM2 : EM ((u.setCell ⟨eb, 3, none⟩ (.int .i64 ((E.line : Int) + 1))).setCell ⟨eb, 8, none⟩ (.bool false)) eb X { E with line := E.line + 1, r8 := false } sa sc ha hc qa qc := h.cells hO2 hE2 rfl rfl rfl
  obtain ⟨rc, w4, hrun, hown4, ho4⟩ := conv_own ((u.setCell ⟨eb, 3, none⟩ (.int .i64 ((E.line : Int) + 1))).setCell ⟨eb, 8, none⟩ (.bool false)) ln (by omega)
  have hz : ((u.setCell ⟨eb, 3, none⟩ (.int .i64 ((E.line : Int) + 1))).setCell ⟨eb, 8, none⟩ (.bool false)).heap.size = w.heap.size := by rw [← hwz]; simp [World.setCell]
  have HM2 : Hid _ := hM2
  have HO2 : Hid _ := hO2
  have HW4 : Hid _ := hown4
  clear hM2 hO2 hown4 hE2 hM h hO0
  go_wp2
  go_ret
  refine ⟨w.heap.size, rc, rfl, ?_, HM2.out.quiet ho4, HO2.out.trans ho4 (fun _ e => e) (fun _ _ e => e.elim)⟩
  have := HW4.out
  rwa [hz] at this
end Go.Proofs.YtbiobhghnldckaaGreatDoor

/- Proved: the commands p and n are done; an editor quits; one step. Conditions: the editor lies in memory as 'EM' says, and the command. -/
namespace Go.Proofs.YtbiobhghnldckaaGreatDoor
open Go.RowKit
set_option linter.unusedVariables false

set_option maxRecDepth 100000 in
set_option maxHeartbeats 800000 in
theorem hasNextM (w : World) (eb : Nat) (X : Adz.Fx) (E : Adz.Es) (sa ha qa : Option Addr) (sc hc qc : Nat) (h : EM w eb X E sa sc ha hc qa qc) :
    Calls Tryz.prog 45 #[.pointer (some ⟨eb, 0, none⟩)] w fun e w' => e = .returned (.bool (decide ((E.line : Int) < X.lines.length))) ∧ Only (fun _ => False) w w' := by
  have h2 := (h.ed.get 2 (by omega) _ rfl).1
  have h3 := (h.ed.get 3 (by omega) _ rfl).1
  clear h
  generalize X.lines.length = n at *
  go_enter Tryz.func45, Tryz.ntmps45
  go_wp2_with fail
  go_quiet (fail)
  go_wp2
  go_ret
  exact ⟨by first | rfl | simp, (Only.refl _ w).drewN _⟩

set_option maxRecDepth 100000 in
set_option maxHeartbeats 800000 in
theorem quitM (w : World) (eb : Nat) (X : Adz.Fx) (E : Adz.Es) (sa ha qa : Option Addr) (sc hc qc : Nat) (h : EM w eb X E sa sc ha hc qa qc) (ca : Option Addr) (n cc : Nat) (hcv : X.cv = .slice ca n cc) :
    Calls Tryz.prog 134 #[.pointer (some ⟨eb, 0, none⟩)] w fun e w' => (∃ v, e = .returned v) ∧ EM w' eb X { E with over := true, next := n } sa sc ha hc qa qc ∧ Only (· = eb) w w' := by
  have q11 := (h.ed.get 11 (by omega) _ rfl).1
  have f11 := (h.ed.get 11 (by omega) _ rfl).2
  have hE1 := h.ed.set 11 (by omega) (.bool true)
  have q0 := (hE1.get 0 (by omega) _ rfl).1
  rw [hcv] at q0
  have q9 := (hE1.get 9 (by omega) _ rfl).1
  have f9 := (hE1.get 9 (by omega) _ rfl).2
  have hE2 := hE1.set 9 (by omega) (.int .i64 (n : Int))
  have o2 : Only (· = eb) w _ := only2 (only_set w eb 11 (.bool true)) (only_set _ eb 9 (.int .i64 (n : Int)))
  have hM : EM ((w.setCell ⟨eb, 11, none⟩ (.bool true)).setCell ⟨eb, 9, none⟩ (.int .i64 (n : Int))) eb X { E with over := true, next := n } sa sc ha hc qa qc := h.cells o2 hE2 rfl rfl rfl
  have HM : Hid _ := hM
  have HO : Hid _ := o2
  clear hM o2 hE2 hE1 h
  go_enter Tryz.func134, Tryz.ntmps134
  go_wp2
  go_end0
  exact ⟨⟨_, rfl⟩, HM.out, HO.out⟩

/-- A space that was just read takes its place. -/
theorem EM.space {w : World} {eb : Nat} {X : Adz.Fx} {E : Adz.Es} {sa ha qa : Option Addr} {sc hc qc : Nat} (h : EM w eb X E sa sc ha hc qa qc) {B b rc : Nat} {sp : List Int} (hown : w.ownsRow B 21 1 (.slice (some ⟨b, 0, none⟩) sp.length rc) sp.length (sp.map (.int .i32))) (hB : eb < B) (hfar : (Value.slice ha E.hold.length hc).ownBlock ≠ some b) :
    EM (w.setCell ⟨eb, 4, none⟩ (.slice (some ⟨b, 0, none⟩) sp.length rc)) eb X { E with sp := sp } (some ⟨b, 0, none⟩) rc ha hc qa qc := by
  have hE := h.ed.set 4 (by omega) (.slice (some ⟨b, 0, none⟩) sp.length rc)
  have o := only_set w eb 4 (.slice (some ⟨b, 0, none⟩) sp.length rc)
  have n : ∀ {b : Nat} {T : TypeId}, Typ w b T → T ≠ 108 → ¬ b = eb := fun ht n2 e => by subst e; exact n2 (ht.one h.ed.typ)
  refine ⟨hE, row_keeps (row_base hown (by omega)) o (fun b hb => n (Typ.of_row hown hb) (by decide)), h.hold.keeps o (fun b hb => n hb (by decide)), row_keeps h.queue o (fun b hb => n (Typ.of_row h.queue hb) (by decide)), fun b' hb' => ?_, h.lines.keeps o (fun b hb e => by omega), h.opens.keeps o (fun b hb e => by omega)⟩
  simp only [Value.ownBlock, Option.some.injEq] at hb'
  subst hb'
  exact hfar

theorem EM.holdLt {w : World} {eb : Nat} {X : Adz.Fx} {E : Adz.Es} {sa ha qa : Option Addr} {sc hc qc : Nat} (h : EM w eb X E sa sc ha hc qa qc) {b : Nat} (hb : w.heap.size ≤ b) : (Value.slice ha E.hold.length hc).ownBlock ≠ some b := fun e => by
  have := (World.ownsRow.lt (show w.ownsRow _ _ _ _ _ _ from h.hold) b e).2
  omega

set_option maxRecDepth 100000 in
set_option maxHeartbeats 1600000 in
/-- n, where a line is left. -/
theorem nextLineM (w : World) (eb : Nat) (X : Adz.Fx) (E : Adz.Es) (sa ha qa : Option Addr) (sc hc qc : Nat) (h : EM w eb X E sa sc ha hc qa qc) (hn : E.sp.length ≤ 400) (hm : E.hold.length ≤ 400) (hlen : (Adz.outs (Adz.told X.q E.out E.sp) E.queue).length ≤ 8000) (hq : E.queue.length ≤ 100000)
    (hk : E.line < X.lines.length) (hl : X.lines.length ≤ 4000) (hs : X.lines[E.line].size ≤ 3000) :
    Calls Tryz.prog 131 #[.pointer (some ⟨eb, 0, none⟩)] w fun e w' => (∃ v, e = .returned v) ∧ (∃ b rc, EM w' eb X { E with queue := [], out := Adz.outs (Adz.told X.q E.out E.sp) E.queue, line := E.line + 1, r8 := false, sp := Adz.runes X.lines[E.line] } (some ⟨b, 0, none⟩) rc ha hc none 0) ∧ Only (fun b => b = eb ∨ (Typ w b 5 ∧ eb ≤ b)) w w' := by
  have d1 : decide ((E.line : Int) < X.lines.length) = true := by simp; omega
  have hnx := hasNextM w eb X E sa ha qa sc hc qc h
  rw [d1] at hnx
  have hend := fun (u : World) (ou : Only (fun _ => False) w u) => endM u eb X E sa ha qa sc hc qc (h.quiet ou) hn hm hlen hq
  have hrd0 := fun (u : World) (out2 : List UInt8) (hM : EM u eb X { E with queue := [], out := out2 } sa sc ha hc none 0) => readM u eb X { E with queue := [], out := out2 } sa ha none sc hc 0 hM hk hl hs
  simp only at hrd0
  generalize Adz.outs (Adz.told X.q E.out E.sp) E.queue = out2 at *
  generalize X.lines[E.line] = ln at *
  go_enter Tryz.func131, Tryz.ntmps131
  go_wp2_with fail
  refine hnx.mono ?_
  clear hnx
  rintro e w1 ⟨rfl, o1⟩
  go_wp2_with fail
  refine (hend w1 o1).mono ?_
  clear hend
  rintro e w2 ⟨⟨v2, rfl⟩, hM2, o2⟩
  have hrd := hrd0 w2 out2 hM2
  clear hrd0
  go_wp2_with fail
  refine hrd.mono ?_
  clear hrd
  rintro e w3 ⟨b, rc, rfl, hown, hM3, o3⟩
  have hebl := hM2.ed.typ.lt
  have hbl := (hown.lt b rfl).1
  have hfar := hM2.holdLt hbl
  have hM4 := hM3.space hown hebl hfar
  have q4 := (hM3.ed.get 4 (by omega) _ rfl).1
  have f4 := (hM3.ed.get 4 (by omega) _ rfl).2
  have o12 := u8_only h.ed.typ (o1.mono (fun _ _ e => e.elim)) o2
  have o4 := o12.trans (only2 o3 (only_set w3 eb 4 (.slice (some ⟨b, 0, none⟩) (Adz.runes ln).length rc))) (fun _ e => e) (fun _ _ e => Or.inl e)
  have HM : Hid _ := hM4
  have HO : Hid _ := o4
  clear hM4 o4 hM3 hown
  go_wp2
  go_end0
  exact ⟨⟨_, rfl⟩, ⟨b, rc, HM.out⟩, HO.out⟩

set_option maxRecDepth 100000 in
set_option maxHeartbeats 1600000 in
/-- n, where no line is left. -/
theorem nextLineM_last (w : World) (eb : Nat) (X : Adz.Fx) (E : Adz.Es) (sa ha qa : Option Addr) (sc hc qc : Nat) (h : EM w eb X E sa sc ha hc qa qc) (ca : Option Addr) (n cc : Nat) (hcv : X.cv = .slice ca n cc) (hk : X.lines.length ≤ E.line) :
    Calls Tryz.prog 131 #[.pointer (some ⟨eb, 0, none⟩)] w fun e w' => (∃ v, e = .returned v) ∧ EM w' eb X { E with over := true, next := n } sa sc ha hc qa qc ∧ Only (· = eb) w w' := by
  have d1 : decide ((E.line : Int) < X.lines.length) = false := by simp; omega
  have hnx := hasNextM w eb X E sa ha qa sc hc qc h
  rw [d1] at hnx
  go_enter Tryz.func131, Tryz.ntmps131
  go_wp2_with fail
  refine hnx.mono ?_
  clear hnx
  rintro e w1 ⟨rfl, o1⟩
  go_wp2_with fail
  refine (quitM w1 eb X E sa ha qa sc hc qc (h.quiet o1) ca n cc hcv).mono ?_
  rintro e w2 ⟨⟨v2, rfl⟩, hM2, o2⟩
  go_wp2
  refine bodyPost_ret (results_none rfl _ _ _) rfl ?_
  exact ⟨⟨_, rfl⟩, hM2, o1.trans o2 (fun _ e => e.elim) (fun _ _ e => e)⟩
end Go.Proofs.YtbiobhghnldckaaGreatDoor

/- Proved: a command without an address is come to, and done: p, n. Conditions: the editor lies in memory as 'EM' says, and the commands. -/
namespace Go.Proofs.YtbiobhghnldckaaGreatDoor
open Go.RowKit
set_option linter.unusedVariables false

/-- The command's own cells, at a place of the commands' row. -/
structure CmdM (w : World) (g o : Nat) (c : Adz.Cmd) : Prop where
  what : w.cell? ⟨g, o, none⟩ = some (.int .i32 c.what)
  addrs : ∃ aa ac, w.cell? ⟨g, o + 1, none⟩ = some (.slice aa c.addrs.length ac)
  neg : w.cell? ⟨g, o + 2, none⟩ = some (.bool c.neg)
  text : w.cell? ⟨g, o + 3, none⟩ = some (.string ⟨c.text.toArray⟩)
theorem CmdM.keeps {S : Nat → Prop} {w w' : World} {g o : Nat} {c : Adz.Cmd} (h : CmdM w g o c) (u : Only S w w') (hs : ¬ S g) : CmdM w' g o c := by
  obtain ⟨aa, ac, ha⟩ := h.addrs
  exact ⟨u.keeps h.what hs, ⟨aa, ac, u.keeps ha hs⟩, u.keeps h.neg hs, u.keeps h.text hs⟩

set_option maxRecDepth 100000 in
set_option maxHeartbeats 800000 in
theorem meansM (eb g n cap at_ : Nat) (w : World) (h0 : w.cell? ⟨eb, 0, none⟩ = some (.slice (some ⟨g, 0, none⟩) n cap)) (hat : at_ < n) (hn : n ≤ 500) (aa : Option Addr) (ac : Nat) (ha : w.cell? ⟨g, at_ * 14 + 1, none⟩ = some (.slice aa 0 ac)) :
    Calls Tryz.prog 95 #[.pointer (some ⟨eb, 0, none⟩), .int .i64 at_] w fun e w' => e = .returned (.bool true) ∧ w' = w := by
  have hat1 : (at_ : Int) < n := by omega
  go_enter Tryz.func95, Tryz.ntmps95
  go_wp2
  go_ret
  exact ⟨rfl, rfl⟩

set_option maxRecDepth 100000 in
set_option maxHeartbeats 1600000 in
/-- One step to a command without an address and without a '!'. -/
theorem stepM (w : World) (eb : Nat) (X : Adz.Fx) (E : Adz.Es) (sa ha qa : Option Addr) (sc hc qc : Nat) (h : EM w eb X E sa sc ha hc qa qc) (hn : E.sp.length ≤ 400) (hm : E.hold.length ≤ 400) (g n cap : Nat) (hcv : X.cv = .slice (some ⟨g, 0, none⟩) n cap) (hnx : E.next < n) (hn5 : n ≤ 500) (hst : E.steps < 5000)
    (c : Adz.Cmd) (hC : CmdM w g (E.next * 14) c) (hg : g < eb) (hca : c.addrs = []) (hcn : c.neg = false) (Q : World → Prop)
    (hdo : ∀ u, Only (· = eb) w u → EM u eb X { E with steps := E.steps + 1, next := E.next + 1 } sa sc ha hc qa qc → Calls Tryz.prog 96 #[.pointer (some ⟨eb, 0, none⟩), .pointer (some ⟨g, E.next * 14, none⟩)] u fun e w' => (∃ v, e = .returned v) ∧ Q w') :
    Calls Tryz.prog 71 #[.pointer (some ⟨eb, 0, none⟩)] w fun e w' => (∃ v, e = .returned v) ∧ Q w' := by
  go_enter Tryz.func71, Tryz.ntmps71
  go_wp2_with fail
  refine (checkSpace_ok eb w _ _ h.ed rfl sa ha E.sp.length E.hold.length sc hc rfl rfl hn hm).mono ?_
  rintro e w1 ⟨⟨v1, rfl⟩, o1⟩
  have hM1 := h.quiet o1
  go_wp2_with fail
  refine (countStep_ok eb w1 _ _ hM1.ed rfl E.steps rfl hst).mono ?_
  rintro e w2 ⟨⟨v2, rfl⟩, hE2, o2⟩
  have hM2 : EM w2 eb X { E with steps := E.steps + 1 } sa sc ha hc qa qc := hM1.cells o2 hE2 rfl rfl rfl
  have c15 := (hM2.ed.get 15 (by omega) _ rfl).1
  have q9 := (hM2.ed.get 9 (by omega) _ rfl).1
  have f9 := (hM2.ed.get 9 (by omega) _ rfl).2
  have c0 := (hM2.ed.get 0 (by omega) _ rfl).1
  rw [hcv] at c0
  have hE3 := hM2.ed.set 9 (by omega) (.int .i64 ((E.next : Int) + 1))
  have hw9 : IntKind.i64.wrap ((E.next : Int) + 1) = (E.next : Int) + 1 := by rw [IntKind.wrap_i64]; omega
  have hnx1 : (E.next : Int) < n := by omega
  have o3 := only_set w2 eb 9 (.int .i64 ((E.next : Int) + 1))
  have hM3 : EM (w2.setCell ⟨eb, 9, none⟩ (.int .i64 ((E.next : Int) + 1))) eb X { E with steps := E.steps + 1, next := E.next + 1 } sa sc ha hc qa qc := hM2.cells o3 hE3 rfl rfl rfl
  have o13 : Only (· = eb) w (w2.setCell ⟨eb, 9, none⟩ (.int .i64 ((E.next : Int) + 1))) := o1.trans (only2 o2 o3) (fun _ e => e.elim) (fun _ _ e => e)
  have hC3 := hC.keeps o13 (by omega)
  clear hE2 hE3 hC
  go_wp2_with fail
  refine (goesOn_calls eb _ 0 c15).mono ?_
  rintro e w3 ⟨rfl, rfl⟩
  go_wp2_with fail
  generalize w3.setCell ⟨eb, 9, none⟩ (.int .i64 ((E.next : Int) + 1)) = u at *
  obtain ⟨aa, ac, haa⟩ := hC3.addrs
  rw [hca] at haa
  have cu0 := (hM3.ed.get 0 (by omega) _ rfl).1
  rw [hcv] at cu0
  have hmm : ∀ k, Calls Tryz.prog 95 #[.pointer (some ⟨eb, 0, none⟩), .int .i64 E.next] (u.drewN k) fun e w' => e = .returned (.bool true) ∧ w' = u.drewN k := fun k => meansM eb g n cap E.next (u.drewN k) cu0 hnx hn5 aa ac haa
  have hn2 := hC3.neg
  rw [hcn] at hn2
  go_quiet ((go_at_call 95; exact (hmm _).mono (fun e w1 ⟨he, hw1⟩ => ⟨he, _, hw1⟩)))
  have oq : Only (fun _ => False) u (u.drewN nq) := (Only.refl _ u).drewN nq
  have hcall := hdo (u.drewN nq) (o13.trans oq (fun _ e => e) (fun _ _ e => e.elim)) (hM3.quiet oq)
  generalize u.drewN nq = u4 at *
  clear hmm cu0 haa hn2 c0 q9 f9 c15 hdo
  go_wp2_with fail
  refine hcall.mono ?_
  rintro e w5 ⟨⟨v5, rfl⟩, hQ⟩
  go_wp2
  go_end0
  exact ⟨⟨_, rfl⟩, hQ⟩

set_option maxRecDepth 100000 in
set_option maxHeartbeats 1600000 in
theorem do_p (w : World) (eb : Nat) (X : Adz.Fx) (E : Adz.Es) (sa ha qa : Option Addr) (sc hc qc : Nat) (h : EM w eb X E sa sc ha hc qa qc) (g o : Nat) (hC : w.cell? ⟨g, o, none⟩ = some (.int .i32 112)) (hlen : (Adz.told false E.out E.sp).length ≤ 8000) :
    Calls Tryz.prog 96 #[.pointer (some ⟨eb, 0, none⟩), .pointer (some ⟨g, o, none⟩)] w fun e w' => (∃ v, e = .returned v) ∧ EM w' eb X { E with out := Adz.told false E.out E.sp } sa sc ha hc qa qc ∧ Only (fun b => b = eb ∨ (Typ w b 5 ∧ eb ≤ b)) w w' := by
  have hlen' : ((E.out ++ (runesBytes E.sp).data.toList) ++ [(10 : UInt8)]).length ≤ 8000 := hlen
  have hb2 : E.out.length + (runesBytes E.sp).size + 1 ≤ 8000 := by
    simp only [List.length_append, List.length_singleton, Array.length_toList] at hlen'
    have : (runesBytes E.sp).size = (runesBytes E.sp).data.size := rfl
    omega
  have hcv := run_string_runes w sa sc E.sp (Sl.of_row h.sp).1
  have hE' : Adz.told false E.out E.sp = (E.out ++ (runesBytes E.sp).data.toList) ++ [10] := rfl
  rw [hE']
  clear hE' hlen hlen'
  generalize runesBytes E.sp = tx at *
  have c4 := (h.ed.get 4 (by omega) _ rfl).1
  go_enter Tryz.func96, Tryz.ntmps96
  go_wp2_with fail
  refine (print_ok eb w _ _ h.ed rfl tx hb2).mono ?_
  rintro e w2 ⟨⟨v2, rfl⟩, hE2, o2⟩
  have hM2 : EM w2 eb X { E with out := (E.out ++ tx.data.toList) ++ [10] } sa sc ha hc qa qc := h.turned o2 hE2 rfl rfl rfl
  go_wp2
  go_end0
  exact ⟨⟨_, rfl⟩, hM2, o2⟩

set_option maxRecDepth 100000 in
set_option maxHeartbeats 1600000 in
theorem do_call {w : World} {eb g o : Nat} (hC : w.cell? ⟨g, o, none⟩ = some (.int .i32 110)) (Q : World → Prop) (hnl : Calls Tryz.prog 131 #[.pointer (some ⟨eb, 0, none⟩)] w fun e w' => (∃ v, e = .returned v) ∧ Q w') :
    Calls Tryz.prog 96 #[.pointer (some ⟨eb, 0, none⟩), .pointer (some ⟨g, o, none⟩)] w fun e w' => (∃ v, e = .returned v) ∧ Q w' := by
  go_enter Tryz.func96, Tryz.ntmps96
  go_wp2_with fail
  refine hnl.mono ?_
  rintro e w2 ⟨⟨v2, rfl⟩, hQ⟩
  go_wp2
  go_end0
  exact ⟨⟨_, rfl⟩, hQ⟩
end Go.Proofs.YtbiobhghnldckaaGreatDoor

/- Proved: one cycle of the editor, by its steps. Conditions: the editor lies in memory as 'EM' says; contracts of the steps. -/
namespace Go.Proofs.YtbiobhghnldckaaGreatDoor
open Go.RowKit
set_option linter.unusedVariables false

/-- The editor lies in memory, wherever its rows are. -/
def EMx (w : World) (eb : Nat) (X : Adz.Fx) (E : Adz.Es) : Prop := ∃ sa sc ha hc qa qc, EM w eb X E sa sc ha hc qa qc
/-- A step leads from a state to another, and turns nothing of what was there ahead of the editor. -/
def StepOk (w0 : World) (eb : Nat) (X : Adz.Fx) (n : Nat) (E E' : Adz.Es) : Prop := E.next < n ∧
  ∀ w, Only (fun _ => False) w0 w → EMx w eb X E → Calls Tryz.prog 71 #[.pointer (some ⟨eb, 0, none⟩)] w fun e w' => (∃ v, e = .returned v) ∧ EMx w' eb X E' ∧ Only (fun _ => False) w0 w'
def StepsOk (w0 : World) (eb : Nat) (X : Adz.Fx) (n : Nat) : Nat → Adz.Es → Adz.Es → Prop
  | 0, E, E' => E = E' ∧ n ≤ E.next
  | k + 1, E, E' => ∃ E1, StepOk w0 eb X n E E1 ∧ StepsOk w0 eb X n k E1 E'
/-- How a cycle ends. -/
def EndsIn (X : Adz.Fx) (E E' : Adz.Es) : Prop :=
  (E.drop = true ∧ E' = E) ∨ (E.drop = false ∧ E.sp.length ≤ 400 ∧ E.hold.length ≤ 400 ∧ (Adz.outs (Adz.told X.q E.out E.sp) E.queue).length ≤ 8000 ∧ E.queue.length ≤ 100000 ∧ E' = { E with queue := [], out := Adz.outs (Adz.told X.q E.out E.sp) E.queue })

theorem only_new {w0 w w' : World} {eb : Nat} {S : Nat → Prop} (h : Only (fun _ => False) w0 w) (o : Only S w w') (hb : w0.heap.size ≤ eb) (hs : ∀ b, S b → eb ≤ b) : Only (fun _ => False) w0 w' :=
  h.trans o (fun _ e => e) (fun b hlt e => by have := hs b e; omega)

set_option maxRecDepth 100000 in
set_option maxHeartbeats 3200000 in
theorem cycleM (w0 w : World) (hO : Only (fun _ => False) w0 w) (eb : Nat) (hEb : w0.heap.size ≤ eb) (X : Adz.Fx) (E : Adz.Es) (sa ha qa : Option Addr) (sc hc qc : Nat) (h : EM w eb X E sa sc ha hc qa qc) (hk : E.line < X.lines.length) (hl : X.lines.length ≤ 4000) (hs : X.lines[E.line].size ≤ 3000)
    (ca : Option Addr) (n cc : Nat) (hcv : X.cv = .slice ca n cc) (hn5 : n ≤ 500) (k : Nat) (E2 E3 : Adz.Es) (hst : StepsOk w0 eb X n k { E with line := E.line + 1, r8 := false, sp := Adz.runes X.lines[E.line], next := 0, drop := false } E2) (hend : EndsIn X E2 E3) :
    Calls Tryz.prog 46 #[.pointer (some ⟨eb, 0, none⟩)] w fun e w' => (∃ v, e = .returned v) ∧ EMx w' eb X E3 ∧ Only (fun _ => False) w0 w' := by
  have hrd := readM w eb X E sa ha qa sc hc qc h hk hl hs
  generalize X.lines[E.line] = ln at *
  have HST : Hid _ := hst
  have HEND : Hid _ := hend
  clear hst hend
  go_enter Tryz.func46, Tryz.ntmps46
  go_wp2_with fail
  refine hrd.mono ?_
  clear hrd
  rintro e w1 ⟨b, rc, rfl, hown, hM1, o1⟩
  have hebl := h.ed.typ.lt
  have hbl := (hown.lt b rfl).1
  have hfar := h.holdLt hbl
  have hM2 := hM1.space hown hebl hfar
  have q4 := (hM1.ed.get 4 (by omega) _ rfl).1
  have f4 := (hM1.ed.get 4 (by omega) _ rfl).2
  have q9 := (hM2.ed.get 9 (by omega) _ rfl).1
  have f9 := (hM2.ed.get 9 (by omega) _ rfl).2
  have hE3 := hM2.ed.set 9 (by omega) (.int .i64 0)
  have q10 := (hE3.get 10 (by omega) _ rfl).1
  have f10 := (hE3.get 10 (by omega) _ rfl).2
  have hE4 := hE3.set 10 (by omega) (.bool false)
  have os2 := only_set w1 eb 4 (.slice (some ⟨b, 0, none⟩) (Adz.runes ln).length rc)
  have os3 := only_set (w1.setCell ⟨eb, 4, none⟩ (.slice (some ⟨b, 0, none⟩) (Adz.runes ln).length rc)) eb 9 (.int .i64 0)
  have os4 := only_set ((w1.setCell ⟨eb, 4, none⟩ (.slice (some ⟨b, 0, none⟩) (Adz.runes ln).length rc)).setCell ⟨eb, 9, none⟩ (.int .i64 0)) eb 10 (.bool false)
  have hM4 : EM (((w1.setCell ⟨eb, 4, none⟩ (.slice (some ⟨b, 0, none⟩) (Adz.runes ln).length rc)).setCell ⟨eb, 9, none⟩ (.int .i64 0)).setCell ⟨eb, 10, none⟩ (.bool false)) eb X { E with line := E.line + 1, r8 := false, sp := Adz.runes ln, next := 0, drop := false } (some ⟨b, 0, none⟩) rc ha hc qa qc := hM2.cells (only2 os3 os4) hE4 rfl rfl rfl
  have o4 : Only (· = eb) w _ := only2 (only2 (only2 o1 os2) os3) os4
  have oo4 := only_new hO o4 hEb (fun b e => by omega)
  have HX4 : Hid (EMx (((w1.setCell ⟨eb, 4, none⟩ (.slice (some ⟨b, 0, none⟩) (Adz.runes ln).length rc)).setCell ⟨eb, 9, none⟩ (.int .i64 0)).setCell ⟨eb, 10, none⟩ (.bool false)) eb X { E with line := E.line + 1, r8 := false, sp := Adz.runes ln, next := 0, drop := false }) := ⟨_, _, _, _, _, _, hM4⟩
  clear hM4 hE4 hE3 hM1 hM2 hown os2 os3 os4 o4
  go_wp2_with fail
  generalize ((w1.setCell ⟨eb, 4, none⟩ (.slice (some ⟨b, 0, none⟩) (Adz.runes ln).length rc)).setCell ⟨eb, 9, none⟩ (.int .i64 0)).setCell ⟨eb, 10, none⟩ (.bool false) = w4 at *
  go_loopg [] k (fun j wr => ∃ Ej, Hid (StepsOk w0 eb X n j Ej E2) ∧ Hid (EMx wr eb X Ej) ∧ Hid (Only (fun _ => False) w0 wr))
  case atStart => exact ⟨_, HST, HX4, oo4⟩
  case round =>
    clear HST HX4 oo4 q4 f4 q9 f9 q10 f10 o1 hfar hbl hebl
    obtain ⟨Ej, hS, hX, hOj⟩ := hrel
    obtain ⟨sa', sc', ha', hc', qa', qc', hM⟩ := hX.out
    have d15 := (hM.ed.get 15 (by omega) _ rfl).1
    have d9 := (hM.ed.get 9 (by omega) _ rfl).1
    have d0 := (hM.ed.get 0 (by omega) _ rfl).1
    rw [hcv] at d0
    have hg : ∀ k, Calls Tryz.prog 44 #[.pointer (some ⟨eb, 0, none⟩)] (wr.drewN k) fun e w' => e = .returned (.bool true) ∧ w' = wr.drewN k := fun k => goesOn_calls eb (wr.drewN k) 0 d15
    cases gk with
    | succ gk =>
      obtain ⟨E1, ⟨hlt, hstep⟩, hrest⟩ := hS.out
      have HR : Hid (StepsOk w0 eb X n gk E1 E2) := hrest
      have hlt1 : (Ej.next : Int) < n := by omega
      clear hrest hS
      go_wp2_with fail
      go_quiet ((go_at_call 44; exact (hg _).mono (fun e w1 ⟨he, hw1⟩ => ⟨he, _, hw1⟩)))
      have oq : Only (fun _ => False) wr (wr.drewN nq) := (Only.refl _ wr).drewN nq
      have hcall := hstep (wr.drewN nq) (hOj.out.trans oq (fun _ e => e) (fun _ _ e => e)) ⟨_, _, _, _, _, _, hM.quiet oq⟩
      generalize wr.drewN nq = u at *
      clear d15 d9 d0 hg oq hstep hM hX hOj
      go_wp2_with fail
      refine hcall.mono ?_
      rintro e w5 ⟨⟨v5, rfl⟩, r1, r2⟩
      go_wp2
      go_roundg gk
      case measure => omega
      case rel => exact ⟨E1, HR, r1, r2⟩
    | zero =>
      obtain ⟨rfl, hge⟩ := hS.out
      have hlt1 : ¬ (Ej.next : Int) < n := by omega
      have hlt2 : decide ((Ej.next : Int) < n) = false := by simp; omega
      clear hS
      have d10 := (hM.ed.get 10 (by omega) _ rfl).1
      go_wp2_with fail
      go_quiet ((go_at_call 44; exact (hg _).mono (fun e w1 ⟨he, hw1⟩ => ⟨he, _, hw1⟩)))
      have oq : Only (fun _ => False) wr (wr.drewN nq) := (Only.refl _ wr).drewN nq
      have hMq := hM.quiet oq
      have hOq := hOj.out.trans oq (fun _ e => e) (fun _ _ e => e)
      generalize wr.drewN nq = u at *
      clear d15 d9 d0 d10 hg oq hM hX hOj
      have d15 := (hMq.ed.get 15 (by omega) _ rfl).1
      have d10 := (hMq.ed.get 10 (by omega) _ rfl).1
      rcases HEND.out with ⟨hd, rfl⟩ | ⟨hd, g1, g2, g3, g4, rfl⟩
      · rw [hd] at d10
        go_wp2_with fail
        refine (goesOn_calls eb _ 0 d15).mono ?_
        rintro e w6 ⟨rfl, rfl⟩
        go_wp2
        go_end0
        exact ⟨⟨_, rfl⟩, ⟨_, _, _, _, _, _, hMq⟩, hOq⟩
      · rw [hd] at d10
        have hen := endM u eb X Ej sa' ha' qa' sc' hc' qc' hMq g1 g2 g3 g4
        go_wp2_with fail
        refine (goesOn_calls eb _ 0 d15).mono ?_
        rintro e w6 ⟨rfl, rfl⟩
        go_wp2_with fail
        refine hen.mono ?_
        rintro e w7 ⟨⟨v7, rfl⟩, hM7, o7⟩
        go_wp2
        go_end0
        exact ⟨⟨_, rfl⟩, ⟨_, _, _, _, _, _, hM7⟩, only_new hOq o7 hEb (fun b e => by rcases e with e | e <;> omega)⟩
end Go.Proofs.YtbiobhghnldckaaGreatDoor
