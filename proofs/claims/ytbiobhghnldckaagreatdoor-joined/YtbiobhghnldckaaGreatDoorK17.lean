/- Proved: what the runes and places of a script of ASCII and one other rune are; one turn of the reader's loop at a command. No condition but those told. -/
import Derived.Test.YtbiobhghnldckaaGreatDoorK15
import Derived.Test.YtbiobhghnldckaaGreatDoorK10
import Derived.Test.YtbiobhghnldckaaGreatDoorK13
import Derived.Test.YtbiobhghnldckaaGreatDoorK16
namespace Go.Proofs.YtbiobhghnldckaaGreatDoor
open Go.RowKit
set_option linter.unusedVariables false

/-- Where each rune of a text begins, and the text's length. -/
def plc (L : List Int) : List Int := (List.range (L.length + 1)).map fun k => ((encL (L.take k)).length : Int)
theorem plc_at (L : List Int) (k : Nat) (hk : k ≤ L.length) : Adz.place (plc L) k = ((encL (L.take k)).length : Int) := by
  simp [Adz.place, plc, List.getElem?_range (show k < L.length + 1 by omega)]
theorem dec_tx {L : List Int} (h : ∀ r ∈ L, Okr r) (hl : L.length ≤ 250) : Dec (tx L) L (plc L) := by
  have hsz : (tx L).size = (encL L).length := tx_size L
  have hle := (encL_len L).2
  have hpk : ∀ k (hk : k < L.length), Adz.peek L k = L[k] := fun k hk => by simp [Adz.peek, List.getElem?_eq_getElem hk]
  refine ⟨by simp [plc], by rw [plc_at L 0 (by omega)]; simp [encL], by rw [plc_at L _ (Nat.le_refl _), List.take_length, hsz], fun k hk => ?_, by omega, by omega, fun k hk => ?_⟩
  · have e1 : L.take (k + 1) = L.take k ++ [L[k]] := (List.take_append_getElem hk).symm
    have e2 : L = L.take k ++ (L[k] :: L.drop (k + 1)) := by rw [List.getElem_cons_drop, List.take_append_drop]
    have e3 : (tx L).data.toList = encL (L.take k) ++ (encR L[k] ++ encL (L.drop (k + 1))) := by
      rw [tx_list]
      conv => lhs; rw [e2]
      rw [encL_append, encL_cons]
    have hd := decode_ok (tx L) _ _ L[k] (h _ (List.getElem_mem hk)) e3
    have h1 := (encR_len L[k]).1
    have h4 := congrArg List.length e3
    rw [tx_list, List.length_append, List.length_append] at h4
    refine ⟨(encL (L.take k)).length, (encL (L.take (k + 1))).length, plc_at L k (by omega), plc_at L (k + 1) (by omega), by rw [hsz]; omega, ?_, ?_⟩
    · rw [hd, hpk k hk]
      have := h _ (List.getElem_mem hk)
      rcases this with e | e
      · simp; omega
      · simp [e]
    · rw [hd, e1, encL_append, List.length_append]
      simp [encL]
  · rw [hpk k hk]
    have := h _ (List.getElem_mem hk)
    refine ⟨?_, ?_, ?_, ?_⟩
    · rcases this with e | e <;> omega
    · rcases this with e | e <;> omega
    · rcases this with e | e <;> omega
    · unfold Lib.validRune
      rcases this with e | e
      · simp; omega
      · simp [e]

namespace Adz
theorem peek_at (A B : List Int) (r : Int) : peek (A ++ r :: B) A.length = r := by simp [peek]
theorem peek_end' (A : List Int) : peek A A.length = -1 := by simp [peek]
theorem drop_at (A B : List Int) : (A ++ B).drop A.length = B := by simp
theorem line_at (A l B : List Int) (h : (10 : Int) ∉ l) : lineOf (A ++ (l ++ 10 :: B)) A.length = l := by
  unfold lineOf
  rw [drop_at, List.takeWhile_append_of_pos (fun r hr => by
    have : r ≠ 10 := fun e => h (e ▸ hr)
    simpa using this)]
  simp
theorem line_all (A l : List Int) (h : (10 : Int) ∉ l) : lineOf (A ++ l) A.length = l := by
  unfold lineOf
  rw [drop_at]
  have := List.takeWhile_append_of_pos (p := fun r : Int => r != 10) (l₁ := l) (l₂ := []) (fun r hr => by
    have : r ≠ 10 := fun e => h (e ▸ hr)
    simpa using this)
  simpa using this
theorem blanks_none {L : List Int} {i : Nat} (h : isBlank (peek L i) = false) : blanks L i = i := by
  unfold blanks
  by_cases hi : i < L.length
  · have e : L.drop i = L[i] :: L.drop (i + 1) := List.drop_eq_getElem_cons hi
    have hp : peek L i = L[i] := by simp [peek, List.getElem?_eq_getElem hi]
    rw [hp] at h
    rw [e, List.takeWhile_cons, if_neg (by rw [h]; simp)]
    rfl
  · rw [List.drop_eq_nil_of_le (by omega)]
    rfl
theorem blanks_one {L : List Int} {i : Nat} (hi : i < L.length) (h : isBlank (peek L i) = true) : blanks L i = blanks L (i + 1) := by
  unfold blanks
  have e : L.drop i = L[i] :: L.drop (i + 1) := List.drop_eq_getElem_cons hi
  have hp : peek L i = L[i] := by simp [peek, List.getElem?_eq_getElem hi]
  rw [hp] at h
  rw [e, List.takeWhile_cons, if_pos h]
  simp; omega
/-- A command ends where a line's end, a ';' or the script's end stands. -/
theorem tail_at {L pl : List Int} {i : Nat} (h : peek L i = 10 ∨ peek L i = 59 ∨ peek L i = -1) : tail L pl i = .ok i := by
  have hb : isBlank (peek L i) = false := by
    rcases h with e | e | e <;> rw [e] <;> decide
  unfold tail
  simp only [blanks_none hb]
  rw [if_pos]
  rcases h with e | e | e <;> rw [e] <;> decide
end Adz

/-- A turn of the loop at a command. -/
theorem gapOk_of (g : CG) (pp : Nat) (s : Adz.Ps) (r : Int) (hr : Adz.peek g.L s.i = r) (hb : Adz.isBlank r = false) (h10 : r ≠ 10) (h59 : r ≠ 59) (h125 : r ≠ 125) (hm : r ≠ -1) (c0 : Adz.Cmd) (i1 : Nat) (hH : HeadOk g pp s.i c0 i1) (h1i : s.i ≤ i1) (x : Int) (hx : Adz.peek g.L i1 = x) (hx1 : x ≠ -1) (k : Int) (hk : Adz.behindKind x = some k) (hk3 : k ≠ 3) (hk1 : k ≠ 1) (h40 : s.cmds.length ≠ 40)
    (c : Adz.Cmd) (i3 i4 : Nat) (hB : BehOk g pp s.cmds.length { c0 with what := x } (i1 + 1) c i3) (hi3 : i1 + 1 ≤ i3) (ht : Adz.tail g.L g.pl i3 = .ok i4) (hw : c.what ≠ 123) : GapOk g pp s { i := i4, cmds := s.cmds ++ [c], opens := s.opens, labs := s.labs } := by
  refine gap_cmd g pp s _ r hr hb h10 h59 h125 hm (fun base w hP => ?_)
  have hlt : i1 < g.L.length := Adz.lt_of_peek (by rw [hx]; exact hx1)
  exact command_ok hP c0 i1 hH k (by rw [hx]; exact hk) hk3 hk1 h40 hlt h1i c i3 i4 (by rw [hx]; exact hB) hi3 ht hw
/-- .. at a command without an address. -/
theorem gapOk_plain (g : CG) (pp : Nat) (s : Adz.Ps) (r : Int) (hr : Adz.peek g.L s.i = r) (hgood : Adz.isBlank r = false ∧ r ≠ 10 ∧ r ≠ 59 ∧ r ≠ 125 ∧ r ≠ -1 ∧ r ≠ 33 ∧ Adz.isDigit r = false ∧ r ≠ 36 ∧ r ≠ 47) (k : Int) (hk : Adz.behindKind r = some k) (hk3 : k ≠ 3) (hk1 : k ≠ 1) (h40 : s.cmds.length ≠ 40)
    (c : Adz.Cmd) (i3 i4 : Nat) (hB : BehOk g pp s.cmds.length { what := r } (s.i + 1) c i3) (hi3 : s.i + 1 ≤ i3) (ht : Adz.tail g.L g.pl i3 = .ok i4) (hw : c.what ≠ 123) : GapOk g pp s { i := i4, cmds := s.cmds ++ [c], opens := s.opens, labs := s.labs } := by
  obtain ⟨g1, g2, g3, g4, g5, g6, g7, g8, g9⟩ := hgood
  have hat : Adz.atAddress g.L s.i = false := by
    unfold Adz.atAddress
    rw [hr, g7]
    simp [g8, g9]
  exact gapOk_of g pp s r hr g1 g2 g3 g4 g5 {} s.i (headOk_plain g pp s.i hat (by rw [hr]; exact g6)) (Nat.le_refl _) r hr g5 k hk hk3 hk1 h40 c i3 i4 hB hi3 ht hw
end Go.Proofs.YtbiobhghnldckaaGreatDoor

/- Proved: what adzekeep.edit makes of the scripts of adzekeep.Queued, over any short lines. Conditions: the text is taken for these lines ('TextOk'). -/
namespace Go.Proofs.YtbiobhghnldckaaGreatDoor
open Go.RowKit
set_option linter.unusedVariables false

namespace Adz
theorem peekAt {L A B : List Int} {r : Int} {i : Nat} (h : L = A ++ r :: B) (hi : i = A.length) : peek L i = r := by rw [h, hi]; exact peek_at A B r
theorem peekEnd {L : List Int} {i : Nat} (hi : i = L.length) : peek L i = -1 := by rw [hi]; exact peek_end' L
theorem lineAt {L A B l : List Int} {i : Nat} (h : L = A ++ (l ++ 10 :: B)) (hi : i = A.length) (h10 : (10 : Int) ∉ l) : lineOf L i = l := by rw [h, hi]; exact line_at A l B h10
theorem lineEnd {L A l : List Int} {i : Nat} (h : L = A ++ l) (hi : i = A.length) (h10 : (10 : Int) ∉ l) : lineOf L i = l := by rw [h, hi]; exact line_all A l h10
theorem enc_ok {l : List Int} (h : ∀ r ∈ l, Okr r) : enc l = encL l := by
  induction l with
  | nil => rfl
  | cons r l ih =>
    have h1 := encode_ok (h r (by simp))
    have h2 := ih (fun x hx => h x (List.mem_cons_of_mem _ hx))
    rw [encL_cons, ← h2, ← h1]
    rfl
theorem enc_tx {l : List Int} (h : ∀ r ∈ l, Okr r) : (⟨(enc l).toArray⟩ : ByteArray) = tx l := by rw [enc_ok h]; rfl
end Adz

/-- A turn of the loop at a text. -/
theorem gapOk_text (g : CG) (pp : Nat) (hcap : g.L.length ≤ g.rcap) (s : Adz.Ps) (c0 : Adz.Cmd) (i1 : Nat) (hH : HeadOk g pp s.i c0 i1) (h1i : s.i ≤ i1) (r0 : Int) (hr0 : Adz.peek g.L s.i = r0) (hgood : Adz.isBlank r0 = false ∧ r0 ≠ 10 ∧ r0 ≠ 59 ∧ r0 ≠ 125 ∧ r0 ≠ -1) (r : Int) (hr : Adz.peek g.L i1 = r) (hr3 : r = 97 ∨ r = 99 ∨ r = 105) (hb : Adz.peek g.L (i1 + 1) = 32) (h40 : s.cmds.length ≠ 40) (l : List Int) (hl : Adz.lineOf g.L (i1 + 2) = l) (he : Adz.peek g.L (i1 + 2 + l.length) = 10 ∨ Adz.peek g.L (i1 + 2 + l.length) = -1) :
    GapOk g pp s { i := i1 + 2 + l.length, cmds := s.cmds ++ [{ c0 with what := r, text := Adz.enc l }], opens := s.opens, labs := s.labs } := by
  obtain ⟨g1, g2, g3, g4, g5⟩ := hgood
  have hk : Adz.behindKind r = some 2 := by rcases hr3 with e | e | e <;> rw [e] <;> decide
  refine gapOk_of g pp s r0 hr0 g1 g2 g3 g4 g5 c0 i1 hH h1i r hr (by omega) 2 hk (by decide) (by decide) h40 _ (i1 + 2 + l.length) _ (behOk_text g pp _ _ _ hcap hk _ _ ?_) (by omega) (Adz.tail_at (by rcases he with e | e; exact Or.inl e; exact Or.inr (Or.inr e))) (by show r ≠ 123; omega)
  unfold Adz.textOf
  simp only [hb]
  rw [if_neg (by decide), if_neg (by decide)]
  rw [hl]

theorem headPlain (g : CG) (pp i : Nat) (r : Int) (hr : Adz.peek g.L i = r) (h : r ≠ 33 ∧ Adz.isDigit r = false ∧ r ≠ 36 ∧ r ≠ 47) : HeadOk g pp i {} i := by
  obtain ⟨g6, g7, g8, g9⟩ := h
  refine headOk_plain g pp i ?_ (by rw [hr]; exact g6)
  unfold Adz.atAddress
  rw [hr, g7]
  simp [g8, g9]

/-- The first script: a, i, a. -/
def queL (l : List Int) : List Int := [97, 32] ++ (l ++ ([10, 105, 32] ++ (l ++ ([10, 97, 32] ++ (l ++ [120])))))
def queC (l : List Int) : List Adz.Cmd := [{ what := 97, text := Adz.enc l }, { what := 105, text := Adz.enc l }, { what := 97, text := Adz.enc (l ++ [120]) }]
theorem queL_len (l : List Int) : (queL l).length = 3 * l.length + 9 := by simp [queL]; omega
theorem walks_que (l : List Int) (h10 : (10 : Int) ∉ l) : Walks (queL l) (plc (queL l)) 5 ⟨0, [], [], []⟩ ⟨(queL l).length, queC l, [], []⟩ := by
  have hx : (10 : Int) ∉ l ++ [120] := by simp [h10]
  refine ⟨⟨2 + l.length, [{ what := 97, text := Adz.enc l }], [], []⟩, fun g pp hL hpl hcap => ?_, ⟨3 + l.length, [{ what := 97, text := Adz.enc l }], [], []⟩, fun g pp hL hpl hcap => ?_, ⟨5 + 2 * l.length, [{ what := 97, text := Adz.enc l }, { what := 105, text := Adz.enc l }], [], []⟩, fun g pp hL hpl hcap => ?_, ⟨6 + 2 * l.length, [{ what := 97, text := Adz.enc l }, { what := 105, text := Adz.enc l }], [], []⟩, fun g pp hL hpl hcap => ?_, ⟨(queL l).length, queC l, [], []⟩, fun g pp hL hpl hcap => ?_, rfl⟩
  · have hp : Adz.peek g.L 0 = 97 := by rw [hL]; rfl
    have := gapOk_text g pp hcap ⟨0, [], [], []⟩ {} 0 (headPlain g pp 0 97 hp (by decide)) (Nat.le_refl _) 97 hp (by decide) 97 hp (by decide) (by rw [hL]; rfl) (by simp) l (Adz.lineAt (A := [97, 32]) (hL.trans rfl) rfl h10) (Or.inl (Adz.peekAt (A := [97, 32] ++ l) (by rw [hL]; simp [queL] <;> rfl) (by simp; omega)))
    simpa using this
  · have := gap_skip g pp ⟨2 + l.length, [{ what := 97, text := Adz.enc l }], [], []⟩ 10 (Adz.peekAt (A := [97, 32] ++ l) (by rw [hL]; simp [queL] <;> rfl) (by simp; omega)) (Or.inr ⟨by decide, by decide⟩)
    have e : 2 + l.length + 1 = 3 + l.length := by omega
    rw [e] at this
    exact this
  · have hp : Adz.peek g.L (3 + l.length) = 105 := Adz.peekAt (A := [97, 32] ++ l ++ [10]) (by rw [hL]; simp [queL] <;> rfl) (by simp; omega)
    have := gapOk_text g pp hcap ⟨3 + l.length, [{ what := 97, text := Adz.enc l }], [], []⟩ {} (3 + l.length) (headPlain g pp _ 105 hp (by decide)) (Nat.le_refl _) 105 hp (by decide) 105 hp (by decide) (Adz.peekAt (A := [97, 32] ++ l ++ [10, 105]) (by rw [hL]; simp [queL] <;> rfl) (by simp; omega)) (by simp) l (Adz.lineAt (A := [97, 32] ++ l ++ [10, 105, 32]) (by rw [hL]; simp [queL] <;> rfl) (by simp; omega) h10) (Or.inl (Adz.peekAt (A := [97, 32] ++ l ++ [10, 105, 32] ++ l) (by rw [hL]; simp [queL] <;> rfl) (by simp; omega)))
    have e : 3 + l.length + 2 + l.length = 5 + 2 * l.length := by omega
    rw [e] at this
    simpa using this
  · have := gap_skip g pp ⟨5 + 2 * l.length, [{ what := 97, text := Adz.enc l }, { what := 105, text := Adz.enc l }], [], []⟩ 10 (Adz.peekAt (A := [97, 32] ++ l ++ [10, 105, 32] ++ l) (by rw [hL]; simp [queL] <;> rfl) (by simp; omega)) (Or.inr ⟨by decide, by decide⟩)
    have e : 5 + 2 * l.length + 1 = 6 + 2 * l.length := by omega
    rw [e] at this
    exact this
  · have hp : Adz.peek g.L (6 + 2 * l.length) = 97 := Adz.peekAt (A := [97, 32] ++ l ++ [10, 105, 32] ++ l ++ [10]) (by rw [hL]; simp [queL] <;> rfl) (by simp; omega)
    have := gapOk_text g pp hcap ⟨6 + 2 * l.length, [{ what := 97, text := Adz.enc l }, { what := 105, text := Adz.enc l }], [], []⟩ {} (6 + 2 * l.length) (headPlain g pp _ 97 hp (by decide)) (Nat.le_refl _) 97 hp (by decide) 97 hp (by decide) (Adz.peekAt (A := [97, 32] ++ l ++ [10, 105, 32] ++ l ++ [10, 97]) (by rw [hL]; simp [queL] <;> rfl) (by simp; omega)) (by simp) (l ++ [120]) (Adz.lineEnd (A := [97, 32] ++ l ++ [10, 105, 32] ++ l ++ [10, 97, 32]) (by rw [hL]; simp [queL] <;> rfl) (by simp; omega) hx) (Or.inr (Adz.peekEnd (by rw [hL, queL_len]; simp; omega)))
    have e : 6 + 2 * l.length + 2 + (l ++ [120]).length = (queL l).length := by rw [queL_len]; simp; omega
    rw [e] at this
    simpa [queC] using this

/-- The second script: 2c. -/
def queL2 (l : List Int) : List Int := [50, 99, 32] ++ l
def queC2 (l : List Int) : List Adz.Cmd := [{ what := 99, addrs := [⟨0, 2, ⟨[], 0⟩⟩], text := Adz.enc l }]
theorem queL2_len (l : List Int) : (queL2 l).length = l.length + 3 := by simp [queL2]
theorem walks_que2 (l : List Int) (h10 : (10 : Int) ∉ l) : Walks (queL2 l) (plc (queL2 l)) 1 ⟨0, [], [], []⟩ ⟨(queL2 l).length, queC2 l, [], []⟩ := by
  refine ⟨⟨(queL2 l).length, queC2 l, [], []⟩, fun g pp hL hpl hcap => ?_, rfl⟩
  have hp : Adz.peek g.L 0 = 50 := by rw [hL]; rfl
  have hp1 : Adz.peek g.L 1 = 99 := by rw [hL]; rfl
  have hnum : Adz.number g.L g.pl 0 = .ok (2, 1) := by rw [hL, hpl]; rfl
  have hbl : Adz.blanks g.L 1 = 1 := Adz.blanks_none (by rw [hp1]; decide)
  have hA := addrOk_num g pp 0 (by rw [hp]; decide) 2 1 hnum
  rw [hbl] at hA
  have hAs := addrsOk_one g pp 0 _ 1 hA (by rw [hp1]; decide)
  have hH := headOk_addr g pp 0 _ 1 hAs (Or.inl (by rw [hp]; decide)) (by rw [hp1]; decide)
  have := gapOk_text g pp hcap ⟨0, [], [], []⟩ _ 1 hH (Nat.zero_le _) 50 hp (by decide) 99 hp1 (by decide) (by rw [hL]; rfl) (by simp) l (Adz.lineEnd (A := [50, 99, 32]) (hL.trans rfl) rfl h10) (Or.inr (Adz.peekEnd (by rw [hL, queL2_len]; omega)))
  have e : 1 + 2 + l.length = (queL2 l).length := by rw [queL2_len]; omega
  rw [e] at this
  exact this
end Go.Proofs.YtbiobhghnldckaaGreatDoor

/- Proved: what adzekeep.edit makes of the scripts of adzekeep.Queued, over any short lines. Conditions: the text is taken for these lines ('TextOk'). -/
namespace Go.Proofs.YtbiobhghnldckaaGreatDoor
open Go.RowKit
set_option linter.unusedVariables false

theorem outs_length (ls : List ByteArray) (out : List UInt8) (n : Nat) (h : ∀ l ∈ ls, l.size ≤ n) : (Adz.outs out ls).length ≤ out.length + (n + 1) * ls.length := by
  induction ls generalizing out with
  | nil => simp [Adz.outs]
  | cons l ls ih =>
    have h1 := ih ((out ++ l.data.toList) ++ [10]) (fun x hx => h x (List.mem_cons_of_mem _ hx))
    have h2 := h l (by simp)
    have h3 : l.data.toList.length = l.size := Array.length_toList
    have h4 : (n + 1) * (l :: ls).length = (n + 1) * ls.length + (n + 1) := by rw [List.length_cons, Nat.mul_succ]
    show (Adz.outs ((out ++ l.data.toList) ++ [10]) ls).length ≤ _
    rw [h4]
    simp only [List.length_append, List.length_singleton, h3] at h1
    generalize (n + 1) * ls.length = M at *
    omega

/-- Texts behind, ahead, and behind: line by line. -/
theorem cycles_que (w0 : World) (eb : Nat) (X : Adz.Fx) (g : Nat) (t t2 : List UInt8) (hP : ProgOk w0 eb X g [{ what := 97, text := t }, { what := 105, text := t }, { what := 97, text := t2 }]) (hq : X.q = false) (hl : X.lines.length ≤ 40) (hls : ∀ l ∈ X.lines, Short l) (hsz : ∀ l ∈ X.lines, l.size ≤ 40) (ht : t.length ≤ 40) (ht2 : t2.length ≤ 40) (E0 : Adz.Es) (hE0 : E0.line = 0 ∧ E0.over = false ∧ E0.queue = [] ∧ E0.hold = [] ∧ E0.steps = 0 ∧ E0.out = []) :
    ∃ k E', CyclesOk w0 eb X k E0 E' ∧ E'.out = Adz.outs [] (X.lines.flatMap fun l => [⟨t.toArray⟩, l, ⟨t.toArray⟩, ⟨t2.toArray⟩]) := by
  have hts : ∀ (a : List UInt8), (⟨a.toArray⟩ : ByteArray).size = a.length := fun a => by simp [ByteArray.size]
  have hbound : ∀ j, j ≤ 40 → (Adz.outs [] ((X.lines.take j).flatMap fun l => [⟨t.toArray⟩, l, ⟨t.toArray⟩, ⟨t2.toArray⟩])).length ≤ 41 * (4 * j) := by
    intro j hj
    have h1 := outs_length ((X.lines.take j).flatMap fun l => [(⟨t.toArray⟩ : ByteArray), l, ⟨t.toArray⟩, ⟨t2.toArray⟩]) [] 40 (fun x hx => by
      obtain ⟨l, hl, hm⟩ := List.mem_flatMap.1 hx
      simp at hm
      rcases hm with rfl | rfl | rfl | rfl
      · rw [hts]; exact ht
      · exact hsz _ (List.mem_of_mem_take hl)
      · rw [hts]; exact ht
      · rw [hts]; exact ht2)
    have h2 : ((X.lines.take j).flatMap fun l => [(⟨t.toArray⟩ : ByteArray), l, ⟨t.toArray⟩, ⟨t2.toArray⟩]).length ≤ 4 * j := by
      have : ∀ ls : List ByteArray, (ls.flatMap fun l => [(⟨t.toArray⟩ : ByteArray), l, ⟨t.toArray⟩, ⟨t2.toArray⟩]).length = 4 * ls.length := by
        intro ls
        induction ls with
        | nil => rfl
        | cons a ls ih => rw [List.flatMap_cons, List.length_append, ih]; simp; omega
      rw [this, List.length_take]
      omega
    simp only [List.length_nil, Nat.zero_add] at h1
    exact Nat.le_trans h1 (Nat.mul_le_mul_left _ h2)
  obtain ⟨E', h1, h2⟩ := cycles_by w0 eb X X.lines.length (fun j E => E.line = j ∧ E.over = false ∧ E.queue = [] ∧ E.hold = [] ∧ E.steps = 3 * j ∧ E.out = Adz.outs [] ((X.lines.take j).flatMap fun l => [⟨t.toArray⟩, l, ⟨t.toArray⟩, ⟨t2.toArray⟩]))
    (fun j E hj ⟨e1, e2, e3, e4, e5, e6⟩ => by
      subst e1
      have hsh := hls X.lines[E.line] (List.getElem_mem hj)
      have hs40 := hsz X.lines[E.line] (List.getElem_mem hj)
      have hb := hbound (E.line + 1) (by omega)
      have hout : Adz.outs [] ((X.lines.take (E.line + 1)).flatMap fun l => [⟨t.toArray⟩, l, ⟨t.toArray⟩, ⟨t2.toArray⟩]) = Adz.outs E.out [⟨t.toArray⟩, X.lines[E.line], ⟨t.toArray⟩, ⟨t2.toArray⟩] := by
        rw [← List.take_append_getElem hj, List.flatMap_append, outs_app, e6]
        rfl
      rw [hout] at hb
      have hb1 : (Adz.outs E.out [⟨t.toArray⟩]).length ≤ 8000 := by
        have := Adz.outs_len [X.lines[E.line], (⟨t.toArray⟩ : ByteArray), ⟨t2.toArray⟩] (Adz.outs E.out [⟨t.toArray⟩])
        have e : Adz.outs (Adz.outs E.out [⟨t.toArray⟩]) [X.lines[E.line], (⟨t.toArray⟩ : ByteArray), ⟨t2.toArray⟩] = Adz.outs E.out [⟨t.toArray⟩, X.lines[E.line], ⟨t.toArray⟩, ⟨t2.toArray⟩] := rfl
        rw [e] at this
        omega
      have hend : Adz.outs (Adz.told X.q (Adz.outs E.out [⟨t.toArray⟩]) (Adz.runes X.lines[E.line])) [⟨t.toArray⟩, ⟨t2.toArray⟩] = Adz.outs E.out [⟨t.toArray⟩, X.lines[E.line], ⟨t.toArray⟩, ⟨t2.toArray⟩] := by
        rw [told_short hsh, hq]
        rfl
      have hho : E.hold.length ≤ 400 := by rw [e4]; simp
      refine ⟨{ E with line := E.line + 1, r8 := false, sp := Adz.runes X.lines[E.line], next := 3, drop := false, steps := E.steps + 3, queue := [], out := Adz.outs E.out [⟨t.toArray⟩, X.lines[E.line], ⟨t.toArray⟩, ⟨t2.toArray⟩] }, ?_, rfl, e2, rfl, e4, by show E.steps + 3 = _; omega, by rw [hout]⟩
      refine cycleOk_prog hP E e2 hj (by omega) hsh.size 3 { E with line := E.line + 1, r8 := false, sp := Adz.runes X.lines[E.line], next := 3, drop := false, steps := E.steps + 3, queue := [⟨t.toArray⟩, ⟨t2.toArray⟩], out := Adz.outs E.out [⟨t.toArray⟩] } _ ⟨{ E with line := E.line + 1, r8 := false, sp := Adz.runes X.lines[E.line], next := 1, drop := false, steps := E.steps + 1, queue := [⟨t.toArray⟩] }, ?_, { E with line := E.line + 1, r8 := false, sp := Adz.runes X.lines[E.line], next := 2, drop := false, steps := E.steps + 2, queue := [⟨t.toArray⟩], out := Adz.outs E.out [⟨t.toArray⟩] }, ?_, _, ?_, rfl, Nat.le_refl _⟩ (Or.inr ⟨rfl, hsh.few, hho, ?_, by simp, ?_⟩)
      · have hat := hP.at (lineStart E X.lines[E.line]) 0 _ rfl rfl (by show E.steps < 5000; omega) hsh.few hho
        have := stepOk_do hat (by simp) (by simp) (by simp [means1]) _ (doOk_a hat rfl { lineStart E X.lines[E.line] with steps := E.steps + 1, next := 1 } (by show E.queue.length ≤ 100000; rw [e3]; simp))
        simpa [lineStart, e3] using this
      · have hat := hP.at { E with line := E.line + 1, r8 := false, sp := Adz.runes X.lines[E.line], next := 1, drop := false, steps := E.steps + 1, queue := [⟨t.toArray⟩] } 1 _ rfl rfl (by show E.steps + 1 < 5000; omega) hsh.few hho
        exact stepOk_do hat (by simp) (by simp) (by simp [means1]) _ (doOk_i hat rfl { E with line := E.line + 1, r8 := false, sp := Adz.runes X.lines[E.line], next := 2, drop := false, steps := E.steps + 2, queue := [⟨t.toArray⟩] } hb1)
      · have hat := hP.at { E with line := E.line + 1, r8 := false, sp := Adz.runes X.lines[E.line], next := 2, drop := false, steps := E.steps + 2, queue := [⟨t.toArray⟩], out := Adz.outs E.out [⟨t.toArray⟩] } 2 _ rfl rfl (by show E.steps + 2 < 5000; omega) hsh.few hho
        exact stepOk_do hat (by simp) (by simp) (by simp [means1]) _ (doOk_a hat rfl { E with line := E.line + 1, r8 := false, sp := Adz.runes X.lines[E.line], next := 3, drop := false, steps := E.steps + 3, queue := [⟨t.toArray⟩], out := Adz.outs E.out [⟨t.toArray⟩] } (by simp))
      · show (Adz.outs (Adz.told X.q (Adz.outs E.out [⟨t.toArray⟩]) (Adz.runes X.lines[E.line])) [⟨t.toArray⟩, ⟨t2.toArray⟩]).length ≤ 8000
        rw [hend]; omega
      · show _ = { E with line := E.line + 1, r8 := false, sp := Adz.runes X.lines[E.line], next := 3, drop := false, steps := E.steps + 3, queue := [], out := Adz.outs (Adz.told X.q (Adz.outs E.out [⟨t.toArray⟩]) (Adz.runes X.lines[E.line])) [⟨t.toArray⟩, ⟨t2.toArray⟩] }
        rw [hend])
    (fun E ⟨e1, _⟩ => Or.inr (by omega)) X.lines.length 0 E0 (by omega) ⟨hE0.1, hE0.2.1, hE0.2.2.1, hE0.2.2.2.1, by rw [hE0.2.2.2.2.1], by rw [hE0.2.2.2.2.2]; rfl⟩
  refine ⟨_, E', h1, ?_⟩
  rw [h2.2.2.2.2.2, List.take_length]
end Go.Proofs.YtbiobhghnldckaaGreatDoor

/- Proved: what adzekeep.edit makes of the second script of adzekeep.Queued; both scripts, over any short lines. Conditions: what the library's variables hold. -/
namespace Go.Proofs.YtbiobhghnldckaaGreatDoor
open Go.RowKit
set_option linter.unusedVariables false

/-- Lines, the second of them put in another's place. -/
theorem set_snoc {α : Type} (ls : List α) (j : Nat) (hj : j < ls.length) (T : α) : (ls.take (j + 1)).set 1 T = (ls.take j).set 1 T ++ [if j = 1 then T else ls[j]] := by
  rw [← List.take_append_getElem hj, List.set_append, List.length_take, Nat.min_eq_left (by omega)]
  by_cases h1 : 1 < j
  · rw [if_pos h1, if_neg (by omega)]
  · rw [if_neg h1]
    have h2 : j = 0 ∨ j = 1 := by omega
    rcases h2 with rfl | rfl
    · rw [if_neg (by omega)]; simp
    · rw [if_pos rfl]
      have e : (ls.take 1).set 1 T = ls.take 1 := List.set_eq_of_length_le (by rw [List.length_take]; omega)
      rw [e]
      rfl

theorem cycles_que2 (w0 : World) (eb : Nat) (X : Adz.Fx) (g : Nat) (t : List UInt8) (hP : ProgOk w0 eb X g [{ what := 99, addrs := [⟨0, 2, ⟨[], 0⟩⟩], text := t }]) (hq : X.q = false) (hl : X.lines.length ≤ 40) (hls : ∀ l ∈ X.lines, Short l) (hsz : ∀ l ∈ X.lines, l.size ≤ 40) (ht : t.length ≤ 40) (E0 : Adz.Es) (hE0 : E0.line = 0 ∧ E0.over = false ∧ E0.queue = [] ∧ E0.hold = [] ∧ E0.steps = 0 ∧ E0.out = []) :
    ∃ k E', CyclesOk w0 eb X k E0 E' ∧ E'.out = Adz.outs [] (X.lines.set 1 ⟨t.toArray⟩) := by
  have hts : (⟨t.toArray⟩ : ByteArray).size = t.length := by simp [ByteArray.size]
  have hbound : ∀ j, j ≤ 40 → (Adz.outs [] ((X.lines.take j).set 1 ⟨t.toArray⟩)).length ≤ 41 * j := by
    intro j hj
    have h1 := outs_length ((X.lines.take j).set 1 ⟨t.toArray⟩) [] 40 (fun x hx => by
      rcases List.mem_or_eq_of_mem_set hx with h | h
      · exact hsz _ (List.mem_of_mem_take h)
      · rw [h, hts]; exact ht)
    rw [List.length_set, List.length_take] at h1
    simp only [List.length_nil, Nat.zero_add] at h1
    exact Nat.le_trans h1 (Nat.mul_le_mul_left _ (Nat.min_le_left _ _))
  obtain ⟨E', h1, h2⟩ := cycles_by w0 eb X X.lines.length (fun j E => E.line = j ∧ E.over = false ∧ E.queue = [] ∧ E.hold = [] ∧ E.steps = j ∧ E.out = Adz.outs [] ((X.lines.take j).set 1 ⟨t.toArray⟩))
    (fun j E hj ⟨e1, e2, e3, e4, e5, e6⟩ => by
      subst e1
      have hsh := hls X.lines[E.line] (List.getElem_mem hj)
      have hb := hbound (E.line + 1) (by omega)
      have hout : Adz.outs [] ((X.lines.take (E.line + 1)).set 1 ⟨t.toArray⟩) = Adz.outs E.out [if E.line = 1 then ⟨t.toArray⟩ else X.lines[E.line]] := by
        rw [set_snoc X.lines E.line hj, outs_app, e6]
      rw [hout] at hb
      have hho : E.hold.length ≤ 400 := by rw [e4]; simp
      have hat := hP.at (lineStart E X.lines[E.line]) 0 _ rfl rfl (by show E.steps < 5000; omega) hsh.few hho
      by_cases h1 : E.line = 1
      · rw [if_pos h1] at hb hout
        refine ⟨{ E with line := E.line + 1, r8 := false, sp := Adz.runes X.lines[E.line], next := 1, drop := true, steps := E.steps + 1, queue := [], out := Adz.outs E.out [⟨t.toArray⟩] }, ?_, rfl, e2, rfl, e4, by show E.steps + 1 = _; omega, by rw [hout]⟩
        refine cycleOk_prog hP E e2 hj (by omega) hsh.size 1 _ _ ⟨_, ?_, rfl, Nat.le_refl _⟩ (Or.inl ⟨rfl, rfl⟩)
        have := stepOk_do hat (by simp) (by simp) (by simp [means1, meant1, lineStart, h1]) _ (doOk_c hat rfl { lineStart E X.lines[E.line] with steps := E.steps + 1, next := 1 } (by show (Adz.outs (Adz.outs E.out [⟨t.toArray⟩]) E.queue).length ≤ 8000; rw [e3]; show (Adz.outs E.out [⟨t.toArray⟩]).length ≤ 8000; omega) (by show E.queue.length ≤ 100000; rw [e3]; simp))
        have e9 : Adz.outs (Adz.outs E.out [⟨t.toArray⟩]) [] = Adz.outs E.out [⟨t.toArray⟩] := rfl
        simpa [lineStart, e3, e9] using this
      · rw [if_neg h1] at hb hout
        have hend : Adz.told X.q E.out (Adz.runes X.lines[E.line]) = Adz.outs E.out [X.lines[E.line]] := by rw [told_short hsh, hq]; rfl
        refine ⟨{ E with line := E.line + 1, r8 := false, sp := Adz.runes X.lines[E.line], next := 1, drop := false, steps := E.steps + 1, queue := [], out := Adz.outs E.out [X.lines[E.line]] }, ?_, rfl, e2, rfl, e4, by show E.steps + 1 = _; omega, by rw [hout]⟩
        refine cycleOk_prog hP E e2 hj (by omega) hsh.size 1 { lineStart E X.lines[E.line] with steps := E.steps + 1, next := 1 } _ ⟨_, ?_, rfl, Nat.le_refl _⟩ (Or.inr ⟨rfl, hsh.few, hho, ?_, ?_, ?_⟩)
        · exact stepOk_not hat (by simp) (by simp) (by
            have hne : ¬ (((E.line + 1 : Nat) : Int) = 2) := by omega
            show decide (((E.line + 1 : Nat) : Int) = 2) = false
            exact decide_eq_false hne) (show (99 : Int) ≠ 123 by decide)
        · show (Adz.outs (Adz.told X.q E.out (Adz.runes X.lines[E.line])) E.queue).length ≤ 8000
          rw [hend, e3]
          show (Adz.outs E.out [X.lines[E.line]]).length ≤ 8000
          omega
        · show E.queue.length ≤ 100000
          rw [e3]; simp
        · show _ = { E with line := E.line + 1, r8 := false, sp := Adz.runes X.lines[E.line], next := 1, drop := false, steps := E.steps + 1, queue := [], out := Adz.outs (Adz.told X.q E.out (Adz.runes X.lines[E.line])) E.queue }
          rw [hend, e3]
          rfl)
    (fun E ⟨e1, _⟩ => Or.inr (by omega)) X.lines.length 0 E0 (by omega) ⟨hE0.1, hE0.2.1, hE0.2.2.1, hE0.2.2.2.1, by rw [hE0.2.2.2.2.1], by rw [hE0.2.2.2.2.2]; simp [Adz.outs]⟩
  refine ⟨_, E', h1, ?_⟩
  rw [h2.2.2.2.2.2, List.take_length]

theorem len_app {a b : List Int} {m n : Nat} (ha : a.length ≤ m) (hb : b.length ≤ n) : (a ++ b).length ≤ m + n := by rw [List.length_append]; omega
theorem txtR_bound : ∀ (ls : List (List Int)) (n : Nat), (∀ l ∈ ls, l.length ≤ n) → (txtR ls).length ≤ (n + 1) * ls.length
  | [], n, _ => by simp [txtR]
  | l :: ls, n, h => by
    have ih := txtR_bound ls n (fun x hx => h x (List.mem_cons_of_mem _ hx))
    have h1 := h l (by simp)
    have h4 : (n + 1) * (l :: ls).length = (n + 1) * ls.length + (n + 1) := by rw [List.length_cons, Nat.mul_succ]
    rw [h4, txtR_cons, List.length_append, List.length_cons]
    generalize (n + 1) * ls.length = M at *
    omega
theorem flat4_len {α : Type} (ls : List α) (f : α → List α) (n : Nat) (h : ∀ x, (f x).length = n) : (ls.flatMap f).length = n * ls.length := by
  induction ls with
  | nil => simp
  | cons a ls ih => rw [List.flatMap_cons, List.length_append, ih, h, List.length_cons, Nat.mul_succ]; omega

theorem alpha10 : (10 : Int) ∉ alpha := by decide
theorem lineOk_size {l : List Int} (h : LineOk l) : (tx l).size ≤ 16 := tx_bound l 8 h.2
theorem sizes40 {ls : List (List Int)} (h : ∀ l ∈ ls, LineOk l) : ∀ l ∈ ls.map tx, l.size ≤ 40 := by
  intro l hm
  obtain ⟨x, hx, rfl⟩ := List.mem_map.1 hm
  have := lineOk_size (h x hx)
  omega
theorem lineOks {ls : List (List Int)} (h : ∀ l ∈ ls, LineOk l) : (∀ l ∈ ls, Ln l) ∧ (∀ l ∈ ls.map tx, Short l) :=
  ⟨fun l hl => (h l hl).ln, shorts (fun l hl => (h l hl).ln) (fun l hl => by have := (h l hl).2; omega)⟩
theorem textOk_l {w : World} (ht : Tabs w) {ls : List (List Int)} (h : ∀ l ∈ ls, LineOk l) (h40 : ls.length ≤ 40) : TextOk w (tx (txtR ls)) (ls.map tx) :=
  textOk_lines ht (lineOks h).1 (by have := txtR_len ls h; omega)

set_option maxRecDepth 100000 in
/-- What Queued asks of its two scripts. -/
theorem que_edits (w : World) (ht : Tabs w) (ls : List (List Int)) (h : ∀ l ∈ ls, LineOk l) (h40 : ls.length ≤ 40) (l : List Int) (hl : LineOk l) :
    (Calls Tryz.prog 20 #[.string (tx (queL l)), .string (tx (txtR ls)), .bool false] w fun e w' => e = .returned (.tuple #[.string (tx (txtR (ls.flatMap fun x => [l, x, l, l ++ [120]]))), .bool true]) ∧ Only (fun _ => False) w w') ∧
    (Calls Tryz.prog 20 #[.string (tx (queL2 l)), .string (tx (txtR ls)), .bool false] w fun e w' => e = .returned (.tuple #[.string (tx (txtR (ls.set 1 l))), .bool true]) ∧ Only (fun _ => False) w w') := by
  have hok := hl.ln.ok
  have h10 := hl.ln.no
  have hl8 := hl.2
  have hokx : ∀ r ∈ l ++ [120], Okr r := fun r hr => by
    rcases List.mem_append.1 hr with e | e
    · exact hok r e
    · rw [List.mem_singleton.1 e]; exact Or.inl (by omega)
  have hsh := (lineOks h).2
  have h40' : (ls.map tx).length ≤ 40 := by rw [List.length_map]; exact h40
  have ht1 := textOk_l ht h h40
  have hlow : ∀ r : Int, 0 ≤ r → r < 128 → Okr r := fun r a b => Or.inl ⟨a, b⟩
  have el : Adz.enc l = encL l := Adz.enc_ok hok
  have ex : Adz.enc (l ++ [120]) = encL (l ++ [120]) := Adz.enc_ok hokx
  have hlen := (encL_len l).2
  have hlenx := (encL_len (l ++ [120])).2
  rw [List.length_append, List.length_singleton] at hlenx
  constructor
  · have hq : ∀ r ∈ queL l, Okr r := by
      intro r hr
      simp only [queL, List.mem_append, List.mem_cons, List.not_mem_nil, or_false] at hr
      rcases hr with (e | e) | e | (e | e | e) | e | (e | e | e) | e | e
      all_goals first | exact hok r e | (subst e; exact hlow _ (by decide) (by decide))
    have := editP (tx (queL l)) (queL l) (plc (queL l)) (dec_tx hq (by rw [queL_len]; omega)) 5 ⟨(queL l).length, queC l, [], []⟩ (walks_que l h10) (Adz.peekEnd rfl) rfl (by
      intro c hc
      simp only [queC, List.mem_cons, List.not_mem_nil, or_false] at hc
      rcases hc with rfl | rfl | rfl
      · exact (show (Adz.behindKind 97).getD 0 ≠ 4 by decide)
      · exact (show (Adz.behindKind 105).getD 0 ≠ 4 by decide)
      · exact (show (Adz.behindKind 97).getD 0 ≠ 4 by decide)) (by simp [queC]) (by simp [queC]) w _ false _ ht1 (Adz.outs [] ((ls.map tx).flatMap fun x => [tx l, x, tx l, tx (l ++ [120])])) (fun u eb X g hP hq hlines _ => by
      obtain ⟨k, E', h1, h2⟩ := cycles_que u eb X g (Adz.enc l) (Adz.enc (l ++ [120])) hP hq (by rw [hlines]; exact h40') (by rw [hlines]; exact hsh) (by rw [hlines]; exact sizes40 h) (by rw [el]; omega) (by rw [ex]; omega) { opens := List.replicate (queC l).length false } ⟨rfl, rfl, rfl, rfl, rfl, rfl⟩
      refine ⟨k, E', h1, ?_⟩
      rw [h2, hlines, Adz.enc_tx hok, Adz.enc_tx hokx])
    have e2 : ((ls.map tx).flatMap fun x => [tx l, x, tx l, tx (l ++ [120])]) = (ls.flatMap fun x => [l, x, l, l ++ [120]]).map tx := by
      clear this ht1 hsh h40' h h40
      induction ls with
      | nil => rfl
      | cons a ls ih => rw [List.map_cons, List.flatMap_cons, ih]; rfl
    rw [e2, outs_mk] at this
    exact this
  · have hq : ∀ r ∈ queL2 l, Okr r := by
      intro r hr
      simp only [queL2, List.mem_append, List.mem_cons, List.not_mem_nil, or_false] at hr
      rcases hr with (e | e | e) | e
      all_goals first | exact hok r e | (subst e; exact hlow _ (by decide) (by decide))
    have := editP (tx (queL2 l)) (queL2 l) (plc (queL2 l)) (dec_tx hq (by rw [queL2_len]; omega)) 1 ⟨(queL2 l).length, queC2 l, [], []⟩ (walks_que2 l h10) (Adz.peekEnd rfl) rfl (by
      intro c hc
      simp only [queC2, List.mem_cons, List.not_mem_nil, or_false] at hc
      subst hc
      exact (show (Adz.behindKind 99).getD 0 ≠ 4 by decide)) (by simp [queC2]) (by simp [queC2]) w _ false _ ht1 (Adz.outs [] ((ls.map tx).set 1 (tx l))) (fun u eb X g hP hq hlines _ => by
      obtain ⟨k, E', h1, h2⟩ := cycles_que2 u eb X g (Adz.enc l) hP hq (by rw [hlines]; exact h40') (by rw [hlines]; exact hsh) (by rw [hlines]; exact sizes40 h) (by rw [el]; omega) { opens := List.replicate (queC2 l).length false } ⟨rfl, rfl, rfl, rfl, rfl, rfl⟩
      refine ⟨k, E', h1, ?_⟩
      rw [h2, hlines, Adz.enc_tx hok])
    rw [← List.map_set, outs_mk] at this
    exact this
end Go.Proofs.YtbiobhghnldckaaGreatDoor
