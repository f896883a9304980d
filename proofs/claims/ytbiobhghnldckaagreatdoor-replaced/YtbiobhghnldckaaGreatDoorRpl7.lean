/- Proved: what adzekeep.edit makes of the two scripts of adzekeep.Replaced, over any short lines. Conditions: what the library's variables hold. -/
import Derived.Test.YtbiobhghnldckaaGreatDoorRpl6
import Derived.Test.YtbiobhghnldckaaGreatDoorEm23
import Derived.Test.YtbiobhghnldckaaGreatDoorK18
namespace Go.Proofs.YtbiobhghnldckaaGreatDoor
open Go.RowKit
set_option linter.unusedVariables false

theorem repX_len (x y : List Int) (k : Nat) (hx : x ≠ []) (hy : y.length ≤ 8) : ∀ (d n : Nat) (l : List Int), (repX x y k d n l).length ≤ 8 * l.length
  | 0, n, l => by simp [repX]
  | d + 1, n, [] => by simp [repX]
  | d + 1, n, a :: l => by
    have hxl : 0 < x.length := List.length_pos_iff.2 hx
    by_cases hp : x.isPrefixOf (a :: l) = true
    · obtain ⟨t, ht⟩ := pre_drop hp
      have ih := repX_len x y k hx hy d (n + 1) t
      rw [repX_yes hp, ht, List.drop_left, List.length_append, List.length_append]
      split <;> omega
    · have ih := repX_len x y k hx hy d n l
      rw [repX_no hp, List.length_cons, List.length_cons]
      omega
theorem repX_all (x y : List Int) (k : Nat) (P : Int → Prop) (hx : ∀ r ∈ x, P r) (hy : ∀ r ∈ y, P r) : ∀ (d n : Nat) (l : List Int), (∀ r ∈ l, P r) → ∀ r ∈ repX x y k d n l, P r
  | 0, n, l, hl => by simp [repX]
  | d + 1, n, [], hl => by simp [repX]
  | d + 1, n, a :: l, hl => by
    by_cases hp : x.isPrefixOf (a :: l) = true
    · obtain ⟨t, ht⟩ := pre_drop hp
      have ih := repX_all x y k P hx hy d (n + 1) t (fun r hr => hl r (by rw [ht]; exact List.mem_append_right _ hr))
      rw [repX_yes hp, ht, List.drop_left]
      intro r hr
      rcases List.mem_append.1 hr with hr | hr
      · split at hr
        · exact hy r hr
        · exact hx r hr
      · exact ih r hr
    · have ih := repX_all x y k P hx hy d n l (fun r hr => hl r (List.mem_cons_of_mem _ hr))
      rw [repX_no hp]
      intro r hr
      rcases List.mem_cons.1 hr with hr | hr
      · subst hr; exact hl r (List.mem_cons_self ..)
      · exact ih r hr
/-- A line with x replaced by y; what is told of it where only lines that were turned are told. -/
def rp (x y : List Int) (k : Nat) (l : List Int) : List Int := repX x y k l.length 0 l
def rpG (x y : List Int) (k : Nat) (l : List Int) : List (List Int) := if rp x [35] k l = l then [] else [rp x y k l]
theorem rp_len {x y : List Int} {k : Nat} {l : List Int} (hx : x ≠ []) (hy : y.length ≤ 8) (hl : l.length ≤ 8) : (rp x y k l).length ≤ 64 := by
  have := repX_len x y k hx hy l.length 0 l
  unfold rp
  omega
theorem rp_ok {x y : List Int} {k : Nat} {l : List Int} (hx : ∀ r ∈ x, Okr r) (hy : ∀ r ∈ y, Okr r) (hl : ∀ r ∈ l, Okr r) : ∀ r ∈ rp x y k l, Okr r := repX_all x y k Okr hx hy _ _ l hl

namespace Adz
theorem subst_rpl (sp x y : List Int) (p : Bool) (k : Nat) (hne : x ≠ []) (hy : ∀ r ∈ y, Okr r) : subst sp (rplC x y p k) = rp x y k sp := by
  by_cases h0 : k = 0
  · subst h0
    exact subst_lit_g sp (rplC x y p 0) x y rfl hne (by show ((0 : Nat) : Int) ≤ 1; omega) rfl (lits_litp y hy) (fill_litp y hy)
  · exact subst_lit_k sp (rplC x y p k) x y rfl hne k (by omega) rfl (decide_eq_false h0) (lits_litp y hy) (fill_litp y hy)
theorem hit_rpl (sp x y : List Int) (p : Bool) (k : Nat) (hne : x ≠ []) (h35 : (35 : Int) ∉ sp) : hit sp (rplC x y p k) = true ↔ rp x [35] k sp ≠ sp := by
  have h := hit_iff sp (rplC x y p k) 35 (Or.inl (by decide)) h35
  have e : ({ rplC x y p k with repl := [litp 35] } : Cmd) = rplC x [35] p k := rfl
  rw [e, subst_rpl sp x [35] p k hne (by intro r hr; simp at hr; subst hr; exact Or.inl (by decide))] at h
  exact h
theorem okRun_rpl (sp x y : List Int) (p : Bool) (k : Nat) (hne : x ≠ []) (hy : ∀ r ∈ y, Okr r) (hy8 : y.length ≤ 8) (hsp : sp.length ≤ 400) : okRun sp (rplC x y p k).nth (rplC x y p k).all (rplC x y p k).repl (matches_ sp (rplC x y p k).pat.items) 0 0 [] := by
  have ho : Ones (rplC x y p k).pat.items := ones_lit x
  have hn : (rplC x y p k).pat.items ≠ [] := by
    show x.map lit ≠ []
    simpa using hne
  rw [matches_ones sp _ ho hn]
  exact ok_ones sp _ hn _ _ _ (lits_litp y hy) 8 (by omega) (fun m _ => by
    show (fill (y.map litp) m).length ≤ 8
    rw [fill_litp y hy]; exact hy8) hsp sp.length 0 0 0 [] (by omega) (by omega) (by omega) (by simp)
end Adz

theorem fine_rpl (sp x y : List Int) (k : Nat) (hne : x ≠ []) (hx8 : x.length ≤ 8) (hy : ∀ r ∈ y, Okr r) (hy8 : y.length ≤ 8) (hsp : sp.length ≤ 8) : Fine sp (Adz.rplC x y false k) := by
  refine ⟨?_, ?_, by omega, fun i hi => Or.inr ?_, ?_, Adz.okRun_rpl sp x y false k hne hy hy8 (by omega), rfl, ?_⟩
  · show (x.map Adz.lit).length ≤ 1000
    rw [List.length_map]; omega
  · intro i hi
    obtain ⟨r, _, rfl⟩ := List.mem_map.1 hi
    show [(r, r)].length ≤ 1000
    simp
  · obtain ⟨r, _, rfl⟩ := List.mem_map.1 hi
    exact ⟨by show (5 : Int) ≠ 2; decide, by show (5 : Int) ≠ 3; decide⟩
  · show (y.map Adz.litp).length ≤ 1000
    rw [List.length_map]; omega
  · rw [Adz.subst_rpl sp x y false k hne hy]
    have := rp_len (k := k) hne hy8 hsp
    omega
theorem fineP_rpl (sp x y : List Int) (k : Nat) (hne : x ≠ []) (hx8 : x.length ≤ 8) (hy : ∀ r ∈ y, Okr r) (hy8 : y.length ≤ 8) (hsp : sp.length ≤ 8) : FineP sp (Adz.rplC x y true k) := by
  refine ⟨?_, ?_, by omega, fun i hi => Or.inr ?_, ?_, Adz.okRun_rpl sp x y true k hne hy hy8 (by omega), rfl⟩
  · show (x.map Adz.lit).length ≤ 1000
    rw [List.length_map]; omega
  · intro i hi
    obtain ⟨r, _, rfl⟩ := List.mem_map.1 hi
    show [(r, r)].length ≤ 1000
    simp
  · obtain ⟨r, _, rfl⟩ := List.mem_map.1 hi
    exact ⟨by show (5 : Int) ≠ 2; decide, by show (5 : Int) ≠ 3; decide⟩
  · show (y.map Adz.litp).length ≤ 1000
    rw [List.length_map]; omega

/-- Cycles of one command that tell of each line at most one line. -/
theorem cycles_tell (w0 : World) (eb : Nat) (X : Adz.Fx) (g : Nat) (c : Adz.Cmd) (hP : ProgOk w0 eb X g [c]) (ls : List (List Int)) (hls : ∀ l ∈ ls, LineOk l) (h40 : ls.length ≤ 40) (hlines : X.lines = ls.map tx) (G : List Int → List (List Int)) (hG : ∀ l, LineOk l → (txtR (G l)).length ≤ 65)
    (hst : ∀ (E : Adz.Es) (l : List Int), LineOk l → E.over = false → E.queue = [] → E.hold = [] → E.steps + 1 ≤ 5000 → E.out.length + 200 ≤ 8000 → ∃ b f o, StepsOk w0 eb X 1 1 (lineStart E (tx l)) { lineStart E (tx l) with steps := E.steps + 1, next := 1, sp := f, r8 := b, out := o } ∧ f.length ≤ 400 ∧ Adz.told X.q o f = E.out ++ encL (txtR (G l)))
    (E0 : Adz.Es) (hE0 : E0.line = 0 ∧ E0.over = false ∧ E0.queue = [] ∧ E0.hold = [] ∧ E0.steps = 0 ∧ E0.out = []) :
    ∃ k E', CyclesOk w0 eb X k E0 E' ∧ E'.out = encL (txtR (ls.flatMap G)) := by
  have hXl : X.lines.length = ls.length := by rw [hlines, List.length_map]
  obtain ⟨E', h1, h2⟩ := cycles_by w0 eb X ls.length (fun j E => E.line = j ∧ E.over = false ∧ E.queue = [] ∧ E.hold = [] ∧ E.steps = j ∧ E.out = encL (txtR ((ls.take j).flatMap G)) ∧ E.out.length ≤ 130 * j)
    (fun j E hj ⟨e1, e2, e3, e4, e5, e6, e7⟩ => by
      have hlj := hls ls[j] (List.getElem_mem hj)
      have hGj := hG ls[j] hlj
      have hGe := (encL_len (txtR (G ls[j]))).2
      have hjX : E.line < X.lines.length := by rw [hXl]; omega
      have hXj : X.lines[E.line] = tx ls[j] := by
        have : X.lines[E.line]? = some (tx ls[j]) := by rw [hlines, List.getElem?_map, e1, List.getElem?_eq_getElem hj]; rfl
        exact (List.getElem?_eq_some_iff.1 this).2
      have hj130 : 130 * j ≤ 130 * 39 := Nat.mul_le_mul_left _ (by omega)
      obtain ⟨b, f, o, hs, hf, ho⟩ := hst E ls[j] hlj e2 e3 e4 (by omega) (by omega)
      have hts : (tx ls[j]).size ≤ 3000 := by have := lineOk_size hlj; omega
      have htold : Adz.told X.q o f = encL (txtR ((ls.take (j + 1)).flatMap G)) := by
        rw [ho, e6, ← encL_append, ← List.take_append_getElem hj, List.flatMap_append, List.flatMap_cons, List.flatMap_nil, List.append_nil, txtR_append]
      have hlen : (encL (txtR ((ls.take (j + 1)).flatMap G))).length ≤ 130 * (j + 1) := by
        rw [← htold, ho, List.length_append, Nat.mul_succ]
        omega
      refine ⟨{ lineStart E (tx ls[j]) with steps := E.steps + 1, next := 1, sp := f, r8 := b, queue := [], out := encL (txtR ((ls.take (j + 1)).flatMap G)) }, ?_, by show E.line + 1 = _; omega, e2, rfl, e4, by show E.steps + 1 = _; rw [e5], rfl, hlen⟩
      refine cycleOk_prog hP E e2 hjX (by rw [hXl]; omega) (by rw [hXj]; exact hts) 1 { lineStart E (tx ls[j]) with steps := E.steps + 1, next := 1, sp := f, r8 := b, out := o } _ (by rw [hXj]; exact hs) (Or.inr ⟨rfl, hf, by show E.hold.length ≤ 400; rw [e4]; simp, ?_, ?_, ?_⟩)
      · show (Adz.outs (Adz.told X.q o f) E.queue).length ≤ 8000
        rw [e3, htold]
        show (encL (txtR ((ls.take (j + 1)).flatMap G))).length ≤ 8000
        omega
      · show E.queue.length ≤ 100000
        rw [e3]; simp
      · show _ = ({ lineStart E (tx ls[j]) with steps := E.steps + 1, next := 1, sp := f, r8 := b, queue := [], out := Adz.outs (Adz.told X.q o f) E.queue } : Adz.Es)
        rw [e3, htold]
        rfl)
    (fun E ⟨e1, _⟩ => Or.inr (by rw [hXl]; omega)) ls.length 0 E0 (by omega) ⟨hE0.1, hE0.2.1, hE0.2.2.1, hE0.2.2.2.1, hE0.2.2.2.2.1, by rw [hE0.2.2.2.2.2]; rfl, by rw [hE0.2.2.2.2.2]; simp⟩
  refine ⟨_, E', h1, ?_⟩
  rw [h2.2.2.2.2.2.1, List.take_length]

theorem steps_rpl {w0 : World} {eb : Nat} {X : Adz.Fx} {g : Nat} {x y : List Int} {k : Nat} (hne : x ≠ []) (hx : LineOk x) (hy : LineOk y) (hP : ProgOk w0 eb X g [Adz.rplC x y false k]) (hq : X.q = false) (hty : Typ w0 g 167) (E : Adz.Es) (l : List Int) (hl : LineOk l) (hh : E.hold = []) (hs : E.steps + 1 ≤ 5000) : ∃ b f o, StepsOk w0 eb X 1 1 (lineStart E (tx l)) { lineStart E (tx l) with steps := E.steps + 1, next := 1, sp := f, r8 := b, out := o } ∧ f.length ≤ 400 ∧ Adz.told X.q o f = E.out ++ encL (txtR [rp x y k l]) := by
  have hrun : Adz.runes (tx l) = l := runes_ok hl.ln.ok
  have hl8 := hl.2
  have hh4 : E.hold.length ≤ 400 := by rw [hh]; simp
  have hat := hP.at (lineStart E (tx l)) 0 _ rfl rfl (by show E.steps < 5000; omega) (by show (Adz.runes (tx l)).length ≤ 400; rw [hrun]; omega) hh4
  have hs1 := stepOk_do hat (by simp [Adz.rplC, Adz.flgC]) (by simp [Adz.rplC, Adz.flgC]) (by simp [means1, Adz.rplC, Adz.flgC]) _ (doOk_s hat hty rfl { lineStart E (tx l) with steps := E.steps + 1, next := 1 } (fine_rpl (Adz.runes (tx l)) x y k hne hx.2 hy.ln.ok hy.2 (by rw [hrun]; omega)))
  have hlen := rp_len (k := k) hne hy.2 hl8
  refine ⟨(Adz.hit (Adz.runes (tx l)) (Adz.rplC x y false k) || false), rp x y k l, E.out, ⟨_, ?_, rfl, Nat.le_refl _⟩, by omega, ?_⟩
  · have he : Adz.subst (Adz.runes (tx l)) (Adz.rplC x y false k) = rp x y k l := by rw [hrun, Adz.subst_rpl l x y false k hne hy.ln.ok]
    rw [← he]; exact hs1
  · rw [hq, told_ok (rp_ok hx.ln.ok hy.ln.ok hl.ln.ok)]
    simp [txtR]

theorem alpha_35 : (35 : Int) ∉ alpha := by decide
theorem steps_rplP {w0 : World} {eb : Nat} {X : Adz.Fx} {g : Nat} {x y : List Int} {k : Nat} (hne : x ≠ []) (hx : LineOk x) (hy : LineOk y) (hP : ProgOk w0 eb X g [Adz.rplC x y true k]) (hq : X.q = true) (hty : Typ w0 g 167) (E : Adz.Es) (l : List Int) (hl : LineOk l) (hh : E.hold = []) (hs : E.steps + 1 ≤ 5000) (ho : E.out.length + 200 ≤ 8000) : ∃ b f o, StepsOk w0 eb X 1 1 (lineStart E (tx l)) { lineStart E (tx l) with steps := E.steps + 1, next := 1, sp := f, r8 := b, out := o } ∧ f.length ≤ 400 ∧ Adz.told X.q o f = E.out ++ encL (txtR (rpG x y k l)) := by
  have hrun : Adz.runes (tx l) = l := runes_ok hl.ln.ok
  have hl8 := hl.2
  have hh4 : E.hold.length ≤ 400 := by rw [hh]; simp
  have hlen := rp_len (k := k) hne hy.2 hl8
  have hrok : ∀ r ∈ rp x y k l, Okr r := rp_ok hx.ln.ok hy.ln.ok hl.ln.ok
  have he : Adz.subst (Adz.runes (tx l)) (Adz.rplC x y true k) = rp x y k l := by rw [hrun, Adz.subst_rpl l x y true k hne hy.ln.ok]
  have hat := hP.at (lineStart E (tx l)) 0 _ rfl rfl (by show E.steps < 5000; omega) (by show (Adz.runes (tx l)).length ≤ 400; rw [hrun]; omega) hh4
  have hs1 := stepOk_do hat (by simp [Adz.rplC, Adz.flgC]) (by simp [Adz.rplC, Adz.flgC]) (by simp [means1, Adz.rplC, Adz.flgC]) _ (doOk_sp hat hty rfl { lineStart E (tx l) with steps := E.steps + 1, next := 1 } (fineP_rpl (Adz.runes (tx l)) x y k hne hx.2 hy.ln.ok hy.2 (by rw [hrun]; omega)) (by
    show E.out.length + (runesBytes (Adz.subst (Adz.runes (tx l)) (Adz.rplC x y true k))).size + 1 ≤ 8000
    rw [he, runesBytes_ok hrok]
    have := tx_bound (rp x y k l) 64 hlen
    omega))
  refine ⟨(Adz.hit (Adz.runes (tx l)) (Adz.rplC x y true k) || false), rp x y k l, E.out ++ encL (txtR (rpG x y k l)), ⟨_, ?_, rfl, Nat.le_refl _⟩, by omega, ?_⟩
  · have ho2 : Adz.outP { lineStart E (tx l) with steps := E.steps + 1, next := 1 } (Adz.rplC x y true k) = E.out ++ encL (txtR (rpG x y k l)) := by
      show (if Adz.hit (Adz.runes (tx l)) (Adz.rplC x y true k) = true then Adz.told false E.out (Adz.subst (Adz.runes (tx l)) (Adz.rplC x y true k)) else E.out) = _
      rw [he, hrun]
      have hi := Adz.hit_rpl l x y true k hne (fun h => alpha_35 (hl.1 _ h))
      unfold rpG
      by_cases hr : rp x [35] k l = l
      · rw [if_neg (fun h => hi.1 h hr), if_pos hr]
        simp [txtR, encL]
      · rw [if_pos (hi.2 hr), if_neg hr, told_ok hrok]
        simp [txtR]
    rw [← he, ← ho2]; exact hs1
  · rw [hq]; rfl

theorem rplL_len (x y : List Int) (p : Bool) (k : Nat) (hx : x.length ≤ 8) (hy : y.length ≤ 8) : (Adz.rplL x y p k).length ≤ 38 := by
  have h1 := escR_len spec1 x
  have h2 := escR_len spec2 y
  have h3 : (Adz.flg p k).length ≤ 2 := by
    unfold Adz.flg
    by_cases h0 : k = 0 <;> cases p <;> simp [h0]
  simp [Adz.rplL]
  omega
theorem escR_ok {s l : List Int} (hl : ∀ r ∈ l, Okr r) : ∀ r ∈ escR s l, Okr r := fun r hr => by
  simp only [escR, List.mem_flatMap] at hr
  obtain ⟨a, ha, hr⟩ := hr
  rcases List.mem_append.1 hr with hr | hr
  · unfold escb at hr
    split at hr
    · simp at hr; subst hr; exact Or.inl (by decide)
    · simp at hr
  · simp at hr; subst hr; exact hl r ha
theorem rplL_ok {x y : List Int} {p : Bool} {k : Nat} (hk : k ≤ 9) (hx : ∀ r ∈ x, Okr r) (hy : ∀ r ∈ y, Okr r) : ∀ r ∈ Adz.rplL x y p k, Okr r := fun r hr => by
  have h47 : Okr 47 := Or.inl (by decide)
  have hf : ∀ r ∈ Adz.flg p k, Okr r := fun r hr => by
    unfold Adz.flg at hr
    rcases List.mem_append.1 hr with hr | hr
    · cases p <;> simp at hr
      subst hr; exact Or.inl (by decide)
    · split at hr
      · simp at hr; subst hr; exact Or.inl (by decide)
      · simp at hr; subst hr; exact Or.inl (by omega)
  unfold Adz.rplL at hr
  rcases List.mem_append.1 hr with hr | hr
  · simp at hr
    rcases hr with rfl | rfl
    · exact Or.inl (by decide)
    · exact h47
  · rcases List.mem_append.1 hr with hr | hr
    · exact escR_ok hx r hr
    · rcases List.mem_cons.1 hr with hr | hr
      · subst hr; exact h47
      · rcases List.mem_append.1 hr with hr | hr
        · exact escR_ok hy r hr
        · rcases List.mem_cons.1 hr with hr | hr
          · subst hr; exact h47
          · exact hf r hr

theorem rpG_len {x y : List Int} {k : Nat} {l : List Int} (hx : x ≠ []) (hy : y.length ≤ 8) (hl : l.length ≤ 8) : (txtR (rpG x y k l)).length ≤ 65 := by
  have := rp_len (k := k) hx hy hl
  unfold rpG
  split
  · simp [txtR]
  · simp [txtR]; omega

theorem edits_rpl (w : World) (ht : Tabs w) (ls : List (List Int)) (h : ∀ l ∈ ls, LineOk l) (h40 : ls.length ≤ 40) (x y : List Int) (hx : LineOk x) (hne : x ≠ []) (hy : LineOk y) (k : Nat) (hk : k ≤ 9) :
    (Calls Tryz.prog 20 #[.string (tx (Adz.rplL x y false k)), .string (tx (txtR ls)), .bool false] w fun e w' => e = .returned (.tuple #[.string (tx (txtR (ls.map (rp x y k)))), .bool true]) ∧ Only (fun _ => False) w w') ∧
    (Calls Tryz.prog 20 #[.string (tx (Adz.rplL x y true k)), .string (tx (txtR ls)), .bool true] w fun e w' => e = .returned (.tuple #[.string (tx (txtR (ls.flatMap (rpG x y k)))), .bool true]) ∧ Only (fun _ => False) w w') := by
  have ht1 := textOk_l ht h h40
  have hL : ∀ p, Dec (tx (Adz.rplL x y p k)) (Adz.rplL x y p k) (plc (Adz.rplL x y p k)) := fun p => dec_tx (rplL_ok hk hx.ln.ok hy.ln.ok) (by have := rplL_len x y p k hx.2 hy.2; omega)
  refine ⟨?_, ?_⟩
  · have hm : ls.map (rp x y k) = ls.flatMap fun l => [rp x y k l] := List.map_eq_flatMap
    rw [hm]
    exact editP2 (tx (Adz.rplL x y false k)) _ _ (hL false) 1 ⟨(Adz.rplL x y false k).length, [Adz.rplC x y false k], [], []⟩ (walks_rpl x y false k hk hx.1 hy.1 hx.2) (Adz.peek_end' _) rfl (by intro c hc; simp at hc; subst hc; show (Adz.behindKind 115).getD 0 ≠ 4; decide) (by simp) (by simp) w _ false _ ht1 _ (fun u eb X g hP hty hq hlines _ => cycles_tell u eb X g _ hP ls h h40 hlines (fun l => [rp x y k l]) (fun l hl => by have := rp_len (k := k) hne hy.2 hl.2; simp [txtR]; omega) (fun E l hl _ _ hh hs _ => steps_rpl hne hx hy hP hq hty E l hl hh hs) _ ⟨rfl, rfl, rfl, rfl, rfl, rfl⟩)
  · exact editP2 (tx (Adz.rplL x y true k)) _ _ (hL true) 1 ⟨(Adz.rplL x y true k).length, [Adz.rplC x y true k], [], []⟩ (walks_rpl x y true k hk hx.1 hy.1 hx.2) (Adz.peek_end' _) rfl (by intro c hc; simp at hc; subst hc; show (Adz.behindKind 115).getD 0 ≠ 4; decide) (by simp) (by simp) w _ true _ ht1 _ (fun u eb X g hP hty hq hlines _ => cycles_tell u eb X g _ hP ls h h40 hlines (rpG x y k) (fun l hl => rpG_len hne hy.2 hl.2) (fun E l hl _ _ hh hs ho => steps_rplP hne hx hy hP hq hty E l hl hh hs ho) _ ⟨rfl, rfl, rfl, rfl, rfl, rfl⟩)
end Go.Proofs.YtbiobhghnldckaaGreatDoor
