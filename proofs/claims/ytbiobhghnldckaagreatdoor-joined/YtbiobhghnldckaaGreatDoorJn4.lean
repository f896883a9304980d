/- Proved: what adzekeep.edit makes of the two scripts of adzekeep.Joined, over any short lines. Conditions: what the library's variables hold. -/
import Derived.Test.YtbiobhghnldckaaGreatDoorJn3
namespace Go.Proofs.YtbiobhghnldckaaGreatDoor
open Go.RowKit
set_option linter.unusedVariables false

theorem runes_e : Adz.runes ⟨#[195, 169]⟩ = [233] := by decide +kernel
theorem runes_m : Adz.runes ⟨#[45]⟩ = [45] := by decide +kernel
theorem runes_n : Adz.runes ⟨#[10]⟩ = [10] := by decide +kernel
theorem lits_5 : Adz.Lits jn5.repl := by
  intro p hp
  simp only [jn5, List.mem_cons, List.not_mem_nil, or_false] at hp
  rcases hp with rfl | rfl
  · exact Or.inl ⟨rfl, by decide⟩
  · exact Or.inl ⟨rfl, by decide⟩
theorem fill_5 (m : List Int) : Adz.fill jn5.repl m = [233, 45] := by
  show Adz.runes ⟨#[195, 169]⟩ ++ (Adz.runes ⟨#[45]⟩ ++ []) = _
  rw [runes_e, runes_m]
  rfl
theorem subst_5 (sp : List Int) : Adz.subst sp jn5 = repX [10] [233, 45] 0 sp.length 0 sp := Adz.subst_lit_g sp jn5 [10] [233, 45] rfl (by simp) (by decide) rfl lits_5 fill_5
theorem fine_5 (sp : List Int) (hsp : sp.length ≤ 400) (hless : (Adz.subst sp jn5).length ≤ 400) : Fine sp jn5 :=
  fine_ones (by show Adz.Ones ([10].map Adz.lit); exact Adz.ones_lit [10]) (by simp [jn5]) lits_5 (by simp [jn5]) (by intro x hx; simp [jn5] at hx; subst hx; simp) (by simp [jn5]) 2 (by omega) (fun m _ => by rw [fill_5]; simp) hsp rfl hless

theorem jnd_take_len {ls : List (List Int)} (h : ∀ l ∈ ls, LineOk l) (h40 : ls.length ≤ 40) {j : Nat} (h1 : 1 ≤ j) (hj : j ≤ ls.length) : (jnd [10] (ls.take j)).length ≤ 400 := by
  have hne : ls.take j ≠ [] := by
    intro e
    have := congrArg List.length e
    rw [List.length_take, List.length_nil] at this
    omega
  have := jnd_len [10] (ls.take j) hne (fun l hl => (h l (List.mem_of_mem_take hl)).2)
  rw [List.length_take] at this
  simp only [List.length_cons, List.length_nil] at this
  have : min j ls.length ≤ 40 := by omega
  omega

theorem join_loop {w0 : World} {eb : Nat} {X : Adz.Fx} {g : Nat} (hP : ProgOk w0 eb X g jnC) (hty : Typ w0 g 167) (ls : List (List Int)) (hls : ∀ l ∈ ls, LineOk l) (h40 : ls.length ≤ 40) (hlines : X.lines = ls.map tx) (E : Adz.Es) (hq : E.queue = []) (hh : E.hold = []) (ho : E.out = []) : ∀ (m j st : Nat), j + m = ls.length → 1 ≤ j → st + 4 * m + 3 ≤ 5000 →
    ∃ b, StepsOk w0 eb X 5 (4 * m + 3) { E with line := j, sp := jnd [10] (ls.take j), next := 0, steps := st, r8 := false } { E with line := ls.length, sp := jnd [233, 45] ls, next := 5, steps := st + 4 * m + 3, r8 := b } := by
  have hXl : X.lines.length = ls.length := by rw [hlines, List.length_map]
  have hh4 : E.hold.length ≤ 400 := by rw [hh]; simp
  intro m
  induction m with
  | zero =>
    intro j st hjm h1 hst
    obtain rfl : j = ls.length := by omega
    have hlen := jnd_take_len hls h40 h1 (Nat.le_refl _)
    have hat0 := hP.at { E with line := ls.length, sp := jnd [10] (ls.take ls.length), next := 0, steps := st, r8 := false } 0 jn1 rfl rfl (by show st < 5000; omega) hlen hh4
    have s1 := stepOk_do hat0 (by simp [jn1]) (by simp [jn1]) (by simp [means1, jn1]) _ (doOk_nop hat0 (Or.inl rfl) { E with line := ls.length, sp := jnd [10] (ls.take ls.length), next := 1, steps := st + 1, r8 := false })
    have hat1 := hP.at { E with line := ls.length, sp := jnd [10] (ls.take ls.length), next := 1, steps := st + 1, r8 := false } 1 jn2' rfl rfl (by show st + 1 < 5000; omega) hlen hh4
    have s2 := stepOk_skip hat1 (by simp [jn2']) (by simp [jn2']) (by simp [means1, jn2', meant1, hXl]) rfl 4 rfl
    have hsub : Adz.subst (jnd [10] (ls.take ls.length)) jn5 = jnd [233, 45] ls := by
      rw [List.take_length, subst_5, rep_10 ls hls _ _ (Nat.le_refl _)]
    have hne : ls ≠ [] := by intro e; rw [e] at h1; simp at h1
    have hless : (jnd [233, 45] ls).length ≤ 400 := by
      have := jnd_len [233, 45] ls hne (fun l hl => (hls l hl).2)
      simp only [List.length_cons, List.length_nil] at this
      omega
    have hat4 := hP.at { E with line := ls.length, sp := jnd [10] (ls.take ls.length), next := 4, steps := st + 2, r8 := false } 4 jn5 rfl rfl (by show st + 2 < 5000; omega) hlen hh4
    have s3 := stepOk_do hat4 (by simp [jn5]) (by simp [jn5]) (by simp [means1, jn5]) _ (doOk_s hat4 hty rfl { E with line := ls.length, sp := jnd [10] (ls.take ls.length), next := 5, steps := st + 3, r8 := false } (fine_5 _ hlen (by rw [hsub]; exact hless)))
    simp only [hsub] at s3
    exact ⟨_, _, s1, _, s2, _, s3, rfl, Nat.le_refl _⟩
  | succ m ih =>
    intro j st hjm h1 hst
    have hjn : j < ls.length := by omega
    have hlen := jnd_take_len hls h40 h1 (by omega : j ≤ ls.length)
    have hlj := hls ls[j] (List.getElem_mem hjn)
    have hXj : ∀ (hk : j < X.lines.length), X.lines[j] = tx ls[j] := fun hk => by
      have : X.lines[j]? = some (tx ls[j]) := by rw [hlines, List.getElem?_map, List.getElem?_eq_getElem hjn]; rfl
      exact (List.getElem?_eq_some_iff.1 this).2
    have hjX : j < X.lines.length := by omega
    have hat0 := hP.at { E with line := j, sp := jnd [10] (ls.take j), next := 0, steps := st, r8 := false } 0 jn1 rfl rfl (by show st < 5000; omega) hlen hh4
    have s1 := stepOk_do hat0 (by simp [jn1]) (by simp [jn1]) (by simp [means1, jn1]) _ (doOk_nop hat0 (Or.inl rfl) { E with line := j, sp := jnd [10] (ls.take j), next := 1, steps := st + 1, r8 := false })
    have hat1 := hP.at { E with line := j, sp := jnd [10] (ls.take j), next := 1, steps := st + 1, r8 := false } 1 jn2' rfl rfl (by show st + 1 < 5000; omega) hlen hh4
    have s2 := stepOk_do hat1 (by simp [jn2']) (by simp [jn2']) (by
      have : ¬ X.lines.length ≤ j := by omega
      simp [means1, jn2', meant1, this]) _ (doOk_nop hat1 (Or.inr rfl) { E with line := j, sp := jnd [10] (ls.take j), next := 2, steps := st + 2, r8 := false })
    have hat2 := hP.at { E with line := j, sp := jnd [10] (ls.take j), next := 2, steps := st + 2, r8 := false } 2 jn3 rfl rfl (by show st + 2 < 5000; omega) hlen hh4
    have s3 := stepOk_do hat2 (by simp [jn3]) (by simp [jn3]) (by simp [means1, jn3]) _ (doOk_N hat2 rfl { E with line := j, sp := jnd [10] (ls.take j), next := 3, steps := st + 3, r8 := false } hjX (by omega) (by show X.lines[j].size ≤ 3000; rw [hXj hjX]; have := lineOk_size hlj; omega) hlen hq (by show E.out.length ≤ 8000; rw [ho]; simp))
    have hne : ls.take j ≠ [] := by
      intro e
      have := congrArg List.length e
      rw [List.length_take, List.length_nil] at this
      omega
    have hsp : jnd [10] (ls.take j) ++ 10 :: Adz.runes X.lines[j] = jnd [10] (ls.take (j + 1)) := by
      rw [hXj hjX, runes_ok hlj.ln.ok, ← List.take_append_getElem hjn, jnd_snoc [10] _ _ hne]
      rfl
    simp only [hsp] at s3
    have hlen1 := jnd_take_len hls h40 (by omega : 1 ≤ j + 1) (by omega : j + 1 ≤ ls.length)
    have hat3 := hP.at { E with line := j + 1, sp := jnd [10] (ls.take (j + 1)), next := 3, steps := st + 3, r8 := false } 3 jn4 rfl rfl (by show st + 3 < 5000; omega) hlen1 hh4
    have s4 := stepOk_do hat3 (by simp [jn4]) (by simp [jn4]) (by simp [means1, jn4]) _ (doOk_b hat3 rfl 0 rfl { E with line := j + 1, sp := jnd [10] (ls.take (j + 1)), next := 4, steps := st + 4, r8 := false })
    obtain ⟨b, hb⟩ := ih (j + 1) (st + 4) (by omega) (by omega) (by omega)
    refine ⟨b, ?_⟩
    rw [show 4 * (m + 1) + 3 = (4 * m + 3) + 1 + 1 + 1 + 1 by omega, show st + 4 * (m + 1) + 3 = st + 4 + 4 * m + 3 by omega]
    exact ⟨_, s1, _, s2, _, s3, _, s4, hb⟩

def jnL2 : List Int := [115, 47, 233, 45, 47, 92, 110, 47, 103]
def jn6 : Adz.Cmd := { what := 115, pat := ⟨[⟨5, 0, [(233, 233)], 0⟩, ⟨5, 0, [(45, 45)], 0⟩], 0⟩, repl := [⟨0, [10], 0⟩], all := true }
theorem walks_join2 : Walks jnL2 [0, 1, 2, 4, 5, 6, 7, 8, 9, 10] 1 ⟨0, [], [], []⟩ ⟨9, [jn6], [], []⟩ := by
  refine ⟨⟨9, [jn6], [], []⟩, fun g pp hL hpl hcap => ?_, rfl⟩
  exact gapOk_plain g pp ⟨0, [], [], []⟩ 115 (by rw [hL]; rfl) (by decide) 5 (by decide) (by decide) (by decide) (by simp) jn6 9 9 (behOk_s g pp _ 1 _ rfl jn6 9 (by rw [hL, hpl]; rfl)) (by show 1 ≤ 9; omega) (Adz.tail_at (Or.inr (Or.inr (by rw [hL]; rfl)))) (by decide)
theorem lits_6 : Adz.Lits jn6.repl := by
  intro p hp
  simp only [jn6, List.mem_cons, List.not_mem_nil, or_false] at hp
  subst hp
  exact Or.inl ⟨rfl, by decide⟩
theorem fill_6 (m : List Int) : Adz.fill jn6.repl m = [10] := by
  show Adz.runes ⟨#[10]⟩ ++ [] = _
  rw [runes_n]
  rfl
theorem subst_6 (sp : List Int) : Adz.subst sp jn6 = repX [233, 45] [10] 0 sp.length 0 sp := Adz.subst_lit_g sp jn6 [233, 45] [10] rfl (by simp) (by decide) rfl lits_6 fill_6
theorem fine_6 (sp : List Int) (hsp : sp.length ≤ 400) (hless : (Adz.subst sp jn6).length ≤ 400) : Fine sp jn6 :=
  fine_ones (by show Adz.Ones ([233, 45].map Adz.lit); exact Adz.ones_lit [233, 45]) (by simp [jn6]) lits_6 (by simp [jn6]) (by intro x hx; simp [jn6] at hx; rcases hx with rfl | rfl <;> simp) (by simp [jn6]) 1 (by omega) (fun m _ => by rw [fill_6]; simp) hsp rfl hless

theorem jnd_len2 {ls : List (List Int)} (h : ∀ l ∈ ls, LineOk l) (h40 : ls.length ≤ 40) (hne : ls ≠ []) : (jnd [233, 45] ls).length ≤ 398 ∧ (jnd [10] ls).length ≤ 359 := by
  have h1 := jnd_len [233, 45] ls hne (fun l hl => (h l hl).2)
  have h2 := jnd_len [10] ls hne (fun l hl => (h l hl).2)
  simp only [List.length_cons, List.length_nil] at h1 h2
  omega
theorem jnd_no {ls : List (List Int)} (h : ∀ l ∈ ls, LineOk l) : Ln (jnd [233, 45] ls) := by
  refine ⟨jnd_ok (by intro r hr; simp at hr; rcases hr with rfl | rfl; exact Or.inr rfl; exact Or.inl (by decide)) h, ?_⟩
  induction ls with
  | nil => simp [jnd]
  | cons l ls ih =>
    cases ls with
    | nil => exact (h l (by simp)).ln.no
    | cons m ls =>
      have := ih (fun a ha => h a (List.mem_cons_of_mem _ ha))
      have := (h l (by simp)).ln.no
      simp only [jnd, List.mem_append]
      rintro (e | e | e)
      · exact this e
      · simp at e
      · contradiction

theorem joined_edits (w : World) (ht : Tabs w) (ls : List (List Int)) (h : ∀ l ∈ ls, LineOk l) (h40 : ls.length ≤ 40) (hne : ls ≠ []) :
    (Calls Tryz.prog 20 #[.string (tx jnL), .string (tx (txtR ls)), .bool false] w fun e w' => e = .returned (.tuple #[.string (tx (jnd [233, 45] ls ++ [10])), .bool true]) ∧ Only (fun _ => False) w w') ∧
    (Calls Tryz.prog 20 #[.string (tx jnL2), .string (tx (jnd [233, 45] ls ++ [10])), .bool false] w fun e w' => e = .returned (.tuple #[.string (tx (txtR ls)), .bool true]) ∧ Only (fun _ => False) w w') := by
  obtain ⟨hb1, hb2⟩ := jnd_len2 h h40 hne
  have hok1 : ∀ r ∈ jnd [233, 45] ls, Okr r := (jnd_no h).ok
  have hok2 : ∀ r ∈ jnd [10] ls, Okr r := jnd_ok (by intro r hr; simp at hr; subst hr; exact Or.inl (by decide)) h
  have hlpos : 0 < ls.length := List.length_pos_iff.2 hne
  refine ⟨?_, ?_⟩
  · refine editPF (tx jnL) jnL jnP (dec_of (by decide +kernel)) 9 ⟨22, jnC, [], [⟨Adz.enc [97], 0, 8⟩]⟩ walks_join rfl jnC fin_join (by decide) (by decide) w _ false _ (textOk_l ht h h40) (encL (jnd [233, 45] ls ++ [10])) ?_
    intro u eb X g hP hty hq hlines hlo
    have hXl : X.lines.length = ls.length := by rw [hlines, List.length_map]
    have hl0 := h ls[0] (List.getElem_mem hlpos)
    have hX0 : ∀ hk : 0 < X.lines.length, X.lines[0] = tx ls[0] := fun hk => by
      have : X.lines[0]? = some (tx ls[0]) := by rw [hlines, List.getElem?_map, List.getElem?_eq_getElem hlpos]; rfl
      exact (List.getElem?_eq_some_iff.1 this).2
    have hk0 : 0 < X.lines.length := by omega
    have htk : jnd [10] (ls.take 1) = Adz.runes (tx ls[0]) := by
      rw [runes_ok hl0.ln.ok]
      cases ls with
      | nil => exact absurd rfl hne
      | cons a t => rfl
    obtain ⟨b, hst⟩ := join_loop hP hty ls h h40 hlines { opens := List.replicate jnC.length false } rfl rfl rfl (ls.length - 1) 1 0 (by omega) (Nat.le_refl _) (by omega)
    rw [htk] at hst
    refine ⟨1, _, ⟨_, cycleOk_prog hP { opens := List.replicate jnC.length false } rfl hk0 (by omega) (by rw [hX0 hk0]; have := lineOk_size hl0; omega) _ _ _ (by rw [hX0 hk0]; exact hst) (Or.inr ⟨rfl, by show (jnd [233, 45] ls).length ≤ 400; omega, by simp, ?_, by simp, rfl⟩), rfl, Or.inr (by show X.lines.length ≤ ls.length; omega)⟩, ?_⟩
    · show (Adz.told X.q [] (jnd [233, 45] ls)).length ≤ 8000
      rw [hq, told_ok hok1]
      have := (encL_len (jnd [233, 45] ls ++ [10])).2
      simp only [List.length_append, List.length_cons, List.length_nil] at this ⊢
      omega
    · show Adz.told X.q [] (jnd [233, 45] ls) = _
      rw [hq, told_ok hok1]
      rfl
  · have ht1 : TextOk w (tx (jnd [233, 45] ls ++ [10])) [tx (jnd [233, 45] ls)] := by
      have := textOk_lines ht (ls := [jnd [233, 45] ls]) (by intro l hl; simp at hl; subst hl; exact jnd_no h) (by simp [txtR]; omega)
      have e : txtR [jnd [233, 45] ls] = jnd [233, 45] ls ++ [10] := by simp [txtR]
      rw [e] at this
      exact this
    have hsub : Adz.subst (Adz.runes (tx (jnd [233, 45] ls))) jn6 = jnd [10] ls := by
      rw [runes_ok hok1, subst_6, rep_45 ls h _ _ (Nat.le_refl _)]
    have hrl : (Adz.runes (tx (jnd [233, 45] ls))).length ≤ 400 := by rw [runes_ok hok1]; omega
    have hsz := tx_bound (jnd [233, 45] ls) 398 hb1
    have := editP2 (tx jnL2) jnL2 [0, 1, 2, 4, 5, 6, 7, 8, 9, 10] (dec_of (by decide +kernel)) 1 ⟨9, [jn6], [], []⟩ walks_join2 rfl rfl (by decide) (by decide) (by simp) w _ false _ ht1 (encL (txtR ls)) (fun u eb X g hP hty hq hlines hlo => by
      have hk0 : 0 < X.lines.length := by rw [hlines]; simp
      have hX0 : X.lines[0] = tx (jnd [233, 45] ls) := by simp [hlines]
      have hat := hP.at (lineStart { opens := [false] } (tx (jnd [233, 45] ls))) 0 jn6 rfl rfl (by show (0 : Nat) < 5000; omega) hrl (by simp [lineStart])
      have s1 := stepOk_do hat (by simp [jn6]) (by simp [jn6]) (by simp [means1, jn6]) _ (doOk_s hat hty rfl { lineStart { opens := [false] } (tx (jnd [233, 45] ls)) with steps := 1, next := 1 } (fine_6 _ hrl (by rw [show ({ lineStart { opens := [false] } (tx (jnd [233, 45] ls)) with steps := 1, next := 1 } : Adz.Es).sp = Adz.runes (tx (jnd [233, 45] ls)) from rfl, hsub]; omega)))
      have e1 : ({ lineStart { opens := [false] } (tx (jnd [233, 45] ls)) with steps := 1, next := 1 } : Adz.Es).sp = Adz.runes (tx (jnd [233, 45] ls)) := rfl
      rw [e1, hsub] at s1
      refine ⟨1, _, ⟨_, cycleOk_prog hP { opens := [false] } rfl hk0 (by rw [hlines]; simp) (by rw [hX0]; omega) 1 _ _ (by rw [hX0]; exact ⟨_, s1, rfl, Nat.le_refl _⟩) (Or.inr ⟨rfl, by show (jnd [10] ls).length ≤ 400; omega, by simp [lineStart], ?_, by simp [lineStart], rfl⟩), rfl, Or.inr (by rw [hlines]; simp [lineStart])⟩, ?_⟩
      · show (Adz.told X.q [] (jnd [10] ls)).length ≤ 8000
        rw [hq, told_ok hok2]
        have := (encL_len (jnd [10] ls ++ [10])).2
        simp only [List.length_append, List.length_cons, List.length_nil] at this ⊢
        omega
      · show Adz.told X.q [] (jnd [10] ls) = _
        rw [hq, told_ok hok2, jnd_txt ls hne]
        rfl)
    exact this
end Go.Proofs.YtbiobhghnldckaaGreatDoor
