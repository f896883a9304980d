/- Proved: lines joined by one text are, with that text replaced, the lines joined by another; what the script of adzekeep.Joined makes of lines. Conditions: contracts of the commands; what the library's variables hold. -/
import Derived.Test.YtbiobhghnldckaaGreatDoorJn1
import Derived.Test.YtbiobhghnldckaaGreatDoorJn2
import Derived.Test.YtbiobhghnldckaaGreatDoorRpl1
import Derived.Test.YtbiobhghnldckaaGreatDoorK20
import Derived.Test.YtbiobhghnldckaaGreatDoorK18
namespace Go.Proofs.YtbiobhghnldckaaGreatDoor
open Go.RowKit
set_option linter.unusedVariables false

theorem repX_run (x y : List Int) (k n : Nat) (rest : List Int) : ∀ (l : List Int) (d : Nat), (∀ s a t, l = s ++ a :: t → ¬ x.isPrefixOf (a :: (t ++ rest)) = true) → repX x y k (l.length + d) n (l ++ rest) = l ++ repX x y k d n rest
  | [], d, _ => by simp
  | a :: l, d, h => by
    have h0 := h [] a l rfl
    have ih := repX_run x y k n rest l d (fun s b t e => h (a :: s) b t (by rw [e]; rfl))
    rw [List.length_cons, show l.length + 1 + d = (l.length + d) + 1 by omega, List.cons_append, repX_no h0, ih]
    rfl
/-- Lines, joined by a text. -/
def jnd (x : List Int) : List (List Int) → List Int
  | [] => []
  | [l] => l
  | l :: m :: ls => l ++ (x ++ jnd x (m :: ls))
theorem jnd_len (x : List Int) : ∀ (ls : List (List Int)), ls ≠ [] → (∀ l ∈ ls, l.length ≤ 8) → (jnd x ls).length + x.length ≤ (8 + x.length) * ls.length
  | [], h, _ => absurd rfl h
  | [l], _, h => by
    have := h l (by simp)
    simp [jnd]; omega
  | l :: m :: ls, _, h => by
    have ih := jnd_len x (m :: ls) (by simp) (fun a ha => h a (List.mem_cons_of_mem _ ha))
    have := h l (by simp)
    have e : (8 + x.length) * (l :: m :: ls).length = (8 + x.length) * (m :: ls).length + (8 + x.length) := by rw [List.length_cons, Nat.mul_succ]
    rw [e]
    simp only [jnd, List.length_append]
    omega
theorem jnd_snoc (x : List Int) : ∀ (ls : List (List Int)) (l : List Int), ls ≠ [] → jnd x (ls ++ [l]) = jnd x ls ++ (x ++ l)
  | [], l, h => absurd rfl h
  | [m], l, _ => rfl
  | m :: a :: ls, l, _ => by
    have ih := jnd_snoc x (a :: ls) l (by simp)
    show m ++ (x ++ jnd x ((a :: ls) ++ [l])) = _
    rw [ih]
    simp [jnd]
theorem jnd_txt : ∀ (ls : List (List Int)), ls ≠ [] → txtR ls = jnd [10] ls ++ [10]
  | [], h => absurd rfl h
  | [l], _ => by simp [txtR, jnd]
  | l :: m :: ls, _ => by
    have ih := jnd_txt (m :: ls) (by simp)
    rw [txtR_cons, ih]
    simp [jnd]
theorem repX_nil (x y : List Int) (k d n : Nat) : repX x y k d n [] = [] := by cases d <;> rfl
theorem repX_jnd (x y : List Int) (hx : x ≠ []) (Q : List Int → Prop) (hno : ∀ l rest, Q l → (rest = [] ∨ ∃ r, rest = x ++ r) → ∀ s a t, l = s ++ a :: t → ¬ x.isPrefixOf (a :: (t ++ rest)) = true) : ∀ (ls : List (List Int)) (d n : Nat), (∀ l ∈ ls, Q l) → (jnd x ls).length ≤ d → repX x y 0 d n (jnd x ls) = jnd y ls
  | [], d, n, _, _ => repX_nil _ _ _ _ _
  | [l], d, n, h, hd => by
    have := repX_run x y 0 n [] l (d - l.length) (hno l [] (h l (by simp)) (Or.inl rfl))
    simp only [jnd] at hd ⊢
    rw [show l.length + (d - l.length) = d by omega, List.append_nil, repX_nil, List.append_nil] at this
    exact this
  | l :: m :: ls, d, n, h, hd => by
    have hxl : 0 < x.length := List.length_pos_iff.2 hx
    simp only [jnd, List.length_append] at hd
    have := repX_run x y 0 n (x ++ jnd x (m :: ls)) l (d - l.length) (hno l _ (h l (by simp)) (Or.inr ⟨_, rfl⟩))
    rw [show l.length + (d - l.length) = d by omega] at this
    show repX x y 0 d n (l ++ (x ++ jnd x (m :: ls))) = l ++ (y ++ jnd y (m :: ls))
    rw [this]
    congr 1
    obtain ⟨e, he⟩ : ∃ e, d - l.length = e + 1 := ⟨d - l.length - 1, by omega⟩
    rw [he]
    have hpre : x.isPrefixOf (x ++ jnd x (m :: ls)) = true := by
      rw [List.isPrefixOf_iff_prefix]
      exact List.prefix_append _ _
    have hcons : ∃ a t, x ++ jnd x (m :: ls) = a :: t := by
      cases x with
      | nil => exact absurd rfl hx
      | cons a x => exact ⟨a, _, rfl⟩
    obtain ⟨a, t, hat⟩ := hcons
    have ih := repX_jnd x y hx Q hno (m :: ls) e (n + 1) (fun z hz => h z (List.mem_cons_of_mem _ hz)) (by omega)
    rw [hat] at hpre ⊢
    rw [repX_yes hpre, if_pos (Or.inl rfl), ← hat, List.drop_left, ih]
theorem rep_10 (ls : List (List Int)) (h : ∀ l ∈ ls, LineOk l) (d n : Nat) (hd : (jnd [10] ls).length ≤ d) : repX [10] [233, 45] 0 d n (jnd [10] ls) = jnd [233, 45] ls :=
  repX_jnd [10] [233, 45] (by simp) LineOk (fun l rest hl _ s a t e => by
    have ha : a ∈ l := by rw [e]; simp
    have : a ≠ 10 := fun e => absurd (hl.1 a ha) (by subst e; decide)
    simp [List.isPrefixOf]
    exact fun e => this e.symm) ls d n h hd
theorem rep_45 (ls : List (List Int)) (h : ∀ l ∈ ls, LineOk l) (d n : Nat) (hd : (jnd [233, 45] ls).length ≤ d) : repX [233, 45] [10] 0 d n (jnd [233, 45] ls) = jnd [10] ls :=
  repX_jnd [233, 45] [10] (by simp) LineOk (fun l rest hl hr s a t e => by
    have hne : ∀ b ∈ l, b ≠ 45 := fun b hb e => absurd (hl.1 b hb) (by subst e; decide)
    cases t with
    | nil =>
      rcases hr with rfl | ⟨r, rfl⟩
      · simp [List.isPrefixOf]
      · simp [List.isPrefixOf]
    | cons b t =>
      have := hne b (by rw [e]; simp)
      simp [List.isPrefixOf]
      intro _ e2
      exact this e2.symm) ls d n h hd

theorem jnd_ok {x : List Int} (hx : ∀ r ∈ x, Okr r) : ∀ {ls : List (List Int)}, (∀ l ∈ ls, LineOk l) → ∀ r ∈ jnd x ls, Okr r
  | [], _ => by simp [jnd]
  | [l], h => (h l (by simp)).ln.ok
  | l :: m :: ls, h => fun r hr => by
    have ih := jnd_ok hx (ls := m :: ls) (fun a ha => h a (List.mem_cons_of_mem _ ha))
    simp only [jnd, List.mem_append] at hr
    rcases hr with hr | hr | hr
    · exact (h l (by simp)).ln.ok r hr
    · exact hx r hr
    · exact ih r hr

/-- adzekeep.edit of a script whose end makes these commands. -/
theorem editPF (sc : ByteArray) (L pl : List Int) (hd : Dec sc L pl) (N : Nat) (sf : Adz.Ps) (hwk : Walks L pl N ⟨0, [], [], []⟩ sf) (hend : Adz.peek L sf.i = -1) (cs : List Adz.Cmd) (hfin : FinOk sf cs) (hn : cs.length ≤ 500) (hne : cs ≠ [])
    (w : World) (s : ByteArray) (q : Bool) (ls : List ByteArray) (ht : TextOk w s ls) (out : List UInt8)
    (hcy : ∀ (u : World) eb X g, ProgOk u eb X g cs → Typ u g 167 → X.q = q → X.lines = ls → u.heap.size ≤ X.lo → ∃ k E', CyclesOk u eb X k { opens := List.replicate cs.length false } E' ∧ E'.out = out) :
    Calls Tryz.prog 20 #[.string sc, .string s, .bool q] w fun e w' => e = .returned (.tuple #[.string ⟨out.toArray⟩, .bool true]) ∧ Only (fun _ => False) w w' := by
  refine editM_fin sc L pl hd N sf hwk hend cs hfin hn w s q ls ht out ?_
  intro u qv xs h1 h2 eb X hEb hcv hq hlines hlo
  obtain ⟨ca, cc, rfl⟩ := row_shape h1
  obtain ⟨g, rfl⟩ : ∃ g, ca = some ⟨g, 0, none⟩ := by
    rcases h1.2 with ⟨_, e⟩ | ⟨g, cap, cur, e, _⟩
    · exact absurd (List.eq_nil_of_length_eq_zero e) hne
    · injection e with e1; exact ⟨g, e1⟩
  exact hcy u eb X g ⟨hEb, ⟨cc, hcv⟩, hn, fun j hj => cmdX_of h1 h2 j hj⟩ (Typ.of_row h1 rfl) hq hlines hlo
end Go.Proofs.YtbiobhghnldckaaGreatDoor
