/- Proved: the script of an s of literal runes is read. No condition but those told. -/
import Derived.Test.YtbiobhghnldckaaGreatDoorRpl4
namespace Go.Proofs.YtbiobhghnldckaaGreatDoor
set_option linter.unusedVariables false
namespace Adz
theorem flags_end {L pl : List Int} {n i : Nat} {c : Cmd} (h : peek L i = -1) : flags L pl (n + 1) c i = .ok (c, i) := by
  unfold flags
  simp only [h]
  rfl
theorem flags_all {L pl : List Int} {n i : Nat} {c : Cmd} (h : peek L i = 103) (hc : c.all = false) : flags L pl (n + 1) c i = flags L pl n { c with all := true } (i + 1) := by
  rw [flags]
  simp only [h, hc]
  rfl
theorem flags_prt {L pl : List Int} {n i : Nat} {c : Cmd} (h : peek L i = 112) (hc : c.print = false) : flags L pl (n + 1) c i = flags L pl n { c with print := true } (i + 1) := by
  rw [flags]
  simp only [h, hc]
  rfl
theorem flags_num {L pl : List Int} {n i : Nat} {c : Cmd} {d k : Int} (h : peek L i = d) (hd : 48 ≤ d ∧ d ≤ 57) (hc : c.nth = 0) (hk : number L pl i = .ok (k, i + 1)) : flags L pl (n + 1) c i = flags L pl n { c with nth := k } (i + 1) := by
  rw [flags]
  have h1 : (d == 103) = false := by simp; omega
  have h2 : (d == 112) = false := by simp; omega
  have h3 : isDigit d = true := by simp [isDigit, hd]
  simp only [h, h1, h2, h3, hc, hk]
  rfl
theorem number_one (A pl : List Int) (k : Nat) (hk : 1 ≤ k) (hk9 : k ≤ 9) : number (A ++ [48 + (k : Int)]) pl A.length = .ok ((k : Int), A.length + 1) := by
  have hd : digitsOf (A ++ [48 + (k : Int)]) A.length = [48 + (k : Int)] := by
    unfold digitsOf
    rw [List.drop_left, List.takeWhile_cons, if_pos (by simp [isDigit]; omega)]
    rfl
  unfold number
  simp only [hd, List.foldl_cons, List.foldl_nil, List.length_cons, List.length_nil]
  rw [show min (0 * 10 + (48 + (k : Int) - 48)) 10000 = (k : Int) by omega, if_neg (by simp; omega)]

/-- What stands behind the last slash: a p or none, and g or a number. -/
def flg (p : Bool) (k : Nat) : List Int := (if p then [112] else []) ++ (if k = 0 then [103] else [48 + (k : Int)])
def flgC (p : Bool) (k : Nat) (c : Cmd) : Cmd := { c with print := p, all := decide (k = 0), nth := k }
theorem flags_flg (A pl : List Int) (p : Bool) (k n : Nat) (hk9 : k ≤ 9) (c : Cmd) (h1 : c.all = false) (h2 : c.print = false) (h3 : c.nth = 0) : flags (A ++ flg p k) pl (n + 3) c A.length = .ok (flgC p k c, (A ++ flg p k).length) := by
  have key : ∀ (A : List Int) (n : Nat) (c : Cmd), c.all = false → c.nth = 0 → flags (A ++ (if k = 0 then [103] else [48 + (k : Int)])) pl (n + 2) c A.length = .ok ({ c with all := decide (k = 0), nth := k }, A.length + 1) := by
    intro A n c h1 h3
    by_cases h0 : k = 0
    · subst h0
      rw [if_pos rfl, flags_all (by rw [peek_app0]; rfl) h1, flags_end (by rw [peek_app]; rfl)]
      congr 2
      rw [h3]; rfl
    · rw [if_neg h0, flags_num (d := 48 + (k : Int)) (by rw [peek_app0]; rfl) (by omega) h3 (number_one A pl k (by omega) hk9), flags_end (by rw [peek_app]; rfl)]
      congr 2
      rw [decide_eq_false h0, ← h1]
  cases p with
  | false =>
    have := key A (n + 1) c h1 h3
    have e : flg false k = if k = 0 then [103] else [48 + (k : Int)] := by simp [flg]
    rw [e, this]
    congr 2
    · unfold flgC
      rw [← h2]
    · split <;> simp
  | true =>
    have e : A ++ flg true k = (A ++ [112]) ++ (if k = 0 then [103] else [48 + (k : Int)]) := by simp [flg]
    have hl : A.length + 1 = (A ++ [112]).length := by simp
    rw [e]
    rw [flags_prt (by rw [List.append_assoc, peek_app0]; rfl) h2, hl, key (A ++ [112]) n { c with print := true } h1 h3]
    congr 2
    split <;> simp
/-- The script of an s. -/
def rplL (x y : List Int) (p : Bool) (k : Nat) : List Int := [115, 47] ++ (escR spec1 x ++ 47 :: (escR spec2 y ++ 47 :: flg p k))
def rplC (x y : List Int) (p : Bool) (k : Nat) : Cmd := flgC p k { what := 115, pat := ⟨x.map lit, 0⟩, repl := y.map litp }
theorem subst_read (x y pl : List Int) (p : Bool) (k : Nat) (hk : k ≤ 9) (hx : ∀ r ∈ x, r ∈ alpha) (hy : ∀ r ∈ y, r ∈ alpha) (hx8 : x.length ≤ 8) : substitution (rplL x y p k) pl { what := 115 } 1 = .ok (rplC x y p k, (rplL x y p k).length) := by
  have hlen : (rplL x y p k).length = 4 + (escR spec1 x).length + (escR spec2 y).length + (flg p k).length := by
    simp [rplL]; omega
  have hxl : x.length ≤ (escR spec1 x).length := by
    clear hx hx8 hlen
    induction x with
    | nil => simp
    | cons r x ih => rw [escR_cons]; simp; omega
  have hyl : y.length ≤ (escR spec2 y).length := by
    clear hy hlen
    induction y with
    | nil => simp
    | cons r y ih => rw [escR_cons]; simp; omega
  have hpat : patRead (rplL x y p k) pl 2 = .ok (⟨x.map lit, 0⟩, 2 + (escR spec1 x).length + 1) := by
    unfold patRead
    have := items_lit pl (escR spec2 y ++ 47 :: flg p k) x [115, 47] ((rplL x y p k).length + 1) [] hx (by omega) rfl
    have e : items (rplL x y p k) pl ((rplL x y p k).length + 1) ⟨2, [], 0, []⟩ = .ok ⟨2 + (escR spec1 x).length, x.map lit, 0, []⟩ := this
    rw [e]
    simp only
    rw [if_neg (by simp; omega), if_neg (by simp)]
  have eA : rplL x y p k = ([115, 47] ++ escR spec1 x ++ [47]) ++ (escR spec2 y ++ 47 :: flg p k) := by simp [rplL]
  have hA : ([115, 47] ++ escR spec1 x ++ [47] : List Int).length = 2 + (escR spec1 x).length + 1 := by simp; omega
  have hrep : replacement (rplL x y p k) pl 0 ((rplL x y p k).length + 1) [] (2 + (escR spec1 x).length + 1) = .ok (y.map litp, 2 + (escR spec1 x).length + 1 + (escR spec2 y).length + 1) := by
    have := repl_lit pl (flg p k) 0 y ([115, 47] ++ escR spec1 x ++ [47]) ((rplL x y p k).length + 1) [] hy (by omega)
    rw [← eA, hA, List.nil_append] at this
    exact this
  have eB : rplL x y p k = ([115, 47] ++ escR spec1 x ++ [47] ++ escR spec2 y ++ [47]) ++ flg p k := by simp [rplL]
  have hB : ([115, 47] ++ escR spec1 x ++ [47] ++ escR spec2 y ++ [47] : List Int).length = 2 + (escR spec1 x).length + 1 + (escR spec2 y).length + 1 := by simp; omega
  have hfl : flags (rplL x y p k) pl ((rplL x y p k).length + 1) { what := 115, pat := ⟨x.map lit, 0⟩, repl := y.map litp } (2 + (escR spec1 x).length + 1 + (escR spec2 y).length + 1) = .ok (rplC x y p k, (rplL x y p k).length) := by
    obtain ⟨n, hn⟩ : ∃ n, (rplL x y p k).length + 1 = n + 3 := ⟨(rplL x y p k).length - 2, by omega⟩
    have := flags_flg ([115, 47] ++ escR spec1 x ++ [47] ++ escR spec2 y ++ [47]) pl p k n hk { what := 115, pat := ⟨x.map lit, 0⟩, repl := y.map litp } rfl rfl rfl
    rw [← eB, hB] at this
    rw [hn]
    exact this
  unfold substitution
  have h1 : peek (rplL x y p k) 1 = 47 := rfl
  rw [h1, if_neg (by decide)]
  simp only [hpat, hrep]
  exact hfl
theorem litp_runes {r : Int} (h : Okr r) : runes ⟨(litp r).text.toArray⟩ = [r] := by
  have e : (⟨(litp r).text.toArray⟩ : ByteArray) = tx [r] := by
    show (⟨(utf8 r).toArray⟩ : ByteArray) = _
    rw [str_utf8, encode_tx2 h]
  rw [e]
  exact runes_ok (by intro x hx; simp at hx; subst hx; exact h)
theorem fill_litp (y : List Int) (h : ∀ r ∈ y, Okr r) (m : List Int) : fill (y.map litp) m = y := by
  unfold fill
  induction y with
  | nil => rfl
  | cons r y ih =>
    rw [List.map_cons, List.flatMap_cons, ih (fun r hr => h r (List.mem_cons_of_mem _ hr))]
    have : (litp r).kind = 0 := rfl
    rw [if_pos this, litp_runes (h r (List.mem_cons_self ..))]
    rfl
theorem lits_litp (y : List Int) (h : ∀ r ∈ y, Okr r) : Lits (y.map litp) := fun p hp => by
  obtain ⟨r, hr, rfl⟩ := List.mem_map.1 hp
  refine Or.inl ⟨rfl, ?_⟩
  have := encode_ok (h r hr)
  show (utf8 r).length ≤ 100000
  unfold utf8
  rw [this]
  have := (encR_len r).2
  omega
end Adz

theorem walks_rpl (x y : List Int) (p : Bool) (k : Nat) (hk : k ≤ 9) (hx : ∀ r ∈ x, r ∈ alpha) (hy : ∀ r ∈ y, r ∈ alpha) (hx8 : x.length ≤ 8) : Walks (Adz.rplL x y p k) (plc (Adz.rplL x y p k)) 1 ⟨0, [], [], []⟩ ⟨(Adz.rplL x y p k).length, [Adz.rplC x y p k], [], []⟩ := by
  refine ⟨⟨(Adz.rplL x y p k).length, [Adz.rplC x y p k], [], []⟩, fun g pp hL hpl hcap => ?_, rfl⟩
  exact gapOk_plain g pp ⟨0, [], [], []⟩ 115 (by rw [hL]; rfl) ⟨by decide, by decide, by decide, by decide, by decide, by decide, by decide, by decide, by decide⟩ 5 (by decide) (by decide) (by decide) (by simp) _ (Adz.rplL x y p k).length (Adz.rplL x y p k).length (behOk_s g pp _ 1 _ rfl _ _ (by rw [hL]; exact Adz.subst_read x y g.pl p k hk hx hy hx8)) (by show 1 ≤ (Adz.rplL x y p k).length; simp [Adz.rplL]) (Adz.tail_at (Or.inr (Or.inr (by rw [hL]; exact Adz.peek_end' _)))) (by show (115 : Int) ≠ 123; decide)
end Go.Proofs.YtbiobhghnldckaaGreatDoor
