/- Proved: a script that is one s, read and run over a text of one line. Conditions: what the script's runes are, what the s and the text ask, and what the library's variables hold. -/
import Derived.Test.YtbiobhghnldckaaGreatDoorRun2
namespace Go.Proofs.YtbiobhghnldckaaGreatDoor
open Go.RowKit
set_option linter.unusedVariables false

theorem one_of_prog {w : World} {pb : Nat} {c : Adz.Cmd} (h : ProgAt w pb [c]) (hw : c.what = 115) (ha : c.addrs = []) (hn : c.neg = false) : ∃ g cap, w.cell? ⟨pb, 0, none⟩ = some (.slice (some ⟨g, 0, none⟩) 1 cap) ∧ OneCmd w g c := by
  obtain ⟨qv, xs, p1, p2, p3, p4⟩ := h
  rcases p2.2 with ⟨_, h0⟩ | ⟨g, cap, cur, rfl, _, hg, hcap, _, hsz, htake⟩
  · simp at h0
  · refine ⟨g, cap, p1, ?_⟩
    match xs, p3 with
    | x0 :: x1 :: x2 :: x3 :: x4 :: x5 :: x6 :: x7 :: x8 :: x9 :: x10 :: x11 :: x12 :: x13 :: xs, p3 =>
      obtain ⟨⟨av, iv, rv, fv, tv, hx, hd⟩, _⟩ := p3
      have hcell : ∀ o u, o < 14 → (cmdCells c av iv rv fv tv)[o]? = some u → w.cell? ⟨g, o, none⟩ = some u := by
        intro o u ho hu
        rw [cell_of_row _ g o cur _ (0, 0) hg]
        rw [← hx] at hu
        have h2 : (x0 :: x1 :: x2 :: x3 :: x4 :: x5 :: x6 :: x7 :: x8 :: x9 :: x10 :: x11 :: x12 :: x13 :: xs)[o]? = some u := by
          have e : (x0 :: x1 :: x2 :: x3 :: x4 :: x5 :: x6 :: x7 :: x8 :: x9 :: x10 :: x11 :: x12 :: x13 :: xs) = [x0, x1, x2, x3, x4, x5, x6, x7, x8, x9, x10, x11, x12, x13] ++ xs := rfl
          rw [e, List.getElem?_append_left (by simp; omega)]
          exact hu
        rw [← htake, List.getElem?_take, if_pos (by simp; omega), Array.getElem?_toList] at h2
        exact h2
      obtain ⟨ivs, a1, _⟩ := hd.a
      rw [ha] at a1
      obtain ⟨aa, ac, rfl⟩ := row_shape a1
      obtain ⟨pa, pc, rfl⟩ := row_shape hd.r
      have c0 := hcell 0 _ (by omega) rfl
      have c2 := hcell 2 _ (by omega) rfl
      rw [hw] at c0
      rw [hn] at c2
      exact ⟨c0, ⟨aa, ac, hcell 1 _ (by omega) rfl⟩, c2, ⟨⟨cur, (0, 0), hg⟩, ⟨iv, hcell 6 _ (by omega) rfl, hd.i⟩, ⟨pa, pc, hcell 8 _ (by omega) rfl, hd.r⟩, hcell 9 _ (by omega) rfl, hcell 10 _ (by omega) rfl, hcell 11 _ (by omega) rfl⟩⟩

set_option maxRecDepth 100000 in
set_option maxHeartbeats 1600000 in
theorem scriptEdit_s (c : Adz.Cmd) (sb : Nat) (w : World) (ht : Tabs w) (hs : ScriptAt w sb [c]) (hw : c.what = 115) (ha : c.addrs = []) (hn : c.neg = false) (s : ByteArray) (q : Bool) (h1 : OneLine s c) :
    Calls Tryz.prog 26 #[.pointer (some ⟨sb, 0, none⟩), .string s, .bool q] w fun e w' => e = .returned (.tuple #[.string ⟨(Adz.told q [] (Adz.subst (Adz.runes (lineOf s)) c)).toArray⟩, .int .i64 0]) ∧ Only (fun _ => False) w w' := by
  obtain ⟨pb, p1, p2⟩ := hs.prog
  obtain ⟨g, cap, g1, g2⟩ := one_of_prog p2 hw ha hn
  have hcall := run_s c pb g cap w ht g1 g2 s q h1
  generalize (⟨(Adz.told q [] (Adz.subst (Adz.runes (lineOf s)) c)).toArray⟩ : ByteArray) = out at *
  go_enter Tryz.func26, Tryz.ntmps26
  go_wp2_with fail
  refine hcall.mono ?_
  rintro e w1 ⟨rfl, o1⟩
  go_wp2
  go_ret2
  exact ⟨rfl, o1⟩

/-- A script that is one s. -/
structure IsS (sc : ByteArray) (c : Adz.Cmd) : Prop where
  read : ∃ L pl, Dec sc L pl ∧ OneS L pl c
  what : c.what = 115
  addrs : c.addrs = []
  neg : c.neg = false

set_option maxRecDepth 100000 in
set_option maxHeartbeats 1600000 in
theorem edit_s (sc : ByteArray) (c : Adz.Cmd) (hsc : IsS sc c) (w : World) (ht : Tabs w) (s : ByteArray) (q : Bool) (h1 : OneLine s c) :
    Calls Tryz.prog 20 #[.string sc, .string s, .bool q] w fun e w' => e = .returned (.tuple #[.string ⟨(Adz.told q [] (Adz.subst (Adz.runes (lineOf s)) c)).toArray⟩, .bool true]) ∧ Only (fun _ => False) w w' := by
  obtain ⟨L, pl, hd, h1s⟩ := hsc.read
  have hparse := parse_s sc L pl hd c h1s w
  have hedit := fun (u : World) (hu : Tabs u) (sb : Nat) (hb : ScriptAt u sb [c]) => scriptEdit_s c sb u hu hb hsc.what hsc.addrs hsc.neg s q h1
  generalize (⟨(Adz.told q [] (Adz.subst (Adz.runes (lineOf s)) c)).toArray⟩ : ByteArray) = out at *
  go_enter Tryz.func20, Tryz.ntmps20
  go_wp2_with fail
  refine hparse.mono ?_
  rintro e w1 ⟨sb, rfl, hsb, o1, _⟩
  have hcall := hedit w1 (ht.keeps o1) sb hsb
  clear hedit hparse
  go_wp2_with fail
  refine hcall.mono ?_
  rintro e w2 ⟨rfl, o2⟩
  go_wp2
  go_ret2
  exact ⟨rfl, o1.trans o2 (fun _ e => e.elim) (fun _ _ e => e)⟩
end Go.Proofs.YtbiobhghnldckaaGreatDoor

/- Proved: what the scripts and the texts of adzekeep.Groups are, and what the scripts make of the texts: reckoned by the kernel. No condition. -/
namespace Go.Proofs.YtbiobhghnldckaaGreatDoor
open Go.RowKit
set_option linter.unusedVariables false

def placesGo (s : ByteArray) : Nat → Nat → List Int
  | 0, i => [(i : Int)]
  | b + 1, i => if i < s.size then (i : Int) :: placesGo s b (i + (Utf8.decode s i).2) else [(i : Int)]
def placesOf (s : ByteArray) : List Int := placesGo s s.size 0
def stepB (s : ByteArray) (L pl : List Int) (k : Nat) : Bool :=
  decide (0 ≤ Adz.place pl k) && decide (0 ≤ Adz.place pl (k + 1)) && decide ((Adz.place pl k).toNat < s.size) && decide (((Utf8.decode s (Adz.place pl k).toNat).1 : Int) = Adz.peek L k) && decide ((Adz.place pl k).toNat + (Utf8.decode s (Adz.place pl k).toNat).2 = (Adz.place pl (k + 1)).toNat) &&
  decide (0 ≤ Adz.peek L k) && decide (Adz.peek L k ≤ 1114111) && decide (Adz.peek L k ≠ 65533) && Lib.validRune (Adz.peek L k)
def decB (s : ByteArray) (L pl : List Int) : Bool :=
  decide (pl.length = L.length + 1) && decide (Adz.place pl 0 = 0) && decide (Adz.place pl L.length = s.size) && decide (s.size ≤ 500) && decide (L.length ≤ 500) && (List.range L.length).all (stepB s L pl)
theorem dec_of {s : ByteArray} {L pl : List Int} (h : decB s L pl = true) : Dec s L pl := by
  simp only [decB, Bool.and_eq_true, decide_eq_true_eq] at h
  obtain ⟨⟨⟨⟨⟨h1, h2⟩, h3⟩, h4⟩, h5⟩, h6⟩ := h
  have hk : ∀ k, k < L.length → stepB s L pl k = true := fun k hk => List.all_eq_true.1 h6 k (List.mem_range.2 hk)
  refine ⟨h1, h2, h3, fun k hk' => ?_, h4, h5, fun k hk' => ?_⟩
  · have := hk k hk'
    simp only [stepB, Bool.and_eq_true, decide_eq_true_eq] at this
    obtain ⟨⟨⟨⟨⟨⟨⟨⟨a1, a2⟩, a3⟩, a4⟩, a5⟩, _⟩, _⟩, _⟩, _⟩ := this
    exact ⟨(Adz.place pl k).toNat, (Adz.place pl (k + 1)).toNat, by omega, by omega, a3, a4, a5⟩
  · have := hk k hk'
    simp only [stepB, Bool.and_eq_true, decide_eq_true_eq] at this
    obtain ⟨⟨⟨⟨_, b1⟩, b2⟩, b3⟩, b4⟩ := this
    exact ⟨b1, b2, b3, b4⟩

/-- The command of a script that is one s. -/
def cmdOf (sc : ByteArray) : Adz.Cmd :=
  match Adz.command (Adz.runes sc) (placesOf sc) ⟨0, [], [], []⟩ with
  | .ok p => p.cmds.headD {}
  | .error _ => {}
def oneB : List Adz.Cmd → Bool
  | [_] => true
  | _ => false
theorem one_of : ∀ {l : List Adz.Cmd}, oneB l = true → l = [l.headD {}]
  | [], h => by simp [oneB] at h
  | [_], _ => rfl
  | _ :: _ :: _, h => by simp [oneB] at h
def cmdB (sc : ByteArray) : Bool :=
  match Adz.command (Adz.runes sc) (placesOf sc) ⟨0, [], [], []⟩ with
  | .ok p => decide (p.i = (Adz.runes sc).length) && oneB p.cmds && p.opens.isEmpty && p.labs.isEmpty
  | .error _ => false
def isSB (sc : ByteArray) : Bool :=
  decB sc (Adz.runes sc) (placesOf sc) && decide (Adz.peek (Adz.runes sc) 0 = 115) && cmdB sc && decide ((cmdOf sc).what = 115) && (cmdOf sc).addrs.isEmpty && decide ((cmdOf sc).neg = false)
theorem isS_of {sc : ByteArray} (h : isSB sc = true) : IsS sc (cmdOf sc) := by
  simp only [isSB, Bool.and_eq_true, decide_eq_true_eq, List.isEmpty_iff] at h
  obtain ⟨⟨⟨⟨⟨h1, h2⟩, h3⟩, h4⟩, h5⟩, h6⟩ := h
  refine ⟨⟨Adz.runes sc, placesOf sc, dec_of h1, h2, ?_⟩, h4, h5, h6⟩
  unfold cmdB at h3
  unfold cmdOf
  split at h3
  · rename_i p hp
    rw [hp]
    simp only [Bool.and_eq_true, decide_eq_true_eq, List.isEmpty_iff] at h3
    obtain ⟨⟨⟨a1, a2⟩, a3⟩, a4⟩ := h3
    have a2 := one_of a2
    obtain ⟨pi, pc, po, pl⟩ := p
    simp only at a1 a2 a3 a4 ⊢
    rw [← a2, a1, a3, a4]
  · simp at h3

def insideB (f t : Int) (n : Nat) : Bool := decide (0 ≤ f) && (decide (f ≤ t) && decide (t ≤ n))
theorem inside_of {f t : Int} {n : Nat} (h : insideB f t n = true) : Adz.inside f t n := by
  simp only [insideB, Bool.and_eq_true, decide_eq_true_eq] at h
  exact h
def fitsB (m : List Int) (n : Nat) (p : Adz.Part) : Bool := (decide (p.kind = 0) && decide (p.text.length ≤ 100000)) || (decide (p.kind = 1) || (decide (p.kind = 2) && (decide (1 ≤ p.group) && (decide (p.group ≤ 9) && insideB (m.getD (p.group.toNat * 2) 0) (m.getD (p.group.toNat * 2 + 1) 0) n))))
theorem fits_of {m : List Int} {n : Nat} {p : Adz.Part} (h : fitsB m n p = true) : Adz.fits m n p := by
  simp only [fitsB, Bool.or_eq_true, Bool.and_eq_true, decide_eq_true_eq] at h
  rcases h with h | h | ⟨h1, h2, h3, h4⟩
  · exact Or.inl h
  · exact Or.inr (Or.inl h)
  · exact Or.inr (Or.inr ⟨h1, h2, h3, inside_of h4⟩)
def okRunB (sp : List Int) (nth : Int) (all : Bool) (ps : List Adz.Part) : List (List Int) → Int → Nat → List Int → Bool
  | [], _, k, ch => decide (k ≤ sp.length) && decide (ch.length ≤ 20000000)
  | m :: ms, n, k, ch =>
    decide (m.length = 20) && (insideB k (m.getD 0 0) sp.length && (insideB (m.getD 0 0) (m.getD 1 0) sp.length && (decide (ch.length ≤ 20000000) && (decide (k ≤ sp.length) &&
    if n + 1 < nth then okRunB sp nth all ps ms (n + 1) k ch
    else ps.all (fitsB m sp.length) && (decide ((Adz.replAll sp m ps).length ≤ 20000000) && (decide (((ch ++ Adz.seg sp k (m.getD 0 0)) ++ Adz.replAll sp m ps).length ≤ 20000000) &&
      (!all || okRunB sp nth all ps ms (n + 1) (m.getD 1 0).toNat ((ch ++ Adz.seg sp k (m.getD 0 0)) ++ Adz.replAll sp m ps))))))))
theorem okRun_of (sp : List Int) (nth : Int) (all : Bool) (ps : List Adz.Part) : ∀ (ms : List (List Int)) (n : Int) (k : Nat) (ch : List Int), okRunB sp nth all ps ms n k ch = true → Adz.okRun sp nth all ps ms n k ch
  | [], _, k, ch, h => by
    simp only [okRunB, Bool.and_eq_true, decide_eq_true_eq] at h
    exact h
  | m :: ms, n, k, ch, h => by
    unfold okRunB at h
    unfold Adz.okRun
    simp only [Bool.and_eq_true, decide_eq_true_eq] at h
    obtain ⟨h1, h2, h3, h4, h5, h6⟩ := h
    refine ⟨h1, inside_of h2, inside_of h3, h4, h5, ?_⟩
    split
    · rename_i hn
      rw [if_pos hn] at h6
      exact okRun_of sp nth all ps ms _ _ _ h6
    · rename_i hn
      rw [if_neg hn] at h6
      simp only [Bool.and_eq_true, Bool.or_eq_true, Bool.not_eq_true', decide_eq_true_eq] at h6
      obtain ⟨g1, g2, g3, g4⟩ := h6
      refine ⟨fun p hp => fits_of (List.all_eq_true.1 g1 p hp), g2, g3, fun ha => ?_⟩
      rcases g4 with g4 | g4
      · rw [ha] at g4; cases g4
      · exact okRun_of sp nth all ps ms _ _ _ g4

def fineB (sp : List Int) (c : Adz.Cmd) : Bool :=
  decide (c.pat.items.length ≤ 1000) && c.pat.items.all (fun x => decide (x.spans.length ≤ 1000)) && decide (sp.length ≤ 400) && c.pat.items.all (fun x => decide (1 ≤ x.group ∧ x.group ≤ 9 ∨ (x.kind ≠ 2 ∧ x.kind ≠ 3))) && decide (c.repl.length ≤ 1000) && okRunB sp c.nth c.all c.repl (Adz.matches_ sp c.pat.items) 0 0 [] && decide (c.print = false) && decide ((Adz.subst sp c).length ≤ 400)
theorem fine_of {sp : List Int} {c : Adz.Cmd} (h : fineB sp c = true) : Fine sp c := by
  simp only [fineB, Bool.and_eq_true, decide_eq_true_eq] at h
  obtain ⟨⟨⟨⟨⟨⟨⟨h1, h2⟩, h3⟩, h4⟩, h5⟩, h6⟩, h7⟩, h8⟩ := h
  exact ⟨h1, fun x hx => of_decide_eq_true (List.all_eq_true.1 h2 x hx), h3, fun x hx => of_decide_eq_true (List.all_eq_true.1 h4 x hx), h5, okRun_of _ _ _ _ _ _ _ _ h6, h7, h8⟩
def lineB (s : ByteArray) (c : Adz.Cmd) : Bool :=
  simple s.data.toList && decide (s.size ≤ 24) && decide (0 < s.size) && decide ((lineOf s).size ≤ 3000) && decide (Lib.countB (lineOf s) ⟨#[10]⟩ = 0) && fineB (Adz.runes (lineOf s)) c && decide ((runesBytes (Adz.subst (Adz.runes (lineOf s)) c)).size + 1 ≤ 8000)
theorem line_of {s : ByteArray} {c : Adz.Cmd} (h : lineB s c = true) : OneLine s c := by
  simp only [lineB, Bool.and_eq_true, decide_eq_true_eq] at h
  obtain ⟨⟨⟨⟨⟨⟨h1, h2⟩, h3⟩, h4⟩, h5⟩, h6⟩, h7⟩ := h
  exact ⟨h1, h2, h3, h4, h5, rfl, fine_of h6, h7⟩
/-- What a script makes of a text. -/
def made (sc s : ByteArray) (q : Bool) : List UInt8 := Adz.told q [] (Adz.subst (Adz.runes (lineOf s)) (cmdOf sc))
def allB (sc s : ByteArray) (q : Bool) (out : List UInt8) : Bool := isSB sc && lineB s (cmdOf sc) && decide (made sc s q = out)

theorem edit_all (sc s : ByteArray) (q : Bool) (out : List UInt8) (h : allB sc s q out = true) (w : World) (ht : Tabs w) :
    Calls Tryz.prog 20 #[.string sc, .string s, .bool q] w fun e w' => e = .returned (.tuple #[.string ⟨out.toArray⟩, .bool true]) ∧ Only (fun _ => False) w w' := by
  simp only [allB, Bool.and_eq_true, decide_eq_true_eq] at h
  obtain ⟨⟨h1, h2⟩, h3⟩ := h
  rw [← h3]
  exact edit_s sc (cmdOf sc) (isS_of h1) w ht s q (line_of h2)

theorem opened1 : allB ⟨#[115, 47, 97, 47, 98, 47, 50]⟩ ⟨#[98, 97, 110, 97, 110, 97, 10]⟩ false [98, 97, 110, 98, 110, 97, 10] = true := by decide +kernel
theorem opened2 : allB ⟨#[115, 47, 97, 42, 47, 120, 47, 103]⟩ ⟨#[98, 97, 97, 99]⟩ true [] = true := by decide +kernel
end Go.Proofs.YtbiobhghnldckaaGreatDoor

/- Proved: adzekeep.opened, adzekeep.pick, adzekeep.Groups answer as they should. Conditions: what the library's variables hold. -/
namespace Go.Proofs.YtbiobhghnldckaaGreatDoor
open Go.RowKit
set_option linter.unusedVariables false

set_option maxRecDepth 100000 in
set_option maxHeartbeats 1600000 in
theorem pick_calls (c : Int) (n : Nat) (w : World) (hc : -9223372036854775808 ≤ c ∧ c ≤ 9223372036854775807) (hn : 0 < n) (hn2 : n ≤ 1000) :
    Calls Tryz.prog 22 #[.int .i64 c, .int .i64 n] w fun e w' => ∃ r : Nat, e = .returned (.int .i64 r) ∧ r < n ∧ w' = w := by
  have hn0 : (n : Int) ≠ 0 := by omega
  have key : ∀ a : Int, 0 ≤ a → ∃ r : Nat, a.tmod n = r ∧ r < n := fun a ha => by
    have h1 := Int.tmod_nonneg (n : Int) ha
    have h2 := Int.tmod_lt_of_pos a (show (0 : Int) < n by omega)
    exact ⟨(a.tmod n).toNat, by omega, by omega⟩
  by_cases h0 : c < 0
  · have w1 : IntKind.i64.wrap (c + 1) = c + 1 := by rw [IntKind.wrap_i64]; omega
    have w2 : IntKind.i64.wrap (-(c + 1)) = -(c + 1) := by rw [IntKind.wrap_i64]; omega
    obtain ⟨r, hr, hr2⟩ := key (-(c + 1)) (by omega)
    have w3 : IntKind.i64.wrap ((-(c + 1)).tmod n) = r := by rw [hr, IntKind.wrap_i64]; omega
    go_enter Tryz.func22, Tryz.ntmps22
    go_wp2
    go_ret
    exact ⟨r, rfl, hr2, rfl⟩
  · obtain ⟨r, hr, hr2⟩ := key c (by omega)
    have w3 : IntKind.i64.wrap (c.tmod n) = r := by rw [hr, IntKind.wrap_i64]; omega
    go_enter Tryz.func22, Tryz.ntmps22
    go_wp2
    go_ret
    exact ⟨r, rfl, hr2, rfl⟩

set_option maxRecDepth 100000 in
set_option maxHeartbeats 1600000 in
theorem opened_calls (w : World) (ht : Tabs w) :
    Calls Tryz.prog 18 #[] w fun e w' => e = .returned (.bool true) ∧ Only (fun _ => False) w w' := by
  have c1 := edit_all _ _ _ _ opened1 w ht
  have c2 := fun (u : World) (hu : Tabs u) => edit_all _ _ _ _ opened2 u hu
  go_enter Tryz.func18, Tryz.ntmps18
  go_wp2_with fail
  refine c1.mono ?_
  clear c1
  rintro e w1 ⟨rfl, o1⟩
  have c2' := c2 w1 (ht.keeps o1)
  clear c2
  go_wp2_with fail
  refine c2'.mono ?_
  rintro e w2 ⟨rfl, o2⟩
  go_wp2
  go_ret
  exact ⟨rfl, o1.trans o2 (fun _ e => e) (fun _ _ e => e)⟩
end Go.Proofs.YtbiobhghnldckaaGreatDoor
