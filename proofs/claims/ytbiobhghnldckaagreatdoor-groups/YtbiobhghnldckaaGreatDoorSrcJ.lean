/- Proved: what the functions of package source do to a cursor. Conditions: the cursor lies in memory as 'Cur' says. -/
import Derived.Test.YtbiobhghnldckaaGreatDoorProg
import Derived.Test.YtbiobhghnldckaaGreatDoorMemJ
import Derived.Test.YtbiobhghnldckaaGreatDoorSpecJ
import Derived.WalkKit
import Derived.BigQuiet
import Derived.Deep.QuietTactic
import Derived.Deep.LoopGhost
import Derived.Test.YtbiobhghnldckaaGreatDoorRune
namespace Go.Proofs.YtbiobhghnldckaaGreatDoor
open Go.RowKit
set_option linter.unusedVariables false

/-- Where a cursor lies, and the script that it goes through. -/
structure CG where
  c : Nat
  rb : Nat
  rcap : Nat
  pb : Nat
  pcap : Nat
  L : List Int
  pl : List Int

structure Cur (g : CG) (w : World) (i : Nat) : Prop where
  c0 : ∃ a, w.cell? ⟨g.c, 0, none⟩ = some (.slice a g.L.length g.rcap) ∧ (g.L.length ≠ 0 → a = some ⟨g.rb, 0, none⟩)
  c1 : w.cell? ⟨g.c, 1, none⟩ = some (.slice (some ⟨g.pb, 0, none⟩) (g.L.length + 1) g.pcap)
  c2 : w.cell? ⟨g.c, 2, none⟩ = some (.int .i64 i)
  f2 : w.frozen? ⟨g.c, 2, none⟩ = false
  rs : ∀ j, j < g.L.length → w.cell? ⟨g.rb, j, none⟩ = some (.int .i32 (Adz.peek g.L j))
  ps : ∀ j, j ≤ g.L.length → w.cell? ⟨g.pb, j, none⟩ = some (.int .i64 (Adz.place g.pl j))
  tc : Typ w g.c 144
  tr : g.L.length ≠ 0 → Typ w g.rb 21
  tp : Typ w g.pb 3
  rc : g.rb ≠ g.c
  pc : g.pb ≠ g.c
  le : i ≤ g.L.length
  small : g.L.length ≤ 500
  runes : ∀ j, j < g.L.length → 0 ≤ Adz.peek g.L j ∧ Adz.peek g.L j ≤ 1114111 ∧ Adz.peek g.L j ≠ 65533 ∧ Lib.validRune (Adz.peek g.L j) = true

theorem peek_end {g : CG} {w : World} {i : Nat} (h : Cur g w i) : Adz.peek g.L i = -1 ↔ g.L.length ≤ i := by
  constructor
  · intro e
    by_cases hl : i < g.L.length
    · have := (h.runes i hl).1; omega
    · omega
  · intro hl
    simp [Adz.peek, List.getElem?_eq_none hl]

/-- A cursor stays what it was where its blocks do. -/
theorem Cur.keeps {g : CG} {S : Nat → Prop} {w w' : World} {i : Nat} (h : Cur g w i) (o : Only S w w') (s0 : ¬ S g.c) (s1 : g.L.length ≠ 0 → ¬ S g.rb) (s2 : ¬ S g.pb) : Cur g w' i := by
  obtain ⟨a, h0, ha⟩ := h.c0
  exact ⟨⟨a, o.keeps h0 s0, ha⟩, o.keeps h.c1 s0, o.keeps h.c2 s0, o.keepsFrozen h.c2 h.f2 s0, fun j hj => o.keeps (h.rs j hj) (s1 (by omega)), fun j hj => o.keeps (h.ps j hj) s2, h.tc.keeps o s0, fun e => (h.tr e).keeps o (s1 e), h.tp.keeps o s2, h.rc, h.pc, h.le, h.small, h.runes⟩

theorem Cur.drewN {g : CG} {w : World} {i : Nat} (h : Cur g w i) (n : Nat) : Cur g (w.drewN n) i :=
  h.keeps (S := fun _ => False) ((Only.refl _ _).drewN n) id (fun _ => id) id

theorem Cur.lt {g : CG} {w : World} {i : Nat} (h : Cur g w i) : g.c < w.heap.size := h.tc.lt
theorem Cur.alloc {g : CG} {w : World} {i : Nat} (h : Cur g w i) (o : Obj) : Cur g (w.alloc o) i :=
  h.keeps (S := fun _ => False) ((Only.refl _ _).alloc o) id (fun _ => id) id

theorem cell_setCell_ne (w : World) (a b : Addr) (v : Value) (h : a.block ≠ b.block) : (w.setCell b v).cell? a = w.cell? a :=
  World.cell?_of_block (w := w) (Below.heap_setCell _ _ _ _ h)

/-- One step on. -/
theorem Cur.step {g : CG} {w : World} {i : Nat} (h : Cur g w i) (i' : Nat) (hl : i' ≤ g.L.length) : Cur g (w.setCell ⟨g.c, 2, none⟩ (.int .i64 i')) i' := by
  obtain ⟨a, h0, ha⟩ := h.c0
  refine ⟨⟨a, ?_, ha⟩, ?_, ?_, ?_, fun j hj => ?_, fun j hj => ?_, h.tc.setCell _ _, fun e => (h.tr e).setCell _ _, h.tp.setCell _ _, h.rc, h.pc, hl, h.small, h.runes⟩
  · rw [World.cell?_setCell_other _ _ _ _ (by simp)]; exact h0
  · rw [World.cell?_setCell_other _ _ _ _ (by simp)]; exact h.c1
  · rw [World.cell?_setCell_same _ _ _ h.c2]
  · rw [World.frozen?_setCell]; exact h.f2
  · rw [cell_setCell_ne _ _ _ _ (by simpa using h.rc)]; exact h.rs j hj
  · rw [cell_setCell_ne _ _ _ _ (by simpa using h.pc)]; exact h.ps j hj

set_option maxHeartbeats 400000 in
theorem peek_calls (g : CG) (w : World) (i : Nat) (h : Cur g w i) :
    Calls Tryz.prog 51 #[.pointer (some ⟨g.c, 0, none⟩)] w fun e w' => e = .returned (.int .i32 (Adz.peek g.L i)) ∧ ∃ n, w' = w.drewN n := by
  obtain ⟨a, h0, ha⟩ := h.c0
  have h2 := h.c2
  have hs := h.small
  have hle := h.le
  by_cases hlt : i < g.L.length
  · obtain rfl := ha (by omega)
    have hr := h.rs i hlt
    clear ha h
    go_enter Tryz.func51, Tryz.ntmps51
    go_wp2_with fail
    go_quiet (fail)
    go_wp2_with fail
    go_quiet (fail)
    go_wp2
    go_ret
    exact ⟨rfl, _, World.drewN_drewN _ _ _⟩
  · have he := (peek_end h).2 (by omega)
    rw [he]
    clear ha h he
    go_enter Tryz.func51, Tryz.ntmps51
    go_wp2_with fail
    go_quiet (fail)
    go_wp2
    go_ret
    exact ⟨rfl, _, rfl⟩

set_option maxHeartbeats 400000 in
theorem next_calls (g : CG) (w : World) (i : Nat) (h : Cur g w i) (hl : i < g.L.length) :
    Calls Tryz.prog 75 #[.pointer (some ⟨g.c, 0, none⟩)] w fun e w' => e = .returned (.int .i32 (Adz.peek g.L i)) ∧ Cur g w' (i + 1) ∧ Only (· = g.c) w w' := by
  have h2 := h.c2
  have f2 := h.f2
  have hs := h.small
  have hp := (h.runes i hl).1
  have hne : (Adz.peek g.L i != -1) = true := by rw [bne_iff_ne]; omega
  go_enter Tryz.func75, Tryz.ntmps75
  go_wp2_with fail
  refine (peek_calls g w i h).mono ?_
  rintro e w' ⟨rfl, n, rfl⟩
  go_wp2
  go_ret
  refine ⟨rfl, ?_, ?_⟩
  · have := (h.drewN n).step (i + 1) (by omega)
    rw [show ((i + 1 : Nat) : Int) = (i : Int) + 1 from by omega] at this
    exact this
  · exact Only.setCell (S := (· = g.c)) (p := ⟨g.c, 2, none⟩) ((Only.refl _ w).drewN n) (fun _ => rfl) _

theorem take_yes (g : CG) (w : World) (i : Nat) (r : Int) (h : Cur g w i) (hp : Adz.peek g.L i = r) (hr : 0 ≤ r) :
    Calls Tryz.prog 144 #[.pointer (some ⟨g.c, 0, none⟩), .int .i32 r] w fun e w' => e = .returned (.bool true) ∧ Cur g w' (i + 1) ∧ Only (· = g.c) w w' := by
  have hl : i < g.L.length := by
    have := (peek_end h)
    omega
  subst hp
  go_enter Tryz.func144, Tryz.ntmps144
  go_wp2_with fail
  refine (peek_calls g w i h).mono ?_
  rintro e w' ⟨rfl, n, rfl⟩
  go_wp2_with fail
  refine (next_calls g _ i (h.drewN n) hl).mono ?_
  rintro e w' ⟨rfl, hc, ho⟩
  go_wp2
  go_ret
  exact ⟨rfl, hc, ((Only.refl _ w).drewN n).trans ho (fun _ e => e) (fun _ _ e => e)⟩

theorem take_no (g : CG) (w : World) (i : Nat) (r : Int) (h : Cur g w i) (hp : Adz.peek g.L i ≠ r) :
    Calls Tryz.prog 144 #[.pointer (some ⟨g.c, 0, none⟩), .int .i32 r] w fun e w' => e = .returned (.bool false) ∧ ∃ n, w' = w.drewN n := by
  have hne : (Adz.peek g.L i != r) = true := by rw [bne_iff_ne]; exact hp
  go_enter Tryz.func144, Tryz.ntmps144
  go_wp2_with fail
  refine (peek_calls g w i h).mono ?_
  rintro e w' ⟨rfl, n, rfl⟩
  go_wp2
  go_ret
  exact ⟨rfl, n, rfl⟩

theorem place_calls (g : CG) (w : World) (i : Nat) (h : Cur g w i) :
    Calls Tryz.prog 101 #[.pointer (some ⟨g.c, 0, none⟩)] w fun e w' => e = .returned (.int .i64 (Adz.place g.pl i)) ∧ ∃ n, w' = w.drewN n := by
  have h1 := h.c1
  have h2 := h.c2
  have hp := h.ps i h.le
  have hl := h.le
  have hs := h.small
  clear h
  go_enter Tryz.func101, Tryz.ntmps101
  go_wp2_with fail
  go_quiet (fail)
  go_wp2
  go_ret
  exact ⟨rfl, _, rfl⟩

theorem isBlank_calls (r : Int) (w : World) : Calls Tryz.prog 74 #[.int .i32 r] w fun e w' => e = .returned (.bool (Adz.isBlank r)) ∧ w' = w := by
  by_cases h : r = 32
  · have hb : (r == 32) = true := by simp [h]
    subst h
    go_enter Tryz.func74, Tryz.ntmps74
    go_wp2
    go_ret
    exact ⟨rfl, rfl⟩
  · have hb : (r == 32) = false := by simp [h]
    have e : Adz.isBlank r = (r == 9) := by simp [Adz.isBlank, hb]
    rw [e]
    go_enter Tryz.func74, Tryz.ntmps74
    go_wp2
    go_ret
    exact ⟨rfl, rfl⟩

theorem isDigit_calls (r : Int) (w : World) : Calls Tryz.prog 168 #[.int .i32 r] w fun e w' => e = .returned (.bool (Adz.isDigit r)) ∧ w' = w := by
  by_cases h : 48 ≤ r
  · have hb : decide (48 ≤ r) = true := by simp [h]
    have e : Adz.isDigit r = decide (r ≤ 57) := by simp [Adz.isDigit, h]
    rw [e]
    go_enter Tryz.func168, Tryz.ntmps168
    go_wp2
    go_ret
    exact ⟨rfl, rfl⟩
  · have hb : decide (48 ≤ r) = false := by simp [h]
    have e : Adz.isDigit r = false := by simp [Adz.isDigit, h]
    rw [e]
    go_enter Tryz.func168, Tryz.ntmps168
    go_wp2
    go_ret
    exact ⟨rfl, rfl⟩

theorem isLetter_calls (r : Int) (w : World) : Calls Tryz.prog 171 #[.int .i32 r] w fun e w' => e = .returned (.bool (Adz.isLetter r)) ∧ w' = w := by
  by_cases h : 97 ≤ r
  · have hb : decide (97 ≤ r) = true := by simp [h]
    have e : Adz.isLetter r = decide (r ≤ 122) := by simp [Adz.isLetter, h]
    rw [e]
    go_enter Tryz.func171, Tryz.ntmps171
    go_wp2
    go_ret
    exact ⟨rfl, rfl⟩
  · have hb : decide (97 ≤ r) = false := by simp [h]
    have e : Adz.isLetter r = false := by simp [Adz.isLetter, h]
    rw [e]
    go_enter Tryz.func171, Tryz.ntmps171
    go_wp2
    go_ret
    exact ⟨rfl, rfl⟩

theorem tell_calls (a b : Int) (w : World) : Calls Tryz.prog 48 #[.int .i64 a, .int .i64 b] w fun e w' =>
    e = .returned (.pointer (some ⟨w.heap.size, 0, none⟩)) ∧ w' = w.alloc (.cells #[.int .i64 a, .int .i64 b] 73) := by
  go_enter Tryz.func48, Tryz.ntmps48
  go_wp2
  go_ret
  exact ⟨rfl, rfl⟩

theorem blanks_calls (g : CG) (w : World) (i : Nat) (h : Cur g w i) :
    Calls Tryz.prog 145 #[.pointer (some ⟨g.c, 0, none⟩)] w fun e w' => e = .returned (.tuple #[]) ∧ Cur g w' (Adz.blanks g.L i) ∧ Only (· = g.c) w w' := by
  go_enter Tryz.func145, Tryz.ntmps145
  go_wp2_with fail
  go_loopg [] (g.L.length - i) (fun k wr => ∃ j, Hid (Cur g wr j) ∧ j + k = g.L.length ∧ Hid (Adz.blanks g.L j = Adz.blanks g.L i) ∧ Hid (Only (· = g.c) w wr))
  case atStart => exact ⟨i, h, by have := h.le; omega, rfl, Only.refl _ _⟩
  case round =>
    obtain ⟨j, hc, hk, hb, ho⟩ := hrel
    have HK : Hid (j + gk = g.L.length) := hk
    clear hk
    by_cases hbl : Adz.isBlank (Adz.peek g.L j) = true
    · have hl : j < g.L.length := Adz.lt_of_blank hbl
      go_wp2_with fail
      refine (peek_calls g wr j hc).mono ?_
      rintro e w' ⟨rfl, n, rfl⟩
      go_wp2_with fail
      refine (isBlank_calls _ _).mono ?_
      rintro e w' ⟨rfl, rfl⟩
      go_wp2_with fail
      refine (next_calls g _ j (Cur.drewN hc n) hl).mono ?_
      rintro e w' ⟨rfl, hc', ho'⟩
      go_wp2
      go_roundg (gk - 1)
      case measure => have := HK.out; omega
      case rel => exact ⟨j + 1, hc', by have := HK.out; omega, (Adz.blanks_step hbl).symm.trans hb, (Only.drewN ho n).trans ho' (fun _ e => e) (fun _ _ e => e)⟩
    · have hbf : Adz.isBlank (Adz.peek g.L j) = false := by simpa using hbl
      go_wp2_with fail
      refine (peek_calls g wr j hc).mono ?_
      rintro e w' ⟨rfl, n, rfl⟩
      go_wp2_with fail
      refine (isBlank_calls _ _).mono ?_
      rintro e w' ⟨rfl, rfl⟩
      go_wp2
      go_end0
      refine ⟨rfl, ?_, Only.drewN ho n⟩
      rw [← Hid.out hb, Adz.blanks_stop hbf]
      exact Cur.drewN hc n
end Go.Proofs.YtbiobhghnldckaaGreatDoor

/- Proved: source.Escaped and source.Plain, where they find what may stand. Conditions: the cursor lies in memory as 'Cur' says. -/
namespace Go.Proofs.YtbiobhghnldckaaGreatDoor
open Go.RowKit
set_option linter.unusedVariables false

/-- A constant text of ASCII, as the list of its runes. -/
structure Asc (s : ByteArray) (may : List Int) : Prop where
  eq : s.data.toList.map (fun b => (b.toNat : Int)) = may
  asc : ∀ c ∈ may, 0 ≤ c ∧ c < 128
  len : may.length ≤ 1000

set_option maxHeartbeats 400000 in
theorem escaped_ok (g : CG) (w : World) (i : Nat) (s : ByteArray) (may : List Int) (hs : Asc s may) (h : Cur g w i) (r : Int) (i' : Nat) (hr : Adz.escaped g.L g.pl may i = .ok (r, i')) :
    Calls Tryz.prog 216 #[.pointer (some ⟨g.c, 0, none⟩), .string s] w fun e w' => e = .returned (.tuple #[.int .i32 r, .pointer none]) ∧ Cur g w' i' ∧ Only (· = g.c) w w' := by
  unfold Adz.escaped at hr
  by_cases hn : Adz.peek g.L i = 110
  · simp [hn] at hr
    obtain ⟨rfl, rfl⟩ := hr
    go_enter Tryz.func216, Tryz.ntmps216
    go_wp2_with fail
    refine (take_yes g w i 110 h hn (by omega)).mono ?_
    rintro e w' ⟨rfl, hc, ho⟩
    go_wp2
    go_ret2
    exact ⟨rfl, hc, ho⟩
  · have hb : (Adz.peek g.L i == 110) = false := by simp [hn]
    rw [hb] at hr
    by_cases hm : may.contains (Adz.peek g.L i) = true
    · rw [hm] at hr
      simp at hr
      obtain ⟨rfl, rfl⟩ := hr
      have hmem : Adz.peek g.L i ∈ may := by simpa using hm
      have hl : i < g.L.length := Adz.lt_of_peek (by have := (hs.asc _ hmem).1; omega)
      obtain ⟨q0, q1, q2, q3⟩ := h.runes i hl
      have HM : Hid (may.contains (Adz.peek g.L i) = true) := hm
      have HV : Hid (Lib.validRune (Adz.peek g.L i) = true) := q3
      clear hm q3 hb
      go_enter Tryz.func216, Tryz.ntmps216
      go_wp2_with fail
      refine (take_no g w i 110 h hn).mono ?_
      rintro e w' ⟨rfl, n, rfl⟩
      go_wp2_with fail
      refine (peek_calls g _ i (h.drewN n)).mono ?_
      rintro e w' ⟨rfl, n2, rfl⟩
      go_wp2_with fail
      refine (containsRune_calls s may _ _ hs.eq (fun c hc => (hs.asc c hc).2) hs.len q0 q1 q2 HV.out).mono ?_
      rintro e w' ⟨rfl, n3, rfl⟩
      rw [HM.out]
      go_wp2_with fail
      refine (next_calls g _ i (h.drewN _) hl).mono ?_
      rintro e w' ⟨rfl, hc, ho⟩
      go_wp2
      go_ret2
      exact ⟨rfl, hc, ((Only.refl _ w).drewN _).trans ho (fun _ e => e) (fun _ _ e => e)⟩
    · simp only [Bool.not_eq_true] at hm
      rw [hm] at hr
      simp at hr

set_option maxHeartbeats 400000 in
theorem plain_ok (g : CG) (w : World) (i : Nat) (s : ByteArray) (but : List Int) (hs : Asc s but) (h : Cur g w i) (r : Int) (i' : Nat) (hr : Adz.plain g.L g.pl but i = .ok (r, i')) :
    Calls Tryz.prog 215 #[.pointer (some ⟨g.c, 0, none⟩), .string s] w fun e w' => e = .returned (.tuple #[.int .i32 r, .pointer none]) ∧ Cur g w' i' ∧ Only (· = g.c) w w' := by
  unfold Adz.plain at hr
  by_cases hbad : (Adz.peek g.L i == -1 || Adz.peek g.L i == 10 || but.contains (Adz.peek g.L i)) = true
  · rw [if_pos hbad] at hr
    cases hr
  · rw [if_neg hbad] at hr
    simp only [Except.ok.injEq, Prod.mk.injEq] at hr
    obtain ⟨rfl, rfl⟩ := hr
    simp only [Bool.not_eq_true, Bool.or_eq_false_iff] at hbad
    obtain ⟨⟨b1, b2⟩, b3⟩ := hbad
    have hl : i < g.L.length := Adz.lt_of_peek (by simpa using b1)
    obtain ⟨q0, q1, q2, q3⟩ := h.runes i hl
    have HM : Hid (but.contains (Adz.peek g.L i) = false) := b3
    have HV : Hid (Lib.validRune (Adz.peek g.L i) = true) := q3
    clear b3 q3
    go_enter Tryz.func215, Tryz.ntmps215
    go_wp2_with fail
    refine (peek_calls g w i h).mono ?_
    rintro e w' ⟨rfl, n, rfl⟩
    go_wp2_with fail
    refine (containsRune_calls s but _ _ hs.eq (fun c hc => (hs.asc c hc).2) hs.len q0 q1 q2 HV.out).mono ?_
    rintro e w' ⟨rfl, n2, rfl⟩
    rw [HM.out]
    go_wp2_with fail
    refine (next_calls g _ i (h.drewN _) hl).mono ?_
    rintro e w' ⟨rfl, hc, ho⟩
    go_wp2
    go_ret2
    exact ⟨rfl, hc, ((Only.refl _ w).drewN _).trans ho (fun _ e => e) (fun _ _ e => e)⟩
end Go.Proofs.YtbiobhghnldckaaGreatDoor
