/- Proved: a number, and the parts of a replacement, are read, where they may stand. Conditions: the cursor lies in memory as 'Cur' says, and the parser leads to it. -/
import Derived.Test.YtbiobhghnldckaaGreatDoorMaps
import Derived.Test.YtbiobhghnldckaaGreatDoorSpecJ
namespace Go.Proofs.YtbiobhghnldckaaGreatDoor
open Go.RowKit
set_option linter.unusedVariables false
attribute [local go_sem ↓] Go.wp_at_zero Go.wp_at_succ

/-- The parser at pp leads to the cursor. -/
structure Lead (g : CG) (pp : Nat) (w : World) : Prop where
  at0 : w.cell? ⟨pp, 0, none⟩ = some (.pointer (some ⟨g.c, 0, none⟩))
  ne : pp ≠ g.c
  typ : Typ w pp 119
theorem Lead.keeps {g : CG} {pp : Nat} {S : Nat → Prop} {w w' : World} (h : Lead g pp w) (o : Only S w w') (hs : ¬ S pp) : Lead g pp w' := ⟨o.keeps h.at0 hs, h.ne, h.typ.keeps o hs⟩
theorem Lead.moved {g : CG} {pp : Nat} {w w' : World} (h : Lead g pp w) (o : Only (· = g.c) w w') : Lead g pp w' := h.keeps o h.ne
theorem Lead.drewN {g : CG} {pp : Nat} {w : World} (h : Lead g pp w) (n : Nat) : Lead g pp (w.drewN n) := h.moved ((Only.refl _ w).drewN n)
theorem Lead.alloc {g : CG} {pp : Nat} {w : World} (h : Lead g pp w) (o : Obj) : Lead g pp (w.alloc o) := h.moved ((Only.refl _ w).alloc o)
theorem Lead.lt {g : CG} {pp : Nat} {w : World} (h : Lead g pp w) : pp < w.heap.size := World.block_lt_of_cell? w _ h.at0

set_option maxHeartbeats 800000 in
theorem number_ok (g : CG) (pp : Nat) (w : World) (i : Nat) (h : Cur g w i) (hp : Lead g pp w) (n : Int) (i' : Nat) (hr : Adz.number g.L g.pl i = .ok (n, i')) :
    Calls Tryz.prog 194 #[.pointer (some ⟨pp, 0, none⟩)] w fun e w' => e = .returned (.tuple #[.int .i64 n, .pointer none]) ∧ Cur g w' i' ∧ Only (· = g.c) w w' := by
  obtain ⟨hn, h0, h1, hi⟩ := Adz.number_parts hr
  have q0 := hp.at0
  have b0 : (n == 0) = false := by simpa using h0
  have b1 : decide (9999 < n) = false := decide_eq_false (by omega)
  have HN : Hid (Adz.numFrom 0 (Adz.digitsOf g.L i) = n) := hn
  have HI : Hid (i' = i + (Adz.digitsOf g.L i).length) := hi
  clear hn hi
  go_enter Tryz.func194, Tryz.ntmps194
  go_wp2_with fail
  refine (place_calls g _ i h).mono ?_
  rintro e w1 ⟨rfl, n1, rfl⟩
  go_wp2_with fail
  go_loopg [5] (g.L.length - i) (fun k v wr => ∃ j m, v = .int .i64 m ∧ 0 ≤ m ∧ m ≤ 10000 ∧ Hid (Cur g wr j) ∧ Hid (Lead g pp wr) ∧ j + k = g.L.length ∧ Hid (Adz.numFrom m (Adz.digitsOf g.L j) = n ∧ i' = j + (Adz.digitsOf g.L j).length) ∧ Hid (Only (· = g.c) w wr))
  case atStart => exact ⟨i, 0, rfl, by omega, by omega, h.drewN _, hp.drewN _, by have := h.le; omega, ⟨HN.out, HI.out⟩, (Only.refl _ w).drewN _⟩
  case round =>
    obtain ⟨j, m, rfl, m0, m1, hc, hl, hk, hN, ho⟩ := hrel
    have hc' : Cur g wr j := hc
    have hl' : Lead g pp wr := hl
    have HK : Hid (j + gk = g.L.length) := hk
    have q1 := hl'.at0
    clear hk hc hl
    by_cases hd : Adz.isDigit (Adz.peek g.L j) = true
    · have hlt : j < g.L.length := Adz.lt_of_digit hd
      have hstep := Adz.digits_step hd
      have HD : Hid (Adz.isDigit (Adz.peek g.L j) = true) := hd
      have HS : Hid (Adz.digitsOf g.L j = Adz.peek g.L j :: Adz.digitsOf g.L (j + 1)) := hstep
      obtain ⟨d0, d1⟩ := Adz.digit_range hd
      clear hd hstep
      go_wp2_with fail
      refine (peek_calls g wr j hc').mono ?_
      rintro e w1 ⟨rfl, n1, rfl⟩
      go_wp2_with fail
      refine (isDigit_calls _ _).mono ?_
      rintro e w1 ⟨rfl, rfl⟩
      rw [HD.out]
      go_wp2_with fail
      refine (next_calls g _ j (hc'.drewN _) hlt).mono ?_
      rintro e w1 ⟨rfl, hc2, ho2⟩
      go_wp2
      go_roundg (gk - 1)
      case measure => have := HK.out; omega
      case rel =>
        refine ⟨j + 1, _, rfl, by omega, by omega, hc2, (hl'.drewN n1).moved ho2, by have := HK.out; omega, ?_, (Only.drewN ho n1).trans ho2 (fun _ e => e) (fun _ _ e => e)⟩
        obtain ⟨e1, e2⟩ := Hid.out hN
        rw [HS.out] at e1 e2
        exact ⟨e1, by rw [e2]; simp; omega⟩
    · have hdf : Adz.isDigit (Adz.peek g.L j) = false := by simpa using hd
      have HD : Hid (Adz.isDigit (Adz.peek g.L j) = false) := hdf
      obtain ⟨e1, e2⟩ := Hid.out hN
      rw [Adz.digits_stop hdf] at e1 e2
      have hmn : m = n := e1
      have hij : i' = j := by simpa using e2
      subst hmn
      subst hij
      clear hd hdf e1 e2 hN HN HI hr
      go_wp2_with fail
      refine (peek_calls g wr _ hc').mono ?_
      rintro e w1 ⟨rfl, n1, rfl⟩
      go_wp2_with fail
      refine (isDigit_calls _ _).mono ?_
      rintro e w1 ⟨rfl, rfl⟩
      rw [HD.out]
      go_wp2
      go_ret2
      exact ⟨rfl, hc'.drewN _, Only.drewN ho _⟩

def partCells (p : Adz.Part) : List Value := [.int .i64 p.kind, .string ⟨p.text.toArray⟩, .int .i64 p.group]
theorem str_utf8 (r : Int) : (⟨(Adz.utf8 r).toArray⟩ : ByteArray) = Utf8.encode r := by simp [Adz.utf8]

theorem literal_calls (w : World) (r : Int) :
    Calls Tryz.prog 214 #[.int .i32 r, .pointer none] w fun e w' => e = .returned (.tuple #[.agg #[.int .i64 0, .string (Utf8.encode r), .int .i64 0], .pointer none]) ∧ Only (fun _ => False) w w' := by
  go_enter Tryz.func214, Tryz.ntmps214
  go_wp2
  exact bodyPost_ret (v := .tuple #[.agg #[.int .i64 0, .string (Utf8.encode r), .int .i64 0], .pointer none]) (by simp [results, Tryz.results214, go_sem]) rfl ⟨rfl, (Only.refl _ w).alloc _⟩
end Go.Proofs.YtbiobhghnldckaaGreatDoor
