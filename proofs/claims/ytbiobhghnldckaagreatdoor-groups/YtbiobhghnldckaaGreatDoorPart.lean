/- Proved: a part of a replacement is read, where it may stand. Conditions: the cursor lies in memory as 'Cur' says, and the parser leads to it. -/
import Derived.Test.YtbiobhghnldckaaGreatDoorNum
namespace Go.Proofs.YtbiobhghnldckaaGreatDoor
open Go.RowKit
set_option linter.unusedVariables false
attribute [local go_sem ↓] Go.wp_at_zero Go.wp_at_succ

def set3 (w : World) (b : Nat) (v0 v1 v2 : Value) : World := ((w.setCell ⟨b, 0, none⟩ v0).setCell ⟨b, 1, none⟩ v1).setCell ⟨b, 2, none⟩ v2
theorem set3_only (w : World) (b : Nat) (v0 v1 v2 : Value) : Only (· = b) w (set3 w b v0 v1 v2) :=
  Only.setCell (S := (· = b)) (p := ⟨b, 2, none⟩) (Only.setCell (S := (· = b)) (p := ⟨b, 1, none⟩) (Only.setCell (S := (· = b)) (p := ⟨b, 0, none⟩) (Only.refl _ w) (fun _ => rfl) _) (fun _ => rfl) _) (fun _ => rfl) _

theorem asc_repl : Asc ⟨#[47, 92, 38]⟩ Adz.replSpecial := ⟨by decide, by decide, by decide⟩

/-- What is left to say where a part has been laid into its result's block. -/
theorem part_end {g : CG} {w w1 : World} {i0 i' : Nat} (h : Cur g w i0) (hc : Cur g w1 i') (o : Only (· = g.c) w w1) (v0 v1 v2 : Value) (hlt : w.heap.size < w1.heap.size) :
    Cur g (set3 w1 w.heap.size v0 v1 v2) i' ∧ Only (· = g.c) w (set3 w1 w.heap.size v0 v1 v2) := by
  have o3 := set3_only w1 w.heap.size v0 v1 v2
  have hcl := h.lt
  refine ⟨hc.keeps o3 (by omega) (fun hn e => by have := (h.tr hn).lt; omega) (fun e => by have := h.tp.lt; omega), o.trans o3 (fun _ e => e) (fun x hx e => by omega)⟩

set_option maxRecDepth 100000 in
set_option maxHeartbeats 1600000 in
theorem part_ok (g : CG) (pp : Nat) (w : World) (i : Nat) (h : Cur g w i) (hp : Lead g pp w) (gr : Int) (p : Adz.Part) (i' : Nat) (hr : Adz.part g.L g.pl gr i = .ok (p, i')) :
    Calls Tryz.prog 196 #[.pointer (some ⟨pp, 0, none⟩), .int .i64 gr] w fun e w' => e = .returned (.tuple #[.agg #[.int .i64 p.kind, .string ⟨p.text.toArray⟩, .int .i64 p.group], .pointer none]) ∧ Cur g w' i' ∧ Only (· = g.c) w w' := by
  unfold Adz.part at hr
  have hcl := h.lt
  have q0 := hp.at0
  have hpl : pp < w.heap.size := hp.lt
  have hnew : w.heap.size ≠ g.c := by omega
  have oa : ∀ o : Obj, Only (· = g.c) w (w.alloc o) := fun o => (Only.refl _ w).alloc o
  have q0a : ∀ o : Obj, (w.alloc o).cell? ⟨pp, 0, none⟩ = some (.pointer (some ⟨g.c, 0, none⟩)) := fun o => (World.cell?_alloc_past _ _ _ hpl).trans q0
  by_cases c1 : Adz.peek g.L i = 38
  · simp only [c1, beq_self_eq_true, if_true, Except.ok.injEq, Prod.mk.injEq] at hr
    obtain ⟨rfl, rfl⟩ := hr
    go_enter Tryz.func196, Tryz.ntmps196
    go_wp2_with fail
    refine (place_calls g _ i (h.alloc _)).mono ?_
    rintro e w1 ⟨rfl, n1, rfl⟩
    go_wp2_with fail
    refine (take_yes g _ i 38 ((h.alloc _).drewN _) c1 (by omega)).mono ?_
    rintro e w2 ⟨rfl, hc, ho⟩
    have hk : Cells w2 w.heap.size [.int .i64 0, .string ⟨#[]⟩, .int .i64 0] := ((Cells.new w _ _).drewN n1).keeps ho hnew
    have k0 := hk 0 _ rfl
    have k1 := hk 1 _ rfl
    have k2 := hk 2 _ rfl
    clear hk
    have hlt : w.heap.size < w2.heap.size := by have := ho.size; simp at this; omega
    go_wp2
    obtain ⟨c, o⟩ := part_end h hc (((oa _).drewN n1).trans ho (fun _ e => e) (fun _ _ e => e)) (.int .i64 1) (.string ⟨#[]⟩) (.int .i64 0) hlt
    exact bodyPost_ret (v := .tuple #[.agg #[.int .i64 1, .string ⟨#[]⟩, .int .i64 0], .pointer none]) (by simp [results, Tryz.results196, go_sem, k0, k1, k2]) rfl ⟨rfl, c, o⟩
  · have b1 : (Adz.peek g.L i == 38) = false := by simpa using c1
    rw [b1] at hr
    simp only [Bool.false_eq_true, if_false] at hr
    clear b1
    by_cases c2 : Adz.peek g.L i = 92
    · have b2 : (Adz.peek g.L i != 92) = false := by simp [c2]
      rw [b2] at hr
      simp only [Bool.false_eq_true, if_false] at hr
      clear b2
      by_cases c3 : (Adz.peek g.L (i + 1) == 48 || !Adz.isDigit (Adz.peek g.L (i + 1))) = true
      · rw [if_pos c3] at hr
        cases hes : Adz.escaped g.L g.pl Adz.replSpecial (i + 1) with
        | error f => rw [hes] at hr; cases hr
        | ok q =>
          obtain ⟨r, i2⟩ := q
          rw [hes] at hr
          simp only [Adz.literal, Except.ok.injEq, Prod.mk.injEq] at hr
          obtain ⟨rfl, rfl⟩ := hr
          have HE : Hid (Adz.escaped g.L g.pl Adz.replSpecial (i + 1) = .ok (r, i2)) := hes
          clear hes
          by_cases c4 : Adz.peek g.L (i + 1) = 48
          · clear c3
            go_enter Tryz.func196, Tryz.ntmps196
            go_wp2_with fail
            refine (place_calls g _ i (h.alloc _)).mono ?_
            rintro e w1 ⟨rfl, n1, rfl⟩
            go_wp2_with fail
            refine (take_no g _ i 38 ((h.alloc _).drewN _) c1).mono ?_
            rintro e w1 ⟨rfl, n2, rfl⟩
            go_wp2_with fail
            refine (take_yes g _ i 92 ((h.alloc _).drewN _) c2 (by omega)).mono ?_
            rintro e w2 ⟨rfl, hc, ho⟩
            have q2 := ho.keeps (q0a _) hp.ne
            go_wp2_with fail
            refine (peek_calls g w2 (i + 1) hc).mono ?_
            rintro e w1 ⟨rfl, n3, rfl⟩
            rw [c4]
            go_wp2_with fail
            refine (escaped_ok g _ (i + 1) _ _ asc_repl (hc.drewN _) r i2 HE.out).mono ?_
            rintro e w3 ⟨rfl, hc3, ho3⟩
            go_wp2_with fail
            refine (literal_calls _ r).mono ?_
            rintro e w4 ⟨rfl, ho4⟩
            have o24 : Only (· = g.c) w2 w4 := (((Only.refl (· = g.c) w2).drewN _).trans ho3 (fun _ e => e) (fun _ _ e => e)).trans ho4 (fun _ e => e) (fun _ _ e => e.elim)
            have hc4 := hc3.keeps ho4 id (fun _ => id) id
            have hk : Cells w4 w.heap.size [.int .i64 0, .string ⟨#[]⟩, .int .i64 0] := (((Cells.new w _ _).drewN (n1 + n2)).keeps ho hnew).keeps o24 hnew
            have k0 := hk 0 _ rfl
            have k1 := hk 1 _ rfl
            have k2 := hk 2 _ rfl
            clear hk
            have hlt : w.heap.size < w4.heap.size := by have := ho.size; have := o24.size; simp at *; omega
            go_wp2
            obtain ⟨c, o⟩ := part_end h hc4 ((((oa _).drewN (n1 + n2)).trans ho (fun _ e => e) (fun _ _ e => e)).trans o24 (fun _ e => e) (fun _ _ e => e)) (.int .i64 0) (.string (Utf8.encode r)) (.int .i64 0) hlt
            rw [str_utf8]
            exact bodyPost_ret (v := .tuple #[.agg #[.int .i64 0, .string (Utf8.encode r), .int .i64 0], .pointer none]) (by simp [results, Tryz.results196, go_sem, k0, k1, k2]) rfl ⟨rfl, c, o⟩
          · have hnd : Adz.isDigit (Adz.peek g.L (i + 1)) = false := by simpa [c4] using c3
            have HD : Hid (Adz.isDigit (Adz.peek g.L (i + 1)) = false) := hnd
            have b4 : (Adz.peek g.L (i + 1) == 48) = false := by simpa using c4
            clear c3 hnd
            go_enter Tryz.func196, Tryz.ntmps196
            go_wp2_with fail
            refine (place_calls g _ i (h.alloc _)).mono ?_
            rintro e w1 ⟨rfl, n1, rfl⟩
            go_wp2_with fail
            refine (take_no g _ i 38 ((h.alloc _).drewN _) c1).mono ?_
            rintro e w1 ⟨rfl, n2, rfl⟩
            go_wp2_with fail
            refine (take_yes g _ i 92 ((h.alloc _).drewN _) c2 (by omega)).mono ?_
            rintro e w2 ⟨rfl, hc, ho⟩
            have q2 := ho.keeps (q0a _) hp.ne
            go_wp2_with fail
            refine (peek_calls g w2 (i + 1) hc).mono ?_
            rintro e w1 ⟨rfl, n3, rfl⟩
            go_wp2_with fail
            refine (isDigit_calls _ _).mono ?_
            rintro e w1 ⟨rfl, rfl⟩
            rw [HD.out]
            go_wp2_with fail
            refine (escaped_ok g _ (i + 1) _ _ asc_repl (hc.drewN _) r i2 HE.out).mono ?_
            rintro e w3 ⟨rfl, hc3, ho3⟩
            go_wp2_with fail
            refine (literal_calls _ r).mono ?_
            rintro e w4 ⟨rfl, ho4⟩
            have o24 : Only (· = g.c) w2 w4 := (((Only.refl (· = g.c) w2).drewN _).trans ho3 (fun _ e => e) (fun _ _ e => e)).trans ho4 (fun _ e => e) (fun _ _ e => e.elim)
            have hc4 := hc3.keeps ho4 id (fun _ => id) id
            have hk : Cells w4 w.heap.size [.int .i64 0, .string ⟨#[]⟩, .int .i64 0] := (((Cells.new w _ _).drewN (n1 + n2)).keeps ho hnew).keeps o24 hnew
            have k0 := hk 0 _ rfl
            have k1 := hk 1 _ rfl
            have k2 := hk 2 _ rfl
            clear hk
            have hlt : w.heap.size < w4.heap.size := by have := ho.size; have := o24.size; simp at *; omega
            go_wp2
            obtain ⟨c, o⟩ := part_end h hc4 ((((oa _).drewN (n1 + n2)).trans ho (fun _ e => e) (fun _ _ e => e)).trans o24 (fun _ e => e) (fun _ _ e => e)) (.int .i64 0) (.string (Utf8.encode r)) (.int .i64 0) hlt
            rw [str_utf8]
            exact bodyPost_ret (v := .tuple #[.agg #[.int .i64 0, .string (Utf8.encode r), .int .i64 0], .pointer none]) (by simp [results, Tryz.results196, go_sem, k0, k1, k2]) rfl ⟨rfl, c, o⟩
      · rw [if_neg c3] at hr
        simp only [Bool.not_eq_true, Bool.or_eq_false_iff, Bool.not_eq_false'] at c3
        obtain ⟨b4, hdg⟩ := c3
        by_cases c5 : Adz.peek g.L (i + 1) - 48 > gr
        · simp [c5] at hr
        · rw [if_neg c5] at hr
          simp only [Except.ok.injEq, Prod.mk.injEq] at hr
          obtain ⟨rfl, rfl⟩ := hr
          have HD : Hid (Adz.isDigit (Adz.peek g.L (i + 1)) = true) := hdg
          have hlt1 : i + 1 < g.L.length := Adz.lt_of_digit hdg
          obtain ⟨d0, d1⟩ := Adz.digit_range hdg
          clear hdg
          go_enter Tryz.func196, Tryz.ntmps196
          go_wp2_with fail
          refine (place_calls g _ i (h.alloc _)).mono ?_
          rintro e w1 ⟨rfl, n1, rfl⟩
          go_wp2_with fail
          refine (take_no g _ i 38 ((h.alloc _).drewN _) c1).mono ?_
          rintro e w1 ⟨rfl, n2, rfl⟩
          go_wp2_with fail
          refine (take_yes g _ i 92 ((h.alloc _).drewN _) c2 (by omega)).mono ?_
          rintro e w2 ⟨rfl, hc, ho⟩
          have q2 := ho.keeps (q0a _) hp.ne
          go_wp2_with fail
          refine (peek_calls g w2 (i + 1) hc).mono ?_
          rintro e w1 ⟨rfl, n3, rfl⟩
          go_wp2_with fail
          refine (isDigit_calls _ _).mono ?_
          rintro e w1 ⟨rfl, rfl⟩
          rw [HD.out]
          go_wp2_with fail
          refine (next_calls g _ (i + 1) (hc.drewN _) hlt1).mono ?_
          rintro e w4 ⟨rfl, hc4, ho4⟩
          have o24 : Only (· = g.c) w2 w4 := ((Only.refl (· = g.c) w2).drewN _).trans ho4 (fun _ e => e) (fun _ _ e => e)
          have hk : Cells w4 w.heap.size [.int .i64 0, .string ⟨#[]⟩, .int .i64 0] := (((Cells.new w _ _).drewN (n1 + n2)).keeps ho hnew).keeps o24 hnew
          have k0 := hk 0 _ rfl
          have k1 := hk 1 _ rfl
          have k2 := hk 2 _ rfl
          clear hk
          have hlt : w.heap.size < w4.heap.size := by have := ho.size; have := o24.size; simp at *; omega
          go_wp2
          obtain ⟨c, o⟩ := part_end h hc4 ((((oa _).drewN (n1 + n2)).trans ho (fun _ e => e) (fun _ _ e => e)).trans o24 (fun _ e => e) (fun _ _ e => e)) (.int .i64 2) (.string ⟨#[]⟩) (.int .i64 (Adz.peek g.L (i + 1) - 48)) hlt
          exact bodyPost_ret (v := .tuple #[.agg #[.int .i64 2, .string ⟨#[]⟩, .int .i64 (Adz.peek g.L (i + 1) - 48)], .pointer none]) (by simp [results, Tryz.results196, go_sem, k0, k1, k2]) rfl ⟨rfl, c, o⟩
    · have b2 : (Adz.peek g.L i != 92) = true := by simpa [bne] using c2
      rw [b2] at hr
      simp only [if_true] at hr
      cases hes : Adz.plain g.L g.pl Adz.replSpecial i with
      | error f => rw [hes] at hr; cases hr
      | ok q =>
        obtain ⟨r, i2⟩ := q
        rw [hes] at hr
        simp only [Adz.literal, Except.ok.injEq, Prod.mk.injEq] at hr
        obtain ⟨rfl, rfl⟩ := hr
        have HE : Hid (Adz.plain g.L g.pl Adz.replSpecial i = .ok (r, i2)) := hes
        clear hes b2
        go_enter Tryz.func196, Tryz.ntmps196
        go_wp2_with fail
        refine (place_calls g _ i (h.alloc _)).mono ?_
        rintro e w1 ⟨rfl, n1, rfl⟩
        go_wp2_with fail
        refine (take_no g _ i 38 ((h.alloc _).drewN _) c1).mono ?_
        rintro e w1 ⟨rfl, n2, rfl⟩
        go_wp2_with fail
        refine (take_no g _ i 92 ((h.alloc _).drewN _) c2).mono ?_
        rintro e w1 ⟨rfl, n3, rfl⟩
        go_wp2_with fail
        refine (plain_ok g _ i _ _ asc_repl ((h.alloc _).drewN _) r i2 HE.out).mono ?_
        rintro e w3 ⟨rfl, hc3, ho3⟩
        go_wp2_with fail
        refine (literal_calls _ r).mono ?_
        rintro e w4 ⟨rfl, ho4⟩
        have hc4 := hc3.keeps ho4 id (fun _ => id) id
        have o34 : Only (· = g.c) ((w.alloc (.cells #[.int .i64 0, .string ⟨#[]⟩, .int .i64 0] 240)).drewN (n1 + n2 + n3)) w4 := ho3.trans ho4 (fun _ e => e) (fun _ _ e => e.elim)
        have hk : Cells w4 w.heap.size [.int .i64 0, .string ⟨#[]⟩, .int .i64 0] := ((Cells.new w _ _).drewN (n1 + n2 + n3)).keeps o34 hnew
        have k0 := hk 0 _ rfl
        have k1 := hk 1 _ rfl
        have k2 := hk 2 _ rfl
        clear hk
        have hlt : w.heap.size < w4.heap.size := by have := o34.size; simp at this; omega
        go_wp2
        obtain ⟨c, o⟩ := part_end h hc4 (((oa _).drewN (n1 + n2 + n3)).trans o34 (fun _ e => e) (fun _ _ e => e)) (.int .i64 0) (.string (Utf8.encode r)) (.int .i64 0) hlt
        rw [str_utf8]
        exact bodyPost_ret (v := .tuple #[.agg #[.int .i64 0, .string (Utf8.encode r), .int .i64 0], .pointer none]) (by simp [results, Tryz.results196, go_sem, k0, k1, k2]) rfl ⟨rfl, c, o⟩
end Go.Proofs.YtbiobhghnldckaaGreatDoor
