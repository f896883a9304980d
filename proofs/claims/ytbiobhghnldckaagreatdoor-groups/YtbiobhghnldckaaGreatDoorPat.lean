/- Proved: pattern.Read, where all of the pattern may stand. Conditions: the cursor lies in memory as 'Cur' says. -/
import Derived.Test.YtbiobhghnldckaaGreatDoorRdr6
namespace Go.Proofs.YtbiobhghnldckaaGreatDoor
open Go.RowKit
set_option linter.unusedVariables false
attribute [local go_sem ↓] Go.wp_at_zero Go.wp_at_succ

/-- A slice of items lies in memory, with all their spans. -/
def ItemsAt (w : World) (iv : Value) (xs : List Adz.Item) : Prop := ∃ svs, w.ownsRow 0 270 4 iv xs.length (itemsCells xs svs) ∧ Spans w xs svs

theorem row_base {w : World} {base base' : Nat} {e : TypeId} {size : Nat} {v : Value} {n : Nat} {xs : List Value} (h : w.ownsRow base e size v n xs) (hb : base' ≤ base) : w.ownsRow base' e size v n xs := by
  refine ⟨h.1, ?_⟩
  rcases h.2 with hn | ⟨g, cap, cur, rfl, hg, rest⟩
  · exact .inl hn
  · exact .inr ⟨g, cap, cur, rfl, Nat.le_trans hb hg, rest⟩

theorem ItemsAt.keeps {S : Nat → Prop} {w w' : World} {iv : Value} {xs : List Adz.Item} (h : ItemsAt w iv xs) (o : Only S w w') (h1 : ∀ b, Typ w b 270 → ¬ S b) (h2 : ∀ b, Typ w b 284 → ¬ S b) : ItemsAt w' iv xs := by
  obtain ⟨svs, i2, i3⟩ := h
  exact ⟨svs, row_keeps i2 o (fun b hb => h1 b (Typ.of_row i2 hb)), i3.keeps o h2⟩

theorem Rdr.start {g : CG} {wa : World} {i : Nat} (h : Cur g wa i) :
    Rdr g wa.heap.size wa.heap.size (wa.alloc (.cells #[.pointer (some ⟨g.c, 0, none⟩), .slice none 0 0, .int .i64 0, .slice none 0 0] 249)) ⟨i, [], 0, []⟩ := by
  have hk := Cells.new wa #[.pointer (some ⟨g.c, 0, none⟩), .slice none 0 0, .int .i64 0, .slice none 0 0] 249
  exact ⟨h.alloc _, (hk 0 _ rfl).1, ⟨.slice none 0 0, [], (hk 1 _ rfl).1, World.ownsRow_nil _ _ _ _, trivial⟩, (hk 2 _ rfl).1, ⟨.slice none 0 0, (hk 3 _ rfl).1, World.ownsRow_nil _ _ _ _⟩, (hk 1 _ rfl).2, (hk 2 _ rfl).2, (hk 3 _ rfl).2,
    Typ.new _ _ _ _, h.tp.lt, by simp, Nat.le_refl _, by simp, by simp, by simp⟩

set_option maxRecDepth 100000 in
set_option maxHeartbeats 800000 in
theorem patRead_ok (g : CG) (w : World) (i : Nat) (h : Cur g w i) (p : Adz.Pat) (i' : Nat) (hr : Adz.patRead g.L g.pl i = .ok (p, i')) :
    Calls Tryz.prog 174 #[.pointer (some ⟨g.c, 0, none⟩)] w fun e w' => ∃ iv, e = .returned (.tuple #[.agg #[iv, .int .i64 p.groups], .pointer none]) ∧ ItemsAt w' iv p.items ∧ Cur g w' i' ∧ Only (· = g.c) w w' := by
  unfold Adz.patRead at hr
  cases hit : Adz.items g.L g.pl (g.L.length + 1) ⟨i, [], 0, []⟩ with
  | error f => rw [hit] at hr; cases hr
  | ok sE =>
    rw [hit] at hr
    simp only at hr
    by_cases hn : sE.items.length > 30
    · simp [hn] at hr
    · rw [if_neg hn] at hr
      by_cases ho : sE.opens.length > 0
      · simp [ho] at hr
      · rw [if_neg ho] at hr
        simp only [Except.ok.injEq, Prod.mk.injEq] at hr
        obtain ⟨rfl, rfl⟩ := hr
        have HI : Hid (Adz.items g.L g.pl (g.L.length + 1) ⟨i, [], 0, []⟩ = .ok sE) := hit
        clear hit
        have hcl := h.lt
        have hle := h.le
        have hpl := h.tp.lt
        have hsm := h.small
        go_enter Tryz.func174, Tryz.ntmps174
        go_wp2_with fail
        refine (place_calls g _ i (h.alloc _)).mono ?_
        rintro e w1 ⟨rfl, n, rfl⟩
        go_wp2_with fail
        have h0 : Rdr g (w.heap.size + 1) (w.heap.size + 1) (((w.alloc (.cells #[.slice none 0 0, .int .i64 0] 160)).drewN n).alloc (.cells #[.pointer (some ⟨g.c, 0, none⟩), .slice none 0 0, .int .i64 0, .slice none 0 0] 249)) ⟨i, [], 0, []⟩ := by
          have := Rdr.start ((h.alloc (.cells #[.slice none 0 0, .int .i64 0] 160)).drewN n)
          simpa using this
        have hk0 : Cells (((w.alloc (.cells #[.slice none 0 0, .int .i64 0] 160)).drewN n).alloc (.cells #[.pointer (some ⟨g.c, 0, none⟩), .slice none 0 0, .int .i64 0, .slice none 0 0] 249)) w.heap.size [.slice none 0 0, .int .i64 0] := ((Cells.new w _ _).drewN n).alloc _
        have tR0 : Typ (((w.alloc (.cells #[.slice none 0 0, .int .i64 0] 160)).drewN n).alloc (.cells #[.pointer (some ⟨g.c, 0, none⟩), .slice none 0 0, .int .i64 0, .slice none 0 0] 249)) w.heap.size 160 := ((Typ.new w _ _ _).drewN n).alloc _
        have oo : Only (fun _ => False) w (((w.alloc (.cells #[.slice none 0 0, .int .i64 0] 160)).drewN n).alloc (.cells #[.pointer (some ⟨g.c, 0, none⟩), .slice none 0 0, .int .i64 0, .slice none 0 0] 249)) := (((Only.refl _ w).alloc _).drewN n).alloc _
        generalize (((w.alloc (.cells #[.slice none 0 0, .int .i64 0] 160)).drewN n).alloc (.cells #[.pointer (some ⟨g.c, 0, none⟩), .slice none 0 0, .int .i64 0, .slice none 0 0] 249)) = w0 at *
        go_loopg [] (g.L.length - i) (fun k wr => ∃ s m, Hid (Rdr g (w.heap.size + 1) (w.heap.size + 1) wr s) ∧ s.i + k = g.L.length ∧ Hid (g.L.length < m + s.i ∧ Adz.items g.L g.pl m s = .ok sE) ∧ Hid (Only (SR g (w.heap.size + 1)) w0 wr))
        case atStart => exact ⟨_, g.L.length + 1, h0, by simp; omega, ⟨by simp; omega, HI.out⟩, Only.refl _ _⟩
        case round =>
          obtain ⟨s, m, hR, hk, hI, hO⟩ := hrel
          obtain ⟨hm, hit⟩ := hI.out
          have hR' : Rdr g (w.heap.size + 1) (w.heap.size + 1) wr s := hR
          have hO' : Only (SR g (w.heap.size + 1)) w0 wr := hO
          have hsl := hR'.cur.le
          clear hR hO hI
          cases m with
          | zero => omega
          | succ m =>
            unfold Adz.items at hit
            by_cases h47 : Adz.peek g.L s.i = 47
            · simp only [h47, beq_self_eq_true, if_true, Except.ok.injEq] at hit
              subst hit
              have hlt : s.i < g.L.length := Adz.lt_of_peek (by omega)
              clear hk hm
              go_wp2_with fail
              refine (peek_calls g wr s.i hR'.cur).mono ?_
              rintro e w1 ⟨rfl, n1, rfl⟩
              rw [h47]
              go_wp2_with fail
              refine (next_calls g _ s.i (hR'.cur.drewN n1) hlt).mono ?_
              rintro e w1 ⟨rfl, hc1, ho1⟩
              have h1 := (hR'.drewN n1).moved hc1 ho1 (by omega)
              have r12 := h1.r2
              obtain ⟨iv, svs, j1, j2, j3⟩ := h1.it
              obtain ⟨ov, p1, p2⟩ := h1.op
              obtain ⟨ia, ic, hiv⟩ := row_shape j2
              obtain ⟨oa, oc, hov⟩ := row_shape p2
              rw [hiv] at j1 j2
              rw [hov] at p1 p2
              simp only at j1 p1 j2 p2 r12
              have hit30 : s.items.length ≤ 30 := by omega
              have hop0 : s.opens.length = 0 := by omega
              rw [hop0] at p1
              have hRp : ¬ SR g (w.heap.size + 1) w.heap.size := by
                rintro (e | e)
                · omega
                · omega
              have hk1 : Cells w1 w.heap.size [.slice none 0 0, .int .i64 0] := (((hk0.keeps hO' hRp).drewN n1).keeps ho1 (by omega))
              have k0 := hk1 0 _ rfl
              have k1 := hk1 1 _ rfl
              have hlt1 : w.heap.size + 1 < w1.heap.size := h1.trd.lt
              have tR1 : Typ w1 w.heap.size 160 := ((tR0.keeps hO' hRp).drewN n1).keeps ho1 (by omega)
              clear hk1
              go_wp2_with fail
              clear hn ho HI
              go_region
              all_goals
                go_wp2
                have oW : Only (· = w.heap.size) w1 ((w1.setCell ⟨w.heap.size, 0, none⟩ (.slice ia s.items.length ic)).setCell ⟨w.heap.size, 1, none⟩ (.int .i64 s.groups)).drew :=
                  (Only.setCell (S := (· = w.heap.size)) (p := ⟨w.heap.size, 1, none⟩) (Only.setCell (S := (· = w.heap.size)) (p := ⟨w.heap.size, 0, none⟩) (Only.refl _ w1) (fun _ => rfl) _) (fun _ => rfl) _).drew
                refine bodyPost_ret (v := .tuple #[.agg #[.slice ia s.items.length ic, .int .i64 s.groups], .pointer none]) (by simp [results, Tryz.results174, go_sem, k0, k1]) rfl ⟨_, rfl, ⟨svs, row_keeps (row_base j2 (Nat.zero_le _)) oW (fun b hb e => ?_), j3.keeps oW (fun b hb e => ?_)⟩, hc1.keeps oW (by omega) (fun hq e => ?_) (fun e => ?_), ?_⟩
                · exact (Typ.of_row j2 hb).ne tR1 (by decide) e
                · exact hb.ne tR1 (by decide) e
                · have := (h.tr hq).lt; omega
                · omega
                · have c1 : Only (· = g.c) w wr := oo.trans hO' (fun _ e => e.elim) (fun b hb e => by rcases e with e | e; exact e; omega)
                  exact ((c1.drewN n1).trans ho1 (fun _ e => e) (fun _ _ e => e)).trans oW (fun _ e => e) (fun b hb e => by omega)
            · have b47 : (Adz.peek g.L s.i == 47) = false := by simpa using h47
              have n47 : (Adz.peek g.L s.i != 47) = true := by simpa [bne] using h47
              rw [b47] at hit
              simp only [Bool.false_eq_true, if_false] at hit
              cases his : Adz.item g.L g.pl s with
              | error f => rw [his] at hit; cases hit
              | ok s1 =>
                rw [his] at hit
                simp only at hit
                have HS : Hid (Adz.item g.L g.pl s = .ok s1) := his
                have HT : Hid (Adz.items g.L g.pl m s1 = .ok sE) := hit
                have hlt := Adz.item_lt his
                have HK : Hid (s.i + gk = g.L.length) := hk
                clear his hit hk b47
                go_wp2_with fail
                refine (peek_calls g wr s.i hR'.cur).mono ?_
                rintro e w1 ⟨rfl, n1, rfl⟩
                go_wp2_with fail
                refine (item_ok (hR'.drewN n1) HS.out).mono ?_
                rintro e w1 ⟨rfl, h1, o1⟩
                go_wp2
                go_roundg (g.L.length - s1.i)
                case measure => have := HK.out; have := h1.cur.le; omega
                case rel => exact ⟨s1, m, h1, by have := h1.cur.le; omega, ⟨by omega, HT.out⟩, SR_trans (Only.drewN hO' n1) o1⟩
end Go.Proofs.YtbiobhghnldckaaGreatDoor
