/- Proved: a replacement is read, where all of it may stand. Conditions: the cursor lies in memory as 'Cur' says, and the parser leads to it. -/
import Derived.Test.YtbiobhghnldckaaGreatDoorPart
namespace Go.Proofs.YtbiobhghnldckaaGreatDoor
open Go.RowKit
set_option linter.unusedVariables false

theorem infoPart : (Tryz.prog.info? 240).map (fun i => (i.zero, i.size, i.bytes)) = some (some (.agg #[.int .i64 0, .string ⟨#[]⟩, .int .i64 0]), 3, 32) := by kernel_rfl

def PartsAt (w : World) (rv : Value) (ps : List Adz.Part) : Prop := w.ownsRow 0 240 3 rv ps.length (ps.flatMap partCells)
theorem PartsAt.keeps {S : Nat → Prop} {w w' : World} {rv : Value} {ps : List Adz.Part} (h : PartsAt w rv ps) (o : Only S w w') (hs : ∀ b, Typ w b 240 → ¬ S b) : PartsAt w' rv ps :=
  row_keeps h o (fun b hb => hs b (Typ.of_row h hb))

set_option maxRecDepth 100000 in
set_option maxHeartbeats 1600000 in
theorem replacement_ok (g : CG) (pp : Nat) (w : World) (i : Nat) (h : Cur g w i) (hp : Lead g pp w) (gr : Int) (ps : List Adz.Part) (i' : Nat) (hr : Adz.replacement g.L g.pl gr (g.L.length + 1) [] i = .ok (ps, i')) :
    Calls Tryz.prog 175 #[.pointer (some ⟨pp, 0, none⟩), .int .i64 gr] w fun e w' => ∃ rv, e = .returned (.tuple #[rv, .pointer none]) ∧ PartsAt w' rv ps ∧ Cur g w' i' ∧ Only (· = g.c) w w' := by
  have HR : Hid (Adz.replacement g.L g.pl gr (g.L.length + 1) [] i = .ok (ps, i')) := hr
  clear hr
  have hle0 := h.le
  have hsm := h.small
  have hcl := h.lt
  obtain ⟨i0, hi0, hz0, hz1, hz2⟩ := info_parts infoPart
  go_enter Tryz.func175, Tryz.ntmps175
  go_wp2_with fail
  go_loopg [6] (g.L.length - i) (fun k v wr => ∃ j qs m ra rc, v = .slice ra qs.length rc ∧ Hid (Cur g wr j) ∧ Hid (Lead g pp wr) ∧ Hid (wr.ownsRow w.heap.size 240 3 (.slice ra qs.length rc) qs.length (qs.flatMap partCells)) ∧ j + k = g.L.length ∧ Hid (g.L.length < m + j ∧ qs.length ≤ j ∧ Adz.replacement g.L g.pl gr m qs j = .ok (ps, i')) ∧ Hid (Only (fun b => b = g.c ∨ w.heap.size ≤ b) w wr))
  case atStart => exact ⟨i, [], g.L.length + 1, none, 0, rfl, h, hp, World.ownsRow_nil _ _ _ _, by omega, ⟨by omega, by simp, HR.out⟩, Only.refl _ _⟩
  case round =>
    obtain ⟨j, qs, m, ra, rc, rfl, hc, hl, hw, hk, hI, hO⟩ := hrel
    obtain ⟨hm, hqj, hit⟩ := hI.out
    have hc' : Cur g wr j := hc
    have hl' : Lead g pp wr := hl
    have hO' : Only (fun b => b = g.c ∨ w.heap.size ≤ b) w wr := hO
    have HK : Hid (j + gk = g.L.length) := hk
    have q1 := hl'.at0
    clear hk hc hl hI hO
    cases m with
    | zero => have := hc'.le; omega
    | succ m =>
      unfold Adz.replacement at hit
      by_cases h47 : Adz.peek g.L j = 47
      · simp only [h47, beq_self_eq_true, if_true, Except.ok.injEq, Prod.mk.injEq] at hit
        obtain ⟨rfl, rfl⟩ := hit
        go_wp2_with fail
        refine (take_yes g wr j 47 hc' h47 (by omega)).mono ?_
        rintro e w1 ⟨rfl, hc1, ho1⟩
        go_wp2
        go_ret2
        refine ⟨_, rfl, row_base (row_keeps (Hid.out hw) ho1 (fun b hb e => (Typ.of_row (Hid.out hw) hb).ne hc'.tc (by decide) e)) (Nat.zero_le _), hc1, ?_⟩
        exact (hO'.trans ho1 (fun _ e => e) (fun _ _ e => Or.inl e) : Only (fun b => b = g.c ∨ w.heap.size ≤ b) w w1).mono (fun b hb e => by rcases e with e | e; exact e; omega)
      · have b47 : (Adz.peek g.L j == 47) = false := by simpa using h47
        rw [b47] at hit
        simp only [Bool.false_eq_true, if_false] at hit
        cases hpt : Adz.part g.L g.pl gr j with
        | error f => rw [hpt] at hit; cases hit
        | ok q =>
          obtain ⟨p, j1⟩ := q
          rw [hpt] at hit
          simp only at hit
          have HP : Hid (Adz.part g.L g.pl gr j = .ok (p, j1)) := hpt
          have HT : Hid (Adz.replacement g.L g.pl gr m (qs ++ [p]) j1 = .ok (ps, i')) := hit
          have hlt := Adz.part_lt hpt
          have hjl := hc'.le
          clear hpt hit b47
          go_wp2_with fail
          refine (take_no g wr j 47 hc' h47).mono ?_
          rintro e w1 ⟨rfl, n1, rfl⟩
          go_wp2_with fail
          refine (part_ok g pp _ j (hc'.drewN n1) (hl'.drewN n1) gr p j1 HP.out).mono ?_
          rintro e w2 ⟨rfl, hc2, ho2⟩
          have o2 : Only (· = g.c) wr w2 := ((Only.refl (· = g.c) wr).drewN n1).trans ho2 (fun _ e => e) (fun _ _ e => e)
          have hw2 := row_keeps (Hid.out hw) o2 (fun b hb e => (Typ.of_row (Hid.out hw) hb).ne hc'.tc (by decide) e)
          have hj1 := hc2.le
          have hsz : w.heap.size ≤ w2.heap.size := Nat.le_trans hO'.size o2.size
          have hblk : ∀ o1 o2 : Obj, ((w2.alloc o1).alloc o2).heap[w2.heap.size + 1]? = some o2 := fun o1 o2 => by
            have := heap_alloc_new (w2.alloc o1) o2
            simpa using this
          go_wp2_with (at_builtin; refine wpList_append_lies _ (by rfl) _ _ _ (by rfl) w.heap.size 240 i0 _ 3 32 Tryz.underlying161 hi0 hz0 hz1 hz2 rfl (by omega) (.slice ra qs.length rc) qs.length (qs.flatMap partCells) (by rfl) ((hw2.alloc _).alloc _) ⟨w2.heap.size + 1, 0, none⟩ 1 1 [.int .i64 p.kind, .string ⟨p.text.toArray⟩, .int .i64 p.group] (by rfl) (by rfl) (World.news_of_block (cs := #[.int .i64 p.kind, .string ⟨p.text.toArray⟩, .int .i64 p.group]) (t := 240) (fr := (0, 0)) (hblk _ _)) (by simp [Value.oneCell']) (by omega) (by unfold maxLen; omega) (by omega) (by simp; omega) (w2.heap.size + 2) (by simp) ?_; intro g1 cap w3 hown1 hgrow hat hlt1)
          go_roundg (g.L.length - j1)
          case measure => have := HK.out; omega
          case rel =>
            have o3 : Only (fun b => (Value.slice ra qs.length rc).ownBlock = some b) w2 w3 := ((((Only.refl (fun b => (Value.slice ra qs.length rc).ownBlock = some b) w2).alloc _).alloc _)).trans (Only.of_grown hgrow) (fun _ e => e) (fun _ _ e => e)
            refine ⟨j1, qs ++ [p], m, some ⟨g1, 0, none⟩, cap, by simp, ?_, ?_, ?_, by omega, ⟨by omega, by simp; omega, HT.out⟩, ?_⟩
            · exact hc2.keeps o3 (row_ne hw2 hc2.tc (by decide)) (fun hn => row_ne hw2 (hc2.tr hn) (by decide)) (row_ne hw2 hc2.tp (by decide))
            · have hl2 : Lead g pp w2 := hl'.moved o2
              exact hl2.keeps o3 (row_ne hw2 hl2.typ (by decide))
            · have : (qs ++ [p]).flatMap partCells = qs.flatMap partCells ++ [.int .i64 p.kind, .string ⟨p.text.toArray⟩, .int .i64 p.group] := by simp [partCells]
              rw [this, List.length_append]
              exact hown1
            · exact (hO'.trans o2 (fun _ e => e) (fun _ _ e => Or.inl e) : Only (fun b => b = g.c ∨ w.heap.size ≤ b) w w2).trans o3 (fun _ e => e) (fun b hb e => Or.inr (hw2.lt b e).1)
end Go.Proofs.YtbiobhghnldckaaGreatDoor
