/- Proved: pattern.Read, where all of the pattern may stand. Conditions: the cursor lies in memory as 'Cur' says. -/
import Derived.Test.YtbiobhghnldckaaGreatDoorK2
import Derived.Test.YtbiobhghnldckaaGreatDoorSpecJ
namespace Go.Proofs.YtbiobhghnldckaaGreatDoor
open Go.RowKit
set_option linter.unusedVariables false
attribute [local go_sem ↓] Go.wp_at_zero Go.wp_at_succ

/-- A slice of items lies in memory, with all their spans. -/
def ItemsAt (w : World) (iv : Value) (xs : List Adz.Item) : Prop := ∃ svs, w.ownsRow 0 270 4 iv xs.length (itemsCells xs svs) ∧ Spans w xs svs

theorem row_base {w : World} {base base' : Nat} {e : TypeId} {size : Nat} {v : Value} {n : Nat} {xs : List Value} (h : w.ownsRow base e size v n xs) (hb : base' ≤ base) : w.ownsRow base' e size v n xs := by
  refine ⟨h.1, ?_⟩
  rcases h.2 with hn | ⟨g, cap, cur, rfl, hg, rest⟩
  · exact .inl hn
  · exact .inr ⟨g, cap, cur, rfl, Nat.le_trans hb hg, rest⟩

theorem ItemsAt.keeps {S : Nat → Prop} {w w' : World} {iv : Value} {xs : List Adz.Item} (h : ItemsAt w iv xs) (o : Only S w w') (h1 : ∀ b, Typ w b 270 → ¬ S b) (h2 : ∀ b, Typ w b 284 → ¬ S b) : ItemsAt w' iv xs := by
  obtain ⟨svs, i2, i3⟩ := h
  exact ⟨svs, row_keeps i2 o (fun b hb => h1 b (Typ.of_row i2 hb)), i3.keeps o h2⟩

theorem Rdr.start {g : CG} {wa : World} {i : Nat} (h : Cur g wa i) :
    Rdr g wa.heap.size wa.heap.size (wa.alloc (.cells #[.pointer (some ⟨g.c, 0, none⟩), .slice none 0 0, .int .i64 0, .slice none 0 0] 249)) ⟨i, [], 0, []⟩ := by
  have hk := Cells.new wa #[.pointer (some ⟨g.c, 0, none⟩), .slice none 0 0, .int .i64 0, .slice none 0 0] 249
  exact ⟨h.alloc _, (hk 0 _ rfl).1, ⟨.slice none 0 0, [], (hk 1 _ rfl).1, World.ownsRow_nil _ _ _ _, trivial⟩, (hk 2 _ rfl).1, ⟨.slice none 0 0, (hk 3 _ rfl).1, World.ownsRow_nil _ _ _ _⟩, (hk 1 _ rfl).2, (hk 2 _ rfl).2, (hk 3 _ rfl).2,
    Typ.new _ _ _ _, h.tp.lt, by simp, Nat.le_refl _, by simp, by simp, by simp⟩

set_option maxRecDepth 100000 in
set_option maxHeartbeats 800000 in
theorem patRead_ok (g : CG) (w : World) (i : Nat) (h : Cur g w i) (p : Adz.Pat) (i' : Nat) (hr : Adz.patRead g.L g.pl i = .ok (p, i')) :
    Calls Tryz.prog 174 #[.pointer (some ⟨g.c, 0, none⟩)] w fun e w' => ∃ iv, e = .returned (.tuple #[.agg #[iv, .int .i64 p.groups], .pointer none]) ∧ ItemsAt w' iv p.items ∧ Cur g w' i' ∧ Only (· = g.c) w w' := by
  unfold Adz.patRead at hr
  cases hit : Adz.items g.L g.pl (g.L.length + 1) ⟨i, [], 0, []⟩ with
  | error f => rw [hit] at hr; cases hr
  | ok sE =>
    rw [hit] at hr
    simp only at hr
    by_cases hn : sE.items.length > 30
    · simp [hn] at hr
    · rw [if_neg hn] at hr
      by_cases ho : sE.opens.length > 0
      · simp [ho] at hr
      · rw [if_neg ho] at hr
        simp only [Except.ok.injEq, Prod.mk.injEq] at hr
        obtain ⟨rfl, rfl⟩ := hr
        have HI : Hid (Adz.items g.L g.pl (g.L.length + 1) ⟨i, [], 0, []⟩ = .ok sE) := hit
        clear hit
        have hcl := h.lt
        have hle := h.le
        have hpl := h.tp.lt
        have hsm := h.small
        go_enter Tryz.func174, Tryz.ntmps174
        go_wp2_with fail
        refine (place_calls g _ i (h.alloc _)).mono ?_
        rintro e w1 ⟨rfl, n, rfl⟩
        go_wp2_with fail
        have h0 : Rdr g (w.heap.size + 1) (w.heap.size + 1) (((w.alloc (.cells #[.slice none 0 0, .int .i64 0] 160)).drewN n).alloc (.cells #[.pointer (some ⟨g.c, 0, none⟩), .slice none 0 0, .int .i64 0, .slice none 0 0] 249)) ⟨i, [], 0, []⟩ := by
          have := Rdr.start ((h.alloc (.cells #[.slice none 0 0, .int .i64 0] 160)).drewN n)
          simpa using this
        have hk0 : Cells (((w.alloc (.cells #[.slice none 0 0, .int .i64 0] 160)).drewN n).alloc (.cells #[.pointer (some ⟨g.c, 0, none⟩), .slice none 0 0, .int .i64 0, .slice none 0 0] 249)) w.heap.size [.slice none 0 0, .int .i64 0] := ((Cells.new w _ _).drewN n).alloc _
        have tR0 : Typ (((w.alloc (.cells #[.slice none 0 0, .int .i64 0] 160)).drewN n).alloc (.cells #[.pointer (some ⟨g.c, 0, none⟩), .slice none 0 0, .int .i64 0, .slice none 0 0] 249)) w.heap.size 160 := ((Typ.new w _ _ _).drewN n).alloc _
        have oo : Only (fun _ => False) w (((w.alloc (.cells #[.slice none 0 0, .int .i64 0] 160)).drewN n).alloc (.cells #[.pointer (some ⟨g.c, 0, none⟩), .slice none 0 0, .int .i64 0, .slice none 0 0] 249)) := (((Only.refl _ w).alloc _).drewN n).alloc _
        generalize (((w.alloc (.cells #[.slice none 0 0, .int .i64 0] 160)).drewN n).alloc (.cells #[.pointer (some ⟨g.c, 0, none⟩), .slice none 0 0, .int .i64 0, .slice none 0 0] 249)) = w0 at *
        go_loopg [] (g.L.length - i) (fun k wr => ∃ s m, Hid (Rdr g (w.heap.size + 1) (w.heap.size + 1) wr s) ∧ s.i + k = g.L.length ∧ Hid (g.L.length < m + s.i ∧ Adz.items g.L g.pl m s = .ok sE) ∧ Hid (Only (SR g (w.heap.size + 1)) w0 wr))
        case atStart => exact ⟨_, g.L.length + 1, h0, by simp; omega, ⟨by simp; omega, HI.out⟩, Only.refl _ _⟩
        case round =>
          obtain ⟨s, m, hR, hk, hI, hO⟩ := hrel
          obtain ⟨hm, hit⟩ := hI.out
          have hR' : Rdr g (w.heap.size + 1) (w.heap.size + 1) wr s := hR
          have hO' : Only (SR g (w.heap.size + 1)) w0 wr := hO
          have hsl := hR'.cur.le
          clear hR hO hI
          cases m with
          | zero => omega
          | succ m =>
            unfold Adz.items at hit
            by_cases h47 : Adz.peek g.L s.i = 47
            · simp only [h47, beq_self_eq_true, if_true, Except.ok.injEq] at hit
              subst hit
              have hlt : s.i < g.L.length := Adz.lt_of_peek (by omega)
              clear hk hm
              go_wp2_with fail
              refine (peek_calls g wr s.i hR'.cur).mono ?_
              rintro e w1 ⟨rfl, n1, rfl⟩
              rw [h47]
              go_wp2_with fail
              refine (next_calls g _ s.i (hR'.cur.drewN n1) hlt).mono ?_
              rintro e w1 ⟨rfl, hc1, ho1⟩
              have h1 := (hR'.drewN n1).moved hc1 ho1 (by omega)
              have r12 := h1.r2
              obtain ⟨iv, svs, j1, j2, j3⟩ := h1.it
              obtain ⟨ov, p1, p2⟩ := h1.op
              obtain ⟨ia, ic, hiv⟩ := row_shape j2
              obtain ⟨oa, oc, hov⟩ := row_shape p2
              rw [hiv] at j1 j2
              rw [hov] at p1 p2
              simp only at j1 p1 j2 p2 r12
              have hit30 : s.items.length ≤ 30 := by omega
              have hop0 : s.opens.length = 0 := by omega
              rw [hop0] at p1
              have hRp : ¬ SR g (w.heap.size + 1) w.heap.size := by
                rintro (e | e)
                · omega
                · omega
              have hk1 : Cells w1 w.heap.size [.slice none 0 0, .int .i64 0] := (((hk0.keeps hO' hRp).drewN n1).keeps ho1 (by omega))
              have k0 := hk1 0 _ rfl
              have k1 := hk1 1 _ rfl
              have hlt1 : w.heap.size + 1 < w1.heap.size := h1.trd.lt
              have tR1 : Typ w1 w.heap.size 160 := ((tR0.keeps hO' hRp).drewN n1).keeps ho1 (by omega)
              clear hk1
              go_wp2_with fail
              clear hn ho HI
              go_region
              all_goals
                go_wp2
                have oW : Only (· = w.heap.size) w1 ((w1.setCell ⟨w.heap.size, 0, none⟩ (.slice ia s.items.length ic)).setCell ⟨w.heap.size, 1, none⟩ (.int .i64 s.groups)).drew :=
                  (Only.setCell (S := (· = w.heap.size)) (p := ⟨w.heap.size, 1, none⟩) (Only.setCell (S := (· = w.heap.size)) (p := ⟨w.heap.size, 0, none⟩) (Only.refl _ w1) (fun _ => rfl) _) (fun _ => rfl) _).drew
                refine bodyPost_ret (v := .tuple #[.agg #[.slice ia s.items.length ic, .int .i64 s.groups], .pointer none]) (by simp [results, Tryz.results174, go_sem, k0, k1]) rfl ⟨_, rfl, ⟨svs, row_keeps (row_base j2 (Nat.zero_le _)) oW (fun b hb e => ?_), j3.keeps oW (fun b hb e => ?_)⟩, hc1.keeps oW (by omega) (fun hq e => ?_) (fun e => ?_), ?_⟩
                · exact (Typ.of_row j2 hb).ne tR1 (by decide) e
                · exact hb.ne tR1 (by decide) e
                · have := (h.tr hq).lt; omega
                · omega
                · have c1 : Only (· = g.c) w wr := oo.trans hO' (fun _ e => e.elim) (fun b hb e => by rcases e with e | e; exact e; omega)
                  exact ((c1.drewN n1).trans ho1 (fun _ e => e) (fun _ _ e => e)).trans oW (fun _ e => e) (fun b hb e => by omega)
            · have b47 : (Adz.peek g.L s.i == 47) = false := by simpa using h47
              have n47 : (Adz.peek g.L s.i != 47) = true := by simpa [bne] using h47
              rw [b47] at hit
              simp only [Bool.false_eq_true, if_false] at hit
              cases his : Adz.item g.L g.pl s with
              | error f => rw [his] at hit; cases hit
              | ok s1 =>
                rw [his] at hit
                simp only at hit
                have HS : Hid (Adz.item g.L g.pl s = .ok s1) := his
                have HT : Hid (Adz.items g.L g.pl m s1 = .ok sE) := hit
                have hlt := Adz.item_lt his
                have HK : Hid (s.i + gk = g.L.length) := hk
                clear his hit hk b47
                go_wp2_with fail
                refine (peek_calls g wr s.i hR'.cur).mono ?_
                rintro e w1 ⟨rfl, n1, rfl⟩
                go_wp2_with fail
                refine (item_ok (hR'.drewN n1) HS.out).mono ?_
                rintro e w1 ⟨rfl, h1, o1⟩
                go_wp2
                go_roundg (g.L.length - s1.i)
                case measure => have := HK.out; have := h1.cur.le; omega
                case rel => exact ⟨s1, m, h1, by have := h1.cur.le; omega, ⟨by omega, HT.out⟩, SR_trans (Only.drewN hO' n1) o1⟩
end Go.Proofs.YtbiobhghnldckaaGreatDoor

/- Proved: the map by runes of what may stand behind each command: how it is made, what a look-up finds. No condition. -/
namespace Go.Proofs.YtbiobhghnldckaaGreatDoor
open Go.RowKit
set_option linter.unusedVariables false

def behEntry (k v : Int) (n : Nat) : MapEntry := { key := .int .i32 k, val := .int .i64 v, born := n }
def behEntries : Nat → List (Int × Int) → List MapEntry
  | _, [] => []
  | n, (k, v) :: l => behEntry k v n :: behEntries (n + 1) l

theorem find_beh (r : Int) : ∀ (l : List (Int × Int)) (n i : Nat), ∃ j, Instr.findNow (.int .i32) (.int .i32 r) (behEntries n l) i = some ((l.find? (fun p => r == p.1)).map (fun p => (j, Value.int .i64 p.2)))
  | [], n, i => ⟨0, rfl⟩
  | (k, v) :: l, n, i => by
    by_cases h : r = k
    · subst h
      exact ⟨i, by simp [behEntries, behEntry, Instr.findNow, Instr.sameNow]⟩
    · obtain ⟨j, hj⟩ := find_beh r l (n + 1) (i + 1)
      have hb : (r == k) = false := by simpa using h
      exact ⟨j, by simp [behEntries, behEntry, Instr.findNow, Instr.sameNow, hb, hj]⟩

/-- The map lies in block mb. -/
def BehAt (w : World) (mb : Nat) : Prop := w.heap[mb]? = some (.map (behEntries 0 Adz.behTable).toArray 22)

theorem checkKey_int' (w : World) (b : Bool) (r : Int) (n : Nat) : (Instr.checkKey b (n + 1) 21 (.int .i32 r)).run Tryz.prog w = .ok () w := by
  simp [Instr.checkKey, run_underlying Tryz.underlying21]
theorem checkKey_int (w : World) (b : Bool) (r : Int) : (Instr.checkKey b 10000 21 (.int .i32 r)).run Tryz.prog w = .ok () w := checkKey_int' w b r 9999

theorem findKey_int (w : World) (r : Int) (es : List MapEntry) (x : Option (Nat × Value)) (h : Instr.findNow (.int .i32) (.int .i32 r) es 0 = some x) : (Instr.findKey 21 (.int .i32 r) es).run Tryz.prog w = .ok x w := by
  simp [Instr.findKey, run_underlying Tryz.underlying21, h]

theorem beh_lookup_ok (w : World) (mb : Nat) (r : Int) (h : BehAt w mb) :
    (Instr.lookup 115 (.map (some mb)) (.int .i32 r) true).run Tryz.prog w = .ok (.tuple #[.int .i64 ((Adz.behindKind r).getD 0), .bool (Adz.behindKind r).isSome]) w := by
  obtain ⟨j, hj⟩ := find_beh r Adz.behTable 0 0
  unfold BehAt at h
  have hf := findKey_int w r (behEntries 0 Adz.behTable).toArray.toList _ hj
  simp only [Instr.lookup, Sem.run_bind, run_underlying Tryz.underlying115, MapKept.run_getObj_map h, checkKey_int, Result.andThen, Sem.run_pure, hf, Adz.behindKind]
  cases Adz.behTable.find? (fun p => r == p.1) with
  | none => simp [Tryz.zeroValue145]
  | some p => simp

theorem beh_lookup (w : World) (mb : Nat) (r : Int) (h : BehAt w mb) :
    (Instr.lookup 115 (.map (some mb)) (.int .i32 r) false).run Tryz.prog w = .ok (.int .i64 ((Adz.behindKind r).getD 0)) w := by
  obtain ⟨j, hj⟩ := find_beh r Adz.behTable 0 0
  unfold BehAt at h
  have hf := findKey_int w r (behEntries 0 Adz.behTable).toArray.toList _ hj
  simp only [Instr.lookup, Sem.run_bind, run_underlying Tryz.underlying115, MapKept.run_getObj_map h, checkKey_int, Result.andThen, Sem.run_pure, hf, Adz.behindKind]
  cases Adz.behTable.find? (fun p => r == p.1) with
  | none => simp [Tryz.zeroValue145]
  | some p => simp

def behUpTo (i : Nat) : Array MapEntry := (behEntries 0 (Adz.behTable.take i)).toArray
theorem beh_up (w : World) (es es' : Array MapEntry) (n : Nat) (k v : Int) (h : Instr.findNow (.int .i32) (.int .i32 k) es.toList 0 = some none) (he : es' = es.push (behEntry k v n)) :
    (Instr.mapUpdate 115 (.map (some w.heap.size)) (.int .i32 k) (.int .i64 v)).run Tryz.prog (w.alloc (.map es n)) = .ok () (w.alloc (.map es' (n + 1))) := by
  have hb : (w.alloc (.map es n)).heap[w.heap.size]? = some (.map es n) := heap_alloc_new w _
  have hf := findKey_int (w.alloc (.map es n)) k es.toList _ h
  simp only [Instr.mapUpdate, Sem.run_bind, run_underlying Tryz.underlying115, MapKept.run_getObj_map hb, checkKey_int, Result.andThen, hf]
  rw [MapKept.run_setObj_map _ hb]
  subst he
  have e : (w.alloc (.map es n)).heap.setIfInBounds w.heap.size (.map (es.push (behEntry k v n)) (n + 1)) = (w.alloc (.map (es.push (behEntry k v n)) (n + 1))).heap := by
    show (w.heap.push _).setIfInBounds w.heap.size _ = w.heap.push _
    apply Array.ext_getElem?
    intro i
    rw [Array.getElem?_setIfInBounds, Array.getElem?_push, Array.getElem?_push]
    by_cases hi : w.heap.size = i
    · simp [hi]
    · rw [if_neg hi, if_neg (fun e => hi e.symm), if_neg (fun e => hi e.symm)]
  exact congrArg (Result.ok ()) (by
    show ({ w.alloc (.map es n) with heap := _ } : World) = w.alloc _
    rw [show ((w.alloc (.map es n)).heap.setIfInBounds w.heap.size (.map (es.push { key := .int .i32 k, val := .int .i64 v, born := n }) (n + 1))) = (w.alloc (.map (es.push (behEntry k v n)) (n + 1))).heap from e]
    rfl)

set_option maxRecDepth 100000 in
set_option maxHeartbeats 800000 in
theorem behinds_calls (w : World) : Calls Tryz.prog 50 #[] w fun e w' => e = .returned (.map (some w.heap.size)) ∧ w' = w.alloc (.map (behEntries 0 Adz.behTable).toArray 22) := by
  have hmm := @run_makeMap Tryz.prog
  have u0 := beh_up w #[] (behUpTo 1) 0 123 1 (by rfl) (by rfl)
  have u1 := beh_up w (behUpTo 1) (behUpTo 2) 1 61 0 (by rfl) (by rfl)
  have u2 := beh_up w (behUpTo 2) (behUpTo 3) 2 100 0 (by rfl) (by rfl)
  have u3 := beh_up w (behUpTo 3) (behUpTo 4) 3 68 0 (by rfl) (by rfl)
  have u4 := beh_up w (behUpTo 4) (behUpTo 5) 4 103 0 (by rfl) (by rfl)
  have u5 := beh_up w (behUpTo 5) (behUpTo 6) 5 71 0 (by rfl) (by rfl)
  have u6 := beh_up w (behUpTo 6) (behUpTo 7) 6 104 0 (by rfl) (by rfl)
  have u7 := beh_up w (behUpTo 7) (behUpTo 8) 7 72 0 (by rfl) (by rfl)
  have u8 := beh_up w (behUpTo 8) (behUpTo 9) 8 110 0 (by rfl) (by rfl)
  have u9 := beh_up w (behUpTo 9) (behUpTo 10) 9 78 0 (by rfl) (by rfl)
  have u10 := beh_up w (behUpTo 10) (behUpTo 11) 10 112 0 (by rfl) (by rfl)
  have u11 := beh_up w (behUpTo 11) (behUpTo 12) 11 80 0 (by rfl) (by rfl)
  have u12 := beh_up w (behUpTo 12) (behUpTo 13) 12 113 0 (by rfl) (by rfl)
  have u13 := beh_up w (behUpTo 13) (behUpTo 14) 13 120 0 (by rfl) (by rfl)
  have u14 := beh_up w (behUpTo 14) (behUpTo 15) 14 97 2 (by rfl) (by rfl)
  have u15 := beh_up w (behUpTo 15) (behUpTo 16) 15 99 2 (by rfl) (by rfl)
  have u16 := beh_up w (behUpTo 16) (behUpTo 17) 16 105 2 (by rfl) (by rfl)
  have u17 := beh_up w (behUpTo 17) (behUpTo 18) 17 58 3 (by rfl) (by rfl)
  have u18 := beh_up w (behUpTo 18) (behUpTo 19) 18 98 4 (by rfl) (by rfl)
  have u19 := beh_up w (behUpTo 19) (behUpTo 20) 19 116 4 (by rfl) (by rfl)
  have u20 := beh_up w (behUpTo 20) (behUpTo 21) 20 115 5 (by rfl) (by rfl)
  have u21 := beh_up w (behUpTo 21) (behUpTo 22) 21 121 6 (by rfl) (by rfl)
  go_enter Tryz.func50, Tryz.ntmps50
  go_wp2
  go_ret
  exact ⟨rfl, rfl⟩
end Go.Proofs.YtbiobhghnldckaaGreatDoor

/- Proved: a number, and the parts of a replacement, are read, where they may stand. Conditions: the cursor lies in memory as 'Cur' says, and the parser leads to it. -/
namespace Go.Proofs.YtbiobhghnldckaaGreatDoor
open Go.RowKit
set_option linter.unusedVariables false
attribute [local go_sem ↓] Go.wp_at_zero Go.wp_at_succ

/-- The parser at pp leads to the cursor. -/
structure Lead (g : CG) (pp : Nat) (w : World) : Prop where
  at0 : w.cell? ⟨pp, 0, none⟩ = some (.pointer (some ⟨g.c, 0, none⟩))
  ne : pp ≠ g.c
  typ : Typ w pp 119
theorem Lead.keeps {g : CG} {pp : Nat} {S : Nat → Prop} {w w' : World} (h : Lead g pp w) (o : Only S w w') (hs : ¬ S pp) : Lead g pp w' := ⟨o.keeps h.at0 hs, h.ne, h.typ.keeps o hs⟩
theorem Lead.moved {g : CG} {pp : Nat} {w w' : World} (h : Lead g pp w) (o : Only (· = g.c) w w') : Lead g pp w' := h.keeps o h.ne
theorem Lead.drewN {g : CG} {pp : Nat} {w : World} (h : Lead g pp w) (n : Nat) : Lead g pp (w.drewN n) := h.moved ((Only.refl _ w).drewN n)
theorem Lead.alloc {g : CG} {pp : Nat} {w : World} (h : Lead g pp w) (o : Obj) : Lead g pp (w.alloc o) := h.moved ((Only.refl _ w).alloc o)
theorem Lead.lt {g : CG} {pp : Nat} {w : World} (h : Lead g pp w) : pp < w.heap.size := World.block_lt_of_cell? w _ h.at0

set_option maxHeartbeats 800000 in
theorem number_ok (g : CG) (pp : Nat) (w : World) (i : Nat) (h : Cur g w i) (hp : Lead g pp w) (n : Int) (i' : Nat) (hr : Adz.number g.L g.pl i = .ok (n, i')) :
    Calls Tryz.prog 194 #[.pointer (some ⟨pp, 0, none⟩)] w fun e w' => e = .returned (.tuple #[.int .i64 n, .pointer none]) ∧ Cur g w' i' ∧ Only (· = g.c) w w' := by
  obtain ⟨hn, h0, h1, hi⟩ := Adz.number_parts hr
  have q0 := hp.at0
  have b0 : (n == 0) = false := by simpa using h0
  have b1 : decide (9999 < n) = false := decide_eq_false (by omega)
  have HN : Hid (Adz.numFrom 0 (Adz.digitsOf g.L i) = n) := hn
  have HI : Hid (i' = i + (Adz.digitsOf g.L i).length) := hi
  clear hn hi
  go_enter Tryz.func194, Tryz.ntmps194
  go_wp2_with fail
  refine (place_calls g _ i h).mono ?_
  rintro e w1 ⟨rfl, n1, rfl⟩
  go_wp2_with fail
  go_loopg [5] (g.L.length - i) (fun k v wr => ∃ j m, v = .int .i64 m ∧ 0 ≤ m ∧ m ≤ 10000 ∧ Hid (Cur g wr j) ∧ Hid (Lead g pp wr) ∧ j + k = g.L.length ∧ Hid (Adz.numFrom m (Adz.digitsOf g.L j) = n ∧ i' = j + (Adz.digitsOf g.L j).length) ∧ Hid (Only (· = g.c) w wr))
  case atStart => exact ⟨i, 0, rfl, by omega, by omega, h.drewN _, hp.drewN _, by have := h.le; omega, ⟨HN.out, HI.out⟩, (Only.refl _ w).drewN _⟩
  case round =>
    obtain ⟨j, m, rfl, m0, m1, hc, hl, hk, hN, ho⟩ := hrel
    have hc' : Cur g wr j := hc
    have hl' : Lead g pp wr := hl
    have HK : Hid (j + gk = g.L.length) := hk
    have q1 := hl'.at0
    clear hk hc hl
    by_cases hd : Adz.isDigit (Adz.peek g.L j) = true
    · have hlt : j < g.L.length := Adz.lt_of_digit hd
      have hstep := Adz.digits_step hd
      have HD : Hid (Adz.isDigit (Adz.peek g.L j) = true) := hd
      have HS : Hid (Adz.digitsOf g.L j = Adz.peek g.L j :: Adz.digitsOf g.L (j + 1)) := hstep
      obtain ⟨d0, d1⟩ := Adz.digit_range hd
      clear hd hstep
      go_wp2_with fail
      refine (peek_calls g wr j hc').mono ?_
      rintro e w1 ⟨rfl, n1, rfl⟩
      go_wp2_with fail
      refine (isDigit_calls _ _).mono ?_
      rintro e w1 ⟨rfl, rfl⟩
      rw [HD.out]
      go_wp2_with fail
      refine (next_calls g _ j (hc'.drewN _) hlt).mono ?_
      rintro e w1 ⟨rfl, hc2, ho2⟩
      go_wp2
      go_roundg (gk - 1)
      case measure => have := HK.out; omega
      case rel =>
        refine ⟨j + 1, _, rfl, by omega, by omega, hc2, (hl'.drewN n1).moved ho2, by have := HK.out; omega, ?_, (Only.drewN ho n1).trans ho2 (fun _ e => e) (fun _ _ e => e)⟩
        obtain ⟨e1, e2⟩ := Hid.out hN
        rw [HS.out] at e1 e2
        exact ⟨e1, by rw [e2]; simp; omega⟩
    · have hdf : Adz.isDigit (Adz.peek g.L j) = false := by simpa using hd
      have HD : Hid (Adz.isDigit (Adz.peek g.L j) = false) := hdf
      obtain ⟨e1, e2⟩ := Hid.out hN
      rw [Adz.digits_stop hdf] at e1 e2
      have hmn : m = n := e1
      have hij : i' = j := by simpa using e2
      subst hmn
      subst hij
      clear hd hdf e1 e2 hN HN HI hr
      go_wp2_with fail
      refine (peek_calls g wr _ hc').mono ?_
      rintro e w1 ⟨rfl, n1, rfl⟩
      go_wp2_with fail
      refine (isDigit_calls _ _).mono ?_
      rintro e w1 ⟨rfl, rfl⟩
      rw [HD.out]
      go_wp2
      go_ret2
      exact ⟨rfl, hc'.drewN _, Only.drewN ho _⟩

def partCells (p : Adz.Part) : List Value := [.int .i64 p.kind, .string ⟨p.text.toArray⟩, .int .i64 p.group]
theorem str_utf8 (r : Int) : (⟨(Adz.utf8 r).toArray⟩ : ByteArray) = Utf8.encode r := by simp [Adz.utf8]

theorem literal_calls (w : World) (r : Int) :
    Calls Tryz.prog 214 #[.int .i32 r, .pointer none] w fun e w' => e = .returned (.tuple #[.agg #[.int .i64 0, .string (Utf8.encode r), .int .i64 0], .pointer none]) ∧ Only (fun _ => False) w w' := by
  go_enter Tryz.func214, Tryz.ntmps214
  go_wp2
  exact bodyPost_ret (v := .tuple #[.agg #[.int .i64 0, .string (Utf8.encode r), .int .i64 0], .pointer none]) (by simp [results, Tryz.results214, go_sem]) rfl ⟨rfl, (Only.refl _ w).alloc _⟩
end Go.Proofs.YtbiobhghnldckaaGreatDoor

/- Proved: a part of a replacement is read, where it may stand. Conditions: the cursor lies in memory as 'Cur' says, and the parser leads to it. -/
namespace Go.Proofs.YtbiobhghnldckaaGreatDoor
open Go.RowKit
set_option linter.unusedVariables false
attribute [local go_sem ↓] Go.wp_at_zero Go.wp_at_succ

def set3 (w : World) (b : Nat) (v0 v1 v2 : Value) : World := ((w.setCell ⟨b, 0, none⟩ v0).setCell ⟨b, 1, none⟩ v1).setCell ⟨b, 2, none⟩ v2
theorem set3_only (w : World) (b : Nat) (v0 v1 v2 : Value) : Only (· = b) w (set3 w b v0 v1 v2) :=
  Only.setCell (S := (· = b)) (p := ⟨b, 2, none⟩) (Only.setCell (S := (· = b)) (p := ⟨b, 1, none⟩) (Only.setCell (S := (· = b)) (p := ⟨b, 0, none⟩) (Only.refl _ w) (fun _ => rfl) _) (fun _ => rfl) _) (fun _ => rfl) _

theorem asc_repl : Asc ⟨#[47, 92, 38]⟩ Adz.replSpecial := ⟨by decide, by decide, by decide⟩

/-- What is left to say where a part has been laid into its result's block. -/
theorem part_end {g : CG} {w w1 : World} {i0 i' : Nat} (h : Cur g w i0) (hc : Cur g w1 i') (o : Only (· = g.c) w w1) (v0 v1 v2 : Value) (hlt : w.heap.size < w1.heap.size) :
    Cur g (set3 w1 w.heap.size v0 v1 v2) i' ∧ Only (· = g.c) w (set3 w1 w.heap.size v0 v1 v2) := by
  have o3 := set3_only w1 w.heap.size v0 v1 v2
  have hcl := h.lt
  refine ⟨hc.keeps o3 (by omega) (fun hn e => by have := (h.tr hn).lt; omega) (fun e => by have := h.tp.lt; omega), o.trans o3 (fun _ e => e) (fun x hx e => by omega)⟩

set_option maxRecDepth 100000 in
set_option maxHeartbeats 1600000 in
theorem part_ok (g : CG) (pp : Nat) (w : World) (i : Nat) (h : Cur g w i) (hp : Lead g pp w) (gr : Int) (p : Adz.Part) (i' : Nat) (hr : Adz.part g.L g.pl gr i = .ok (p, i')) :
    Calls Tryz.prog 196 #[.pointer (some ⟨pp, 0, none⟩), .int .i64 gr] w fun e w' => e = .returned (.tuple #[.agg #[.int .i64 p.kind, .string ⟨p.text.toArray⟩, .int .i64 p.group], .pointer none]) ∧ Cur g w' i' ∧ Only (· = g.c) w w' := by
  unfold Adz.part at hr
  have hcl := h.lt
  have q0 := hp.at0
  have hpl : pp < w.heap.size := hp.lt
  have hnew : w.heap.size ≠ g.c := by omega
  have oa : ∀ o : Obj, Only (· = g.c) w (w.alloc o) := fun o => (Only.refl _ w).alloc o
  have q0a : ∀ o : Obj, (w.alloc o).cell? ⟨pp, 0, none⟩ = some (.pointer (some ⟨g.c, 0, none⟩)) := fun o => (World.cell?_alloc_past _ _ _ hpl).trans q0
  by_cases c1 : Adz.peek g.L i = 38
  · simp only [c1, beq_self_eq_true, if_true, Except.ok.injEq, Prod.mk.injEq] at hr
    obtain ⟨rfl, rfl⟩ := hr
    go_enter Tryz.func196, Tryz.ntmps196
    go_wp2_with fail
    refine (place_calls g _ i (h.alloc _)).mono ?_
    rintro e w1 ⟨rfl, n1, rfl⟩
    go_wp2_with fail
    refine (take_yes g _ i 38 ((h.alloc _).drewN _) c1 (by omega)).mono ?_
    rintro e w2 ⟨rfl, hc, ho⟩
    have hk : Cells w2 w.heap.size [.int .i64 0, .string ⟨#[]⟩, .int .i64 0] := ((Cells.new w _ _).drewN n1).keeps ho hnew
    have k0 := hk 0 _ rfl
    have k1 := hk 1 _ rfl
    have k2 := hk 2 _ rfl
    clear hk
    have hlt : w.heap.size < w2.heap.size := by have := ho.size; simp at this; omega
    go_wp2
    obtain ⟨c, o⟩ := part_end h hc (((oa _).drewN n1).trans ho (fun _ e => e) (fun _ _ e => e)) (.int .i64 1) (.string ⟨#[]⟩) (.int .i64 0) hlt
    exact bodyPost_ret (v := .tuple #[.agg #[.int .i64 1, .string ⟨#[]⟩, .int .i64 0], .pointer none]) (by simp [results, Tryz.results196, go_sem, k0, k1, k2]) rfl ⟨rfl, c, o⟩
  · have b1 : (Adz.peek g.L i == 38) = false := by simpa using c1
    rw [b1] at hr
    simp only [Bool.false_eq_true, if_false] at hr
    clear b1
    by_cases c2 : Adz.peek g.L i = 92
    · have b2 : (Adz.peek g.L i != 92) = false := by simp [c2]
      rw [b2] at hr
      simp only [Bool.false_eq_true, if_false] at hr
      clear b2
      by_cases c3 : (Adz.peek g.L (i + 1) == 48 || !Adz.isDigit (Adz.peek g.L (i + 1))) = true
      · rw [if_pos c3] at hr
        cases hes : Adz.escaped g.L g.pl Adz.replSpecial (i + 1) with
        | error f => rw [hes] at hr; cases hr
        | ok q =>
          obtain ⟨r, i2⟩ := q
          rw [hes] at hr
          simp only [Adz.literal, Except.ok.injEq, Prod.mk.injEq] at hr
          obtain ⟨rfl, rfl⟩ := hr
          have HE : Hid (Adz.escaped g.L g.pl Adz.replSpecial (i + 1) = .ok (r, i2)) := hes
          clear hes
          by_cases c4 : Adz.peek g.L (i + 1) = 48
          · clear c3
            go_enter Tryz.func196, Tryz.ntmps196
            go_wp2_with fail
            refine (place_calls g _ i (h.alloc _)).mono ?_
            rintro e w1 ⟨rfl, n1, rfl⟩
            go_wp2_with fail
            refine (take_no g _ i 38 ((h.alloc _).drewN _) c1).mono ?_
            rintro e w1 ⟨rfl, n2, rfl⟩
            go_wp2_with fail
            refine (take_yes g _ i 92 ((h.alloc _).drewN _) c2 (by omega)).mono ?_
            rintro e w2 ⟨rfl, hc, ho⟩
            have q2 := ho.keeps (q0a _) hp.ne
            go_wp2_with fail
            refine (peek_calls g w2 (i + 1) hc).mono ?_
            rintro e w1 ⟨rfl, n3, rfl⟩
            rw [c4]
            go_wp2_with fail
            refine (escaped_ok g _ (i + 1) _ _ asc_repl (hc.drewN _) r i2 HE.out).mono ?_
            rintro e w3 ⟨rfl, hc3, ho3⟩
            go_wp2_with fail
            refine (literal_calls _ r).mono ?_
            rintro e w4 ⟨rfl, ho4⟩
            have o24 : Only (· = g.c) w2 w4 := (((Only.refl (· = g.c) w2).drewN _).trans ho3 (fun _ e => e) (fun _ _ e => e)).trans ho4 (fun _ e => e) (fun _ _ e => e.elim)
            have hc4 := hc3.keeps ho4 id (fun _ => id) id
            have hk : Cells w4 w.heap.size [.int .i64 0, .string ⟨#[]⟩, .int .i64 0] := (((Cells.new w _ _).drewN (n1 + n2)).keeps ho hnew).keeps o24 hnew
            have k0 := hk 0 _ rfl
            have k1 := hk 1 _ rfl
            have k2 := hk 2 _ rfl
            clear hk
            have hlt : w.heap.size < w4.heap.size := by have := ho.size; have := o24.size; simp at *; omega
            go_wp2
            obtain ⟨c, o⟩ := part_end h hc4 ((((oa _).drewN (n1 + n2)).trans ho (fun _ e => e) (fun _ _ e => e)).trans o24 (fun _ e => e) (fun _ _ e => e)) (.int .i64 0) (.string (Utf8.encode r)) (.int .i64 0) hlt
            rw [str_utf8]
            exact bodyPost_ret (v := .tuple #[.agg #[.int .i64 0, .string (Utf8.encode r), .int .i64 0], .pointer none]) (by simp [results, Tryz.results196, go_sem, k0, k1, k2]) rfl ⟨rfl, c, o⟩
          · have hnd : Adz.isDigit (Adz.peek g.L (i + 1)) = false := by simpa [c4] using c3
            have HD : Hid (Adz.isDigit (Adz.peek g.L (i + 1)) = false) := hnd
            have b4 : (Adz.peek g.L (i + 1) == 48) = false := by simpa using c4
            clear c3 hnd
            go_enter Tryz.func196, Tryz.ntmps196
            go_wp2_with fail
            refine (place_calls g _ i (h.alloc _)).mono ?_
            rintro e w1 ⟨rfl, n1, rfl⟩
            go_wp2_with fail
            refine (take_no g _ i 38 ((h.alloc _).drewN _) c1).mono ?_
            rintro e w1 ⟨rfl, n2, rfl⟩
            go_wp2_with fail
            refine (take_yes g _ i 92 ((h.alloc _).drewN _) c2 (by omega)).mono ?_
            rintro e w2 ⟨rfl, hc, ho⟩
            have q2 := ho.keeps (q0a _) hp.ne
            go_wp2_with fail
            refine (peek_calls g w2 (i + 1) hc).mono ?_
            rintro e w1 ⟨rfl, n3, rfl⟩
            go_wp2_with fail
            refine (isDigit_calls _ _).mono ?_
            rintro e w1 ⟨rfl, rfl⟩
            rw [HD.out]
            go_wp2_with fail
            refine (escaped_ok g _ (i + 1) _ _ asc_repl (hc.drewN _) r i2 HE.out).mono ?_
            rintro e w3 ⟨rfl, hc3, ho3⟩
            go_wp2_with fail
            refine (literal_calls _ r).mono ?_
            rintro e w4 ⟨rfl, ho4⟩
            have o24 : Only (· = g.c) w2 w4 := (((Only.refl (· = g.c) w2).drewN _).trans ho3 (fun _ e => e) (fun _ _ e => e)).trans ho4 (fun _ e => e) (fun _ _ e => e.elim)
            have hc4 := hc3.keeps ho4 id (fun _ => id) id
            have hk : Cells w4 w.heap.size [.int .i64 0, .string ⟨#[]⟩, .int .i64 0] := (((Cells.new w _ _).drewN (n1 + n2)).keeps ho hnew).keeps o24 hnew
            have k0 := hk 0 _ rfl
            have k1 := hk 1 _ rfl
            have k2 := hk 2 _ rfl
            clear hk
            have hlt : w.heap.size < w4.heap.size := by have := ho.size; have := o24.size; simp at *; omega
            go_wp2
            obtain ⟨c, o⟩ := part_end h hc4 ((((oa _).drewN (n1 + n2)).trans ho (fun _ e => e) (fun _ _ e => e)).trans o24 (fun _ e => e) (fun _ _ e => e)) (.int .i64 0) (.string (Utf8.encode r)) (.int .i64 0) hlt
            rw [str_utf8]
            exact bodyPost_ret (v := .tuple #[.agg #[.int .i64 0, .string (Utf8.encode r), .int .i64 0], .pointer none]) (by simp [results, Tryz.results196, go_sem, k0, k1, k2]) rfl ⟨rfl, c, o⟩
      · rw [if_neg c3] at hr
        simp only [Bool.not_eq_true, Bool.or_eq_false_iff, Bool.not_eq_false'] at c3
        obtain ⟨b4, hdg⟩ := c3
        by_cases c5 : Adz.peek g.L (i + 1) - 48 > gr
        · simp [c5] at hr
        · rw [if_neg c5] at hr
          simp only [Except.ok.injEq, Prod.mk.injEq] at hr
          obtain ⟨rfl, rfl⟩ := hr
          have HD : Hid (Adz.isDigit (Adz.peek g.L (i + 1)) = true) := hdg
          have hlt1 : i + 1 < g.L.length := Adz.lt_of_digit hdg
          obtain ⟨d0, d1⟩ := Adz.digit_range hdg
          clear hdg
          go_enter Tryz.func196, Tryz.ntmps196
          go_wp2_with fail
          refine (place_calls g _ i (h.alloc _)).mono ?_
          rintro e w1 ⟨rfl, n1, rfl⟩
          go_wp2_with fail
          refine (take_no g _ i 38 ((h.alloc _).drewN _) c1).mono ?_
          rintro e w1 ⟨rfl, n2, rfl⟩
          go_wp2_with fail
          refine (take_yes g _ i 92 ((h.alloc _).drewN _) c2 (by omega)).mono ?_
          rintro e w2 ⟨rfl, hc, ho⟩
          have q2 := ho.keeps (q0a _) hp.ne
          go_wp2_with fail
          refine (peek_calls g w2 (i + 1) hc).mono ?_
          rintro e w1 ⟨rfl, n3, rfl⟩
          go_wp2_with fail
          refine (isDigit_calls _ _).mono ?_
          rintro e w1 ⟨rfl, rfl⟩
          rw [HD.out]
          go_wp2_with fail
          refine (next_calls g _ (i + 1) (hc.drewN _) hlt1).mono ?_
          rintro e w4 ⟨rfl, hc4, ho4⟩
          have o24 : Only (· = g.c) w2 w4 := ((Only.refl (· = g.c) w2).drewN _).trans ho4 (fun _ e => e) (fun _ _ e => e)
          have hk : Cells w4 w.heap.size [.int .i64 0, .string ⟨#[]⟩, .int .i64 0] := (((Cells.new w _ _).drewN (n1 + n2)).keeps ho hnew).keeps o24 hnew
          have k0 := hk 0 _ rfl
          have k1 := hk 1 _ rfl
          have k2 := hk 2 _ rfl
          clear hk
          have hlt : w.heap.size < w4.heap.size := by have := ho.size; have := o24.size; simp at *; omega
          go_wp2
          obtain ⟨c, o⟩ := part_end h hc4 ((((oa _).drewN (n1 + n2)).trans ho (fun _ e => e) (fun _ _ e => e)).trans o24 (fun _ e => e) (fun _ _ e => e)) (.int .i64 2) (.string ⟨#[]⟩) (.int .i64 (Adz.peek g.L (i + 1) - 48)) hlt
          exact bodyPost_ret (v := .tuple #[.agg #[.int .i64 2, .string ⟨#[]⟩, .int .i64 (Adz.peek g.L (i + 1) - 48)], .pointer none]) (by simp [results, Tryz.results196, go_sem, k0, k1, k2]) rfl ⟨rfl, c, o⟩
    · have b2 : (Adz.peek g.L i != 92) = true := by simpa [bne] using c2
      rw [b2] at hr
      simp only [if_true] at hr
      cases hes : Adz.plain g.L g.pl Adz.replSpecial i with
      | error f => rw [hes] at hr; cases hr
      | ok q =>
        obtain ⟨r, i2⟩ := q
        rw [hes] at hr
        simp only [Adz.literal, Except.ok.injEq, Prod.mk.injEq] at hr
        obtain ⟨rfl, rfl⟩ := hr
        have HE : Hid (Adz.plain g.L g.pl Adz.replSpecial i = .ok (r, i2)) := hes
        clear hes b2
        go_enter Tryz.func196, Tryz.ntmps196
        go_wp2_with fail
        refine (place_calls g _ i (h.alloc _)).mono ?_
        rintro e w1 ⟨rfl, n1, rfl⟩
        go_wp2_with fail
        refine (take_no g _ i 38 ((h.alloc _).drewN _) c1).mono ?_
        rintro e w1 ⟨rfl, n2, rfl⟩
        go_wp2_with fail
        refine (take_no g _ i 92 ((h.alloc _).drewN _) c2).mono ?_
        rintro e w1 ⟨rfl, n3, rfl⟩
        go_wp2_with fail
        refine (plain_ok g _ i _ _ asc_repl ((h.alloc _).drewN _) r i2 HE.out).mono ?_
        rintro e w3 ⟨rfl, hc3, ho3⟩
        go_wp2_with fail
        refine (literal_calls _ r).mono ?_
        rintro e w4 ⟨rfl, ho4⟩
        have hc4 := hc3.keeps ho4 id (fun _ => id) id
        have o34 : Only (· = g.c) ((w.alloc (.cells #[.int .i64 0, .string ⟨#[]⟩, .int .i64 0] 240)).drewN (n1 + n2 + n3)) w4 := ho3.trans ho4 (fun _ e => e) (fun _ _ e => e.elim)
        have hk : Cells w4 w.heap.size [.int .i64 0, .string ⟨#[]⟩, .int .i64 0] := ((Cells.new w _ _).drewN (n1 + n2 + n3)).keeps o34 hnew
        have k0 := hk 0 _ rfl
        have k1 := hk 1 _ rfl
        have k2 := hk 2 _ rfl
        clear hk
        have hlt : w.heap.size < w4.heap.size := by have := o34.size; simp at this; omega
        go_wp2
        obtain ⟨c, o⟩ := part_end h hc4 (((oa _).drewN (n1 + n2 + n3)).trans o34 (fun _ e => e) (fun _ _ e => e)) (.int .i64 0) (.string (Utf8.encode r)) (.int .i64 0) hlt
        rw [str_utf8]
        exact bodyPost_ret (v := .tuple #[.agg #[.int .i64 0, .string (Utf8.encode r), .int .i64 0], .pointer none]) (by simp [results, Tryz.results196, go_sem, k0, k1, k2]) rfl ⟨rfl, c, o⟩
end Go.Proofs.YtbiobhghnldckaaGreatDoor

/- Proved: a replacement is read, where all of it may stand. Conditions: the cursor lies in memory as 'Cur' says, and the parser leads to it. -/
namespace Go.Proofs.YtbiobhghnldckaaGreatDoor
open Go.RowKit
set_option linter.unusedVariables false

theorem infoPart : (Tryz.prog.info? 240).map (fun i => (i.zero, i.size, i.bytes)) = some (some (.agg #[.int .i64 0, .string ⟨#[]⟩, .int .i64 0]), 3, 32) := by kernel_rfl

def PartsAt (w : World) (rv : Value) (ps : List Adz.Part) : Prop := w.ownsRow 0 240 3 rv ps.length (ps.flatMap partCells)
theorem PartsAt.keeps {S : Nat → Prop} {w w' : World} {rv : Value} {ps : List Adz.Part} (h : PartsAt w rv ps) (o : Only S w w') (hs : ∀ b, Typ w b 240 → ¬ S b) : PartsAt w' rv ps :=
  row_keeps h o (fun b hb => hs b (Typ.of_row h hb))

set_option maxRecDepth 100000 in
set_option maxHeartbeats 1600000 in
theorem replacement_ok (g : CG) (pp : Nat) (w : World) (i : Nat) (h : Cur g w i) (hp : Lead g pp w) (gr : Int) (ps : List Adz.Part) (i' : Nat) (hr : Adz.replacement g.L g.pl gr (g.L.length + 1) [] i = .ok (ps, i')) :
    Calls Tryz.prog 175 #[.pointer (some ⟨pp, 0, none⟩), .int .i64 gr] w fun e w' => ∃ rv, e = .returned (.tuple #[rv, .pointer none]) ∧ PartsAt w' rv ps ∧ Cur g w' i' ∧ Only (· = g.c) w w' := by
  have HR : Hid (Adz.replacement g.L g.pl gr (g.L.length + 1) [] i = .ok (ps, i')) := hr
  clear hr
  have hle0 := h.le
  have hsm := h.small
  have hcl := h.lt
  obtain ⟨i0, hi0, hz0, hz1, hz2⟩ := info_parts infoPart
  go_enter Tryz.func175, Tryz.ntmps175
  go_wp2_with fail
  go_loopg [6] (g.L.length - i) (fun k v wr => ∃ j qs m ra rc, v = .slice ra qs.length rc ∧ Hid (Cur g wr j) ∧ Hid (Lead g pp wr) ∧ Hid (wr.ownsRow w.heap.size 240 3 (.slice ra qs.length rc) qs.length (qs.flatMap partCells)) ∧ j + k = g.L.length ∧ Hid (g.L.length < m + j ∧ qs.length ≤ j ∧ Adz.replacement g.L g.pl gr m qs j = .ok (ps, i')) ∧ Hid (Only (fun b => b = g.c ∨ w.heap.size ≤ b) w wr))
  case atStart => exact ⟨i, [], g.L.length + 1, none, 0, rfl, h, hp, World.ownsRow_nil _ _ _ _, by omega, ⟨by omega, by simp, HR.out⟩, Only.refl _ _⟩
  case round =>
    obtain ⟨j, qs, m, ra, rc, rfl, hc, hl, hw, hk, hI, hO⟩ := hrel
    obtain ⟨hm, hqj, hit⟩ := hI.out
    have hc' : Cur g wr j := hc
    have hl' : Lead g pp wr := hl
    have hO' : Only (fun b => b = g.c ∨ w.heap.size ≤ b) w wr := hO
    have HK : Hid (j + gk = g.L.length) := hk
    have q1 := hl'.at0
    clear hk hc hl hI hO
    cases m with
    | zero => have := hc'.le; omega
    | succ m =>
      unfold Adz.replacement at hit
      by_cases h47 : Adz.peek g.L j = 47
      · simp only [h47, beq_self_eq_true, if_true, Except.ok.injEq, Prod.mk.injEq] at hit
        obtain ⟨rfl, rfl⟩ := hit
        go_wp2_with fail
        refine (take_yes g wr j 47 hc' h47 (by omega)).mono ?_
        rintro e w1 ⟨rfl, hc1, ho1⟩
        go_wp2
        go_ret2
        refine ⟨_, rfl, row_base (row_keeps (Hid.out hw) ho1 (fun b hb e => (Typ.of_row (Hid.out hw) hb).ne hc'.tc (by decide) e)) (Nat.zero_le _), hc1, ?_⟩
        exact (hO'.trans ho1 (fun _ e => e) (fun _ _ e => Or.inl e) : Only (fun b => b = g.c ∨ w.heap.size ≤ b) w w1).mono (fun b hb e => by rcases e with e | e; exact e; omega)
      · have b47 : (Adz.peek g.L j == 47) = false := by simpa using h47
        rw [b47] at hit
        simp only [Bool.false_eq_true, if_false] at hit
        cases hpt : Adz.part g.L g.pl gr j with
        | error f => rw [hpt] at hit; cases hit
        | ok q =>
          obtain ⟨p, j1⟩ := q
          rw [hpt] at hit
          simp only at hit
          have HP : Hid (Adz.part g.L g.pl gr j = .ok (p, j1)) := hpt
          have HT : Hid (Adz.replacement g.L g.pl gr m (qs ++ [p]) j1 = .ok (ps, i')) := hit
          have hlt := Adz.part_lt hpt
          have hjl := hc'.le
          clear hpt hit b47
          go_wp2_with fail
          refine (take_no g wr j 47 hc' h47).mono ?_
          rintro e w1 ⟨rfl, n1, rfl⟩
          go_wp2_with fail
          refine (part_ok g pp _ j (hc'.drewN n1) (hl'.drewN n1) gr p j1 HP.out).mono ?_
          rintro e w2 ⟨rfl, hc2, ho2⟩
          have o2 : Only (· = g.c) wr w2 := ((Only.refl (· = g.c) wr).drewN n1).trans ho2 (fun _ e => e) (fun _ _ e => e)
          have hw2 := row_keeps (Hid.out hw) o2 (fun b hb e => (Typ.of_row (Hid.out hw) hb).ne hc'.tc (by decide) e)
          have hj1 := hc2.le
          have hsz : w.heap.size ≤ w2.heap.size := Nat.le_trans hO'.size o2.size
          have hblk : ∀ o1 o2 : Obj, ((w2.alloc o1).alloc o2).heap[w2.heap.size + 1]? = some o2 := fun o1 o2 => by
            have := heap_alloc_new (w2.alloc o1) o2
            simpa using this
          go_wp2_with (at_builtin; refine wpList_append_lies _ (by rfl) _ _ _ (by rfl) w.heap.size 240 i0 _ 3 32 Tryz.underlying161 hi0 hz0 hz1 hz2 rfl (by omega) (.slice ra qs.length rc) qs.length (qs.flatMap partCells) (by rfl) ((hw2.alloc _).alloc _) ⟨w2.heap.size + 1, 0, none⟩ 1 1 [.int .i64 p.kind, .string ⟨p.text.toArray⟩, .int .i64 p.group] (by rfl) (by rfl) (World.news_of_block (cs := #[.int .i64 p.kind, .string ⟨p.text.toArray⟩, .int .i64 p.group]) (t := 240) (fr := (0, 0)) (hblk _ _)) (by simp [Value.oneCell']) (by omega) (by unfold maxLen; omega) (by omega) (by simp; omega) (w2.heap.size + 2) (by simp) ?_; intro g1 cap w3 hown1 hgrow hat hlt1)
          go_roundg (g.L.length - j1)
          case measure => have := HK.out; omega
          case rel =>
            have o3 : Only (fun b => (Value.slice ra qs.length rc).ownBlock = some b) w2 w3 := ((((Only.refl (fun b => (Value.slice ra qs.length rc).ownBlock = some b) w2).alloc _).alloc _)).trans (Only.of_grown hgrow) (fun _ e => e) (fun _ _ e => e)
            refine ⟨j1, qs ++ [p], m, some ⟨g1, 0, none⟩, cap, by simp, ?_, ?_, ?_, by omega, ⟨by omega, by simp; omega, HT.out⟩, ?_⟩
            · exact hc2.keeps o3 (row_ne hw2 hc2.tc (by decide)) (fun hn => row_ne hw2 (hc2.tr hn) (by decide)) (row_ne hw2 hc2.tp (by decide))
            · have hl2 : Lead g pp w2 := hl'.moved o2
              exact hl2.keeps o3 (row_ne hw2 hl2.typ (by decide))
            · have : (qs ++ [p]).flatMap partCells = qs.flatMap partCells ++ [.int .i64 p.kind, .string ⟨p.text.toArray⟩, .int .i64 p.group] := by simp [partCells]
              rw [this, List.length_append]
              exact hown1
            · exact (hO'.trans o2 (fun _ e => e) (fun _ _ e => Or.inl e) : Only (fun b => b = g.c ∨ w.heap.size ≤ b) w w2).trans o3 (fun _ e => e) (fun b hb e => Or.inr (hw2.lt b e).1)
end Go.Proofs.YtbiobhghnldckaaGreatDoor

/- Proved: the flags of an s are read, where they may stand. Conditions: the cursor lies in memory as 'Cur' says, the parser leads to it, the command lies in a block of its own. -/
namespace Go.Proofs.YtbiobhghnldckaaGreatDoor
open Go.RowKit
set_option linter.unusedVariables false

/-- Of block cb only cells of P may have turned. -/
structure Keep (cb : Nat) (P : Nat → Prop) (w w' : World) : Prop where
  cells : ∀ o, ¬ P o → w'.cell? ⟨cb, o, none⟩ = w.cell? ⟨cb, o, none⟩
  frozen : ∀ o, w'.frozen? ⟨cb, o, none⟩ = w.frozen? ⟨cb, o, none⟩
  typ : ∀ T, Typ w cb T → Typ w' cb T
theorem Keep.refl (cb : Nat) (P : Nat → Prop) (w : World) : Keep cb P w w := ⟨fun _ _ => rfl, fun _ => rfl, fun _ h => h⟩
theorem Keep.trans {cb : Nat} {P : Nat → Prop} {a b c : World} (h : Keep cb P a b) (k : Keep cb P b c) : Keep cb P a c :=
  ⟨fun o ho => (k.cells o ho).trans (h.cells o ho), fun o => (k.frozen o).trans (h.frozen o), fun T t => k.typ T (h.typ T t)⟩
theorem Keep.mono {cb : Nat} {P Q : Nat → Prop} {a b : World} (h : Keep cb P a b) (hq : ∀ o, P o → Q o) : Keep cb Q a b :=
  ⟨fun o ho => h.cells o (fun e => ho (hq o e)), h.frozen, h.typ⟩
theorem Keep.of_only {cb : Nat} {P S : Nat → Prop} {a b : World} (h : Only S a b) (hs : ¬ S cb) (hl : cb < a.heap.size) : Keep cb P a b :=
  ⟨fun o _ => h.cell (p := ⟨cb, o, none⟩) hl hs, fun o => h.frozen (p := ⟨cb, o, none⟩) hl hs, fun _ t => t.keeps h hs⟩
theorem Keep.setCell {cb : Nat} {P : Nat → Prop} (w : World) (fo : Nat) (v : Value) (hp : P fo) : Keep cb P w (w.setCell ⟨cb, fo, none⟩ v) :=
  have f := Field.setCell w cb fo v
  ⟨fun o ho => f.others o (fun e => ho (e ▸ hp)), f.frozen, f.typ⟩

structure FlagCells (w : World) (cb : Nat) (c : Adz.Cmd) : Prop where
  a : w.cell? ⟨cb, 9, none⟩ = some (.bool c.all)
  p : w.cell? ⟨cb, 10, none⟩ = some (.bool c.print)
  n : w.cell? ⟨cb, 11, none⟩ = some (.int .i64 c.nth)
  fa : w.frozen? ⟨cb, 9, none⟩ = false
  fp : w.frozen? ⟨cb, 10, none⟩ = false
  fn : w.frozen? ⟨cb, 11, none⟩ = false
  typ : Typ w cb 167
theorem FlagCells.keeps {S : Nat → Prop} {w w' : World} {cb : Nat} {c : Adz.Cmd} (h : FlagCells w cb c) (o : Only S w w') (hs : ¬ S cb) : FlagCells w' cb c :=
  ⟨o.keeps h.a hs, o.keeps h.p hs, o.keeps h.n hs, o.keepsFrozen h.a h.fa hs, o.keepsFrozen h.p h.fp hs, o.keepsFrozen h.n h.fn hs, h.typ.keeps o hs⟩

def isFlag (o : Nat) : Prop := o = 9 ∨ o = 10 ∨ o = 11

set_option maxRecDepth 100000 in
set_option maxHeartbeats 1600000 in
theorem flags_ok (g : CG) (pp cb : Nat) (w : World) (i : Nat) (h : Cur g w i) (hp : Lead g pp w) (c : Adz.Cmd) (hf : FlagCells w cb c) (c' : Adz.Cmd) (i' : Nat) (hr : Adz.flags g.L g.pl (g.L.length + 1) c i = .ok (c', i')) :
    Calls Tryz.prog 176 #[.pointer (some ⟨pp, 0, none⟩), .pointer (some ⟨cb, 6, none⟩)] w fun e w' => e = .returned (.pointer none) ∧ FlagCells w' cb c' ∧ Cur g w' i' ∧ Only (fun b => b = g.c ∨ b = cb) w w' ∧ Keep cb isFlag w w' := by
  have HR : Hid (Adz.flags g.L g.pl (g.L.length + 1) c i = .ok (c', i')) := hr
  clear hr
  have hle0 := h.le
  have ncb : cb ≠ g.c := hf.typ.ne h.tc (by decide)
  go_enter Tryz.func176, Tryz.ntmps176
  go_wp2_with fail
  go_loopg [] (g.L.length - i) (fun k wr => ∃ j d m, Hid (Cur g wr j) ∧ Hid (Lead g pp wr) ∧ Hid (FlagCells wr cb d) ∧ j + k = g.L.length ∧ Hid (g.L.length < m + j ∧ Adz.flags g.L g.pl m d j = .ok (c', i')) ∧ Hid (Only (fun b => b = g.c ∨ b = cb) w wr ∧ Keep cb isFlag w wr))
  case atStart => exact ⟨i, c, g.L.length + 1, h, hp, hf, by omega, ⟨by omega, HR.out⟩, Only.refl _ _, Keep.refl _ _ _⟩
  case round =>
    obtain ⟨j, d, m, hc, hl, hd, hk, hI, hO⟩ := hrel
    obtain ⟨hm, hit⟩ := hI.out
    have hc' : Cur g wr j := hc
    have hl' : Lead g pp wr := hl
    have hd' : FlagCells wr cb d := hd
    obtain ⟨hO', hK'⟩ := hO.out
    have HK : Hid (j + gk = g.L.length) := hk
    have q1 := hl'.at0
    have hjl := hc'.le
    have ca := hd'.a
    have cp := hd'.p
    have cn := hd'.n
    have fa := hd'.fa
    have fp := hd'.fp
    have fn := hd'.fn
    have npp : pp ≠ cb := hl'.typ.ne hd'.typ (by decide)
    clear hk hc hl hI hO hd
    cases m with
    | zero => omega
    | succ m =>
      unfold Adz.flags at hit
      simp only at hit
      by_cases c1 : (Adz.peek g.L j == 103 && !d.all) = true
      · rw [if_pos c1] at hit
        simp only [Bool.and_eq_true, beq_iff_eq, Bool.not_eq_true'] at c1
        obtain ⟨e1, e2⟩ := c1
        have hlt : j < g.L.length := Adz.lt_of_peek (by omega)
        have HT : Hid (Adz.flags g.L g.pl m { d with all := true } (j + 1) = .ok (c', i')) := hit
        clear hit
        rw [e2] at ca
        go_wp2_with fail
        refine (peek_calls g wr j hc').mono ?_
        rintro e w1 ⟨rfl, n1, rfl⟩
        rw [e1]
        go_wp2_with fail
        refine (next_calls g _ j (hc'.drewN n1) hlt).mono ?_
        rintro e w2 ⟨rfl, hc2, ho2⟩
        have o2 : Only (· = g.c) wr w2 := ((Only.refl (· = g.c) wr).drewN n1).trans ho2 (fun _ e => e) (fun _ _ e => e)
        have d2 := hd'.keeps o2 ncb
        have ca2 := d2.a
        have fa2 := d2.fa
        go_wp2
        go_roundg (g.L.length - (j + 1))
        case measure => have := HK.out; omega
        case rel =>
          have o3 : Only (· = cb) w2 (w2.setCell ⟨cb, 9, none⟩ (.bool true)) := Only.setCell (S := (· = cb)) (p := ⟨cb, 9, none⟩) (Only.refl _ w2) (fun _ => rfl) _
          have k3 := Keep.setCell (cb := cb) (P := isFlag) w2 9 (.bool true) (Or.inl rfl)
          have f3 := Field.setCell w2 cb 9 (.bool true)
          refine ⟨j + 1, { d with all := true }, m, hc2.keeps o3 (Ne.symm ncb) (fun hn => (hc2.tr hn).ne d2.typ (by decide)) (hc2.tp.ne d2.typ (by decide)), (hl'.moved o2).keeps o3 npp, ?_, by omega, ⟨by omega, HT.out⟩, ?_, ?_⟩
          · exact ⟨World.cell?_setCell_same _ _ _ d2.a, (f3.others 10 (by decide)).trans d2.p, (f3.others 11 (by decide)).trans d2.n, (f3.frozen 9).trans d2.fa, (f3.frozen 10).trans d2.fp, (f3.frozen 11).trans d2.fn, f3.typ _ d2.typ⟩
          · exact (hO'.trans o2 (fun _ e => e) (fun _ _ e => Or.inl e) : Only (fun b => b = g.c ∨ b = cb) w w2).trans o3 (fun _ e => e) (fun _ _ e => Or.inr e)
          · exact (hK'.trans (Keep.of_only o2 ncb hd'.typ.lt)).trans k3
      · rw [if_neg c1] at hit
        by_cases e1 : Adz.peek g.L j = 103
        · have ea : d.all = true := by simpa [e1] using c1
          simp [e1, Adz.isDigit] at hit
          obtain ⟨rfl, rfl⟩ := hit
          have HD : Hid (Adz.isDigit 103 = false) := show Adz.isDigit 103 = false by decide
          rw [ea] at ca
          clear c1
          go_wp2_with fail
          refine (peek_calls g wr j hc').mono ?_
          rintro e w1 ⟨rfl, n1, rfl⟩
          rw [e1]
          go_wp2_with fail
          refine (isDigit_calls _ _).mono ?_
          rintro e w1 ⟨rfl, rfl⟩
          rw [HD.out]
          go_wp2
          go_ret
          exact ⟨rfl, hd'.keeps ((Only.refl (· = g.c) wr).drewN _) ncb, hc'.drewN _, hO'.drewN _, hK'.trans (Keep.of_only ((Only.refl (· = g.c) wr).drewN _) ncb hd'.typ.lt)⟩
        · have b1 : (Adz.peek g.L j == 103) = false := by simpa using e1
          by_cases e2 : Adz.peek g.L j = 112
          · by_cases ep : d.print = true
            · simp [e2, ep, Adz.isDigit] at hit
              obtain ⟨rfl, rfl⟩ := hit
              have HD : Hid (Adz.isDigit 112 = false) := show Adz.isDigit 112 = false by decide
              rw [ep] at cp
              clear c1 b1
              go_wp2_with fail
              refine (peek_calls g wr j hc').mono ?_
              rintro e w1 ⟨rfl, n1, rfl⟩
              rw [e2]
              go_wp2_with fail
              refine (isDigit_calls _ _).mono ?_
              rintro e w1 ⟨rfl, rfl⟩
              rw [HD.out]
              go_wp2
              go_ret
              exact ⟨rfl, hd'.keeps ((Only.refl (· = g.c) wr).drewN _) ncb, hc'.drewN _, hO'.drewN _, hK'.trans (Keep.of_only ((Only.refl (· = g.c) wr).drewN _) ncb hd'.typ.lt)⟩
            · have ep' : d.print = false := by simpa using ep
              simp only [e2, ep', beq_self_eq_true, Bool.not_false, Bool.and_self, if_true] at hit
              have hlt : j < g.L.length := Adz.lt_of_peek (by omega)
              have HT : Hid (Adz.flags g.L g.pl m { d with print := true } (j + 1) = .ok (c', i')) := hit
              rw [ep'] at cp
              clear hit c1 b1 ep
              go_wp2_with fail
              refine (peek_calls g wr j hc').mono ?_
              rintro e w1 ⟨rfl, n1, rfl⟩
              rw [e2]
              go_wp2_with fail
              refine (next_calls g _ j (hc'.drewN n1) hlt).mono ?_
              rintro e w2 ⟨rfl, hc2, ho2⟩
              have o2 : Only (· = g.c) wr w2 := ((Only.refl (· = g.c) wr).drewN n1).trans ho2 (fun _ e => e) (fun _ _ e => e)
              have d2 := hd'.keeps o2 ncb
              have cp2 := d2.p
              have fp2 := d2.fp
              go_wp2
              go_roundg (g.L.length - (j + 1))
              case measure => have := HK.out; omega
              case rel =>
                have o3 : Only (· = cb) w2 (w2.setCell ⟨cb, 10, none⟩ (.bool true)) := Only.setCell (S := (· = cb)) (p := ⟨cb, 10, none⟩) (Only.refl _ w2) (fun _ => rfl) _
                have k3 := Keep.setCell (cb := cb) (P := isFlag) w2 10 (.bool true) (Or.inr (Or.inl rfl))
                have f3 := Field.setCell w2 cb 10 (.bool true)
                refine ⟨j + 1, { d with print := true }, m, hc2.keeps o3 (Ne.symm ncb) (fun hn => (hc2.tr hn).ne d2.typ (by decide)) (hc2.tp.ne d2.typ (by decide)), (hl'.moved o2).keeps o3 npp, ?_, by omega, ⟨by omega, HT.out⟩, ?_, ?_⟩
                · exact ⟨(f3.others 9 (by decide)).trans d2.a, World.cell?_setCell_same _ _ _ d2.p, (f3.others 11 (by decide)).trans d2.n, (f3.frozen 9).trans d2.fa, (f3.frozen 10).trans d2.fp, (f3.frozen 11).trans d2.fn, f3.typ _ d2.typ⟩
                · exact (hO'.trans o2 (fun _ e => e) (fun _ _ e => Or.inl e) : Only (fun b => b = g.c ∨ b = cb) w w2).trans o3 (fun _ e => e) (fun _ _ e => Or.inr e)
                · exact (hK'.trans (Keep.of_only o2 ncb hd'.typ.lt)).trans k3
          · have b2 : (Adz.peek g.L j == 112) = false := by simpa using e2
            by_cases e3 : Adz.isDigit (Adz.peek g.L j) = true
            · have HD : Hid (Adz.isDigit (Adz.peek g.L j) = true) := e3
              by_cases en : d.nth = 0
              · simp only [b2, e3, en, beq_self_eq_true, Bool.and_self, if_true, Bool.false_and, Bool.false_eq_true, if_false] at hit
                cases hnum : Adz.number g.L g.pl j with
                | error f => rw [hnum] at hit; cases hit
                | ok q =>
                  obtain ⟨k, j1⟩ := q
                  rw [hnum] at hit
                  simp only at hit
                  have hlt := Adz.number_lt hnum e3
                  have HN : Hid (Adz.number g.L g.pl j = .ok (k, j1)) := hnum
                  have HT : Hid (Adz.flags g.L g.pl m { d with nth := k } j1 = .ok (c', i')) := hit
                  rw [en] at cn
                  clear hit c1 hnum e3
                  go_wp2_with fail
                  refine (peek_calls g wr j hc').mono ?_
                  rintro e w1 ⟨rfl, n1, rfl⟩
                  go_wp2_with fail
                  refine (isDigit_calls _ _).mono ?_
                  rintro e w1 ⟨rfl, rfl⟩
                  rw [HD.out]
                  go_wp2_with fail
                  refine (number_ok g pp _ j (hc'.drewN n1) (hl'.drewN n1) k j1 HN.out).mono ?_
                  rintro e w2 ⟨rfl, hc2, ho2⟩
                  have o2 : Only (· = g.c) wr w2 := ((Only.refl (· = g.c) wr).drewN n1).trans ho2 (fun _ e => e) (fun _ _ e => e)
                  have d2 := hd'.keeps o2 ncb
                  have cn2 := d2.n
                  have fn2 := d2.fn
                  have hj1 := hc2.le
                  go_wp2
                  go_roundg (g.L.length - j1)
                  case measure => have := HK.out; omega
                  case rel =>
                    have o3 : Only (· = cb) w2 (w2.setCell ⟨cb, 11, none⟩ (.int .i64 k)) := Only.setCell (S := (· = cb)) (p := ⟨cb, 11, none⟩) (Only.refl _ w2) (fun _ => rfl) _
                    have k3 := Keep.setCell (cb := cb) (P := isFlag) w2 11 (.int .i64 k) (Or.inr (Or.inr rfl))
                    have f3 := Field.setCell w2 cb 11 (.int .i64 k)
                    refine ⟨j1, { d with nth := k }, m, hc2.keeps o3 (Ne.symm ncb) (fun hn => (hc2.tr hn).ne d2.typ (by decide)) (hc2.tp.ne d2.typ (by decide)), (hl'.moved o2).keeps o3 npp, ?_, by omega, ⟨by omega, HT.out⟩, ?_, ?_⟩
                    · exact ⟨(f3.others 9 (by decide)).trans d2.a, (f3.others 10 (by decide)).trans d2.p, World.cell?_setCell_same _ _ _ d2.n, (f3.frozen 9).trans d2.fa, (f3.frozen 10).trans d2.fp, (f3.frozen 11).trans d2.fn, f3.typ _ d2.typ⟩
                    · exact (hO'.trans o2 (fun _ e => e) (fun _ _ e => Or.inl e) : Only (fun b => b = g.c ∨ b = cb) w w2).trans o3 (fun _ e => e) (fun _ _ e => Or.inr e)
                    · exact (hK'.trans (Keep.of_only o2 ncb hd'.typ.lt)).trans k3
              · have bn : (d.nth == 0) = false := by simpa using en
                simp only [b2, bn, Bool.and_false, Bool.false_and, Bool.false_eq_true, if_false, Except.ok.injEq, Prod.mk.injEq] at hit
                obtain ⟨rfl, rfl⟩ := hit
                clear c1 e3
                go_wp2_with fail
                refine (peek_calls g wr j hc').mono ?_
                rintro e w1 ⟨rfl, n1, rfl⟩
                go_wp2_with fail
                refine (isDigit_calls _ _).mono ?_
                rintro e w1 ⟨rfl, rfl⟩
                rw [HD.out]
                go_wp2
                go_ret
                exact ⟨rfl, hd'.keeps ((Only.refl (· = g.c) wr).drewN _) ncb, hc'.drewN _, hO'.drewN _, hK'.trans (Keep.of_only ((Only.refl (· = g.c) wr).drewN _) ncb hd'.typ.lt)⟩
            · have e3' : Adz.isDigit (Adz.peek g.L j) = false := by simpa using e3
              have HD : Hid (Adz.isDigit (Adz.peek g.L j) = false) := e3'
              simp only [b2, e3', Bool.false_and, Bool.false_eq_true, if_false, Except.ok.injEq, Prod.mk.injEq] at hit
              obtain ⟨rfl, rfl⟩ := hit
              clear c1 e3 e3'
              go_wp2_with fail
              refine (peek_calls g wr j hc').mono ?_
              rintro e w1 ⟨rfl, n1, rfl⟩
              go_wp2_with fail
              refine (isDigit_calls _ _).mono ?_
              rintro e w1 ⟨rfl, rfl⟩
              rw [HD.out]
              go_wp2
              go_ret
              exact ⟨rfl, hd'.keeps ((Only.refl (· = g.c) wr).drewN _) ncb, hc'.drewN _, hO'.drewN _, hK'.trans (Keep.of_only ((Only.refl (· = g.c) wr).drewN _) ncb hd'.typ.lt)⟩
end Go.Proofs.YtbiobhghnldckaaGreatDoor

/- Proved: what stands behind an s is read, where all of it may stand. Conditions: the cursor lies in memory as 'Cur' says, the parser leads to it, the command lies in a block of its own. -/
namespace Go.Proofs.YtbiobhghnldckaaGreatDoor
open Go.RowKit
set_option linter.unusedVariables false

def RunesAt (w : World) (v : Value) (l : List Int) : Prop := w.ownsRow 0 21 1 v l.length (l.map (Value.int .i32))
theorem RunesAt.keeps {S : Nat → Prop} {w w' : World} {v : Value} {l : List Int} (h : RunesAt w v l) (o : Only S w w') (hs : ∀ b, Typ w b 21 → ¬ S b) : RunesAt w' v l :=
  row_keeps h o (fun b hb => hs b (Typ.of_row h hb))

def adCells (a : Adz.Ad) (iv : Value) : List Value := [.int .i64 a.kind, .int .i64 a.number, iv, .int .i64 a.pat.groups]
def adsCells : List Adz.Ad → List Value → List Value
  | x :: xs, v :: vs => adCells x v ++ adsCells xs vs
  | _, _ => []
def AdItems (w : World) : List Adz.Ad → List Value → Prop
  | [], [] => True
  | x :: xs, v :: vs => ItemsAt w v x.pat.items ∧ AdItems w xs vs
  | _, _ => False
theorem AdItems.keeps {S : Nat → Prop} {w w' : World} (o : Only S w w') (h1 : ∀ b, Typ w b 270 → ¬ S b) (h2 : ∀ b, Typ w b 284 → ¬ S b) : ∀ {xs : List Adz.Ad} {vs : List Value}, AdItems w xs vs → AdItems w' xs vs
  | [], [], _ => trivial
  | x :: xs, v :: vs, h => ⟨h.1.keeps o h1 h2, AdItems.keeps o h1 h2 h.2⟩
  | [], _ :: _, h => h.elim
  | _ :: _, [], h => h.elim
def AddrsAt (w : World) (av : Value) (l : List Adz.Ad) : Prop := ∃ ivs, w.ownsRow 0 186 4 av l.length (adsCells l ivs) ∧ AdItems w l ivs
/-- None of these blocks is one of S. -/
structure Spares (w : World) (S : Nat → Prop) : Prop where
  addr : ∀ b, Typ w b 186 → ¬ S b
  item : ∀ b, Typ w b 270 → ¬ S b
  span : ∀ b, Typ w b 284 → ¬ S b
  part : ∀ b, Typ w b 240 → ¬ S b
  rune : ∀ b, Typ w b 21 → ¬ S b
theorem AddrsAt.keeps {S : Nat → Prop} {w w' : World} {av : Value} {l : List Adz.Ad} (h : AddrsAt w av l) (o : Only S w w') (s : Spares w S) : AddrsAt w' av l := by
  obtain ⟨ivs, h1, h2⟩ := h
  exact ⟨ivs, row_keeps h1 o (fun b hb => s.addr b (Typ.of_row h1 hb)), h2.keeps o s.item s.span⟩

def cmdCells (c : Adz.Cmd) (av iv rv fv tv : Value) : List Value :=
  [.int .i32 c.what, av, .bool c.neg, .string ⟨c.text.toArray⟩, .string ⟨c.name.toArray⟩, .int .i64 c.goal, iv, .int .i64 c.pat.groups, rv, .bool c.all, .bool c.print, .int .i64 c.nth, fv, tv]
structure Deep (w : World) (c : Adz.Cmd) (av iv rv fv tv : Value) : Prop where
  a : AddrsAt w av c.addrs
  i : ItemsAt w iv c.pat.items
  r : PartsAt w rv c.repl
  f : RunesAt w fv c.old
  t : RunesAt w tv c.new
theorem Deep.keeps {S : Nat → Prop} {w w' : World} {c : Adz.Cmd} {av iv rv fv tv : Value} (h : Deep w c av iv rv fv tv) (o : Only S w w') (s : Spares w S) : Deep w' c av iv rv fv tv :=
  ⟨h.a.keeps o s, h.i.keeps o s.item s.span, h.r.keeps o s.part, h.f.keeps o s.rune, h.t.keeps o s.rune⟩
/-- A command in a block of its own. -/
structure CmdAt (w : World) (cb : Nat) (c : Adz.Cmd) : Prop where
  typ : Typ w cb 167
  deep : ∃ av iv rv fv tv, Cells w cb (cmdCells c av iv rv fv tv) ∧ Deep w c av iv rv fv tv
theorem spares_one {w : World} {b : Nat} {T : TypeId} (t : Typ w b T) (h : T ≠ 186 ∧ T ≠ 270 ∧ T ≠ 284 ∧ T ≠ 240 ∧ T ≠ 21) : Spares w (· = b) :=
  ⟨fun c hc e => h.1 (t.one (e ▸ hc)), fun c hc e => h.2.1 (t.one (e ▸ hc)), fun c hc e => h.2.2.1 (t.one (e ▸ hc)), fun c hc e => h.2.2.2.1 (t.one (e ▸ hc)), fun c hc e => h.2.2.2.2 (t.one (e ▸ hc))⟩
theorem Spares.or {w : World} {S T : Nat → Prop} (h : Spares w S) (k : Spares w T) : Spares w (fun b => S b ∨ T b) :=
  ⟨fun c hc => not_or.2 ⟨h.addr c hc, k.addr c hc⟩, fun c hc => not_or.2 ⟨h.item c hc, k.item c hc⟩, fun c hc => not_or.2 ⟨h.span c hc, k.span c hc⟩, fun c hc => not_or.2 ⟨h.part c hc, k.part c hc⟩, fun c hc => not_or.2 ⟨h.rune c hc, k.rune c hc⟩⟩
theorem Cur.spares {g : CG} {w : World} {i : Nat} (h : Cur g w i) : Spares w (· = g.c) := spares_one h.tc (by decide)
theorem CmdAt.keeps {S : Nat → Prop} {w w' : World} {cb : Nat} {c : Adz.Cmd} (h : CmdAt w cb c) (o : Only S w w') (s : Spares w S) (hs : ¬ S cb) : CmdAt w' cb c := by
  obtain ⟨av, iv, rv, fv, tv, h1, h2⟩ := h.deep
  exact ⟨h.typ.keeps o hs, av, iv, rv, fv, tv, h1.keeps o hs, h2.keeps o s⟩

theorem Cells.set {w : World} {b : Nat} {l : List Value} (h : Cells w b l) (j : Nat) (v : Value) : Cells (w.setCell ⟨b, j, none⟩ v) b (l.set j v) := by
  have f := Field.setCell w b j v
  intro i u hu
  refine ⟨?_, ?_⟩
  · by_cases e : i = j
    · subst e
      rw [List.getElem?_set_self'] at hu
      cases hl : l[i]? with
      | none => rw [hl] at hu; simp at hu
      | some x =>
        rw [hl] at hu
        simp at hu
        subst hu
        exact World.cell?_setCell_same _ _ _ (h i x hl).1
    · rw [List.getElem?_set_ne (Ne.symm e)] at hu
      rw [f.others i e]
      exact (h i u hu).1
  · rw [f.frozen i]
    by_cases e : i = j
    · subst e
      cases hl : l[i]? with
      | none => rw [List.getElem?_set_self', hl] at hu; simp at hu
      | some x => exact (h i x hl).2
    · rw [List.getElem?_set_ne (Ne.symm e)] at hu
      exact (h i u hu).2
theorem only_set (w : World) (b j : Nat) (v : Value) : Only (· = b) w (w.setCell ⟨b, j, none⟩ v) := Only.setCell (S := (· = b)) (p := ⟨b, j, none⟩) (Only.refl _ w) (fun _ => rfl) _
theorem only2 {b : Nat} {u v w : World} (h : Only (· = b) u v) (k : Only (· = b) v w) : Only (· = b) u w := h.trans k (fun _ e => e) (fun _ _ e => e)
theorem Cur.aside {g : CG} {w w' : World} {i cb : Nat} (h : Cur g w i) (o : Only (· = cb) w w') (t : Typ w cb 167) : Cur g w' i :=
  h.keeps o (h.tc.ne t (by decide)) (fun hn => (h.tr hn).ne t (by decide)) (h.tp.ne t (by decide))
theorem Typ.set {w : World} {b : Nat} {T : TypeId} (h : Typ w b T) {p : Addr} {v : Value} : Typ (w.setCell p v) b T := h.setCell p v

set_option maxRecDepth 100000 in
set_option maxHeartbeats 1600000 in
theorem substitution_ok (g : CG) (pp cb : Nat) (w : World) (i : Nat) (h : Cur g w i) (hp : Lead g pp w) (c : Adz.Cmd) (hc : CmdAt w cb c) (c' : Adz.Cmd) (i' : Nat) (hr : Adz.substitution g.L g.pl c i = .ok (c', i')) :
    Calls Tryz.prog 150 #[.pointer (some ⟨pp, 0, none⟩), .pointer (some ⟨cb, 0, none⟩)] w fun e w' => e = .returned (.pointer none) ∧ CmdAt w' cb c' ∧ Cur g w' i' ∧ Only (fun b => b = g.c ∨ b = cb) w w' := by
  unfold Adz.substitution at hr
  by_cases h47 : Adz.peek g.L i = 47
  · have b47 : (Adz.peek g.L i != 47) = false := by simp [h47]
    rw [b47] at hr
    simp only [Bool.false_eq_true, if_false] at hr
    cases hpr : Adz.patRead g.L g.pl (i + 1) with
    | error f => rw [hpr] at hr; cases hr
    | ok q =>
      obtain ⟨p, i1⟩ := q
      rw [hpr] at hr
      simp only at hr
      cases hrp : Adz.replacement g.L g.pl p.groups (g.L.length + 1) [] i1 with
      | error f => rw [hrp] at hr; cases hr
      | ok q =>
        obtain ⟨r, i2⟩ := q
        rw [hrp] at hr
        simp only at hr
        have HP : Hid (Adz.patRead g.L g.pl (i + 1) = .ok (p, i1)) := hpr
        have HRp : Hid (Adz.replacement g.L g.pl p.groups (g.L.length + 1) [] i1 = .ok (r, i2)) := hrp
        have HF : Hid (Adz.flags g.L g.pl (g.L.length + 1) { c with pat := p, repl := r } i2 = .ok (c', i')) := hr
        have q0 := hp.at0
        have ncb : cb ≠ g.c := hc.typ.ne h.tc (by decide)
        have npp : pp ≠ cb := hp.typ.ne hc.typ (by decide)
        clear hpr hrp hr b47
        go_enter Tryz.func150, Tryz.ntmps150
        go_wp2_with fail
        refine (take_yes g w i 47 h h47 (by omega)).mono ?_
        rintro e w1 ⟨rfl, hc1, ho1⟩
        have l1 := hp.moved ho1
        have q1 := l1.at0
        have m1 := hc.keeps ho1 h.spares ncb
        go_wp2_with fail
        refine (patRead_ok g w1 (i + 1) hc1 p i1 HP.out).mono ?_
        rintro e w2 ⟨iv, rfl, hit, hc2, ho2⟩
        obtain ⟨svs, hit2, hit3⟩ := hit
        obtain ⟨ia, ic, rfl⟩ := row_shape hit2
        have l2 := l1.moved ho2
        have q2 := l2.at0
        have m2 := m1.keeps ho2 hc1.spares ncb
        obtain ⟨av, iv0, rv0, fv, tv, k2, d2⟩ := m2.deep
        have k6 := k2 6 _ rfl
        have k7 := k2 7 _ rfl
        go_wp2_with fail
        have o3 : Only (· = cb) w2 ((w2.setCell ⟨cb, 6, none⟩ (.slice ia p.items.length ic)).setCell ⟨cb, 7, none⟩ (.int .i64 p.groups)) := only2 (only_set _ _ _ _) (only_set _ _ _ _)
        have sp2 : Spares w2 (· = cb) := spares_one m2.typ (by decide)
        have k3 : Cells ((w2.setCell ⟨cb, 6, none⟩ (.slice ia p.items.length ic)).setCell ⟨cb, 7, none⟩ (.int .i64 p.groups)) cb (cmdCells { c with pat := p } av (.slice ia p.items.length ic) rv0 fv tv) := (k2.set 6 _).set 7 _
        have t3 : Typ ((w2.setCell ⟨cb, 6, none⟩ (.slice ia p.items.length ic)).setCell ⟨cb, 7, none⟩ (.int .i64 p.groups)) cb 167 := m2.typ.set.set
        have hc3 := hc2.aside o3 m2.typ
        have l3 := l2.keeps o3 npp
        have d3 := d2.keeps o3 sp2
        have i3 : ItemsAt ((w2.setCell ⟨cb, 6, none⟩ (.slice ia p.items.length ic)).setCell ⟨cb, 7, none⟩ (.int .i64 p.groups)) (.slice ia p.items.length ic) p.items := ItemsAt.keeps ⟨svs, hit2, hit3⟩ o3 sp2.item sp2.span
        generalize (w2.setCell ⟨cb, 6, none⟩ (.slice ia p.items.length ic)).setCell ⟨cb, 7, none⟩ (.int .i64 p.groups) = w3 at *
        clear k6 k7 k2 d2
        refine (replacement_ok g pp w3 i1 hc3 l3 p.groups r i2 HRp.out).mono ?_
        rintro e w4 ⟨rv, rfl, hrv, hc4, ho4⟩
        obtain ⟨ra, rc, rfl⟩ := row_shape hrv
        have l4 := l3.moved ho4
        have t4 := t3.keeps ho4 ncb
        have k4 := k3.keeps ho4 ncb
        have d4 := d3.keeps ho4 hc3.spares
        have i4 := i3.keeps ho4 hc3.spares.item hc3.spares.span
        have k8 := k4 8 _ rfl
        go_wp2_with fail
        have o5 : Only (· = cb) w4 (w4.setCell ⟨cb, 8, none⟩ (.slice ra r.length rc)) := only_set _ _ _ _
        have sp4 : Spares w4 (· = cb) := spares_one t4 (by decide)
        have k5 : Cells (w4.setCell ⟨cb, 8, none⟩ (.slice ra r.length rc)) cb (cmdCells { c with pat := p, repl := r } av (.slice ia p.items.length ic) (.slice ra r.length rc) fv tv) := k4.set 8 _
        have t5 : Typ (w4.setCell ⟨cb, 8, none⟩ (.slice ra r.length rc)) cb 167 := t4.set
        have hc5 := hc4.aside o5 t4
        have l5 := l4.keeps o5 npp
        have d5 := d4.keeps o5 sp4
        have i5 := i4.keeps o5 sp4.item sp4.span
        have r5 : PartsAt (w4.setCell ⟨cb, 8, none⟩ (.slice ra r.length rc)) (.slice ra r.length rc) r := PartsAt.keeps hrv o5 sp4.part
        generalize w4.setCell ⟨cb, 8, none⟩ (.slice ra r.length rc) = w5 at *
        have f5 : FlagCells w5 cb { c with pat := p, repl := r } := ⟨(k5 9 _ rfl).1, (k5 10 _ rfl).1, (k5 11 _ rfl).1, (k5 9 _ rfl).2, (k5 10 _ rfl).2, (k5 11 _ rfl).2, t5⟩
        refine (flags_ok g pp cb w5 i2 hc5 l5 _ f5 c' i' HF.out).mono ?_
        rintro e w6 ⟨rfl, f6, hc6, o6, kp6⟩
        go_wp2
        go_ret
        have hsame := Adz.flags_same HF.out
        have sp5 : Spares w5 (fun b => b = g.c ∨ b = cb) := hc5.spares.or (spares_one t5 (by decide))
        have d6 := d5.keeps o6 sp5
        refine ⟨rfl, ⟨f6.typ, av, .slice ia p.items.length ic, .slice ra r.length rc, fv, tv, ?_, ?_⟩, hc6, ?_⟩
        · have hcells : cmdCells c' av (.slice ia p.items.length ic) (.slice ra r.length rc) fv tv = (((cmdCells { c with pat := p, repl := r } av (.slice ia p.items.length ic) (.slice ra r.length rc) fv tv).set 9 (.bool c'.all)).set 10 (.bool c'.print)).set 11 (.int .i64 c'.nth) := by
            rw [hsame]
            rfl
          intro j v hv
          rw [hcells] at hv
          by_cases j11 : j = 11
          · subst j11
            rw [List.getElem?_set_self (by simp [cmdCells])] at hv
            cases hv
            exact ⟨f6.n, f6.fn⟩
          · rw [List.getElem?_set_ne (Ne.symm j11)] at hv
            by_cases j10 : j = 10
            · subst j10
              rw [List.getElem?_set_self (by simp [cmdCells])] at hv
              cases hv
              exact ⟨f6.p, f6.fp⟩
            · rw [List.getElem?_set_ne (Ne.symm j10)] at hv
              by_cases j9 : j = 9
              · subst j9
                rw [List.getElem?_set_self (by simp [cmdCells])] at hv
                cases hv
                exact ⟨f6.a, f6.fa⟩
              · rw [List.getElem?_set_ne (Ne.symm j9)] at hv
                have nf : ¬ isFlag j := by rintro (e | e | e); exact j9 e; exact j10 e; exact j11 e
                exact ⟨(kp6.cells j nf).trans (k5 j v hv).1, (kp6.frozen j).trans (k5 j v hv).2⟩
        · rw [hsame]
          exact ⟨d6.a, i5.keeps o6 sp5.item sp5.span, r5.keeps o6 sp5.part, d6.f, d6.t⟩
        · have oa : Only (· = g.c) w w2 := ho1.trans ho2 (fun _ e => e) (fun _ _ e => e)
          have ob : Only (fun b => b = g.c ∨ b = cb) w w3 := oa.trans o3 (fun _ e => Or.inl e) (fun _ _ e => Or.inr e)
          have oc : Only (fun b => b = g.c ∨ b = cb) w w4 := ob.trans ho4 (fun _ e => e) (fun _ _ e => Or.inl e)
          have od : Only (fun b => b = g.c ∨ b = cb) w w5 := oc.trans o5 (fun _ e => e) (fun _ _ e => Or.inr e)
          exact od.trans o6 (fun _ e => e) (fun _ _ e => e)
  · simp [h47] at hr
end Go.Proofs.YtbiobhghnldckaaGreatDoor
