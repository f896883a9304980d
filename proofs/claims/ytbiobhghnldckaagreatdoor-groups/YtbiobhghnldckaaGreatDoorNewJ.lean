/- Proved: source.New, at a text of well-formed runes. Conditions: 'Dec': what the text's runes and places are. -/
import Derived.Test.YtbiobhghnldckaaGreatDoorCmd4
import Derived.Lib.OthersKept
import Derived.Deep.Cut
namespace Go.Proofs.YtbiobhghnldckaaGreatDoor
open Go.RowKit
set_option linter.unusedVariables false

theorem infoRune : (Tryz.prog.info? 21).map (fun i => (i.zero, i.size, i.bytes)) = some (some (.int .i32 0), 1, 4) := by kernel_rfl

/-- The runes of a text, and where they begin; its length behind. -/
structure Dec (s : ByteArray) (L pl : List Int) : Prop where
  len : pl.length = L.length + 1
  zero : Adz.place pl 0 = 0
  last : Adz.place pl L.length = s.size
  step : ∀ k, k < L.length → ∃ p q : Nat, Adz.place pl k = p ∧ Adz.place pl (k + 1) = q ∧ p < s.size ∧ ((Utf8.decode s p).1 : Int) = Adz.peek L k ∧ p + (Utf8.decode s p).2 = q
  small : s.size ≤ 500
  few : L.length ≤ 500
  good : ∀ k, k < L.length → 0 ≤ Adz.peek L k ∧ Adz.peek L k ≤ 1114111 ∧ Adz.peek L k ≠ 65533 ∧ Lib.validRune (Adz.peek L k) = true

structure NewSt (s : ByteArray) (L pl : List Int) (c ib base : Nat) (w : World) (ki kr kp : Nat) : Prop where
  it : w.heap[ib]? = some (.stringIter s (Adz.place pl ki).toNat)
  r : ∃ rv, w.cell? ⟨c, 0, none⟩ = some rv ∧ w.ownsRow base 21 1 rv kr ((L.take kr).map (Value.int .i32))
  p : ∃ pv, w.cell? ⟨c, 1, none⟩ = some pv ∧ w.ownsRow base 3 1 pv kp ((pl.take kp).map (Value.int .i64))
  c2 : w.cell? ⟨c, 2, none⟩ = some (.int .i64 0)
  f0 : w.frozen? ⟨c, 0, none⟩ = false
  f1 : w.frozen? ⟨c, 1, none⟩ = false
  f2 : w.frozen? ⟨c, 2, none⟩ = false
  tc : Typ w c 144
  bs : base ≤ w.heap.size
  cb : c < base
  ibb : ib < base

theorem iter_ne {w : World} {b m : Nat} {T : TypeId} {s : ByteArray} {n : Nat} (t : Typ w b T) (h : w.heap[m]? = some (.stringIter s n)) : b ≠ m := fun e => by
  obtain ⟨c, f, t⟩ := t
  rw [e, h] at t
  cases t
theorem iterAt_only (w : World) (k : Nat) (s : ByteArray) (p : Nat) : Only (· = k) w (w.iterAt k s p) :=
  ⟨rfl, rfl, rfl, by rw [Lib.iterAt_size]; exact Nat.le_refl _, fun j _ hj => Lib.iterAt_other w k j s p hj⟩

theorem NewSt.next {s : ByteArray} {L pl : List Int} {c ib base : Nat} {w : World} {k kr kp : Nat} (h : NewSt s L pl c ib base w k kr kp) (k' : Nat) : NewSt s L pl c ib base (w.iterAt ib s (Adz.place pl k').toNat) k' kr kp := by
  obtain ⟨rv, r1, r2⟩ := h.r
  obtain ⟨pv, p1, p2⟩ := h.p
  have o := iterAt_only w ib s (Adz.place pl k').toNat
  have n0 : ¬ c = ib := iter_ne h.tc h.it
  exact ⟨Lib.iterAt_heap w ib s _ _ h.it, ⟨rv, o.keeps r1 n0, row_keeps r2 o (fun b hb => iter_ne (Typ.of_row r2 hb) h.it)⟩, ⟨pv, o.keeps p1 n0, row_keeps p2 o (fun b hb => iter_ne (Typ.of_row p2 hb) h.it)⟩, o.keeps h.c2 n0, o.keepsFrozen r1 h.f0 n0, o.keepsFrozen p1 h.f1 n0, o.keepsFrozen h.c2 h.f2 n0, h.tc.keeps o n0, Nat.le_trans h.bs o.size, h.cb, h.ibb⟩

theorem NewSt.rune {s : ByteArray} {L pl : List Int} {c ib base : Nat} {w w' : World} {k kr kr' kp : Nat} (h : NewSt s L pl c ib base w k kr kp) {rv v' : Value} (hr : w.cell? ⟨c, 0, none⟩ = some rv)
    (q1 : w'.cell? ⟨c, 0, none⟩ = some v') (q2 : w'.ownsRow base 21 1 v' kr' ((L.take kr').map (Value.int .i32))) (q3 : Only (fun b => b = c ∨ rv.ownBlock = some b) w w') (q4 : Field c 0 w w') : NewSt s L pl c ib base w' k kr' kp := by
  obtain ⟨rv', r1, r2⟩ := h.r
  rw [hr] at r1
  cases r1
  obtain ⟨pv, p1, p2⟩ := h.p
  refine ⟨(q3.block ib (Array.getElem?_eq_some_iff.1 h.it).1 ?_).trans h.it, ⟨v', q1, q2⟩, ⟨pv, (q4.others 1 (by decide)).trans p1, row_keeps p2 q3 (fun b hb => ?_)⟩, (q4.others 2 (by decide)).trans h.c2, (q4.frozen 0).trans h.f0, (q4.frozen 1).trans h.f1, (q4.frozen 2).trans h.f2, q4.typ _ h.tc, Nat.le_trans h.bs q3.size, h.cb, h.ibb⟩
  · rintro (e | e)
    · exact iter_ne h.tc h.it e.symm
    · exact iter_ne (Typ.of_row r2 e) h.it rfl
  · rintro (e | e)
    · exact (Typ.of_row p2 hb).ne h.tc (by decide) e
    · exact row_ne r2 (Typ.of_row p2 hb) (by decide) e

theorem NewSt.place {s : ByteArray} {L pl : List Int} {c ib base : Nat} {w w' : World} {k kr kp kp' : Nat} (h : NewSt s L pl c ib base w k kr kp) {pv v' : Value} (hr : w.cell? ⟨c, 1, none⟩ = some pv)
    (q1 : w'.cell? ⟨c, 1, none⟩ = some v') (q2 : w'.ownsRow base 3 1 v' kp' ((pl.take kp').map (Value.int .i64))) (q3 : Only (fun b => b = c ∨ pv.ownBlock = some b) w w') (q4 : Field c 1 w w') : NewSt s L pl c ib base w' k kr kp' := by
  obtain ⟨pv', p1, p2⟩ := h.p
  rw [hr] at p1
  cases p1
  obtain ⟨rv, r1, r2⟩ := h.r
  refine ⟨(q3.block ib (Array.getElem?_eq_some_iff.1 h.it).1 ?_).trans h.it, ⟨rv, (q4.others 0 (by decide)).trans r1, row_keeps r2 q3 (fun b hb => ?_)⟩, ⟨v', q1, q2⟩, (q4.others 2 (by decide)).trans h.c2, (q4.frozen 0).trans h.f0, (q4.frozen 1).trans h.f1, (q4.frozen 2).trans h.f2, q4.typ _ h.tc, Nat.le_trans h.bs q3.size, h.cb, h.ibb⟩
  · rintro (e | e)
    · exact iter_ne h.tc h.it e.symm
    · exact iter_ne (Typ.of_row p2 e) h.it rfl
  · rintro (e | e)
    · exact (Typ.of_row r2 hb).ne h.tc (by decide) e
    · exact row_ne p2 (Typ.of_row r2 hb) (by decide) e
end Go.Proofs.YtbiobhghnldckaaGreatDoor

/- Proved: source.New, at a text of well-formed runes. Conditions: 'Dec': what the text's runes and places are. -/
namespace Go.Proofs.YtbiobhghnldckaaGreatDoor
open Go.RowKit
set_option linter.unusedVariables false

theorem take_peek {L : List Int} {k : Nat} (h : k < L.length) : L.take (k + 1) = L.take k ++ [Adz.peek L k] := by
  rw [List.take_succ_eq_append_getElem h, Adz.peek_lt h]
theorem take_place {pl : List Int} {k : Nat} (h : k < pl.length) : pl.take (k + 1) = pl.take k ++ [Adz.place pl k] := by
  rw [List.take_succ_eq_append_getElem h]
  simp [Adz.place, h]

theorem NewSt.cur {s : ByteArray} {L pl : List Int} {c ib base : Nat} {w : World} {k : Nat} (h : NewSt s L pl c ib base w k L.length (L.length + 1)) (hd : Dec s L pl) : ∃ g : CG, g.L = L ∧ g.pl = pl ∧ g.c = c ∧ Cur g w 0 := by
  obtain ⟨rv, r1, r2⟩ := h.r
  obtain ⟨pv, p1, p2⟩ := h.p
  obtain ⟨pb, pc, rfl⟩ : ∃ pb pc, pv = .slice (some ⟨pb, 0, none⟩) (L.length + 1) pc := by
    rcases p2.2 with ⟨_, h0⟩ | ⟨gb, cap, cur, q, _⟩
    · omega
    · exact ⟨gb, cap, q⟩
  have tp := Typ.of_row p2 (b := pb) rfl
  have pcell : ∀ j, j ≤ L.length → w.cell? ⟨pb, j, none⟩ = some (.int .i64 (Adz.place pl j)) := by
    intro j hj
    rw [p2.cellAt j (by omega)]
    have hlen := hd.len
    simp [Adz.place, show j < L.length + 1 by omega, show j < pl.length by omega]
  by_cases hL : L.length = 0
  · obtain ⟨ra, rc, rfl⟩ := row_shape r2
    exact ⟨⟨c, c + 1, rc, pb, pc, L, pl⟩, rfl, rfl, rfl, ⟨ra, r1, fun e => absurd hL e⟩, p1, h.c2, h.f2, fun j hj => by simp only at hj; omega, pcell, h.tc, fun e => absurd hL e, tp, by simp, tp.ne h.tc (by decide), by simp, hd.few, hd.good⟩
  · obtain ⟨rb, rc, rfl⟩ : ∃ pb pc, rv = .slice (some ⟨pb, 0, none⟩) L.length pc := by
      rcases r2.2 with ⟨_, h0⟩ | ⟨gb, cap, cur, q, _⟩
      · omega
      · exact ⟨gb, cap, q⟩
    have tr := Typ.of_row r2 (b := rb) rfl
    refine ⟨⟨c, rb, rc, pb, pc, L, pl⟩, rfl, rfl, rfl, ⟨some ⟨rb, 0, none⟩, r1, fun _ => rfl⟩, p1, h.c2, h.f2, fun j hj => ?_, pcell, h.tc, fun _ => tr, tp, tr.ne h.tc (by decide), tp.ne h.tc (by decide), by simp, hd.few, hd.good⟩
    simp only at hj
    rw [r2.cellAt j (by omega)]
    simp [Adz.peek, hj]

set_option maxRecDepth 100000 in
set_option maxHeartbeats 1600000 in
theorem new_ok (s : ByteArray) (L pl : List Int) (hd : Dec s L pl) (w : World) :
    Calls Tryz.prog 49 #[.string s] w fun e w' => ∃ g : CG, g.L = L ∧ g.pl = pl ∧ e = .returned (.tuple #[.pointer (some ⟨g.c, 0, none⟩), .pointer none]) ∧ Cur g w' 0 ∧ Only (fun _ => False) w w' ∧ w.heap.size ≤ g.c := by
  have hsm := hd.small
  have hfw := hd.few
  obtain ⟨i0, hi0, hz0, hz1, hz2⟩ := info_parts infoRune
  obtain ⟨j0, hj0, jz0, jz1, jz2⟩ := info_parts infoInt
  go_enter Tryz.func49, Tryz.ntmps49
  go_wp2_with fail
  have hst : NewSt s L pl w.heap.size (w.heap.size + 1) (w.heap.size + 2) ((w.alloc (.cells #[.slice none 0 0, .slice none 0 0, .int .i64 0] 144)).iter s 0) 0 0 0 := by
    have hk := (Cells.new w #[.slice none 0 0, .slice none 0 0, .int .i64 0] 144).alloc (.stringIter s 0)
    refine ⟨?_, ⟨_, (hk 0 _ rfl).1, World.ownsRow_nil _ _ _ _⟩, ⟨_, (hk 1 _ rfl).1, World.ownsRow_nil _ _ _ _⟩, (hk 2 _ rfl).1, (hk 0 _ rfl).2, (hk 1 _ rfl).2, (hk 2 _ rfl).2, (Typ.new _ _ _ _).alloc _, ?_, by omega, by omega⟩
    · rw [hd.zero]
      have := World.iter_heap (w.alloc (.cells #[.slice none 0 0, .slice none 0 0, .int .i64 0] 144)) s 0
      simpa using this
    · simp [World.iter]
  have oo : Only (fun _ => False) w ((w.alloc (.cells #[.slice none 0 0, .slice none 0 0, .int .i64 0] 144)).iter s 0) := ((Only.refl _ w).alloc _).alloc _
  generalize (w.alloc (.cells #[.slice none 0 0, .slice none 0 0, .int .i64 0] 144)).iter s 0 = w0 at *
  go_loopg [] L.length (fun k wr => ∃ j, j + k = L.length ∧ Hid (NewSt s L pl w.heap.size (w.heap.size + 1) (w.heap.size + 2) wr j j j) ∧ Hid (Only (fun b => w.heap.size ≤ b) w wr))
  case atStart => exact ⟨0, by omega, hst, oo.mono (fun _ _ e => e.elim)⟩
  case round =>
    obtain ⟨j, hjk, hS, hO⟩ := hrel
    have hS' : NewSt s L pl w.heap.size (w.heap.size + 1) (w.heap.size + 2) wr j j j := hS
    have hO' : Only (fun b => w.heap.size ≤ b) w wr := hO
    have HJ : Hid (j + gk = L.length) := hjk
    clear hS hO hst
    by_cases hlt : j < L.length
    · obtain ⟨p, q, e1, e2, e3, e4, e5⟩ := hd.step j hlt
      obtain ⟨d0, d1, d2, d3⟩ := hd.good j hlt
      have b65 : (Adz.peek L j == 65533) = false := by simpa using d2
      have hnx : ∀ ty, (Instr.next (.pointer (some ⟨w.heap.size + 1, 0, none⟩)) true ty).run Tryz.prog wr = .ok (.tuple #[.bool true, .int .i64 (Adz.place pl j), .int .i32 (Adz.peek L j)]) (wr.iterAt (w.heap.size + 1) s (Adz.place pl (j + 1)).toNat) := fun ty => by
        have hit := hS'.it
        rw [e1] at hit
        have := Lib.run_next_any_at (P := Tryz.prog) wr (w.heap.size + 1) s p ty hit e3
        rw [e4, e5] at this
        rw [e1, e2]
        simpa using this
      have h1 := hS'.next (j + 1)
      have o1 := iterAt_only wr (w.heap.size + 1) s (Adz.place pl (j + 1)).toNat
      generalize wr.iterAt (w.heap.size + 1) s (Adz.place pl (j + 1)).toNat = w1 at *
      obtain ⟨rv, r1, r2⟩ := h1.r
      have f0 := h1.f0
      have lr : w.heap.size < w1.heap.size := h1.tc.lt
      have hne : rv.ownBlock ≠ some w.heap.size := row_ne r2 h1.tc (by decide)
      have hbs := h1.bs
      have hlen : ((L.take j).map (Value.int .i32)).length = j * 1 := by simp; omega
      have HD : Hid (Dec s L pl) := hd
      clear hd e1 e2 e3 e4 e5
      go_upto_region 8 with (at_builtin; refine wpList_append_lies _ (by rfl) _ _ _ (by rfl) (w.heap.size + 2) 21 i0 _ 1 4 Tryz.underlying103 hi0 hz0 hz1 hz2 rfl (by omega) rv j ((L.take j).map (Value.int .i32)) (by rfl) (r2.alloc _) ⟨w1.heap.size, 0, none⟩ 1 1 [.int .i32 (Adz.peek L j)] (by rfl) (by rfl) (World.news_of_block (cs := #[.int .i32 (Adz.peek L j)]) (t := 21) (fr := (0, 0)) (heap_alloc_new w1 _)) (by simp [Value.oneCell']) (by omega) (by unfold maxLen; omega) (by omega) (by simp; omega) (w1.heap.size + 1) (by simp) ?_; intro g1 cap w2 hown1 hgrow hat hlt1; have kc := (hgrow.cell_far ⟨w.heap.size, 0, none⟩ (by simp; omega) (Ne.symm hne)).trans ((World.cell?_alloc_past _ _ _ lr).trans r1); have kf := (hgrow.frozen_far ⟨w.heap.size, 0, none⟩ (by simp; omega) (Ne.symm hne)).trans ((World.frozen?_alloc_past _ _ _ lr).trans f0))
      have hv : (Value.slice (some ⟨g1, 0, none⟩) (j + 1) cap).ownBlock ≠ some w.heap.size := by
        rcases hat with h | h
        · intro e
          simp [Value.ownBlock] at e
          exact hne (by rw [h, e])
        · intro e
          simp [Value.ownBlock] at e
          omega
      obtain ⟨u1, u2, u3, u4⟩ := field_end ((Only.refl _ w1).alloc _) hgrow kc hown1 hv lr hne
      have h2 := h1.rune (kr' := j + 1) r1 u1 (by rw [take_peek hlt]; simpa using u2) u3 u4
      have o2 : Only (fun b => w.heap.size ≤ b) w (w2.setCell ⟨w.heap.size, 0, none⟩ (.slice (some ⟨g1, 0, none⟩) (j + 1) cap)) := (hO'.trans o1 (fun _ e => e) (fun b _ e => by omega) : Only (fun b => w.heap.size ≤ b) w w1).trans u3 (fun _ e => e) (fun b _ e => by
        rcases e with e | e
        · omega
        · have := (r2.lt b e).1; omega)
      generalize w2.setCell ⟨w.heap.size, 0, none⟩ (.slice (some ⟨g1, 0, none⟩) (j + 1) cap) = w3 at *
      obtain ⟨pv, p1, p2⟩ := h2.p
      have f1 := h2.f1
      have lr2 : w.heap.size < w3.heap.size := h2.tc.lt
      have hne2 : pv.ownBlock ≠ some w.heap.size := row_ne p2 h2.tc (by decide)
      have hbs2 := h2.bs
      clear u1 u2 u3 u4 hown1 hgrow hat hlt1 kc kf r1 r2 f0
      go_wp2_with (at_builtin; refine wpList_append_lies _ (by rfl) _ _ _ (by rfl) (w.heap.size + 2) 3 j0 _ 1 8 Tryz.underlying35 hj0 jz0 jz1 jz2 rfl (by omega) pv j ((pl.take j).map (Value.int .i64)) (by rfl) (p2.alloc _) ⟨w3.heap.size, 0, none⟩ 1 1 [.int .i64 (Adz.place pl j)] (by rfl) (by rfl) (World.news_of_block (cs := #[.int .i64 (Adz.place pl j)]) (t := 3) (fr := (0, 0)) (heap_alloc_new w3 _)) (by simp [Value.oneCell']) (by omega) (by unfold maxLen; omega) (by omega) (by simp; omega) (w3.heap.size + 1) (by simp) ?_; intro g2 cap2 w4 hown2 hgrow2 hat2 hlt2; have kc2 := (hgrow2.cell_far ⟨w.heap.size, 1, none⟩ (by simp; omega) (Ne.symm hne2)).trans ((World.cell?_alloc_past _ _ _ lr2).trans p1); have kf2 := (hgrow2.frozen_far ⟨w.heap.size, 1, none⟩ (by simp; omega) (Ne.symm hne2)).trans ((World.frozen?_alloc_past _ _ _ lr2).trans f1))
      have hv2 : (Value.slice (some ⟨g2, 0, none⟩) (j + 1) cap2).ownBlock ≠ some w.heap.size := by
        rcases hat2 with h | h
        · intro e
          simp [Value.ownBlock] at e
          exact hne2 (by rw [h, e])
        · intro e
          simp [Value.ownBlock] at e
          omega
      obtain ⟨v1, v2, v3, v4⟩ := field_end ((Only.refl _ w3).alloc _) hgrow2 kc2 hown2 hv2 lr2 hne2
      have hpl := HD.out.len
      have h3 := h2.place (kp' := j + 1) p1 v1 (by rw [take_place (by omega)]; simpa using v2) v3 v4
      have o3 := o2.trans v3 (fun _ e => e) (fun b _ e => by
        rcases e with e | e
        · omega
        · have := (p2.lt b e).1; omega)
      go_roundg (gk - 1)
      case measure => have := HJ.out; omega
      case rel => exact ⟨j + 1, by have := HJ.out; omega, h3, o3⟩
    · have hjn : j = L.length := by have := HJ.out; omega
      subst hjn
      have hend : ∀ ty, (Instr.next (.pointer (some ⟨w.heap.size + 1, 0, none⟩)) true ty).run Tryz.prog wr = .ok (.tuple #[.bool false]) wr := fun ty =>
        Lib.run_next_end_at (P := Tryz.prog) wr (w.heap.size + 1) s _ ty hS'.it (by rw [hd.last]; simp)
      obtain ⟨pv, p1, p2⟩ := hS'.p
      have f1 := hS'.f1
      have lr2 : w.heap.size < wr.heap.size := hS'.tc.lt
      have hne2 : pv.ownBlock ≠ some w.heap.size := row_ne p2 hS'.tc (by decide)
      have hbs2 := hS'.bs
      have HD : Hid (Dec s L pl) := hd
      clear hd hlt hjk
      go_wp2_with (at_builtin; refine wpList_append_lies _ (by rfl) _ _ _ (by rfl) (w.heap.size + 2) 3 j0 _ 1 8 Tryz.underlying35 hj0 jz0 jz1 jz2 rfl (by omega) pv L.length ((pl.take L.length).map (Value.int .i64)) (by rfl) (p2.alloc _) ⟨wr.heap.size, 0, none⟩ 1 1 [.int .i64 (s.size : Int)] (by rfl) (by rfl) (World.news_of_block (cs := #[.int .i64 (s.size : Int)]) (t := 3) (fr := (0, 0)) (heap_alloc_new wr _)) (by simp [Value.oneCell']) (by omega) (by unfold maxLen; omega) (by omega) (by simp; omega) (wr.heap.size + 1) (by simp) ?_; intro g2 cap2 w4 hown2 hgrow2 hat2 hlt2; have kc2 := (hgrow2.cell_far ⟨w.heap.size, 1, none⟩ (by simp; omega) (Ne.symm hne2)).trans ((World.cell?_alloc_past _ _ _ lr2).trans p1); have kf2 := (hgrow2.frozen_far ⟨w.heap.size, 1, none⟩ (by simp; omega) (Ne.symm hne2)).trans ((World.frozen?_alloc_past _ _ _ lr2).trans f1))
      have hv2 : (Value.slice (some ⟨g2, 0, none⟩) (L.length + 1) cap2).ownBlock ≠ some w.heap.size := by
        rcases hat2 with h | h
        · intro e
          simp [Value.ownBlock] at e
          exact hne2 (by rw [h, e])
        · intro e
          simp [Value.ownBlock] at e
          omega
      obtain ⟨v1, v2, v3, v4⟩ := field_end ((Only.refl _ wr).alloc _) hgrow2 kc2 hown2 hv2 lr2 hne2
      have hpl := HD.out.len
      have hla := HD.out.last
      have h3 := hS'.place (kp' := L.length + 1) p1 v1 (by rw [take_place (by omega), hla]; simpa using v2) v3 v4
      have o3 := hO'.trans v3 (fun _ e => e) (fun b _ e => by
        rcases e with e | e
        · omega
        · have := (p2.lt b e).1; omega)
      obtain ⟨g, g1, g2', g3, g4⟩ := h3.cur HD.out
      go_ret2
      refine ⟨g, g1, g2', by rw [g3]; rfl, g4, o3.mono (fun b hb e => by omega), by omega⟩
end Go.Proofs.YtbiobhghnldckaaGreatDoor
