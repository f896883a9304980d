/- Proved: a match, its items followed. Conditions: the pattern and the rows of ends lie in memory, and the place has an end. -/
import Derived.Test.YtbiobhghnldckaaGreatDoorMatch5J
import Derived.Deep.MidRow
namespace Go.Proofs.YtbiobhghnldckaaGreatDoor
open Go.RowKit
set_option linter.unusedVariables false
namespace Adz
/-- What an item's place tells of its group. -/
def mark (x : Item) (m : List Int) (at_ : Int) : List Int := if x.kind = 2 then m.set (x.group.toNat * 2) at_ else if x.kind = 3 then m.set (x.group.toNat * 2 + 1) at_ else m
/-- The items' ends followed: the marks, and the place at the end. -/
def follow (A : List (List Int)) : List Item → Nat → List Int → Nat → List Int × Nat
  | [], _, m, at_ => (m, at_)
  | x :: xs, i, m, at_ => follow A xs (i + 1) (mark x m at_) ((A.getD i []).getD at_ 0).toNat
def matchAt (A : List (List Int)) (xs : List Item) (first : Nat) : List Int :=
  let r := follow A xs 0 (List.replicate 20 0) first
  (r.1.set 0 first).set 1 r.2
end Adz

theorem MatchAt.set {w : World} {b : Nat} {l : List Int} (h : MatchAt w b l) (k : Nat) (v : Int) : MatchAt (w.setCell ⟨b, k, none⟩ (.int .i64 v)) b (l.set k v) := by
  have hc : Cells w b (l.map (.int .i64)) := fun j u hu => by
    have hj : j < 20 := by have := (List.getElem?_eq_some_iff.1 hu).1; rw [List.length_map, h.len] at this; exact this
    have h1 := h.cells j u hu
    have h2 := (h.there j hj).2
    rw [Nat.zero_add] at h1 h2
    exact ⟨h1, h2⟩
  have hs := hc.set k (.int .i64 v)
  rw [← List.map_set] at hs
  refine ⟨by rw [List.length_set]; exact h.len, h.typ.setCell _ _, fun j u hu => by rw [Nat.zero_add]; exact (hs j u hu).1, fun j hj => ?_⟩
  have hl : ((l.set k v).map (Value.int .i64))[j]? = some (.int .i64 ((l.set k v).getD j 0)) := by
    rw [List.getElem?_map, List.getElem?_eq_getElem (by rw [List.length_set, h.len]; exact hj)]
    simp [h.len, hj]
  have := hs j _ hl
  rw [Nat.zero_add]
  exact ⟨by rw [this.1]; rfl, this.2⟩
theorem MatchAt.cellOf {w : World} {b : Nat} {l : List Int} (h : MatchAt w b l) (k : Nat) (hk : k < 20) : (∃ u, w.cell? ⟨b, k, none⟩ = some u) ∧ w.frozen? ⟨b, k, none⟩ = false := by
  have := h.there k hk
  rw [Nat.zero_add] at this
  exact ⟨Option.isSome_iff_exists.1 this.1, this.2⟩

theorem match_results {W : World} {R : Nat} {cs : List Value} {tmps : Array Value} (h6 : tmps[4]? = some (.pointer (some ⟨R, 0, none⟩))) (hrun : (loadVar 219 ⟨R, 0, none⟩).run Tryz.prog W = .ok (.agg cs.toArray) W) :
    (results Tryz.f206 tmps).run Tryz.prog W = .ok (.agg cs.toArray) W := by
  have ha : (asAddr (.pointer (some ⟨R, 0, none⟩))).run Tryz.prog W = .ok ⟨R, 0, none⟩ W := by simp [go_sem]
  simp [results, Tryz.results206, h6, ha, hrun]

set_option maxRecDepth 100000 in
set_option maxHeartbeats 3200000 in
theorem matchAt_calls (xs : List Adz.Item) (sb ab base : Nat) (w : World) (iv : Value) (ra : Option Addr) (rc n : Nat) (hs : Srch w sb iv (.slice ra n rc) (.slice (some ⟨ab, 0, none⟩) (xs.length + 1) (xs.length + 1))) (hi : ItemsAt w iv xs) (hk : xs.length ≤ 1000) (hf : ∀ x ∈ xs, x.spans.length ≤ 1000) (sp : List Int) (hsn : sp.length = n) (hsp : n ≤ 1000000) (hg : ∀ x ∈ xs, 1 ≤ x.group ∧ x.group ≤ 9 ∨ (x.kind ≠ 2 ∧ x.kind ≠ 3)) (hA : Mat w ab base (xs.length + 1) n (Adz.fin sp xs)) (first : Nat) (hfi : first ≤ n) (hfe : Adz.fin sp xs 0 first ≠ -1) :
    Calls Tryz.prog 206 #[.pointer (some ⟨sb, 0, none⟩), .int .i64 first] w fun e w' => e = .returned (.agg ((Adz.matchAt (Adz.allEnds sp xs) xs first).map (.int .i64)).toArray) ∧ Only (· = sb) w w' ∧ Srch w' sb iv (.slice ra n rc) (.slice (some ⟨ab, 0, none⟩) (xs.length + 1) (xs.length + 1)) := by
  obtain ⟨svs, r1, r2⟩ := id hi
  obtain ⟨ia, ic, rfl⟩ := row_shape r1
  clear r1 r2 svs
  have ls : sb < w.heap.size := hs.typ.lt
  have hM0 := MatchAt.new w
  have hM1 := MatchAt.new (w.alloc (.cells zeros20 219))
  have o1 : Only (fun _ => False) w ((w.alloc (.cells zeros20 219)).alloc (.cells zeros20 219)) := ((Only.refl _ w).alloc _).alloc _
  have hM0' := hM0.keeps (S := fun _ => False) ((Only.refl _ (w.alloc (.cells zeros20 219))).alloc (.cells zeros20 219)) id
  simp only [World.size_alloc] at hM1
  have hi219 : (Tryz.prog.info? 219).map (·.size) = some zeros20.size := by kernel_rfl
  have hz219 : zeros20.all (·.oneCell') = true := by simp [zeros20, Value.oneCell']
  go_enter Tryz.func206, Tryz.ntmps206
  go_upto_region 2 with (refine wpList_store_mid (by rfl) 219 _ _ (by rfl) (w.heap.size + 1) 0 zeros20 (by first | rfl | simp [Act.eval, Act.put]) (by first | rfl | simp [Act.eval, Act.put, zeros20]) hM1.there hi219 hz219 ?_)
  have hMm := hM1.store (List.replicate 20 0) rfl
  have hMr := hM0'.keeps (setCells_only (w.heap.size + 1) ((List.replicate 20 0).map (.int .i64)) _ 0) (by omega)
  have hOm : Only (fun _ => False) w (((w.alloc (.cells zeros20 219)).alloc (.cells zeros20 219)).setCells (w.heap.size + 1) 0 ((List.replicate 20 0).map (.int .i64))) := by
    refine o1.trans (setCells_only (w.heap.size + 1) _ _ 0) (fun _ e => e) (fun b hb e => by omega)
  have hw0 : ((w.alloc (.cells zeros20 219)).alloc (.cells zeros20 219)).setCells (w.heap.size + 1) 0 zeros20.toList = ((w.alloc (.cells zeros20 219)).alloc (.cells zeros20 219)).setCells (w.heap.size + 1) 0 ((List.replicate 20 0).map (.int .i64)) := rfl
  change Code.wp _ _ _ _ (((w.alloc (.cells zeros20 219)).alloc (.cells zeros20 219)).setCells (w.heap.size + 1) 0 ((List.replicate 20 0).map (.int .i64)))
  clear hM0 hM1 hM0' o1 hw0
  generalize ((w.alloc (.cells zeros20 219)).alloc (.cells zeros20 219)).setCells (w.heap.size + 1) 0 ((List.replicate 20 0).map (.int .i64)) = w0 at *
  have hs0 := hs.keeps hOm id
  have q0 := hs0.items
  go_wp2_with fail
  go_loopg [6, 16] xs.length (fun k v u wr => ∃ (j at_ : Nat) (m : List Int), v = .int .i64 at_ ∧ u = .int .i64 j ∧ j + k = xs.length ∧ at_ ≤ n ∧ Hid (Adz.fin sp xs j at_ ≠ -1) ∧ Hid (Adz.follow (Adz.allEnds sp xs) xs 0 (List.replicate 20 0) first = Adz.follow (Adz.allEnds sp xs) (xs.drop j) j m at_) ∧ Hid (MatchAt wr (w.heap.size + 1) m) ∧ Hid (MatchAt wr w.heap.size (List.replicate 20 0)) ∧ Hid (Only (· = sb) w wr) ∧ Hid (Srch wr sb (.slice ia xs.length ic) (.slice ra n rc) (.slice (some ⟨ab, 0, none⟩) (xs.length + 1) (xs.length + 1))))
  case atStart => exact ⟨0, first, _, rfl, rfl, by omega, hfi, hfe, rfl, hMm, hMr, hOm.mono (fun _ _ e => e.elim), hs0⟩
  case round =>
    obtain ⟨j, at_, m, rfl, rfl, hjk, hat, hne, hfo, h1, h2, h3, h4⟩ := hrel
    have HK : Hid (j + gk = xs.length) := hjk
    have hjl : j ≤ xs.length := by omega
    have hM' : MatchAt wr (w.heap.size + 1) m := h1
    have hR' : MatchAt wr w.heap.size (List.replicate 20 0) := h2
    have hO' : Only (· = sb) w wr := h3
    have hS' : Srch wr sb (.slice ia xs.length ic) (.slice ra n rc) (.slice (some ⟨ab, 0, none⟩) (xs.length + 1) (xs.length + 1)) := h4
    have ty : ∀ {T : TypeId} {c : Nat}, Typ w c T → T ≠ 258 → ¬ c = sb := fun hc hT e => by subst e; exact hT (hc.one hs.typ)
    clear hjk h1 h2 h3 h4 hMm hMr hOm hs0 q0
    by_cases hlt : j < xs.length
    · obtain ⟨e, g1, g2, g3, g4⟩ := Adz.allEnds_good sp xs j hlt at_ (by omega) hne.out
      obtain ⟨ib, rfl, ti, hit⟩ := (hi.keeps hO' (fun c hc => ty hc (by decide)) (fun c hc => ty hc (by decide))).get hf (by intro e; simp [e] at hlt)
      obtain ⟨hx, hgc⟩ := hit j hlt
      have li : ib < wr.heap.size := World.block_lt_of_cell? wr _ hgc
      have ni : ib ≠ sb := ti.ne hS'.typ (by decide)
      have c0 := hx.kind
      have c1 := hgc
      obtain ⟨sa, sc, c2, _⟩ := hx.spans
      have c3 := hx.times
      have hAr := hA.keeps hO' (fun c hc => ty hc (by decide)) (fun c hc => ty hc (by decide))
      have a1 := hAr.cell j (by omega)
      have a3 := (hAr.place j at_ (by omega) (by omega)).1
      have g1' : Adz.fin sp xs j at_ = e := g1
      rw [g1'] at a3
      have te := hAr.rows j (by omega)
      have ta := hAr.typ
      have la : ab < wr.heap.size := World.block_lt_of_cell? wr _ a1
      have le : base + j < wr.heap.size := World.block_lt_of_cell? wr _ a3
      have hdr : xs.drop j = xs[j] :: xs.drop (j + 1) := List.drop_eq_getElem_cons hlt
      have hfo' := hfo.out
      rw [hdr] at hfo'
      simp only [Adz.follow] at hfo'
      rw [g1, Int.toNat_natCast] at hfo'
      have hgj := hg xs[j] (List.getElem_mem hlt)
      have hb1 : (j : Int) < (xs.length : Int) + 1 := by omega
      have hb2 : (at_ : Int) < (n : Int) + 1 := by omega
      have hw1 : IntKind.i64.wrap ((j : Int) + 1) = (j : Int) + 1 := by rw [IntKind.wrap_i64]; omega
      have G4 : Hid (Adz.fin sp xs (j + 1) e ≠ -1) := g4
      clear g4 hdr hfo hne hAr g1'
      generalize hxe : xs[j] = x at *
      have HFO : Hid _ := hfo'
      clear hfo' hxe hit g1
      have lm : w.heap.size + 1 < wr.heap.size := by obtain ⟨u, hu⟩ := (hM'.cellOf 0 (by omega)).1; exact World.block_lt_of_cell? wr _ hu
      obtain ⟨st, hst⟩ := hS'.steps
      have q2 := hS'.ends
      have q3 := hS'.free
      have nm1 : sb ≠ w.heap.size + 1 := by omega
      have nm1' : w.heap.size + 1 ≠ sb := by omega
      have nm0 : w.heap.size ≠ sb := by omega
      have hne1 : base + j ≠ w.heap.size + 1 := te.ne hM'.typ (by decide)
      have hne2 : ab ≠ w.heap.size + 1 := ta.ne hM'.typ (by decide)
      have hne3 : base + j ≠ sb := te.ne hS'.typ (by decide)
      have hne4 : ab ≠ sb := ta.ne hS'.typ (by decide)
      have lsr : sb < wr.heap.size := hS'.typ.lt
      have sS := hS'.step (wrap64 (st + 1))
      have oS : Only (· = sb) w _ := hO'.trans (srch_only (w := wr) sb (wrap64 (st + 1))) (fun _ e => e) (fun _ _ e => e)
      have mS := hM'.keeps (srch_only (w := wr) sb (wrap64 (st + 1))) nm1'
      have rS := hR'.keeps (srch_only (w := wr) sb (wrap64 (st + 1))) nm0
      by_cases k2 : x.kind = 2
      · obtain ⟨gn, hgn⟩ : ∃ gn : Nat, x.group = gn := ⟨x.group.toNat, by omega⟩
        have hmk : Adz.mark x m at_ = m.set (gn * 2) at_ := by simp [Adz.mark, k2, hgn]
        rw [hmk] at HFO
        have hgb : gn < 10 := by omega
        have hgi : (gn : Int) < 10 := by omega
        rw [hgn] at c1
        clear hgc
        rw [k2] at c0
        obtain ⟨⟨u, hu⟩, hu2⟩ := hM'.cellOf (gn * 2) (by omega)
        generalize hwS : wr.setCell ⟨sb, 3, none⟩ (.int .i64 (wrap64 (st + 1))) = wS at *
        have o1 : Only (· = sb) w (wS.setCell ⟨w.heap.size + 1, gn * 2, none⟩ (.int .i64 at_)) := Only.setCell (p := ⟨w.heap.size + 1, gn * 2, none⟩) oS (fun h => absurd h (by simp)) (.int .i64 at_)
        have m1 := mS.set (gn * 2) at_
        have m2 := rS.keeps (only_set wS (w.heap.size + 1) (gn * 2) (.int .i64 at_)) (by omega)
        have s1 := sS.keeps (only_set wS (w.heap.size + 1) (gn * 2) (.int .i64 at_)) nm1
        have oa : Only (fun _ => False) (wS.setCell ⟨w.heap.size + 1, gn * 2, none⟩ (.int .i64 at_)) ((wS.setCell ⟨w.heap.size + 1, gn * 2, none⟩ (.int .i64 at_)).alloc (.cells #[.int .i64 2, .int .i64 gn, .slice sa x.spans.length sc, .int .i64 x.times] 270)) := (Only.refl _ _).alloc _
        have F1 : Hid _ := m1.keeps oa id
        have F2 : Hid _ := m2.keeps oa id
        have F3 : Hid _ := o1.trans oa (fun _ e => e) (fun _ _ e => e.elim)
        have F4 : Hid _ := s1.keeps oa id
        clear k2 hmk hgj hgn o1 m1 m2 s1 oa mS rS oS sS
        subst hwS
        go_wp2
        go_roundg (gk - 1)
        case measure => have := HK.out; omega
        case rel => exact ⟨j + 1, e, _, rfl, rfl, by have := HK.out; omega, by omega, G4, HFO, F1, F2, F3, F4⟩
      by_cases k3 : x.kind = 3
      · obtain ⟨gn, hgn⟩ : ∃ gn : Nat, x.group = gn := ⟨x.group.toNat, by omega⟩
        have hmk : Adz.mark x m at_ = m.set (gn * 2 + 1) at_ := by simp [Adz.mark, k3, hgn]
        rw [hmk] at HFO
        have hgb : gn < 10 := by omega
        have hgi : (gn : Int) < 10 := by omega
        rw [hgn] at c1
        clear hgc
        rw [k3] at c0
        obtain ⟨⟨u, hu⟩, hu2⟩ := hM'.cellOf (gn * 2 + 1) (by omega)
        generalize hwS : wr.setCell ⟨sb, 3, none⟩ (.int .i64 (wrap64 (st + 1))) = wS at *
        have o1 : Only (· = sb) w (wS.setCell ⟨w.heap.size + 1, gn * 2 + 1, none⟩ (.int .i64 at_)) := Only.setCell (p := ⟨w.heap.size + 1, gn * 2 + 1, none⟩) oS (fun h => absurd h (by simp)) (.int .i64 at_)
        have m1 := mS.set (gn * 2 + 1) at_
        have m2 := rS.keeps (only_set wS (w.heap.size + 1) (gn * 2 + 1) (.int .i64 at_)) (by omega)
        have s1 := sS.keeps (only_set wS (w.heap.size + 1) (gn * 2 + 1) (.int .i64 at_)) nm1
        have oa : Only (fun _ => False) (wS.setCell ⟨w.heap.size + 1, gn * 2 + 1, none⟩ (.int .i64 at_)) ((wS.setCell ⟨w.heap.size + 1, gn * 2 + 1, none⟩ (.int .i64 at_)).alloc (.cells #[.int .i64 3, .int .i64 gn, .slice sa x.spans.length sc, .int .i64 x.times] 270)) := (Only.refl _ _).alloc _
        have F1 : Hid _ := m1.keeps oa id
        have F2 : Hid _ := m2.keeps oa id
        have F3 : Hid _ := o1.trans oa (fun _ e => e) (fun _ _ e => e.elim)
        have F4 : Hid _ := s1.keeps oa id
        clear k3 hmk hgj hgn o1 m1 m2 s1 oa mS rS oS sS
        subst hwS
        go_wp2
        go_roundg (gk - 1)
        case measure => have := HK.out; omega
        case rel => exact ⟨j + 1, e, _, rfl, rfl, by have := HK.out; omega, by omega, G4, HFO, F1, F2, F3, F4⟩
      have d2 : (x.kind == 2) = false := by simp [k2]
      have d3 : (x.kind == 3) = false := by simp [k3]
      have hmk : Adz.mark x m at_ = m := by simp [Adz.mark, k2, k3]
      rw [hmk] at HFO
      generalize hwS : wr.setCell ⟨sb, 3, none⟩ (.int .i64 (wrap64 (st + 1))) = wS at *
      have oa : Only (fun _ => False) wS (wS.alloc (.cells #[.int .i64 x.kind, .int .i64 x.group, .slice sa x.spans.length sc, .int .i64 x.times] 270)) := (Only.refl _ wS).alloc _
      have F1 : Hid _ := mS.keeps oa id
      have F2 : Hid _ := rS.keeps oa id
      have F3 : Hid _ := oS.trans oa (fun _ e => e) (fun _ _ e => e.elim)
      have F4 : Hid _ := sS.keeps oa id
      clear k2 k3 hmk hgj oa mS rS oS sS
      subst hwS
      go_wp2
      go_roundg (gk - 1)
      case measure => have := HK.out; omega
      case rel => exact ⟨j + 1, e, m, rfl, rfl, by have := HK.out; omega, by omega, G4, HFO, F1, F2, F3, F4⟩
    · have he : j = xs.length := by omega
      subst he
      have HFO : Hid (Adz.follow (Adz.allEnds sp xs) xs 0 (List.replicate 20 0) first = (m, at_)) := by show _ = _; rw [hfo.out, List.drop_length]; rfl
      clear hfo hne hlt
      obtain ⟨⟨u0, hu0⟩, hf0⟩ := hM'.cellOf 0 (by omega)
      obtain ⟨⟨u1, hu1⟩, hf1⟩ := hM'.cellOf 1 (by omega)
      have hMe := (hM'.set 0 first).set 1 at_
      have hOe : Only (· = sb) w ((wr.setCell ⟨w.heap.size + 1, 0, none⟩ (.int .i64 first)).setCell ⟨w.heap.size + 1, 1, none⟩ (.int .i64 at_)) := Only.setCell (p := ⟨w.heap.size + 1, 1, none⟩) (Only.setCell (p := ⟨w.heap.size + 1, 0, none⟩) hO' (fun h => absurd h (by simp)) _) (fun h => absurd h (by simp)) _
      have hRe := (hR'.keeps (only_set wr (w.heap.size + 1) 0 (.int .i64 first)) (by omega)).keeps (only_set _ (w.heap.size + 1) 1 (.int .i64 at_)) (by omega)
      have hSe := (hS'.keeps (only_set wr (w.heap.size + 1) 0 (.int .i64 first)) (by omega)).keeps (only_set _ (w.heap.size + 1) 1 (.int .i64 at_)) (by omega)
      have HE : Hid (Adz.matchAt (Adz.allEnds sp xs) xs first = (m.set 0 first).set 1 at_) := by show _ = _; simp only [Adz.matchAt]; rw [HFO.out]
      clear HFO
      generalize hmm : (m.set 0 (first : Int)).set 1 (at_ : Int) = mm at *
      clear hmm
      have hml := hMe.len
      have hi1 : (Tryz.prog.info? 219).map (·.size) = some (mm.map (Value.int .i64)).length := by rw [List.length_map, hml]; exact hi219
      have hi2 : (Tryz.prog.info? 219).map (·.size) = some (mm.map (Value.int .i64)).toArray.size := by rw [List.size_toArray]; exact hi1
      have hz2 : ((mm.map (Value.int .i64)).toArray.all (·.oneCell')) = true := all_oneCell_toArray (by intro v hv; simp at hv; obtain ⟨a, _, rfl⟩ := hv; rfl)
      have hth := hRe.there
      rw [show (20 : Nat) = (mm.map (Value.int .i64)).toArray.size by rw [List.size_toArray, List.length_map, hml]] at hth
      have HI1 : Hid _ := hi1
      have HI2 : Hid _ := hi2
      clear hi1 hi2 hi219 hz219 hml
      go_wp2_with (first | refine wpList_load_mid (by rfl) 219 _ (by rfl) (w.heap.size + 1) 0 (by rfl) (mm.map (Value.int .i64)) _ hMe.cells Tryz.underlying219 (by rfl) HI1.out ?_ | refine wpList_store_mid (by rfl) 219 _ _ (by rfl) w.heap.size 0 (mm.map (Value.int .i64)).toArray (by rfl) (by rfl) hth HI2.out hz2 ?_)
      have hfin := hRe.store mm hMe.len
      have hOf := hOe.trans (setCells_only w.heap.size (mm.map (Value.int .i64)) _ 0) (fun _ e => e) (fun b hb e => by omega)
      have hSf := hSe.keeps (setCells_only w.heap.size (mm.map (Value.int .i64)) _ 0) (by omega)
      have hrun := run_loadVar_mid (P := Tryz.prog) _ w.heap.size 0 219 (mm.map (Value.int .i64)) _ hfin.cells Tryz.underlying219 (by rfl) HI1.out
      exact bodyPost_ret (v := .agg (mm.map (Value.int .i64)).toArray) (match_results rfl hrun) rfl ⟨by rw [HE.out], hOf, hSf⟩
end Go.Proofs.YtbiobhghnldckaaGreatDoor
