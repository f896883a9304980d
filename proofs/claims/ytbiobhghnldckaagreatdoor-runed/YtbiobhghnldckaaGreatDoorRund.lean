/- Proved: a call of adzekeep.Runed returns true and turns nothing of what was there. Conditions: what the library's variables hold; the raw numbers lie in memory. -/
import Derived.Test.YtbiobhghnldckaaGreatDoorK21
import Derived.Test.YtbiobhghnldckaaGreatDoorK17
import Derived.Deep.RegionWith
namespace Go.Proofs.YtbiobhghnldckaaGreatDoor
open Go.RowKit
set_option linter.unusedVariables false
attribute [local go_sem ↓] Go.wp_at_zero Go.wp_at_succ

theorem encode_tx {r : Int} (h : Okr r) : Utf8.encode r = tx [r] := by
  have := runesBytes_ok (l := [r]) (by intro x hx; simp at hx; subst hx; exact h)
  rw [← this]
  simp [runesBytes]
theorem arnd_step (l : List Int) (m : Nat) (hm : m < l.length) : arnd (l.take (m + 1)) = arnd (l.take m) ++ [60] ++ [l[m]] ++ [62] := by
  have e : l.take (m + 1) = l.take m ++ [l[m]] := (List.take_append_getElem hm).symm
  unfold arnd
  rw [e, List.flatMap_append]
  simp only [List.flatMap_cons, List.flatMap_nil, List.append_nil, List.append_assoc]
  rfl
theorem pnts_step (l : List Int) (m : Nat) (hm : m < l.length) : pnts (l.take (m + 1)) = pnts (l.take m) ++ [46] := by
  have e : l.take (m + 1) = l.take m ++ [l[m]] := (List.take_append_getElem hm).symm
  unfold pnts
  rw [e, List.map_append]
  rfl
theorem arnd_take_len (l : List Int) (m : Nat) : (arnd (l.take m)).length ≤ 3 * l.length := by
  rw [arnd_len, List.length_take]; omega
theorem pnts_take_len (l : List Int) (m : Nat) : (pnts (l.take m)).length ≤ l.length := by
  unfold pnts; rw [List.length_map, List.length_take]; omega
theorem txtR_arnd_len {ls : List (List Int)} (h : ∀ l ∈ ls, LineOk l) (h40 : ls.length ≤ 40) (j : Nat) : (txtR ((ls.take j).map arnd)).length ≤ 1000 := by
  have := txtR_bound ((ls.take j).map arnd) 24 (fun l hl => by
    obtain ⟨x, hx, rfl⟩ := List.mem_map.1 hl
    have := (h x (List.mem_of_mem_take hx)).2
    rw [arnd_len]; omega)
  rw [List.length_map, List.length_take] at this
  omega
theorem txtR_pnts_len {ls : List (List Int)} (h : ∀ l ∈ ls, LineOk l) (h40 : ls.length ≤ 40) (j : Nat) : (txtR ((ls.take j).map pnts)).length ≤ 360 := by
  have := txtR_bound ((ls.take j).map pnts) 8 (fun l hl => by
    obtain ⟨x, hx, rfl⟩ := List.mem_map.1 hl
    have := (h x (List.mem_of_mem_take hx)).2
    unfold pnts
    rw [List.length_map]; omega)
  rw [List.length_map, List.length_take] at this
  omega

set_option maxRecDepth 100000 in
set_option maxHeartbeats 12800000 in
theorem runed_calls (ad : Option Addr) (cap : Nat) (zs : List Int) (w : World) (hr : RawAt w ad zs) (hzn : zs.length ≤ 9223372036854775807) (ht : Tabs w) :
    Calls Tryz.prog 8 #[.slice ad zs.length cap] w fun e w' => e = .returned (.bool true) ∧ Only (fun _ => False) w w' := by
  have c0 := opened_calls w ht
  go_enter Tryz.func8, Tryz.ntmps8
  go_wp2_with fail
  refine c0.mono ?_
  clear c0
  rintro e w1 ⟨rfl, o1⟩
  have c1 := lines_calls ad cap zs w1 (hr.keeps o1) hzn
  go_wp2_with fail
  refine c1.mono ?_
  clear c1
  rintro e w2 ⟨ls, v, rfl, hown, hls, h40, o2⟩
  obtain ⟨la, lc, rfl⟩ := row_shape hown
  have o12 := o1.trans o2 (fun _ e => e) (fun _ _ e => e)
  have cA := (edits_runed w2 (ht.keeps o12) ls hls h40).1
  have tT := tx_bound (txtR ls) 360 (by have := txtR_len ls hls; omega)
  go_wp2_with fail
  refine cA.mono ?_
  clear cA
  rintro e w3 ⟨rfl, o3⟩
  have o13 := o12.trans o3 (fun _ e => e) (fun _ _ e => e)
  go_wp2_with fail
  go_loopg [8, 9, 10] ls.length (fun k av pv iv wr => ∃ j : Nat, iv = .int .i64 j ∧ av = .string (tx (txtR ((ls.take j).map arnd))) ∧ pv = .string (tx (txtR ((ls.take j).map pnts))) ∧ j ≤ ls.length ∧ Hid (j + k = ls.length ∧ Only (fun _ => False) w3 wr))
  case atStart => exact ⟨0, rfl, rfl, rfl, by omega, ⟨by omega, Only.refl _ _⟩⟩
  case round =>
    obtain ⟨j, rfl, rfl, rfl, hj, H⟩ := hrel
    have hwj : IntKind.i64.wrap ((j : Int) + 1) = (j : Int) + 1 := by rw [IntKind.wrap_i64]; omega
    by_cases hlt : j < ls.length
    · have dj : (j : Int) < (ls.length : Int) := by omega
      obtain ⟨g, rfl, hgb, hgt, hcells⟩ := row_cell hown (by omega)
      have hcell := H.out.2.keeps (o3.keeps (hcells j (.string (tx ls[j])) (by rw [List.getElem?_map, List.getElem?_eq_getElem hlt]; rfl)) id) id
      have hlj := hls ls[j] (List.getElem_mem hlt)
      have hla := txtR_arnd_len hls h40 j
      have hlp := txtR_pnts_len hls h40 j
      have hnA : txtR ((ls.take j).map arnd) ++ arnd ls[j] ++ [10] = txtR ((ls.take (j + 1)).map arnd) := by
        rw [← List.take_append_getElem hlt, List.map_append, List.map_cons, List.map_nil, txtR_snoc, List.append_assoc]
      have hnB : txtR ((ls.take j).map pnts) ++ pnts ls[j] ++ [10] = txtR ((ls.take (j + 1)).map pnts) := by
        rw [← List.take_append_getElem hlt, List.map_append, List.map_cons, List.map_nil, txtR_snoc, List.append_assoc]
      have HNA : Hid _ := hnA
      have HNB : Hid _ := hnB
      clear hcells hnA hnB
      generalize ls[j] = l at *
      have hl8 := hlj.2
      have hd := dec_tx hlj.ln.ok (by omega)
      have hit0 := World.iter_heap wr (tx l) 0
      have oi : Only (fun _ => False) wr (wr.iter (tx l) 0) := (Only.refl _ wr).alloc _
      go_wp2_with fail
      have oq : Only (fun _ => False) w3 (wr.iter (tx l) 0) := H.out.2.trans oi (fun _ e => e) (fun _ _ e => e)
      have hib : w3.heap.size ≤ wr.heap.size := H.out.2.size
      have HM : Hid (j + gk = ls.length) := H.out.1
      clear H hcell oi
      generalize wr.heap.size = ib at *
      generalize wr.iter (tx l) 0 = wI at *
      clear wr
      go_loopg [8, 9] l.length (fun k av pv wq => ∃ m : Nat, av = .string (tx (txtR ((ls.take j).map arnd) ++ arnd (l.take m))) ∧ pv = .string (tx (txtR ((ls.take j).map pnts) ++ pnts (l.take m))) ∧ m ≤ l.length ∧ Hid (m + k = l.length ∧ wq.heap[ib]? = some (.stringIter (tx l) (Adz.place (plc l) m).toNat) ∧ Only (fun _ => False) w3 wq))
      case atStart => exact ⟨0, by simp [arnd], by simp [pnts], by omega, ⟨by omega, by rw [hd.zero]; exact hit0, oq⟩⟩
      case round =>
        obtain ⟨m, rfl, rfl, hm, G⟩ := hrel
        have hba : (txtR ((ls.take j).map arnd) ++ arnd (l.take m)).length ≤ 1024 := by
          have := arnd_take_len l m
          rw [List.length_append]; omega
        have hbp : (txtR ((ls.take j).map pnts) ++ pnts (l.take m)).length ≤ 400 := by
          have := pnts_take_len l m
          rw [List.length_append]; omega
        by_cases hlm : m < l.length
        · obtain ⟨p, q, e1, e2, e3, e4, e5⟩ := hd.step m hlm
          have hnx : ∀ ty, (Instr.next (.pointer (some ⟨ib, 0, none⟩)) true ty).run Tryz.prog wr = .ok (.tuple #[.bool true, .int .i64 (Adz.place (plc l) m), .int .i32 (Adz.peek l m)]) (wr.iterAt ib (tx l) (Adz.place (plc l) (m + 1)).toNat) := fun ty => by
            have hit := G.out.2.1
            rw [e1] at hit
            have := Lib.run_next_any_at (P := Tryz.prog) wr ib (tx l) p ty hit e3
            rw [e4, e5] at this
            rw [e1, e2]
            simpa using this
          have o1 := iterAt_only wr ib (tx l) (Adz.place (plc l) (m + 1)).toNat
          have hit1 := Lib.iterAt_heap wr ib (tx l) _ (Adz.place (plc l) (m + 1)).toNat G.out.2.1
          have oq1 : Only (fun _ => False) w3 (wr.iterAt ib (tx l) (Adz.place (plc l) (m + 1)).toNat) := G.out.2.2.trans o1 (fun _ e => e) (fun b hb e => by omega)
          have HIT : Hid ((wr.iterAt ib (tx l) (Adz.place (plc l) (m + 1)).toNat).heap[ib]? = some (.stringIter (tx l) (Adz.place (plc l) (m + 1)).toNat)) := hit1
          have HOQ : Hid _ := oq1
          clear hit1 oq1 o1
          generalize wr.iterAt ib (tx l) (Adz.place (plc l) (m + 1)).toNat = wn at *
          have hpk : Adz.peek l m = l[m] := by simp [Adz.peek, List.getElem?_eq_getElem hlm]
          have hsa := arnd_step l m hlm
          have hsp := pnts_step l m hlm
          have hen := encode_tx (hlj.ln.ok _ (List.getElem_mem hlm))
          rw [hpk] at hnx
          generalize Adz.place (plc l) m = pm at *
          generalize l[m] = r at *
          clear hpk e1 e2 e3 e4 e5
          have HE : Hid (Utf8.encode r = tx [r]) := hen
          clear hen
          have al0 : (txtR ((ls.take j).map arnd) ++ arnd (l.take m)).length ≤ 1024 := hba
          have at0 := tx_bound (txtR ((ls.take j).map arnd) ++ arnd (l.take m)) 1024 al0
          have aq1 := tx_append (txtR ((ls.take j).map arnd) ++ arnd (l.take m)) ([60])
          rw [show tx ([60]) = ⟨#[60]⟩ by decide +kernel] at aq1
          have al1 : (txtR ((ls.take j).map arnd) ++ arnd (l.take m) ++ [60]).length ≤ 1025 := len_app al0 (Nat.le_refl _)
          have at1 := tx_bound (txtR ((ls.take j).map arnd) ++ arnd (l.take m) ++ [60]) 1025 al1
          have aq2 := tx_append (txtR ((ls.take j).map arnd) ++ arnd (l.take m) ++ [60]) ([r])
          have al2 : (txtR ((ls.take j).map arnd) ++ arnd (l.take m) ++ [60] ++ [r]).length ≤ 1026 := len_app al1 (Nat.le_refl _)
          have at2 := tx_bound (txtR ((ls.take j).map arnd) ++ arnd (l.take m) ++ [60] ++ [r]) 1026 al2
          have aq3 := tx_append (txtR ((ls.take j).map arnd) ++ arnd (l.take m) ++ [60] ++ [r]) ([62])
          rw [show tx ([62]) = ⟨#[62]⟩ by decide +kernel] at aq3
          have al3 : (txtR ((ls.take j).map arnd) ++ arnd (l.take m) ++ [60] ++ [r] ++ [62]).length ≤ 1027 := len_app al2 (Nat.le_refl _)
          have at3 := tx_bound (txtR ((ls.take j).map arnd) ++ arnd (l.take m) ++ [60] ++ [r] ++ [62]) 1027 al3
          clear al0 al1 al2 al3
          have pl0 : (txtR ((ls.take j).map pnts) ++ pnts (l.take m)).length ≤ 400 := hbp
          have pt0 := tx_bound (txtR ((ls.take j).map pnts) ++ pnts (l.take m)) 400 pl0
          have pq1 := tx_append (txtR ((ls.take j).map pnts) ++ pnts (l.take m)) ([46])
          rw [show tx ([46]) = ⟨#[46]⟩ by decide +kernel] at pq1
          have pl1 : (txtR ((ls.take j).map pnts) ++ pnts (l.take m) ++ [46]).length ≤ 401 := len_app pl0 (Nat.le_refl _)
          have pt1 := tx_bound (txtR ((ls.take j).map pnts) ++ pnts (l.take m) ++ [46]) 401 pl1
          clear pl0 pl1
          rw [show txtR ((ls.take j).map arnd) ++ arnd (l.take m) ++ [60] ++ [r] ++ [62] = txtR ((ls.take j).map arnd) ++ arnd (l.take (m + 1)) by rw [hsa]; simp only [List.append_assoc]] at aq3 at3
          rw [show txtR ((ls.take j).map pnts) ++ pnts (l.take m) ++ [46] = txtR ((ls.take j).map pnts) ++ pnts (l.take (m + 1)) by rw [hsp]; simp only [List.append_assoc]] at pq1 pt1
          rw [← HE.out] at aq2
          have enb : (Utf8.encode r).size ≤ 2 := by rw [HE.out]; exact tx_bound [r] 1 (by simp)
          clear HE hsa hsp
          generalize tx (txtR ((ls.take j).map arnd) ++ arnd (l.take m)) = A0 at *
          generalize tx (txtR ((ls.take j).map arnd) ++ arnd (l.take m) ++ [60]) = A1 at *
          generalize tx (txtR ((ls.take j).map arnd) ++ arnd (l.take m) ++ [60] ++ [r]) = A2 at *
          generalize haL : tx (txtR ((ls.take j).map arnd) ++ arnd (l.take (m + 1))) = A3 at *
          generalize tx (txtR ((ls.take j).map pnts) ++ pnts (l.take m)) = P0 at *
          generalize hpL : tx (txtR ((ls.take j).map pnts) ++ pnts (l.take (m + 1))) = P1 at *
          go_wp2
          go_roundg (l.length - (m + 1))
          case measure => have := G.out.1; omega
          case rel => exact ⟨m + 1, by rw [haL], by rw [hpL], by omega, ⟨by omega, HIT.out, HOQ.out⟩⟩
        · have hme : m = l.length := by omega
          subst hme
          have hend : ∀ ty, (Instr.next (.pointer (some ⟨ib, 0, none⟩)) true ty).run Tryz.prog wr = .ok (.tuple #[.bool false]) wr := fun ty =>
            Lib.run_next_end_at (P := Tryz.prog) wr ib (tx l) _ ty G.out.2.1 (by rw [hd.last]; simp)
          rw [List.take_length] at hba hbp
          rw [List.take_length]
          have nl0 : (txtR ((ls.take j).map arnd) ++ arnd l).length ≤ 1024 := hba
          have nt0 := tx_bound (txtR ((ls.take j).map arnd) ++ arnd l) 1024 nl0
          have nq1 := tx_append (txtR ((ls.take j).map arnd) ++ arnd l) ([10])
          rw [show tx ([10]) = ⟨#[10]⟩ by decide +kernel] at nq1
          have nl1 : (txtR ((ls.take j).map arnd) ++ arnd l ++ [10]).length ≤ 1025 := len_app nl0 (Nat.le_refl _)
          have nt1 := tx_bound (txtR ((ls.take j).map arnd) ++ arnd l ++ [10]) 1025 nl1
          clear nl0 nl1
          have ol0 : (txtR ((ls.take j).map pnts) ++ pnts l).length ≤ 400 := hbp
          have ot0 := tx_bound (txtR ((ls.take j).map pnts) ++ pnts l) 400 ol0
          have oq1 := tx_append (txtR ((ls.take j).map pnts) ++ pnts l) ([10])
          rw [show tx ([10]) = ⟨#[10]⟩ by decide +kernel] at oq1
          have ol1 : (txtR ((ls.take j).map pnts) ++ pnts l ++ [10]).length ≤ 401 := len_app ol0 (Nat.le_refl _)
          have ot1 := tx_bound (txtR ((ls.take j).map pnts) ++ pnts l ++ [10]) 401 ol1
          clear ol0 ol1
          rw [HNA.out] at nq1 nt1
          rw [HNB.out] at oq1 ot1
          clear hd
          generalize tx (txtR ((ls.take j).map arnd) ++ arnd l) = N0 at *
          generalize hnL : tx (txtR ((ls.take (j + 1)).map arnd)) = N1 at *
          generalize tx (txtR ((ls.take j).map pnts) ++ pnts l) = O0 at *
          generalize hoL : tx (txtR ((ls.take (j + 1)).map pnts)) = O1 at *
          go_wp2
          go_roundg (ls.length - (j + 1))
          case measure => have := HM.out; omega
          case rel => exact ⟨j + 1, by go_num, by rw [hnL], by rw [hoL], by omega, ⟨by omega, G.out.2.2⟩⟩
    · have hje : j = ls.length := by omega
      subst hje
      have dj : ¬ ((ls.length : Int) < (ls.length : Int)) := by omega
      have o14 : Only (fun _ => False) w wr := o13.trans H.out.2 (fun _ e => e) (fun _ _ e => e)
      have HE : Hid (∀ u, Only (fun _ => False) w u → _) := fun u (o : Only (fun _ => False) w u) => edits_runed u (ht.keeps o) ls hls h40
      have E2 := fun u o => (HE.out u o).2.1
      have E3 := fun u o => (HE.out u o).2.2
      rw [List.take_length]
      clear HE hown
      generalize tx (txtR ls) = T at *
      generalize tx (txtR (ls.map arnd)) = TA at *
      generalize tx (txtR (ls.map pnts)) = TP at *
      go_wp2_with fail
      refine (E2 _ o14).mono ?_
      rintro e w4 ⟨rfl, o4⟩
      have o15 : Only (fun _ => False) w w4 := o14.trans o4 (fun _ e => e) (fun _ _ e => e)
      clear E2
      go_wp2_with fail
      refine (E3 _ o15).mono ?_
      rintro e w5 ⟨rfl, o5⟩
      have o16 : Only (fun _ => False) w w5 := o15.trans o5 (fun _ e => e) (fun _ _ e => e)
      clear E3
      go_wp2
      go_ret
      exact ⟨rfl, o16⟩
end Go.Proofs.YtbiobhghnldckaaGreatDoor
