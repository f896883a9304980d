/- Proved: a call of adzekeep.Queued returns true and turns nothing of what was there. Conditions: what the library's variables hold; the raw numbers lie in memory. -/
import Derived.Test.YtbiobhghnldckaaGreatDoorK17
import Derived.Test.YtbiobhghnldckaaGreatDoorK9
namespace Go.Proofs.YtbiobhghnldckaaGreatDoor
open Go.RowKit
set_option linter.unusedVariables false

set_option maxRecDepth 100000 in
set_option maxHeartbeats 3200000 in
theorem queued_calls (a : Option Addr) (cap : Nat) (zs : List Int) (c : Int) (w : World) (hr : RawAt w a zs) (hzn : zs.length ≤ 9223372036854775807) (hcb : -9223372036854775808 ≤ c ∧ c ≤ 9223372036854775807) (ht : Tabs w) :
    Calls Tryz.prog 11 #[.slice a zs.length cap, .int .i64 c] w fun e w' => e = .returned (.bool true) ∧ Only (fun _ => False) w w' := by
  have c0 := opened_calls w ht
  go_enter Tryz.func11, Tryz.ntmps11
  go_wp2_with fail
  refine c0.mono ?_
  clear c0
  rintro e w1 ⟨rfl, o1⟩
  have c1 := lines_calls a cap zs w1 (hr.keeps o1) hzn
  go_wp2_with fail
  refine c1.mono ?_
  clear c1
  rintro e w2 ⟨ls, v, rfl, hown, hls, h40, o2⟩
  obtain ⟨la, lc, rfl⟩ := row_shape hown
  have o12 := o1.trans o2 (fun _ e => e) (fun _ _ e => e)
  have c2 := line_calls c w2 hcb
  go_wp2_with fail
  refine c2.mono ?_
  clear c2
  rintro e w3 ⟨l, rfl, hl1, hl2, o3⟩
  have hl : LineOk l := ⟨hl1, hl2⟩
  have o13 := o12.trans o3 (fun _ e => e) (fun _ _ e => e)
  have HE : Hid (∀ u, Only (fun _ => False) w u → _) := fun u (o : Only (fun _ => False) w u) => que_edits u (ht.keeps o) ls hls h40 l hl
  have hown3 := row_keeps hown o3 (fun _ _ => id)
  go_wp2_with fail
  go_loopg [9, 10, 11] ls.length (fun k wv nv iv wr => ∃ j : Nat, iv = .int .i64 j ∧ wv = .string (tx (txtR ((ls.take j).flatMap fun x => [l, x, l, l ++ [120]]))) ∧ nv = .string (tx (txtR ((ls.take j).set 1 l))) ∧ j ≤ ls.length ∧ Hid (j + k = ls.length ∧ Only (fun _ => False) w3 wr))
  case atStart => exact ⟨0, rfl, by simp [txtR]; rfl, by simp [txtR]; rfl, by omega, ⟨by omega, Only.refl _ _⟩⟩
  case round =>
    obtain ⟨j, rfl, rfl, rfl, hj, H⟩ := hrel
    have hwj : IntKind.i64.wrap ((j : Int) + 1) = (j : Int) + 1 := by rw [IntKind.wrap_i64]; omega
    by_cases hlt : j < ls.length
    · have dj : (j : Int) < (ls.length : Int) := by omega
      obtain ⟨g, rfl, hgb, hgt, hcells⟩ := row_cell hown3 (by omega)
      have hcell := H.out.2.keeps (hcells j (.string (tx ls[j])) (by rw [List.getElem?_map, List.getElem?_eq_getElem hlt]; rfl)) id
      have hlj := (hls ls[j] (List.getElem_mem hlt)).2
      have hb1 : (txtR ((ls.take j).flatMap fun x => [l, x, l, l ++ [120]])).length ≤ 1600 := by
        have h1 := txtR_bound ((ls.take j).flatMap fun x => [l, x, l, l ++ [120]]) 9 (fun y hy => by
          obtain ⟨x, hx, hm⟩ := List.mem_flatMap.1 hy
          have hx2 := (hls x (List.mem_of_mem_take hx)).2
          simp at hm
          rcases hm with rfl | rfl | rfl | rfl
          · omega
          · omega
          · omega
          · simp; omega)
        rw [flat4_len _ _ 4 (fun _ => rfl), List.length_take] at h1
        omega
      have hb2 : (txtR ((ls.take j).set 1 l)).length ≤ 400 := by
        have h1 := txtR_bound ((ls.take j).set 1 l) 8 (fun y hy => by
          rcases List.mem_or_eq_of_mem_set hy with h | h
          · exact (hls y (List.mem_of_mem_take h)).2
          · rw [h]; exact hl2)
        rw [List.length_set, List.length_take] at h1
        omega
      have lt := tx_bound l 8 hl2
      have jt := tx_bound ls[j] 8 hlj
      have al0 : (txtR ((ls.take j).flatMap fun x => [l, x, l, l ++ [120]])).length ≤ 1600 := hb1
      have at0 := tx_bound (txtR ((ls.take j).flatMap fun x => [l, x, l, l ++ [120]])) 1600 al0
      have aq1 := tx_append (txtR ((ls.take j).flatMap fun x => [l, x, l, l ++ [120]])) (l)
      have al1 : (txtR ((ls.take j).flatMap fun x => [l, x, l, l ++ [120]]) ++ l).length ≤ 1608 := len_app al0 hl2
      have at1 := tx_bound (txtR ((ls.take j).flatMap fun x => [l, x, l, l ++ [120]]) ++ l) 1608 al1
      have aq2 := tx_append (txtR ((ls.take j).flatMap fun x => [l, x, l, l ++ [120]]) ++ l) ([10])
      rw [show tx ([10]) = ⟨#[10]⟩ by decide +kernel] at aq2
      have al2 : (txtR ((ls.take j).flatMap fun x => [l, x, l, l ++ [120]]) ++ l ++ [10]).length ≤ 1609 := len_app al1 (Nat.le_refl _)
      have at2 := tx_bound (txtR ((ls.take j).flatMap fun x => [l, x, l, l ++ [120]]) ++ l ++ [10]) 1609 al2
      have aq3 := tx_append (txtR ((ls.take j).flatMap fun x => [l, x, l, l ++ [120]]) ++ l ++ [10]) (ls[j])
      have al3 : (txtR ((ls.take j).flatMap fun x => [l, x, l, l ++ [120]]) ++ l ++ [10] ++ ls[j]).length ≤ 1617 := len_app al2 hlj
      have at3 := tx_bound (txtR ((ls.take j).flatMap fun x => [l, x, l, l ++ [120]]) ++ l ++ [10] ++ ls[j]) 1617 al3
      have aq4 := tx_append (txtR ((ls.take j).flatMap fun x => [l, x, l, l ++ [120]]) ++ l ++ [10] ++ ls[j]) ([10])
      rw [show tx ([10]) = ⟨#[10]⟩ by decide +kernel] at aq4
      have al4 : (txtR ((ls.take j).flatMap fun x => [l, x, l, l ++ [120]]) ++ l ++ [10] ++ ls[j] ++ [10]).length ≤ 1618 := len_app al3 (Nat.le_refl _)
      have at4 := tx_bound (txtR ((ls.take j).flatMap fun x => [l, x, l, l ++ [120]]) ++ l ++ [10] ++ ls[j] ++ [10]) 1618 al4
      have aq5 := tx_append (txtR ((ls.take j).flatMap fun x => [l, x, l, l ++ [120]]) ++ l ++ [10] ++ ls[j] ++ [10]) (l)
      have al5 : (txtR ((ls.take j).flatMap fun x => [l, x, l, l ++ [120]]) ++ l ++ [10] ++ ls[j] ++ [10] ++ l).length ≤ 1626 := len_app al4 hl2
      have at5 := tx_bound (txtR ((ls.take j).flatMap fun x => [l, x, l, l ++ [120]]) ++ l ++ [10] ++ ls[j] ++ [10] ++ l) 1626 al5
      have aq6 := tx_append (txtR ((ls.take j).flatMap fun x => [l, x, l, l ++ [120]]) ++ l ++ [10] ++ ls[j] ++ [10] ++ l) ([10])
      rw [show tx ([10]) = ⟨#[10]⟩ by decide +kernel] at aq6
      have al6 : (txtR ((ls.take j).flatMap fun x => [l, x, l, l ++ [120]]) ++ l ++ [10] ++ ls[j] ++ [10] ++ l ++ [10]).length ≤ 1627 := len_app al5 (Nat.le_refl _)
      have at6 := tx_bound (txtR ((ls.take j).flatMap fun x => [l, x, l, l ++ [120]]) ++ l ++ [10] ++ ls[j] ++ [10] ++ l ++ [10]) 1627 al6
      have aq7 := tx_append (txtR ((ls.take j).flatMap fun x => [l, x, l, l ++ [120]]) ++ l ++ [10] ++ ls[j] ++ [10] ++ l ++ [10]) (l)
      have al7 : (txtR ((ls.take j).flatMap fun x => [l, x, l, l ++ [120]]) ++ l ++ [10] ++ ls[j] ++ [10] ++ l ++ [10] ++ l).length ≤ 1635 := len_app al6 hl2
      have at7 := tx_bound (txtR ((ls.take j).flatMap fun x => [l, x, l, l ++ [120]]) ++ l ++ [10] ++ ls[j] ++ [10] ++ l ++ [10] ++ l) 1635 al7
      have aq8 := tx_append (txtR ((ls.take j).flatMap fun x => [l, x, l, l ++ [120]]) ++ l ++ [10] ++ ls[j] ++ [10] ++ l ++ [10] ++ l) ([120, 10])
      rw [show tx ([120, 10]) = ⟨#[120, 10]⟩ by decide +kernel] at aq8
      have al8 : (txtR ((ls.take j).flatMap fun x => [l, x, l, l ++ [120]]) ++ l ++ [10] ++ ls[j] ++ [10] ++ l ++ [10] ++ l ++ [120, 10]).length ≤ 1637 := len_app al7 (Nat.le_refl _)
      have at8 := tx_bound (txtR ((ls.take j).flatMap fun x => [l, x, l, l ++ [120]]) ++ l ++ [10] ++ ls[j] ++ [10] ++ l ++ [10] ++ l ++ [120, 10]) 1637 al8
      clear al0 al1 al2 al3 al4 al5 al6 al7 al8
      have aL : txtR ((ls.take j).flatMap fun x => [l, x, l, l ++ [120]]) ++ l ++ [10] ++ ls[j] ++ [10] ++ l ++ [10] ++ l ++ [120, 10] = txtR ((ls.take (j + 1)).flatMap fun x => [l, x, l, l ++ [120]]) := by
        rw [← List.take_append_getElem hlt, List.flatMap_append, txtR_append]
        simp [txtR]
      by_cases h1 : j = 1
      · have d1 : ((j : Int) == 1) = true := by simp; omega
        have bl0 : (txtR ((ls.take j).set 1 l)).length ≤ 400 := hb2
        have bt0 := tx_bound (txtR ((ls.take j).set 1 l)) 400 bl0
        have bq1 := tx_append (txtR ((ls.take j).set 1 l)) (l)
        have bl1 : (txtR ((ls.take j).set 1 l) ++ l).length ≤ 408 := len_app bl0 hl2
        have bt1 := tx_bound (txtR ((ls.take j).set 1 l) ++ l) 408 bl1
        have bq2 := tx_append (txtR ((ls.take j).set 1 l) ++ l) ([10])
        rw [show tx ([10]) = ⟨#[10]⟩ by decide +kernel] at bq2
        have bl2 : (txtR ((ls.take j).set 1 l) ++ l ++ [10]).length ≤ 409 := len_app bl1 (Nat.le_refl _)
        have bt2 := tx_bound (txtR ((ls.take j).set 1 l) ++ l ++ [10]) 409 bl2
        clear bl0 bl1 bl2
        have bL : txtR ((ls.take j).set 1 l) ++ l ++ [10] = txtR ((ls.take (j + 1)).set 1 l) := by
          rw [set_snoc ls j hlt, if_pos h1, txtR_append]
          simp [txtR]
        rw [aL] at aq8 at8
        rw [bL] at bq2 bt2
        clear aL bL
        have HAL : Hid (tx (txtR ((ls.take (j + 1)).flatMap fun x => [l, x, l, l ++ [120]])) = tx (txtR ((ls.take (j + 1)).flatMap fun x => [l, x, l, l ++ [120]]))) := rfl
        generalize tx (txtR ((ls.take j).flatMap fun x => [l, x, l, l ++ [120]])) = A0 at *
        generalize tx (txtR ((ls.take j).flatMap fun x => [l, x, l, l ++ [120]]) ++ l) = A1 at *
        generalize tx (txtR ((ls.take j).flatMap fun x => [l, x, l, l ++ [120]]) ++ l ++ [10]) = A2 at *
        generalize tx (txtR ((ls.take j).flatMap fun x => [l, x, l, l ++ [120]]) ++ l ++ [10] ++ ls[j]) = A3 at *
        generalize tx (txtR ((ls.take j).flatMap fun x => [l, x, l, l ++ [120]]) ++ l ++ [10] ++ ls[j] ++ [10]) = A4 at *
        generalize tx (txtR ((ls.take j).flatMap fun x => [l, x, l, l ++ [120]]) ++ l ++ [10] ++ ls[j] ++ [10] ++ l) = A5 at *
        generalize tx (txtR ((ls.take j).flatMap fun x => [l, x, l, l ++ [120]]) ++ l ++ [10] ++ ls[j] ++ [10] ++ l ++ [10]) = A6 at *
        generalize tx (txtR ((ls.take j).flatMap fun x => [l, x, l, l ++ [120]]) ++ l ++ [10] ++ ls[j] ++ [10] ++ l ++ [10] ++ l) = A7 at *
        generalize haL : tx (txtR ((ls.take (j + 1)).flatMap fun x => [l, x, l, l ++ [120]])) = A8 at *
        generalize tx (txtR ((ls.take j).set 1 l)) = B0 at *
        generalize tx (txtR ((ls.take j).set 1 l) ++ l) = B1 at *
        generalize hbL : tx (txtR ((ls.take (j + 1)).set 1 l)) = B2 at *
        generalize tx ls[j] = LJ at *
        generalize tx l = TL at *
        clear hcells HAL h1
        go_wp2
        go_roundg (gk - 1)
        case measure => have := H.out.1; omega
        case rel => exact ⟨j + 1, by go_num, by rw [haL], by rw [hbL], by omega, ⟨by have := H.out.1; omega, H.out.2⟩⟩
      · have d1 : ((j : Int) == 1) = false := by simp; omega
        have bl0 : (txtR ((ls.take j).set 1 l)).length ≤ 400 := hb2
        have bt0 := tx_bound (txtR ((ls.take j).set 1 l)) 400 bl0
        have bq1 := tx_append (txtR ((ls.take j).set 1 l)) (ls[j])
        have bl1 : (txtR ((ls.take j).set 1 l) ++ ls[j]).length ≤ 408 := len_app bl0 hlj
        have bt1 := tx_bound (txtR ((ls.take j).set 1 l) ++ ls[j]) 408 bl1
        have bq2 := tx_append (txtR ((ls.take j).set 1 l) ++ ls[j]) ([10])
        rw [show tx ([10]) = ⟨#[10]⟩ by decide +kernel] at bq2
        have bl2 : (txtR ((ls.take j).set 1 l) ++ ls[j] ++ [10]).length ≤ 409 := len_app bl1 (Nat.le_refl _)
        have bt2 := tx_bound (txtR ((ls.take j).set 1 l) ++ ls[j] ++ [10]) 409 bl2
        clear bl0 bl1 bl2
        have bL : txtR ((ls.take j).set 1 l) ++ ls[j] ++ [10] = txtR ((ls.take (j + 1)).set 1 l) := by
          rw [set_snoc ls j hlt, if_neg h1, txtR_append]
          simp [txtR]
        rw [aL] at aq8 at8
        rw [bL] at bq2 bt2
        clear aL bL
        generalize tx (txtR ((ls.take j).flatMap fun x => [l, x, l, l ++ [120]])) = A0 at *
        generalize tx (txtR ((ls.take j).flatMap fun x => [l, x, l, l ++ [120]]) ++ l) = A1 at *
        generalize tx (txtR ((ls.take j).flatMap fun x => [l, x, l, l ++ [120]]) ++ l ++ [10]) = A2 at *
        generalize tx (txtR ((ls.take j).flatMap fun x => [l, x, l, l ++ [120]]) ++ l ++ [10] ++ ls[j]) = A3 at *
        generalize tx (txtR ((ls.take j).flatMap fun x => [l, x, l, l ++ [120]]) ++ l ++ [10] ++ ls[j] ++ [10]) = A4 at *
        generalize tx (txtR ((ls.take j).flatMap fun x => [l, x, l, l ++ [120]]) ++ l ++ [10] ++ ls[j] ++ [10] ++ l) = A5 at *
        generalize tx (txtR ((ls.take j).flatMap fun x => [l, x, l, l ++ [120]]) ++ l ++ [10] ++ ls[j] ++ [10] ++ l ++ [10]) = A6 at *
        generalize tx (txtR ((ls.take j).flatMap fun x => [l, x, l, l ++ [120]]) ++ l ++ [10] ++ ls[j] ++ [10] ++ l ++ [10] ++ l) = A7 at *
        generalize haL : tx (txtR ((ls.take (j + 1)).flatMap fun x => [l, x, l, l ++ [120]])) = A8 at *
        generalize tx (txtR ((ls.take j).set 1 l)) = B0 at *
        generalize tx (txtR ((ls.take j).set 1 l) ++ ls[j]) = B1 at *
        generalize hbL : tx (txtR ((ls.take (j + 1)).set 1 l)) = B2 at *
        generalize tx ls[j] = LJ at *
        generalize tx l = TL at *
        clear hcells h1
        go_wp2
        go_roundg (gk - 1)
        case measure => have := H.out.1; omega
        case rel => exact ⟨j + 1, by go_num, by rw [haL], by rw [hbL], by omega, ⟨by have := H.out.1; omega, H.out.2⟩⟩
    · have hje : j = ls.length := by omega
      subst hje
      rw [List.take_length]
      have dj : ¬ ((ls.length : Int) < (ls.length : Int)) := by omega
      have o16 : Only (fun _ => False) w wr := o13.trans H.out.2 (fun _ e => e) (fun _ _ e => e)
      have E1 := (HE.out wr o16).1
      have E2 := fun u o => (HE.out u o).2
      have lt := tx_bound l 8 hl2
      have sl0 : ([97, 32]).length ≤ 2 := Nat.le_refl _
      have st0 := tx_bound ([97, 32]) 2 sl0
      have sq1 := tx_append ([97, 32]) (l)
      have sl1 : ([97, 32] ++ l).length ≤ 10 := len_app sl0 hl2
      have st1 := tx_bound ([97, 32] ++ l) 10 sl1
      have sq2 := tx_append ([97, 32] ++ l) ([10, 105, 32])
      rw [show tx ([10, 105, 32]) = ⟨#[10, 105, 32]⟩ by decide +kernel] at sq2
      have sl2 : ([97, 32] ++ l ++ [10, 105, 32]).length ≤ 13 := len_app sl1 (Nat.le_refl _)
      have st2 := tx_bound ([97, 32] ++ l ++ [10, 105, 32]) 13 sl2
      have sq3 := tx_append ([97, 32] ++ l ++ [10, 105, 32]) (l)
      have sl3 : ([97, 32] ++ l ++ [10, 105, 32] ++ l).length ≤ 21 := len_app sl2 hl2
      have st3 := tx_bound ([97, 32] ++ l ++ [10, 105, 32] ++ l) 21 sl3
      have sq4 := tx_append ([97, 32] ++ l ++ [10, 105, 32] ++ l) ([10, 97, 32])
      rw [show tx ([10, 97, 32]) = ⟨#[10, 97, 32]⟩ by decide +kernel] at sq4
      have sl4 : ([97, 32] ++ l ++ [10, 105, 32] ++ l ++ [10, 97, 32]).length ≤ 24 := len_app sl3 (Nat.le_refl _)
      have st4 := tx_bound ([97, 32] ++ l ++ [10, 105, 32] ++ l ++ [10, 97, 32]) 24 sl4
      have sq5 := tx_append ([97, 32] ++ l ++ [10, 105, 32] ++ l ++ [10, 97, 32]) (l)
      have sl5 : ([97, 32] ++ l ++ [10, 105, 32] ++ l ++ [10, 97, 32] ++ l).length ≤ 32 := len_app sl4 hl2
      have st5 := tx_bound ([97, 32] ++ l ++ [10, 105, 32] ++ l ++ [10, 97, 32] ++ l) 32 sl5
      have sq6 := tx_append ([97, 32] ++ l ++ [10, 105, 32] ++ l ++ [10, 97, 32] ++ l) ([120])
      rw [show tx ([120]) = ⟨#[120]⟩ by decide +kernel] at sq6
      have sl6 : ([97, 32] ++ l ++ [10, 105, 32] ++ l ++ [10, 97, 32] ++ l ++ [120]).length ≤ 33 := len_app sl5 (Nat.le_refl _)
      have st6 := tx_bound ([97, 32] ++ l ++ [10, 105, 32] ++ l ++ [10, 97, 32] ++ l ++ [120]) 33 sl6
      clear sl0 sl1 sl2 sl3 sl4 sl5 sl6
      have sL : [97, 32] ++ l ++ [10, 105, 32] ++ l ++ [10, 97, 32] ++ l ++ [120] = queL l := by simp [queL]
      rw [sL] at sq6 st6
      have zq := tx_append [50, 99, 32] l
      have zt : (tx (queL2 l)).size ≤ 100 := by
        have := tx_bound (queL2 l) 20 (by rw [queL2_len]; omega)
        omega
      rw [show tx [50, 99, 32] = ⟨#[50, 99, 32]⟩ by decide +kernel, show [50, 99, 32] ++ l = queL2 l from rfl] at zq
      rw [show tx [97, 32] = ⟨#[97, 32]⟩ by decide +kernel] at sq1 st0
      clear sL HE
      generalize tx ([97, 32] ++ l) = S0 at *
      generalize tx ([97, 32] ++ l ++ [10, 105, 32]) = S1 at *
      generalize tx ([97, 32] ++ l ++ [10, 105, 32] ++ l) = S2 at *
      generalize tx ([97, 32] ++ l ++ [10, 105, 32] ++ l ++ [10, 97, 32]) = S3 at *
      generalize tx ([97, 32] ++ l ++ [10, 105, 32] ++ l ++ [10, 97, 32] ++ l) = S4 at *
      generalize tx (queL l) = S6 at *
      generalize tx (queL2 l) = Z at *
      generalize tx l = TL at *
      generalize tx (txtR ls) = T at *
      generalize tx (txtR (ls.flatMap fun x => [l, x, l, l ++ [120]])) = R1 at *
      generalize tx (txtR (ls.set 1 l)) = R2 at *
      go_wp2_with fail
      refine E1.mono ?_
      clear E1
      rintro e w6 ⟨rfl, o6⟩
      have o17 := o16.trans o6 (fun _ e => e) (fun _ _ e => e)
      have E2' := E2 w6 o17
      clear E2
      go_wp2_with fail
      refine E2'.mono ?_
      clear E2'
      rintro e w7 ⟨rfl, o7⟩
      go_wp2
      go_ret
      exact ⟨rfl, o17.trans o7 (fun _ e => e) (fun _ _ e => e)⟩
end Go.Proofs.YtbiobhghnldckaaGreatDoor
