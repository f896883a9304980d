/- Proved: a call of adzekeep.Joined returns true and turns nothing of what was there. Conditions: what the library's variables hold; the raw numbers lie in memory. -/
import Derived.Test.YtbiobhghnldckaaGreatDoorJn4
import Derived.Deep.RegionWith
namespace Go.Proofs.YtbiobhghnldckaaGreatDoor
open Go.RowKit
set_option linter.unusedVariables false
attribute [local go_sem ↓] Go.wp_at_zero Go.wp_at_succ

theorem jnd_take_len2 {ls : List (List Int)} (h : ∀ l ∈ ls, LineOk l) (h40 : ls.length ≤ 40) {j : Nat} (h1 : 1 ≤ j) (hj : j ≤ ls.length) : (jnd [233, 45] (ls.take j)).length ≤ 398 := by
  have hne : ls.take j ≠ [] := by
    intro e
    have := congrArg List.length e
    rw [List.length_take, List.length_nil] at this
    omega
  exact (jnd_len2 (fun l hl => h l (List.mem_of_mem_take hl)) (by rw [List.length_take]; omega) hne).1

set_option maxRecDepth 100000 in
set_option maxHeartbeats 6400000 in
theorem joined_calls (ad : Option Addr) (cap : Nat) (zs : List Int) (w : World) (hr : RawAt w ad zs) (hzn : zs.length ≤ 9223372036854775807) (ht : Tabs w) :
    Calls Tryz.prog 13 #[.slice ad zs.length cap] w fun e w' => e = .returned (.bool true) ∧ Only (fun _ => False) w w' := by
  have c0 := opened_calls w ht
  go_enter Tryz.func13, Tryz.ntmps13
  go_wp2_with fail
  refine c0.mono ?_
  clear c0
  rintro e w1 ⟨rfl, o1⟩
  have c1 := lines_calls ad cap zs w1 (hr.keeps o1) hzn
  go_wp2_with fail
  refine c1.mono ?_
  clear c1
  rintro e w2 ⟨ls, v, rfl, hown, hls, h40, o2⟩
  obtain ⟨la, lc, rfl⟩ := row_shape hown
  have o12 := o1.trans o2 (fun _ e => e) (fun _ _ e => e)
  clear o1 o2
  have tT := tx_bound (txtR ls) 360 (by have := txtR_len ls hls; omega)
  by_cases h4 : 400 < (tx (txtR ls)).size
  · have d4 : (400 : Int) < ((tx (txtR ls)).size : Int) := by omega
    generalize tx (txtR ls) = T at *
    go_wp2
    go_ret
    exact ⟨rfl, o12⟩
  · have d4 : ¬ (400 : Int) < ((tx (txtR ls)).size : Int) := by omega
    by_cases h0 : ls.length = 0
    · have d0 : ((ls.length : Int) == 0) = true := by rw [h0]; rfl
      generalize tx (txtR ls) = T at *
      go_wp2
      go_ret
      exact ⟨rfl, o12⟩
    · have d0 : ((ls.length : Int) == 0) = false := beq_eq_false_iff_ne.2 (by omega)
      have hpos : 0 < ls.length := by omega
      have hne : ls ≠ [] := List.length_pos_iff.1 hpos
      have dpos : (0 : Int) < (ls.length : Int) := by omega
      obtain ⟨g, rfl, hgb, hgt, hcells⟩ := row_cell hown (by omega)
      have hc0 := hcells 0 (.string (tx ls[0])) (by rw [List.getElem?_map, List.getElem?_eq_getElem hpos]; rfl)
      have h10 : jnd [233, 45] (ls.take 1) = ls[0] := by
        cases ls with
        | nil => exact absurd rfl hne
        | cons a t => rfl
      have H10 : Hid _ := h10
      have HC : Hid _ := hcells
      have HE : Hid (∀ u, Only (fun _ => False) w u → _) := fun u (o : Only (fun _ => False) w u) => joined_edits u (ht.keeps o) ls hls h40 hne
      clear hcells h10 h4 h0 hown hne
      generalize hTT : tx (txtR ls) = T at *
      have HTT : Hid _ := hTT
      clear hTT
      rw [← H10.out] at hc0
      generalize hone : tx (jnd [233, 45] (ls.take 1)) = O1 at *
      go_wp2_with fail
      go_loopg [6, 7] ls.length (fun k ov iv wr => ∃ j : Nat, iv = .int .i64 j ∧ ov = .string (tx (jnd [233, 45] (ls.take j))) ∧ 1 ≤ j ∧ j ≤ ls.length ∧ wr = w2 ∧ Hid (j + k = ls.length + 1))
      case atStart => exact ⟨1, rfl, by rw [hone], by omega, by omega, rfl, (by show 1 + ls.length = ls.length + 1; omega)⟩
      case round =>
        obtain ⟨j, rfl, rfl, hj1, hj, rfl, H⟩ := hrel
        have hwj : IntKind.i64.wrap ((j : Int) + 1) = (j : Int) + 1 := by rw [IntKind.wrap_i64]; omega
        by_cases hlt : j < ls.length
        · have dj : (j : Int) < (ls.length : Int) := by omega
          have hcell := HC.out j (.string (tx ls[j])) (by rw [List.getElem?_map, List.getElem?_eq_getElem hlt]; rfl)
          have hlj := (hls ls[j] (List.getElem_mem hlt)).2
          have hb := jnd_take_len2 hls h40 hj1 hj
          have hnx : jnd [233, 45] (ls.take j) ++ [233, 45] ++ ls[j] = jnd [233, 45] (ls.take (j + 1)) := by
            have hne : ls.take j ≠ [] := by
              intro e
              have := congrArg List.length e
              rw [List.length_take, List.length_nil] at this
              omega
            rw [← List.take_append_getElem hlt, jnd_snoc [233, 45] _ _ hne, List.append_assoc]
          have tL := tx_bound ls[j] 8 hlj
          have nl0 : (jnd [233, 45] (ls.take j)).length ≤ 398 := hb
          have nt0 := tx_bound (jnd [233, 45] (ls.take j)) 398 nl0
          have nq1 := tx_append (jnd [233, 45] (ls.take j)) ([233, 45])
          rw [show tx ([233, 45]) = ⟨#[195, 169, 45]⟩ by decide +kernel] at nq1
          have nl1 : (jnd [233, 45] (ls.take j) ++ [233, 45]).length ≤ 400 := len_app nl0 (Nat.le_refl _)
          have nt1 := tx_bound (jnd [233, 45] (ls.take j) ++ [233, 45]) 400 nl1
          have nq2 := tx_append (jnd [233, 45] (ls.take j) ++ [233, 45]) (ls[j])
          have nl2 : (jnd [233, 45] (ls.take j) ++ [233, 45] ++ ls[j]).length ≤ 408 := len_app nl1 hlj
          have nt2 := tx_bound (jnd [233, 45] (ls.take j) ++ [233, 45] ++ ls[j]) 408 nl2
          clear nl0 nl1 nl2
          rw [hnx] at nq2 nt2
          clear hnx
          generalize tx (jnd [233, 45] (ls.take j)) = N0 at *
          generalize tx (jnd [233, 45] (ls.take j) ++ [233, 45]) = N1 at *
          generalize hnL : tx (jnd [233, 45] (ls.take (j + 1))) = N2 at *
          generalize tx ls[j] = LJ at *
          go_wp2
          go_roundg (gk - 1)
          case measure => have := H.out; omega
          case rel => exact ⟨j + 1, by go_num, by rw [hnL], by omega, by omega, rfl, (by show j + 1 + (gk - 1) = ls.length + 1; have := H.out; omega)⟩
        · have hje : j = ls.length := by omega
          subst hje
          have dj : ¬ ((ls.length : Int) < (ls.length : Int)) := by omega
          have E1 := fun u o => (HE.out u o).1
          have E2 := fun u o => (HE.out u o).2
          have hb := jnd_take_len2 hls h40 hj1 (Nat.le_refl _)
          rw [List.take_length] at hb ⊢
          rw [show tx jnL = ⟨#[58, 97, 59, 36, 33, 123, 78, 59, 98, 32, 97, 125, 59, 115, 47, 92, 110, 47, 195, 169, 45, 47, 103]⟩ by decide +kernel] at E1
          rw [show tx jnL2 = ⟨#[115, 47, 195, 169, 45, 47, 92, 110, 47, 103]⟩ by decide +kernel] at E2
          have ml0 : (jnd [233, 45] ls).length ≤ 398 := hb
          have mt0 := tx_bound (jnd [233, 45] ls) 398 ml0
          have mq1 := tx_append (jnd [233, 45] ls) ([10])
          rw [show tx ([10]) = ⟨#[10]⟩ by decide +kernel] at mq1
          have ml1 : (jnd [233, 45] ls ++ [10]).length ≤ 399 := len_app ml0 (Nat.le_refl _)
          have mt1 := tx_bound (jnd [233, 45] ls ++ [10]) 399 ml1
          clear ml0 ml1
          generalize tx (jnd [233, 45] ls) = M0 at *
          generalize tx (jnd [233, 45] ls ++ [10]) = M1 at *
          clear HE hc0 hone
          go_wp2_with fail
          refine (E1 _ o12).mono ?_
          rintro e w4 ⟨rfl, o4⟩
          have o14 : Only (fun _ => False) w w4 := o12.trans o4 (fun _ e => e) (fun _ _ e => e)
          clear E1
          go_wp2_with fail
          refine (E2 _ o14).mono ?_
          rintro e w5 ⟨rfl, o5⟩
          have o15 : Only (fun _ => False) w w5 := o14.trans o5 (fun _ e => e) (fun _ _ e => e)
          clear E2
          go_wp2
          go_ret
          exact ⟨rfl, o15⟩
end Go.Proofs.YtbiobhghnldckaaGreatDoor
