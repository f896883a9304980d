/- Proved: a call of adzekeep.Numbered returns true and turns nothing of what was there. Conditions: what the library's variables hold; the raw numbers lie in memory. -/
import Derived.Test.YtbiobhghnldckaaGreatDoorK19
import Derived.Deep.RegionWith
namespace Go.Proofs.YtbiobhghnldckaaGreatDoor
open Go.RowKit
set_option linter.unusedVariables false
attribute [local go_sem ↓] Go.wp_at_zero Go.wp_at_succ

theorem sel_yesL {p : Nat → Bool} {ls : List (List Int)} {j : Nat} (hj : j < ls.length) (h : p (j + 1) = true) : txtR (accJ (sel p) ls (j + 1)) = txtR (accJ (sel p) ls j) ++ ls[j] ++ [10] := by
  rw [accJ_succ _ _ _ hj, txtR_append]
  unfold sel
  rw [if_pos h]
  simp [txtR]
theorem sel_noL {p : Nat → Bool} {ls : List (List Int)} {j : Nat} (hj : j < ls.length) (h : p (j + 1) = false) : accJ (sel p) ls (j + 1) = accJ (sel p) ls j := by
  rw [accJ_succ _ _ _ hj]
  unfold sel
  rw [if_neg (by rw [h]; simp), List.append_nil]

set_option maxRecDepth 100000 in
set_option maxHeartbeats 12800000 in
theorem numbered_calls (ad : Option Addr) (cap : Nat) (zs : List Int) (x1 x2 : Int) (w : World) (hr : RawAt w ad zs) (hzn : zs.length ≤ 9223372036854775807) (hx1 : -9223372036854775808 ≤ x1 ∧ x1 ≤ 9223372036854775807) (hx2 : -9223372036854775808 ≤ x2 ∧ x2 ≤ 9223372036854775807) (ht : Tabs w) :
    Calls Tryz.prog 10 #[.slice ad zs.length cap, .int .i64 x1, .int .i64 x2] w fun e w' => e = .returned (.bool true) ∧ Only (fun _ => False) w w' := by
  have c0 := opened_calls w ht
  go_enter Tryz.func10, Tryz.ntmps10
  go_wp2_with fail
  refine c0.mono ?_
  clear c0
  rintro e w1 ⟨rfl, o1⟩
  have c1 := lines_calls ad cap zs w1 (hr.keeps o1) hzn
  go_wp2_with fail
  refine c1.mono ?_
  clear c1
  rintro e w2 ⟨ls, v, rfl, hown, hls, h40, o2⟩
  obtain ⟨la, lc, rfl⟩ := row_shape hown
  have o12 := o1.trans o2 (fun _ e => e) (fun _ _ e => e)
  go_wp2_with fail
  refine (pick_any x1 45 w2 hx1 (by omega) (by omega)).mono ?_
  rintro e w2' ⟨m1, rfl, hm1, rfl⟩
  obtain ⟨a, hae⟩ : ∃ a : Nat, a = m1 + 1 := ⟨_, rfl⟩
  go_wp2_with fail
  refine (pick_any x2 45 _ hx2 (by omega) (by omega)).mono ?_
  rintro e w3 ⟨m2, rfl, hm2, rfl⟩
  obtain ⟨b, hbe⟩ : ∃ b : Nat, b = m2 + 1 := ⟨_, rfl⟩
  go_wp2_with fail
  first | rw [show (m1 : Int) + 1 = (a : Int) by omega] | rw [show 1 + (m1 : Int) = (a : Int) by omega]
  first | rw [show (m2 : Int) + 1 = (b : Int) by omega] | rw [show 1 + (m2 : Int) = (b : Int) by omega]
  have ha1 : 1 ≤ a := by omega
  have ha45 : a ≤ 45 := by omega
  have hb1 : 1 ≤ b := by omega
  have hb45 : b ≤ 45 := by omega
  clear hae hbe
  go_loopg [10, 11, 12, 13, 14] ls.length (fun k nv inv ouv fv iv wr => ∃ j : Nat, iv = .int .i64 j ∧ nv = .string (tx (txtR (accJ (fun n l => [digR n, l]) ls j))) ∧ inv = .string (tx (txtR (accJ (sel fun n => insP a b n == true) ls j))) ∧ ouv = .string (tx (txtR (accJ (sel fun n => insP a b n == false) ls j))) ∧ fv = .string (tx (txtR (accJ (sel fun n => decide (n ≤ a)) ls j))) ∧ j ≤ ls.length ∧ Hid (j + k = ls.length ∧ Only (fun _ => False) w3 wr))
  case atStart => exact ⟨0, rfl, rfl, rfl, rfl, rfl, by omega, ⟨by omega, Only.refl _ _⟩⟩
  case round =>
    obtain ⟨j, rfl, rfl, rfl, rfl, rfl, hj, H⟩ := hrel
    have hwj : IntKind.i64.wrap ((j : Int) + 1) = (j : Int) + 1 := by rw [IntKind.wrap_i64]; omega
    by_cases hlt : j < ls.length
    · have dj : (j : Int) < (ls.length : Int) := by omega
      obtain ⟨g, rfl, hgb, hgt, hcells⟩ := row_cell hown (by omega)
      have hcell := H.out.2.keeps (hcells j (.string (tx ls[j])) (by rw [List.getElem?_map, List.getElem?_eq_getElem hlt]; rfl)) id
      have hlj := (hls ls[j] (List.getElem_mem hlt)).2
      have hfn : Few (fun n l => [digR n, l]) := ⟨fun n l => by simp, fun n l hl x hx => by
        simp at hx
        rcases hx with rfl | rfl
        · have := (digR_len n).2; omega
        · exact hl⟩
      have hbn : (txtR (accJ (fun n l => [digR n, l]) ls j)).length ≤ 720 := by have := accJ_bound hfn hls j (by omega); omega
      have hbi : (txtR (accJ (sel fun n => insP a b n == true) ls j)).length ≤ 720 := by have := accJ_bound (few_sel (fun n => insP a b n == true)) hls j (by omega); omega
      have hbo : (txtR (accJ (sel fun n => insP a b n == false) ls j)).length ≤ 720 := by have := accJ_bound (few_sel (fun n => insP a b n == false)) hls j (by omega); omega
      have hbf : (txtR (accJ (sel fun n => decide (n ≤ a)) ls j)).length ≤ 720 := by have := accJ_bound (few_sel (fun n => decide (n ≤ a))) hls j (by omega); omega
      have hdg : Calls Tryz.prog 23 #[.int .i64 ((j : Int) + 1)] wr.drew fun e w' => e = .returned (.string (tx (digR (j + 1)))) ∧ Only (fun _ => False) wr w' := (digits_calls (j + 1) (by omega) wr.drew).mono (fun e w' ⟨he, ho⟩ => ⟨he, ((Only.refl (fun _ => False) wr).drew).trans ho (fun _ e => e) (fun _ _ e => e)⟩)
      have tI := tx_bound (txtR (accJ (sel fun n => insP a b n == true) ls j)) 720 hbi
      have tO := tx_bound (txtR (accJ (sel fun n => insP a b n == false) ls j)) 720 hbo
      have tF := tx_bound (txtR (accJ (sel fun n => decide (n ≤ a)) ls j)) 720 hbf
      have tJ := tx_bound ls[j] 8 hlj
      have tD := tx_bound (digR (j + 1)) 2 (digR_len _).2
      clear hfn
      by_cases h1 : j + 1 = a
      · have d1 : (((j : Int) + 1) == (a : Int)) = true := by simp; omega
        have hja : j + 1 = a := h1
        have d4 : (j : Int) < (a : Int) := by omega
        have hjb : True := trivial
        have nl0 : (txtR (accJ (fun n l => [digR n, l]) ls j)).length ≤ 720 := hbn
        have nt0 := tx_bound (txtR (accJ (fun n l => [digR n, l]) ls j)) 720 nl0
        have nq1 := tx_append (txtR (accJ (fun n l => [digR n, l]) ls j)) (digR (j + 1))
        have nl1 : (txtR (accJ (fun n l => [digR n, l]) ls j) ++ digR (j + 1)).length ≤ 722 := len_app nl0 (digR_len (j + 1)).2
        have nt1 := tx_bound (txtR (accJ (fun n l => [digR n, l]) ls j) ++ digR (j + 1)) 722 nl1
        have nq2 := tx_append (txtR (accJ (fun n l => [digR n, l]) ls j) ++ digR (j + 1)) ([10])
        rw [show tx ([10]) = ⟨#[10]⟩ by decide +kernel] at nq2
        have nl2 : (txtR (accJ (fun n l => [digR n, l]) ls j) ++ digR (j + 1) ++ [10]).length ≤ 723 := len_app nl1 (Nat.le_refl _)
        have nt2 := tx_bound (txtR (accJ (fun n l => [digR n, l]) ls j) ++ digR (j + 1) ++ [10]) 723 nl2
        have nq3 := tx_append (txtR (accJ (fun n l => [digR n, l]) ls j) ++ digR (j + 1) ++ [10]) (ls[j])
        have nl3 : (txtR (accJ (fun n l => [digR n, l]) ls j) ++ digR (j + 1) ++ [10] ++ ls[j]).length ≤ 731 := len_app nl2 hlj
        have nt3 := tx_bound (txtR (accJ (fun n l => [digR n, l]) ls j) ++ digR (j + 1) ++ [10] ++ ls[j]) 731 nl3
        have nq4 := tx_append (txtR (accJ (fun n l => [digR n, l]) ls j) ++ digR (j + 1) ++ [10] ++ ls[j]) ([10])
        rw [show tx ([10]) = ⟨#[10]⟩ by decide +kernel] at nq4
        have nl4 : (txtR (accJ (fun n l => [digR n, l]) ls j) ++ digR (j + 1) ++ [10] ++ ls[j] ++ [10]).length ≤ 732 := len_app nl3 (Nat.le_refl _)
        have nt4 := tx_bound (txtR (accJ (fun n l => [digR n, l]) ls j) ++ digR (j + 1) ++ [10] ++ ls[j] ++ [10]) 732 nl4
        clear nl0 nl1 nl2 nl3 nl4
        have il0 : (txtR (accJ (sel fun n => insP a b n == true) ls j)).length ≤ 720 := hbi
        have it0 := tx_bound (txtR (accJ (sel fun n => insP a b n == true) ls j)) 720 il0
        have iq1 := tx_append (txtR (accJ (sel fun n => insP a b n == true) ls j)) (ls[j])
        have il1 : (txtR (accJ (sel fun n => insP a b n == true) ls j) ++ ls[j]).length ≤ 728 := len_app il0 hlj
        have it1 := tx_bound (txtR (accJ (sel fun n => insP a b n == true) ls j) ++ ls[j]) 728 il1
        have iq2 := tx_append (txtR (accJ (sel fun n => insP a b n == true) ls j) ++ ls[j]) ([10])
        rw [show tx ([10]) = ⟨#[10]⟩ by decide +kernel] at iq2
        have il2 : (txtR (accJ (sel fun n => insP a b n == true) ls j) ++ ls[j] ++ [10]).length ≤ 729 := len_app il1 (Nat.le_refl _)
        have it2 := tx_bound (txtR (accJ (sel fun n => insP a b n == true) ls j) ++ ls[j] ++ [10]) 729 il2
        clear il0 il1 il2
        have nL : txtR (accJ (fun n l => [digR n, l]) ls j) ++ digR (j + 1) ++ [10] ++ ls[j] ++ [10] = txtR (accJ (fun n l => [digR n, l]) ls (j + 1)) := by
          rw [accJ_succ _ _ _ hlt, txtR_append]
          simp [txtR]
        have hp : insP a b (j + 1) = true := by
          unfold insP
          simp
          try omega
        have iL : txtR (accJ (sel fun n => insP a b n == true) ls j) ++ ls[j] ++ [10] = txtR (accJ (sel fun n => insP a b n == true) ls (j + 1)) := (sel_yesL hlt (by simp [hp])).symm
        have oL : accJ (sel fun n => insP a b n == false) ls (j + 1) = accJ (sel fun n => insP a b n == false) ls j := sel_noL hlt (by simp [hp])
        have fl0 : (txtR (accJ (sel fun n => decide (n ≤ a)) ls j)).length ≤ 720 := hbf
        have ft0 := tx_bound (txtR (accJ (sel fun n => decide (n ≤ a)) ls j)) 720 fl0
        have fq1 := tx_append (txtR (accJ (sel fun n => decide (n ≤ a)) ls j)) (ls[j])
        have fl1 : (txtR (accJ (sel fun n => decide (n ≤ a)) ls j) ++ ls[j]).length ≤ 728 := len_app fl0 hlj
        have ft1 := tx_bound (txtR (accJ (sel fun n => decide (n ≤ a)) ls j) ++ ls[j]) 728 fl1
        have fq2 := tx_append (txtR (accJ (sel fun n => decide (n ≤ a)) ls j) ++ ls[j]) ([10])
        rw [show tx ([10]) = ⟨#[10]⟩ by decide +kernel] at fq2
        have fl2 : (txtR (accJ (sel fun n => decide (n ≤ a)) ls j) ++ ls[j] ++ [10]).length ≤ 729 := len_app fl1 (Nat.le_refl _)
        have ft2 := tx_bound (txtR (accJ (sel fun n => decide (n ≤ a)) ls j) ++ ls[j] ++ [10]) 729 fl2
        clear fl0 fl1 fl2
        have fL : txtR (accJ (sel fun n => decide (n ≤ a)) ls j) ++ ls[j] ++ [10] = txtR (accJ (sel fun n => decide (n ≤ a)) ls (j + 1)) := (sel_yesL hlt (decide_eq_true (by omega))).symm
        rw [fL] at fq2 ft2
        rw [nL] at nq4 nt4
        rw [iL] at iq2 it2
        clear nL iL fL
        generalize tx (txtR (accJ (fun n l => [digR n, l]) ls j)) = N0 at *
        generalize tx (txtR (accJ (fun n l => [digR n, l]) ls j) ++ digR (j + 1)) = N1 at *
        generalize tx (txtR (accJ (fun n l => [digR n, l]) ls j) ++ digR (j + 1) ++ [10]) = N2 at *
        generalize tx (txtR (accJ (fun n l => [digR n, l]) ls j) ++ digR (j + 1) ++ [10] ++ ls[j]) = N3 at *
        generalize hnL : tx (txtR (accJ (fun n l => [digR n, l]) ls (j + 1))) = N4 at *
        generalize tx (txtR (accJ (sel fun n => insP a b n == true) ls j)) = I0 at *
        generalize tx (txtR (accJ (sel fun n => insP a b n == true) ls j) ++ ls[j]) = I1 at *
        generalize hiL : tx (txtR (accJ (sel fun n => insP a b n == true) ls (j + 1))) = I2 at *
        generalize tx (txtR (accJ (sel fun n => decide (n ≤ a)) ls j)) = F0 at *
        generalize tx (txtR (accJ (sel fun n => decide (n ≤ a)) ls j) ++ ls[j]) = F1 at *
        generalize hfL : tx (txtR (accJ (sel fun n => decide (n ≤ a)) ls (j + 1))) = F2 at *
        generalize hoJ : tx (txtR (accJ (sel fun n => insP a b n == false) ls j)) = O0 at *
        generalize tx ls[j] = LJ at *
        generalize tx (digR (j + 1)) = DJ at *
        clear hcells
        go_wp2_with fail
        go_region_with (go_at_call 23; refine hdg.mono ?_; rintro e w5 ⟨rfl, o5⟩; have y5 := o5.keeps hcell id)
        all_goals
          have z5 := o5.keeps hcell id
          clear hdg
          go_wp2
          go_roundg (gk - 1)
          case measure => have := H.out.1; omega
          case rel => exact ⟨j + 1, by go_num, by rw [hnL], by rw [hiL], by rw [oL, hoJ], by rw [hfL], by omega, ⟨by have := H.out.1; omega, H.out.2.trans o5 (fun _ e => e) (fun _ _ e => e)⟩⟩
      · by_cases h2 : a < j + 1
        · by_cases h3 : j + 1 ≤ b
          · have d1 : (((j : Int) + 1) == (a : Int)) = false := by simp; omega
            have d2 : (a : Int) < (j : Int) + 1 := by omega
            have d2' : decide ((a : Int) < (j : Int) + 1) = true := by simp; omega
            have d3 : (j : Int) + 1 ≤ (b : Int) := by omega
            have d4 : ¬ ((j : Int) < (a : Int)) := by omega
            have nl0 : (txtR (accJ (fun n l => [digR n, l]) ls j)).length ≤ 720 := hbn
            have nt0 := tx_bound (txtR (accJ (fun n l => [digR n, l]) ls j)) 720 nl0
            have nq1 := tx_append (txtR (accJ (fun n l => [digR n, l]) ls j)) (digR (j + 1))
            have nl1 : (txtR (accJ (fun n l => [digR n, l]) ls j) ++ digR (j + 1)).length ≤ 722 := len_app nl0 (digR_len (j + 1)).2
            have nt1 := tx_bound (txtR (accJ (fun n l => [digR n, l]) ls j) ++ digR (j + 1)) 722 nl1
            have nq2 := tx_append (txtR (accJ (fun n l => [digR n, l]) ls j) ++ digR (j + 1)) ([10])
            rw [show tx ([10]) = ⟨#[10]⟩ by decide +kernel] at nq2
            have nl2 : (txtR (accJ (fun n l => [digR n, l]) ls j) ++ digR (j + 1) ++ [10]).length ≤ 723 := len_app nl1 (Nat.le_refl _)
            have nt2 := tx_bound (txtR (accJ (fun n l => [digR n, l]) ls j) ++ digR (j + 1) ++ [10]) 723 nl2
            have nq3 := tx_append (txtR (accJ (fun n l => [digR n, l]) ls j) ++ digR (j + 1) ++ [10]) (ls[j])
            have nl3 : (txtR (accJ (fun n l => [digR n, l]) ls j) ++ digR (j + 1) ++ [10] ++ ls[j]).length ≤ 731 := len_app nl2 hlj
            have nt3 := tx_bound (txtR (accJ (fun n l => [digR n, l]) ls j) ++ digR (j + 1) ++ [10] ++ ls[j]) 731 nl3
            have nq4 := tx_append (txtR (accJ (fun n l => [digR n, l]) ls j) ++ digR (j + 1) ++ [10] ++ ls[j]) ([10])
            rw [show tx ([10]) = ⟨#[10]⟩ by decide +kernel] at nq4
            have nl4 : (txtR (accJ (fun n l => [digR n, l]) ls j) ++ digR (j + 1) ++ [10] ++ ls[j] ++ [10]).length ≤ 732 := len_app nl3 (Nat.le_refl _)
            have nt4 := tx_bound (txtR (accJ (fun n l => [digR n, l]) ls j) ++ digR (j + 1) ++ [10] ++ ls[j] ++ [10]) 732 nl4
            clear nl0 nl1 nl2 nl3 nl4
            have il0 : (txtR (accJ (sel fun n => insP a b n == true) ls j)).length ≤ 720 := hbi
            have it0 := tx_bound (txtR (accJ (sel fun n => insP a b n == true) ls j)) 720 il0
            have iq1 := tx_append (txtR (accJ (sel fun n => insP a b n == true) ls j)) (ls[j])
            have il1 : (txtR (accJ (sel fun n => insP a b n == true) ls j) ++ ls[j]).length ≤ 728 := len_app il0 hlj
            have it1 := tx_bound (txtR (accJ (sel fun n => insP a b n == true) ls j) ++ ls[j]) 728 il1
            have iq2 := tx_append (txtR (accJ (sel fun n => insP a b n == true) ls j) ++ ls[j]) ([10])
            rw [show tx ([10]) = ⟨#[10]⟩ by decide +kernel] at iq2
            have il2 : (txtR (accJ (sel fun n => insP a b n == true) ls j) ++ ls[j] ++ [10]).length ≤ 729 := len_app il1 (Nat.le_refl _)
            have it2 := tx_bound (txtR (accJ (sel fun n => insP a b n == true) ls j) ++ ls[j] ++ [10]) 729 il2
            clear il0 il1 il2
            have nL : txtR (accJ (fun n l => [digR n, l]) ls j) ++ digR (j + 1) ++ [10] ++ ls[j] ++ [10] = txtR (accJ (fun n l => [digR n, l]) ls (j + 1)) := by
              rw [accJ_succ _ _ _ hlt, txtR_append]
              simp [txtR]
            have hp : insP a b (j + 1) = true := by
              unfold insP
              simp
              try omega
            have iL : txtR (accJ (sel fun n => insP a b n == true) ls j) ++ ls[j] ++ [10] = txtR (accJ (sel fun n => insP a b n == true) ls (j + 1)) := (sel_yesL hlt (by simp [hp])).symm
            have oL : accJ (sel fun n => insP a b n == false) ls (j + 1) = accJ (sel fun n => insP a b n == false) ls j := sel_noL hlt (by simp [hp])
            have fL : accJ (sel fun n => decide (n ≤ a)) ls (j + 1) = accJ (sel fun n => decide (n ≤ a)) ls j := sel_noL hlt (decide_eq_false (by omega))
            rw [nL] at nq4 nt4
            rw [iL] at iq2 it2
            clear nL iL
            generalize tx (txtR (accJ (fun n l => [digR n, l]) ls j)) = N0 at *
            generalize tx (txtR (accJ (fun n l => [digR n, l]) ls j) ++ digR (j + 1)) = N1 at *
            generalize tx (txtR (accJ (fun n l => [digR n, l]) ls j) ++ digR (j + 1) ++ [10]) = N2 at *
            generalize tx (txtR (accJ (fun n l => [digR n, l]) ls j) ++ digR (j + 1) ++ [10] ++ ls[j]) = N3 at *
            generalize hnL : tx (txtR (accJ (fun n l => [digR n, l]) ls (j + 1))) = N4 at *
            generalize tx (txtR (accJ (sel fun n => insP a b n == true) ls j)) = I0 at *
            generalize tx (txtR (accJ (sel fun n => insP a b n == true) ls j) ++ ls[j]) = I1 at *
            generalize hiL : tx (txtR (accJ (sel fun n => insP a b n == true) ls (j + 1))) = I2 at *
            generalize hfJ : tx (txtR (accJ (sel fun n => decide (n ≤ a)) ls j)) = F0 at *
            generalize hoJ : tx (txtR (accJ (sel fun n => insP a b n == false) ls j)) = O0 at *
            generalize tx ls[j] = LJ at *
            generalize tx (digR (j + 1)) = DJ at *
            clear hcells
            go_wp2_with fail
            go_region_with (go_at_call 23; refine hdg.mono ?_; rintro e w5 ⟨rfl, o5⟩; have y5 := o5.keeps hcell id)
            all_goals
              have z5 := o5.keeps hcell id
              clear hdg
              go_wp2
              go_roundg (gk - 1)
              case measure => have := H.out.1; omega
              case rel => exact ⟨j + 1, by go_num, by rw [hnL], by rw [hiL], by rw [oL, hoJ], by rw [fL, hfJ], by omega, ⟨by have := H.out.1; omega, H.out.2.trans o5 (fun _ e => e) (fun _ _ e => e)⟩⟩
          · have d1 : (((j : Int) + 1) == (a : Int)) = false := by simp; omega
            have d2 : (a : Int) < (j : Int) + 1 := by omega
            have d2' : decide ((a : Int) < (j : Int) + 1) = true := by simp; omega
            have d3 : ¬ ((j : Int) + 1 ≤ (b : Int)) := by omega
            have d4 : ¬ ((j : Int) < (a : Int)) := by omega
            have nl0 : (txtR (accJ (fun n l => [digR n, l]) ls j)).length ≤ 720 := hbn
            have nt0 := tx_bound (txtR (accJ (fun n l => [digR n, l]) ls j)) 720 nl0
            have nq1 := tx_append (txtR (accJ (fun n l => [digR n, l]) ls j)) (digR (j + 1))
            have nl1 : (txtR (accJ (fun n l => [digR n, l]) ls j) ++ digR (j + 1)).length ≤ 722 := len_app nl0 (digR_len (j + 1)).2
            have nt1 := tx_bound (txtR (accJ (fun n l => [digR n, l]) ls j) ++ digR (j + 1)) 722 nl1
            have nq2 := tx_append (txtR (accJ (fun n l => [digR n, l]) ls j) ++ digR (j + 1)) ([10])
            rw [show tx ([10]) = ⟨#[10]⟩ by decide +kernel] at nq2
            have nl2 : (txtR (accJ (fun n l => [digR n, l]) ls j) ++ digR (j + 1) ++ [10]).length ≤ 723 := len_app nl1 (Nat.le_refl _)
            have nt2 := tx_bound (txtR (accJ (fun n l => [digR n, l]) ls j) ++ digR (j + 1) ++ [10]) 723 nl2
            have nq3 := tx_append (txtR (accJ (fun n l => [digR n, l]) ls j) ++ digR (j + 1) ++ [10]) (ls[j])
            have nl3 : (txtR (accJ (fun n l => [digR n, l]) ls j) ++ digR (j + 1) ++ [10] ++ ls[j]).length ≤ 731 := len_app nl2 hlj
            have nt3 := tx_bound (txtR (accJ (fun n l => [digR n, l]) ls j) ++ digR (j + 1) ++ [10] ++ ls[j]) 731 nl3
            have nq4 := tx_append (txtR (accJ (fun n l => [digR n, l]) ls j) ++ digR (j + 1) ++ [10] ++ ls[j]) ([10])
            rw [show tx ([10]) = ⟨#[10]⟩ by decide +kernel] at nq4
            have nl4 : (txtR (accJ (fun n l => [digR n, l]) ls j) ++ digR (j + 1) ++ [10] ++ ls[j] ++ [10]).length ≤ 732 := len_app nl3 (Nat.le_refl _)
            have nt4 := tx_bound (txtR (accJ (fun n l => [digR n, l]) ls j) ++ digR (j + 1) ++ [10] ++ ls[j] ++ [10]) 732 nl4
            clear nl0 nl1 nl2 nl3 nl4
            have il0 : (txtR (accJ (sel fun n => insP a b n == false) ls j)).length ≤ 720 := hbo
            have it0 := tx_bound (txtR (accJ (sel fun n => insP a b n == false) ls j)) 720 il0
            have iq1 := tx_append (txtR (accJ (sel fun n => insP a b n == false) ls j)) (ls[j])
            have il1 : (txtR (accJ (sel fun n => insP a b n == false) ls j) ++ ls[j]).length ≤ 728 := len_app il0 hlj
            have it1 := tx_bound (txtR (accJ (sel fun n => insP a b n == false) ls j) ++ ls[j]) 728 il1
            have iq2 := tx_append (txtR (accJ (sel fun n => insP a b n == false) ls j) ++ ls[j]) ([10])
            rw [show tx ([10]) = ⟨#[10]⟩ by decide +kernel] at iq2
            have il2 : (txtR (accJ (sel fun n => insP a b n == false) ls j) ++ ls[j] ++ [10]).length ≤ 729 := len_app il1 (Nat.le_refl _)
            have it2 := tx_bound (txtR (accJ (sel fun n => insP a b n == false) ls j) ++ ls[j] ++ [10]) 729 il2
            clear il0 il1 il2
            have nL : txtR (accJ (fun n l => [digR n, l]) ls j) ++ digR (j + 1) ++ [10] ++ ls[j] ++ [10] = txtR (accJ (fun n l => [digR n, l]) ls (j + 1)) := by
              rw [accJ_succ _ _ _ hlt, txtR_append]
              simp [txtR]
            have hp : insP a b (j + 1) = false := by
              unfold insP
              simp
              try omega
            have iL : txtR (accJ (sel fun n => insP a b n == false) ls j) ++ ls[j] ++ [10] = txtR (accJ (sel fun n => insP a b n == false) ls (j + 1)) := (sel_yesL hlt (by simp [hp])).symm
            have oL : accJ (sel fun n => insP a b n == true) ls (j + 1) = accJ (sel fun n => insP a b n == true) ls j := sel_noL hlt (by simp [hp])
            have fL : accJ (sel fun n => decide (n ≤ a)) ls (j + 1) = accJ (sel fun n => decide (n ≤ a)) ls j := sel_noL hlt (decide_eq_false (by omega))
            rw [nL] at nq4 nt4
            rw [iL] at iq2 it2
            clear nL iL
            generalize tx (txtR (accJ (fun n l => [digR n, l]) ls j)) = N0 at *
            generalize tx (txtR (accJ (fun n l => [digR n, l]) ls j) ++ digR (j + 1)) = N1 at *
            generalize tx (txtR (accJ (fun n l => [digR n, l]) ls j) ++ digR (j + 1) ++ [10]) = N2 at *
            generalize tx (txtR (accJ (fun n l => [digR n, l]) ls j) ++ digR (j + 1) ++ [10] ++ ls[j]) = N3 at *
            generalize hnL : tx (txtR (accJ (fun n l => [digR n, l]) ls (j + 1))) = N4 at *
            generalize tx (txtR (accJ (sel fun n => insP a b n == false) ls j)) = I0 at *
            generalize tx (txtR (accJ (sel fun n => insP a b n == false) ls j) ++ ls[j]) = I1 at *
            generalize hiL : tx (txtR (accJ (sel fun n => insP a b n == false) ls (j + 1))) = I2 at *
            generalize hfJ : tx (txtR (accJ (sel fun n => decide (n ≤ a)) ls j)) = F0 at *
            generalize hoJ : tx (txtR (accJ (sel fun n => insP a b n == true) ls j)) = O0 at *
            generalize tx ls[j] = LJ at *
            generalize tx (digR (j + 1)) = DJ at *
            clear hcells
            go_wp2_with fail
            go_region_with (go_at_call 23; refine hdg.mono ?_; rintro e w5 ⟨rfl, o5⟩; have y5 := o5.keeps hcell id)
            all_goals
              have z5 := o5.keeps hcell id
              clear hdg
              go_wp2
              go_roundg (gk - 1)
              case measure => have := H.out.1; omega
              case rel => exact ⟨j + 1, by go_num, by rw [hnL], by rw [oL, hoJ], by rw [hiL], by rw [fL, hfJ], by omega, ⟨by have := H.out.1; omega, H.out.2.trans o5 (fun _ e => e) (fun _ _ e => e)⟩⟩
        · have d1 : (((j : Int) + 1) == (a : Int)) = false := by simp; omega
          have d2 : ¬ ((a : Int) < (j : Int) + 1) := by omega
          have d2' : decide ((a : Int) < (j : Int) + 1) = false := by simp; omega
          have d4 : (j : Int) < (a : Int) := by omega
          have nl0 : (txtR (accJ (fun n l => [digR n, l]) ls j)).length ≤ 720 := hbn
          have nt0 := tx_bound (txtR (accJ (fun n l => [digR n, l]) ls j)) 720 nl0
          have nq1 := tx_append (txtR (accJ (fun n l => [digR n, l]) ls j)) (digR (j + 1))
          have nl1 : (txtR (accJ (fun n l => [digR n, l]) ls j) ++ digR (j + 1)).length ≤ 722 := len_app nl0 (digR_len (j + 1)).2
          have nt1 := tx_bound (txtR (accJ (fun n l => [digR n, l]) ls j) ++ digR (j + 1)) 722 nl1
          have nq2 := tx_append (txtR (accJ (fun n l => [digR n, l]) ls j) ++ digR (j + 1)) ([10])
          rw [show tx ([10]) = ⟨#[10]⟩ by decide +kernel] at nq2
          have nl2 : (txtR (accJ (fun n l => [digR n, l]) ls j) ++ digR (j + 1) ++ [10]).length ≤ 723 := len_app nl1 (Nat.le_refl _)
          have nt2 := tx_bound (txtR (accJ (fun n l => [digR n, l]) ls j) ++ digR (j + 1) ++ [10]) 723 nl2
          have nq3 := tx_append (txtR (accJ (fun n l => [digR n, l]) ls j) ++ digR (j + 1) ++ [10]) (ls[j])
          have nl3 : (txtR (accJ (fun n l => [digR n, l]) ls j) ++ digR (j + 1) ++ [10] ++ ls[j]).length ≤ 731 := len_app nl2 hlj
          have nt3 := tx_bound (txtR (accJ (fun n l => [digR n, l]) ls j) ++ digR (j + 1) ++ [10] ++ ls[j]) 731 nl3
          have nq4 := tx_append (txtR (accJ (fun n l => [digR n, l]) ls j) ++ digR (j + 1) ++ [10] ++ ls[j]) ([10])
          rw [show tx ([10]) = ⟨#[10]⟩ by decide +kernel] at nq4
          have nl4 : (txtR (accJ (fun n l => [digR n, l]) ls j) ++ digR (j + 1) ++ [10] ++ ls[j] ++ [10]).length ≤ 732 := len_app nl3 (Nat.le_refl _)
          have nt4 := tx_bound (txtR (accJ (fun n l => [digR n, l]) ls j) ++ digR (j + 1) ++ [10] ++ ls[j] ++ [10]) 732 nl4
          clear nl0 nl1 nl2 nl3 nl4
          have il0 : (txtR (accJ (sel fun n => insP a b n == false) ls j)).length ≤ 720 := hbo
          have it0 := tx_bound (txtR (accJ (sel fun n => insP a b n == false) ls j)) 720 il0
          have iq1 := tx_append (txtR (accJ (sel fun n => insP a b n == false) ls j)) (ls[j])
          have il1 : (txtR (accJ (sel fun n => insP a b n == false) ls j) ++ ls[j]).length ≤ 728 := len_app il0 hlj
          have it1 := tx_bound (txtR (accJ (sel fun n => insP a b n == false) ls j) ++ ls[j]) 728 il1
          have iq2 := tx_append (txtR (accJ (sel fun n => insP a b n == false) ls j) ++ ls[j]) ([10])
          rw [show tx ([10]) = ⟨#[10]⟩ by decide +kernel] at iq2
          have il2 : (txtR (accJ (sel fun n => insP a b n == false) ls j) ++ ls[j] ++ [10]).length ≤ 729 := len_app il1 (Nat.le_refl _)
          have it2 := tx_bound (txtR (accJ (sel fun n => insP a b n == false) ls j) ++ ls[j] ++ [10]) 729 il2
          clear il0 il1 il2
          have nL : txtR (accJ (fun n l => [digR n, l]) ls j) ++ digR (j + 1) ++ [10] ++ ls[j] ++ [10] = txtR (accJ (fun n l => [digR n, l]) ls (j + 1)) := by
            rw [accJ_succ _ _ _ hlt, txtR_append]
            simp [txtR]
          have hp : insP a b (j + 1) = false := by
            unfold insP
            simp
            try omega
          have iL : txtR (accJ (sel fun n => insP a b n == false) ls j) ++ ls[j] ++ [10] = txtR (accJ (sel fun n => insP a b n == false) ls (j + 1)) := (sel_yesL hlt (by simp [hp])).symm
          have oL : accJ (sel fun n => insP a b n == true) ls (j + 1) = accJ (sel fun n => insP a b n == true) ls j := sel_noL hlt (by simp [hp])
          have fl0 : (txtR (accJ (sel fun n => decide (n ≤ a)) ls j)).length ≤ 720 := hbf
          have ft0 := tx_bound (txtR (accJ (sel fun n => decide (n ≤ a)) ls j)) 720 fl0
          have fq1 := tx_append (txtR (accJ (sel fun n => decide (n ≤ a)) ls j)) (ls[j])
          have fl1 : (txtR (accJ (sel fun n => decide (n ≤ a)) ls j) ++ ls[j]).length ≤ 728 := len_app fl0 hlj
          have ft1 := tx_bound (txtR (accJ (sel fun n => decide (n ≤ a)) ls j) ++ ls[j]) 728 fl1
          have fq2 := tx_append (txtR (accJ (sel fun n => decide (n ≤ a)) ls j) ++ ls[j]) ([10])
          rw [show tx ([10]) = ⟨#[10]⟩ by decide +kernel] at fq2
          have fl2 : (txtR (accJ (sel fun n => decide (n ≤ a)) ls j) ++ ls[j] ++ [10]).length ≤ 729 := len_app fl1 (Nat.le_refl _)
          have ft2 := tx_bound (txtR (accJ (sel fun n => decide (n ≤ a)) ls j) ++ ls[j] ++ [10]) 729 fl2
          clear fl0 fl1 fl2
          have fL : txtR (accJ (sel fun n => decide (n ≤ a)) ls j) ++ ls[j] ++ [10] = txtR (accJ (sel fun n => decide (n ≤ a)) ls (j + 1)) := (sel_yesL hlt (decide_eq_true (by omega))).symm
          rw [fL] at fq2 ft2
          rw [nL] at nq4 nt4
          rw [iL] at iq2 it2
          clear nL iL fL
          generalize tx (txtR (accJ (fun n l => [digR n, l]) ls j)) = N0 at *
          generalize tx (txtR (accJ (fun n l => [digR n, l]) ls j) ++ digR (j + 1)) = N1 at *
          generalize tx (txtR (accJ (fun n l => [digR n, l]) ls j) ++ digR (j + 1) ++ [10]) = N2 at *
          generalize tx (txtR (accJ (fun n l => [digR n, l]) ls j) ++ digR (j + 1) ++ [10] ++ ls[j]) = N3 at *
          generalize hnL : tx (txtR (accJ (fun n l => [digR n, l]) ls (j + 1))) = N4 at *
          generalize tx (txtR (accJ (sel fun n => insP a b n == false) ls j)) = I0 at *
          generalize tx (txtR (accJ (sel fun n => insP a b n == false) ls j) ++ ls[j]) = I1 at *
          generalize hiL : tx (txtR (accJ (sel fun n => insP a b n == false) ls (j + 1))) = I2 at *
          generalize tx (txtR (accJ (sel fun n => decide (n ≤ a)) ls j)) = F0 at *
          generalize tx (txtR (accJ (sel fun n => decide (n ≤ a)) ls j) ++ ls[j]) = F1 at *
          generalize hfL : tx (txtR (accJ (sel fun n => decide (n ≤ a)) ls (j + 1))) = F2 at *
          generalize hoJ : tx (txtR (accJ (sel fun n => insP a b n == true) ls j)) = O0 at *
          generalize tx ls[j] = LJ at *
          generalize tx (digR (j + 1)) = DJ at *
          clear hcells
          go_wp2_with fail
          go_region_with (go_at_call 23; refine hdg.mono ?_; rintro e w5 ⟨rfl, o5⟩; have y5 := o5.keeps hcell id)
          all_goals
            have z5 := o5.keeps hcell id
            clear hdg
            go_wp2
            go_roundg (gk - 1)
            case measure => have := H.out.1; omega
            case rel => exact ⟨j + 1, by go_num, by rw [hnL], by rw [oL, hoJ], by rw [hiL], by rw [hfL], by omega, ⟨by have := H.out.1; omega, H.out.2.trans o5 (fun _ e => e) (fun _ _ e => e)⟩⟩
    · have hje : j = ls.length := by omega
      subst hje
      have dj : ¬ ((ls.length : Int) < (ls.length : Int)) := by omega
      have o16 : Only (fun _ => False) w wr := o12.trans H.out.2 (fun _ e => e) (fun _ _ e => e)
      have HE : Hid (∀ u, Only (fun _ => False) w u → _) := fun u (o : Only (fun _ => False) w u) => num_edits u (ht.keeps o) ls hls h40 a b ha1 (by omega) hb1 (by omega)
      have D1 := fun u : World => digits_calls a (by omega) u
      have D2 := fun u : World => digits_calls b (by omega) u
      have hla2 := (digR_len a).2
      have hlb2 := (digR_len b).2
      have tA := tx_bound (digR a) 2 hla2
      have tB := tx_bound (digR b) 2 hlb2
      have tT := tx_bound (txtR ls) 360 (by have := txtR_len ls hls; omega)
      have pl0 : (digR a).length ≤ 2 := hla2
      have pt0 := tx_bound (digR a) 2 pl0
      have pq1 := tx_append (digR a) ([32, 44, 32])
      rw [show tx ([32, 44, 32]) = ⟨#[32, 44, 32]⟩ by decide +kernel] at pq1
      have pl1 : (digR a ++ [32, 44, 32]).length ≤ 5 := len_app pl0 (Nat.le_refl _)
      have pt1 := tx_bound (digR a ++ [32, 44, 32]) 5 pl1
      have pq2 := tx_append (digR a ++ [32, 44, 32]) (digR b)
      have pl2 : (digR a ++ [32, 44, 32] ++ digR b).length ≤ 7 := len_app pl1 hlb2
      have pt2 := tx_bound (digR a ++ [32, 44, 32] ++ digR b) 7 pl2
      have pq3 := tx_append (digR a ++ [32, 44, 32] ++ digR b) ([33, 100])
      rw [show tx ([33, 100]) = ⟨#[33, 100]⟩ by decide +kernel] at pq3
      have pl3 : (digR a ++ [32, 44, 32] ++ digR b ++ [33, 100]).length ≤ 9 := len_app pl2 (Nat.le_refl _)
      have pt3 := tx_bound (digR a ++ [32, 44, 32] ++ digR b ++ [33, 100]) 9 pl3
      clear pl0 pl1 pl2 pl3
      have rl0 : (digR a).length ≤ 2 := hla2
      have rt0 := tx_bound (digR a) 2 rl0
      have rq1 := tx_append (digR a) ([44])
      rw [show tx ([44]) = ⟨#[44]⟩ by decide +kernel] at rq1
      have rl1 : (digR a ++ [44]).length ≤ 3 := len_app rl0 (Nat.le_refl _)
      have rt1 := tx_bound (digR a ++ [44]) 3 rl1
      have rq2 := tx_append (digR a ++ [44]) (digR b)
      have rl2 : (digR a ++ [44] ++ digR b).length ≤ 5 := len_app rl1 hlb2
      have rt2 := tx_bound (digR a ++ [44] ++ digR b) 5 rl2
      have rq3 := tx_append (digR a ++ [44] ++ digR b) ([32, 100])
      rw [show tx ([32, 100]) = ⟨#[32, 100]⟩ by decide +kernel] at rq3
      have rl3 : (digR a ++ [44] ++ digR b ++ [32, 100]).length ≤ 7 := len_app rl2 (Nat.le_refl _)
      have rt3 := tx_bound (digR a ++ [44] ++ digR b ++ [32, 100]) 7 rl3
      clear rl0 rl1 rl2 rl3
      have vl0 : (digR a).length ≤ 2 := hla2
      have vt0 := tx_bound (digR a) 2 vl0
      have vq1 := tx_append (digR a) ([113])
      rw [show tx ([113]) = ⟨#[113]⟩ by decide +kernel] at vq1
      have vl1 : (digR a ++ [113]).length ≤ 3 := len_app vl0 (Nat.le_refl _)
      have vt1 := tx_bound (digR a ++ [113]) 3 vl1
      clear vl0 vl1
      rw [show digR a ++ [32, 44, 32] ++ digR b ++ [33, 100] = numL2 a b by simp [numL2]] at pq3 pt3
      rw [show digR a ++ [44] ++ digR b ++ [32, 100] = numL3 a b by simp [numL3]] at rq3 rt3
      rw [show digR a ++ [113] = numL4 a from rfl] at vq1 vt1
      have E1 := fun u o => (HE.out u o).1
      have E2 := fun u o => (HE.out u o).2.1
      have E3 := fun u o => (HE.out u o).2.2.1
      have E4 := fun u o => (HE.out u o).2.2.2.1
      have E5 := fun u o => (HE.out u o).2.2.2.2
      clear HE
      generalize tx (digR a ++ [32, 44, 32]) = P1 at *
      generalize tx (digR a ++ [32, 44, 32] ++ digR b) = P2 at *
      generalize tx (numL2 a b) = S2 at *
      generalize tx (digR a ++ [44]) = R1 at *
      generalize tx (digR a ++ [44] ++ digR b) = R2 at *
      generalize tx (numL3 a b) = S3 at *
      generalize tx (numL4 a) = S4 at *
      generalize tx (digR a) = DA at *
      generalize tx (digR b) = DB at *
      generalize tx (txtR ls) = T at *
      generalize tx (txtR (accJ (fun n l => [digR n, l]) ls ls.length)) = RN at *
      generalize tx (txtR (accJ (sel fun n => insP a b n == true) ls ls.length)) = RI at *
      generalize tx (txtR (accJ (sel fun n => insP a b n == false) ls ls.length)) = RO at *
      generalize tx (txtR (accJ (sel fun n => decide (n ≤ a)) ls ls.length)) = RF at *
      by_cases hz : 0 < ls.length
      · have dz : (0 : Int) < (ls.length : Int) := by omega
        obtain ⟨g, rfl, hgb, hgt, hcells⟩ := row_cell hown hz
        have hcell := H.out.2.keeps (hcells (ls.length - 1) (.string (tx ls[ls.length - 1])) (by rw [List.getElem?_map, List.getElem?_eq_getElem (by omega)]; rfl)) id
        have hwl : IntKind.i64.wrap ((ls.length : Int) - 1) = ((ls.length - 1 : Nat) : Int) := by rw [IntKind.wrap_i64]; omega
        have hix : ((ls.length - 1 : Nat) : Int) < (ls.length : Int) := by omega
        have hlL := (hls ls[ls.length - 1] (List.getElem_mem (by omega))).2
        have kq := tx_append ls[ls.length - 1] [10]
        rw [show tx [10] = ⟨#[10]⟩ by decide +kernel] at kq
        have kt := tx_bound (ls[ls.length - 1] ++ [10]) 9 (len_app hlL (Nat.le_refl _))
        have kt0 := tx_bound ls[ls.length - 1] 8 hlL
        have kL : ls[ls.length - 1] ++ [10] = txtR (accJ (sel fun n => decide (ls.length ≤ n)) ls ls.length) := by rw [acc_lastL ls hz]; simp [txtR]
        rw [kL] at kq kt
        clear kL hcells
        generalize tx (txtR (accJ (sel fun n => decide (ls.length ≤ n)) ls ls.length)) = RL at *
        generalize tx ls[ls.length - 1] = LL at *
        clear hlL
        generalize hNN : ls.length - 1 = NN at *
        go_wp2_with fail
        refine (E1 wr o16).mono ?_
        clear E1
        rintro e w6 ⟨rfl, o6⟩
        have o17 := o16.trans o6 (fun _ e => e) (fun _ _ e => e)
        go_wp2_with fail
        refine (D1 w6).mono ?_
        rintro e w7 ⟨rfl, o7⟩
        have o18 := o17.trans o7 (fun _ e => e) (fun _ _ e => e)
        go_wp2_with fail
        refine (D2 w7).mono ?_
        rintro e w8 ⟨rfl, o8⟩
        have o19 := o18.trans o8 (fun _ e => e) (fun _ _ e => e)
        go_wp2_with fail
        refine (E2 w8 o19).mono ?_
        clear E2
        rintro e w9 ⟨rfl, o9⟩
        have o20 := o19.trans o9 (fun _ e => e) (fun _ _ e => e)
        go_wp2_with fail
        refine (D1 w9).mono ?_
        rintro e w10 ⟨rfl, o10⟩
        have o21 := o20.trans o10 (fun _ e => e) (fun _ _ e => e)
        go_wp2_with fail
        refine (D2 w10).mono ?_
        rintro e w11 ⟨rfl, o11⟩
        have o22 := o21.trans o11 (fun _ e => e) (fun _ _ e => e)
        go_wp2_with fail
        refine (E3 w11 o22).mono ?_
        clear E3
        rintro e w12 ⟨rfl, o12'⟩
        have o23 := o22.trans o12' (fun _ e => e) (fun _ _ e => e)
        go_wp2_with fail
        refine (D1 w12).mono ?_
        rintro e w13 ⟨rfl, o13⟩
        have o24 := o23.trans o13 (fun _ e => e) (fun _ _ e => e)
        go_wp2_with fail
        refine (E4 w13 o24).mono ?_
        clear E4
        rintro e w14 ⟨rfl, o14⟩
        have o25 := o24.trans o14 (fun _ e => e) (fun _ _ e => e)
        go_wp2_with fail
        refine (E5 w14 o25).mono ?_
        clear E5
        rintro e w15 ⟨rfl, o15⟩
        go_wp2
        go_ret
        exact ⟨rfl, o25.trans o15 (fun _ e => e) (fun _ _ e => e)⟩
      · have dz : ¬ ((0 : Int) < (ls.length : Int)) := by omega
        have hnil : ls = [] := List.eq_nil_of_length_eq_zero (by omega)
        have hRL : tx (txtR (accJ (sel fun n => decide (ls.length ≤ n)) ls ls.length)) = ⟨#[]⟩ := by rw [hnil]; rfl
        rw [hRL] at E5
        clear hRL hnil
        go_wp2_with fail
        refine (E1 wr o16).mono ?_
        clear E1
        rintro e w6 ⟨rfl, o6⟩
        have o17 := o16.trans o6 (fun _ e => e) (fun _ _ e => e)
        go_wp2_with fail
        refine (D1 w6).mono ?_
        rintro e w7 ⟨rfl, o7⟩
        have o18 := o17.trans o7 (fun _ e => e) (fun _ _ e => e)
        go_wp2_with fail
        refine (D2 w7).mono ?_
        rintro e w8 ⟨rfl, o8⟩
        have o19 := o18.trans o8 (fun _ e => e) (fun _ _ e => e)
        go_wp2_with fail
        refine (E2 w8 o19).mono ?_
        clear E2
        rintro e w9 ⟨rfl, o9⟩
        have o20 := o19.trans o9 (fun _ e => e) (fun _ _ e => e)
        go_wp2_with fail
        refine (D1 w9).mono ?_
        rintro e w10 ⟨rfl, o10⟩
        have o21 := o20.trans o10 (fun _ e => e) (fun _ _ e => e)
        go_wp2_with fail
        refine (D2 w10).mono ?_
        rintro e w11 ⟨rfl, o11⟩
        have o22 := o21.trans o11 (fun _ e => e) (fun _ _ e => e)
        go_wp2_with fail
        refine (E3 w11 o22).mono ?_
        clear E3
        rintro e w12 ⟨rfl, o12'⟩
        have o23 := o22.trans o12' (fun _ e => e) (fun _ _ e => e)
        go_wp2_with fail
        refine (D1 w12).mono ?_
        rintro e w13 ⟨rfl, o13⟩
        have o24 := o23.trans o13 (fun _ e => e) (fun _ _ e => e)
        go_wp2_with fail
        refine (E4 w13 o24).mono ?_
        clear E4
        rintro e w14 ⟨rfl, o14⟩
        have o25 := o24.trans o14 (fun _ e => e) (fun _ _ e => e)
        go_wp2_with fail
        refine (E5 w14 o25).mono ?_
        clear E5
        rintro e w15 ⟨rfl, o15⟩
        go_wp2
        go_ret
        exact ⟨rfl, o25.trans o15 (fun _ e => e) (fun _ _ e => e)⟩
end Go.Proofs.YtbiobhghnldckaaGreatDoor
