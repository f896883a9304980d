/- Proved: a call of adzekeep.Turned returns true and turns nothing of what was there. Conditions: what the library's variables hold; the raw numbers lie in memory. -/
import Derived.Test.YtbiobhghnldckaaGreatDoorK18
namespace Go.Proofs.YtbiobhghnldckaaGreatDoor
open Go.RowKit
set_option linter.unusedVariables false

set_option maxRecDepth 100000 in
set_option maxHeartbeats 3200000 in
theorem turned_calls (a : Option Addr) (cap : Nat) (zs : List Int) (w : World) (hr : RawAt w a zs) (hzn : zs.length ≤ 9223372036854775807) (ht : Tabs w) :
    Calls Tryz.prog 12 #[.slice a zs.length cap] w fun e w' => e = .returned (.bool true) ∧ Only (fun _ => False) w w' := by
  have c0 := opened_calls w ht
  go_enter Tryz.func12, Tryz.ntmps12
  go_wp2_with fail
  refine c0.mono ?_
  clear c0
  rintro e w1 ⟨rfl, o1⟩
  have c1 := lines_calls a cap zs w1 (hr.keeps o1) hzn
  go_wp2_with fail
  refine c1.mono ?_
  clear c1
  rintro e w2 ⟨ls, v, rfl, hown, hls, h40, o2⟩
  obtain ⟨la, lc, rfl⟩ := row_shape hown
  have o12 := o1.trans o2 (fun _ e => e) (fun _ _ e => e)
  go_wp2_with fail
  go_loopg [6, 7, 8] ls.length (fun k bv nv iv wr => ∃ j : Nat, iv = .int .i64 j ∧ bv = .string (tx (txtR (ls.take j).reverse)) ∧ nv = .int .i64 ((encL (txtR (ls.take j))).length : Nat) ∧ j ≤ ls.length ∧ Hid (j + k = ls.length ∧ Only (fun _ => False) w2 wr))
  case atStart => exact ⟨0, rfl, by simp [txtR]; rfl, by simp [txtR, encL], by omega, ⟨by omega, Only.refl _ _⟩⟩
  case round =>
    obtain ⟨j, rfl, rfl, rfl, hj, H⟩ := hrel
    have hwj : IntKind.i64.wrap ((j : Int) + 1) = (j : Int) + 1 := by rw [IntKind.wrap_i64]; omega
    by_cases hlt : j < ls.length
    · have dj : (j : Int) < (ls.length : Int) := by omega
      obtain ⟨g, rfl, hgb, hgt, hcells⟩ := row_cell hown (by omega)
      have hcell := H.out.2.keeps (hcells j (.string (tx ls[j])) (by rw [List.getElem?_map, List.getElem?_eq_getElem hlt]; rfl)) id
      have hlj := (hls ls[j] (List.getElem_mem hlt)).2
      have hb0 : (txtR (ls.take j).reverse).length ≤ 400 := by
        rw [txtR_rev_len]
        have := txtR_len (ls.take j) (fun l hl => hls l (List.mem_of_mem_take hl))
        rw [List.length_take] at this
        omega
      have hbt := tx_bound (txtR (ls.take j).reverse) 400 hb0
      have hnb := (encL_len (txtR (ls.take j))).2
      rw [← txtR_rev_len] at hnb
      have hsz := tx_bound ls[j] 8 hlj
      have al0 : (ls[j]).length ≤ 8 := hlj
      have at0 := tx_bound (ls[j]) 8 al0
      have aq1 := tx_append (ls[j]) ([10])
      rw [show tx ([10]) = ⟨#[10]⟩ by decide +kernel] at aq1
      have al1 : (ls[j] ++ [10]).length ≤ 9 := len_app al0 (Nat.le_refl _)
      have at1 := tx_bound (ls[j] ++ [10]) 9 al1
      have aq2 := tx_append (ls[j] ++ [10]) (txtR (ls.take j).reverse)
      have al2 : (ls[j] ++ [10] ++ txtR (ls.take j).reverse).length ≤ 409 := len_app al1 hb0
      have at2 := tx_bound (ls[j] ++ [10] ++ txtR (ls.take j).reverse) 409 al2
      clear al0 al1 al2
      have aL : ls[j] ++ [10] ++ txtR (ls.take j).reverse = txtR (ls.take (j + 1)).reverse := by
        rw [← List.take_append_getElem hlt, List.reverse_append, List.reverse_singleton, List.singleton_append, txtR_cons]
        simp
      have nL : (encL (txtR (ls.take (j + 1)))).length = (encL (txtR (ls.take j))).length + (tx ls[j]).size + 1 := by
        rw [← List.take_append_getElem hlt, txtR_snoc, encL_append, encL_append, List.length_append, List.length_append, tx_size]
        show _ + (_ + 1) = _
        omega
      rw [aL] at aq2 at2
      clear aL
      generalize tx (ls[j] ++ [10]) = A1 at *
      generalize haL : tx (txtR (ls.take (j + 1)).reverse) = A2 at *
      generalize tx (txtR (ls.take j).reverse) = B0 at *
      generalize hLJ : tx ls[j] = LJ at *
      have hnn : (encL (txtR (ls.take j))).length ≤ 800 := by omega
      generalize (encL (txtR (ls.take j))).length = n0 at *
      have hw1 : IntKind.i64.wrap ((n0 : Int) + (LJ.size : Int)) = ((n0 + LJ.size : Nat) : Int) := by rw [IntKind.wrap_i64]; omega
      have hw2 : IntKind.i64.wrap (((n0 + LJ.size : Nat) : Int) + 1) = ((n0 + LJ.size + 1 : Nat) : Int) := by rw [IntKind.wrap_i64]; omega
      clear hcells hnb
      go_wp2
      go_roundg (gk - 1)
      case measure => have := H.out.1; omega
      case rel => exact ⟨j + 1, by go_num, by rw [haL], by rw [nL]; go_num, by omega, ⟨by have := H.out.1; omega, H.out.2⟩⟩
    · have hje : j = ls.length := by omega
      subst hje
      rw [List.take_length]
      have dj : ¬ ((ls.length : Int) < (ls.length : Int)) := by omega
      have o16 : Only (fun _ => False) w wr := o12.trans H.out.2 (fun _ e => e) (fun _ _ e => e)
      by_cases h400 : (encL (txtR ls)).length ≤ 400
      · have HE : Hid (∀ u, Only (fun _ => False) w u → _) := fun u (o : Only (fun _ => False) w u) => tur_edits u (ht.keeps o) ls hls h40 (by have := (encL_len (txtR ls)).1; omega)
        have E1 := (HE.out wr o16).1
        have E2 := fun u o => (HE.out u o).2
        clear HE
        generalize (encL (txtR ls)).length = n0 at *
        have dn : ¬ ((400 : Int) < (n0 : Int)) := by omega
        generalize tx (txtR ls) = T at *
        generalize tx (txtR ls.reverse) = R at *
        go_wp2_with fail
        refine E1.mono ?_
        clear E1
        rintro e w6 ⟨rfl, o6⟩
        have o17 := o16.trans o6 (fun _ e => e) (fun _ _ e => e)
        have E2' := E2 w6 o17
        clear E2
        go_wp2_with fail
        refine E2'.mono ?_
        clear E2'
        rintro e w7 ⟨rfl, o7⟩
        go_wp2
        go_ret
        exact ⟨rfl, o17.trans o7 (fun _ e => e) (fun _ _ e => e)⟩
      · generalize (encL (txtR ls)).length = n0 at *
        have dn : (400 : Int) < (n0 : Int) := by omega
        go_wp2
        go_ret
        exact ⟨rfl, o16⟩
end Go.Proofs.YtbiobhghnldckaaGreatDoor
