/- Proved: a call of adzekeep.Replaced returns true and turns nothing of what was there. Conditions: what the library's variables hold; the raw numbers lie in memory. -/
import Derived.Test.YtbiobhghnldckaaGreatDoorRpl7
import Derived.Test.YtbiobhghnldckaaGreatDoorRpl2
import Derived.Test.YtbiobhghnldckaaGreatDoorRpl3
import Derived.Test.YtbiobhghnldckaaGreatDoorK19
import Derived.Deep.RegionWith
namespace Go.Proofs.YtbiobhghnldckaaGreatDoor
open Go.RowKit
set_option linter.unusedVariables false
attribute [local go_sem ↓] Go.wp_at_zero Go.wp_at_succ

theorem byKey {α : Sort _} {P G : α → Prop} {C : Prop} (main : (∀ a, P a → G a) → C) (key : ∀ a, P a → G a) : C := main key
theorem byKey2 {α β : Sort _} {P G : α → β → Prop} {C : Prop} (main : (∀ a b, P a b → G a b) → C) (key : ∀ a b, P a b → G a b) : C := main key
theorem encL_ne {x : List Int} (h : x ≠ []) : encL x ≠ [] := fun e => by
  have := (encL_len x).1
  rw [e] at this
  exact h (by simpa using this)
theorem rp_calls (x y l : List Int) (k : Nat) (hx : ∀ r ∈ x, Okr r) (hne : x ≠ []) (hx8 : x.length ≤ 8) (hy8 : y.length ≤ 8) (hl : ∀ r ∈ l, Okr r) (hl8 : l.length ≤ 8) (hk : k ≤ 100) (w : World) :
    Calls Tryz.prog 24 #[.string (tx l), .string (tx x), .string (tx y), .int .i64 k] w fun e w' => e = .returned (.string (tx (rp x y k l))) ∧ Only (fun _ => False) w w' := by
  have h1 := (encL_len l).2
  have h2 := (encL_len x).2
  have h3 := (encL_len y).2
  have h4 := (encL_len (rp x y k l)).2
  have h5 := rp_len (k := k) hne hy8 hl8
  exact replaced_calls (encL l) (encL x) (encL y) k w (encL_ne hne) (by omega) (by omega) (by omega) hk (encL (rp x y k l)) (repX_enc x y k hx hne l.length (encL l).length 0 l hl (Nat.le_refl _) (Nat.le_refl _)) (by omega)
theorem tx_ne {a b : List Int} (ha : ∀ r ∈ a, Okr r) (hb : ∀ r ∈ b, Okr r) (h : a ≠ b) : ((tx a).toList == (tx b).toList) = false := by
  rw [← beq_toListBytes]
  exact ba_beq (a := encL a) (b := encL b) (fun e => h (by
    have e2 : tx a = tx b := e
    rw [← runes_ok ha, ← runes_ok hb, e2]))
theorem rpW_len {ls : List (List Int)} (h : ∀ l ∈ ls, LineOk l) (h40 : ls.length ≤ 40) {x y : List Int} {k : Nat} (hne : x ≠ []) (hy : y.length ≤ 8) (j : Nat) : (txtR ((ls.take j).map (rp x y k))).length ≤ 2600 := by
  have := txtR_bound ((ls.take j).map (rp x y k)) 64 (fun l hl => by
    obtain ⟨z, hz, rfl⟩ := List.mem_map.1 hl
    exact rp_len hne hy (h z (List.mem_of_mem_take hz)).2)
  rw [List.length_map, List.length_take] at this
  have : 65 * min j ls.length ≤ 65 * 40 := Nat.mul_le_mul_left _ (by omega)
  omega
theorem rpT_len (x y : List Int) (k : Nat) : ∀ ls : List (List Int), (txtR (ls.flatMap (rpG x y k))).length ≤ (txtR (ls.map (rp x y k))).length
  | [] => by simp
  | l :: ls => by
    have ih := rpT_len x y k ls
    rw [List.flatMap_cons, List.map_cons, txtR_append, List.length_append]
    have e : txtR (rp x y k l :: ls.map (rp x y k)) = rp x y k l ++ [10] ++ txtR (ls.map (rp x y k)) := by simp [txtR]
    rw [e, List.length_append]
    have : (txtR (rpG x y k l)).length ≤ (rp x y k l ++ [10]).length := by
      unfold rpG
      split
      · simp [txtR]
      · simp [txtR]
    omega

set_option maxRecDepth 100000 in
set_option maxHeartbeats 51200000 in
theorem replacedL_calls (ad : Option Addr) (cap : Nat) (zs : List Int) (x1 x2 x3 : Int) (w : World) (hr : RawAt w ad zs) (hzn : zs.length ≤ 9223372036854775807) (hx1 : -9223372036854775808 ≤ x1 ∧ x1 ≤ 9223372036854775807) (hx2 : -9223372036854775808 ≤ x2 ∧ x2 ≤ 9223372036854775807) (hx3 : -9223372036854775808 ≤ x3 ∧ x3 ≤ 9223372036854775807) (ht : Tabs w) :
    Calls Tryz.prog 7 #[.slice ad zs.length cap, .int .i64 x1, .int .i64 x2, .int .i64 x3] w fun e w' => e = .returned (.bool true) ∧ Only (fun _ => False) w w' := by
  have c0 := opened_calls w ht
  go_enter Tryz.func7, Tryz.ntmps7
  go_wp2_with fail
  refine c0.mono ?_
  clear c0
  rintro e w1 ⟨rfl, o1⟩
  have c1 := lines_calls ad cap zs w1 (hr.keeps o1) hzn
  go_wp2_with fail
  refine c1.mono ?_
  clear c1
  rintro e w2 ⟨ls, v, rfl, hown, hls, h40, o2⟩
  obtain ⟨la, lc, rfl⟩ := row_shape hown
  have o12 := o1.trans o2 (fun _ e => e) (fun _ _ e => e)
  clear o1 o2
  have c2 := line_calls x1 w2 hx1
  go_wp2_with fail
  refine c2.mono ?_
  clear c2
  rintro e w3 ⟨x, rfl, hxa, hx8, o3⟩
  have o13 := o12.trans o3 (fun _ e => e) (fun _ _ e => e)
  have c3 := line_calls x2 w3 hx2
  go_wp2_with fail
  refine c3.mono ?_
  clear c3
  rintro e w4 ⟨y, rfl, hya, hy8, o4⟩
  have o14 := o13.trans o4 (fun _ e => e) (fun _ _ e => e)
  have o24 : Only (fun _ => False) w2 w4 := o3.trans o4 (fun _ e => e) (fun _ _ e => e)
  clear o12 o13 o3 o4
  have hy : LineOk y := ⟨hya, hy8⟩
  obtain ⟨xx, hx, hxe, hsel⟩ : ∃ xx, LineOk xx ∧ xx ≠ [] ∧ ((x ≠ [] ∧ x = xx) ∨ (x = [] ∧ xx = [97, 98])) := by
    by_cases hxe : x = []
    · exact ⟨[97, 98], ⟨by decide, by decide⟩, by simp, Or.inr ⟨hxe, rfl⟩⟩
    · exact ⟨x, ⟨hxa, hx8⟩, hxe, Or.inl ⟨hxe, rfl⟩⟩
  have hab : tx [97, 98] = ⟨#[97, 98]⟩ := by decide +kernel
  have hem : tx [] = ⟨#[]⟩ := by decide +kernel
  have hdx : x ≠ [] → (tx x).toList.isEmpty = false := fun hne => by
    have := tx_ne (a := x) (b := []) (LineOk.ln ⟨hxa, hx8⟩).ok (by simp) hne
    rw [hem] at this
    cases h : (tx x).toList with
    | nil => rw [h] at this; exact absurd this (by decide +kernel)
    | cons a l => rfl
  clear hxa hx8
  have hpk := pick_any x3 4 w4 hx3 (by omega) (by omega)
  rcases hsel with ⟨hne, hxx⟩ | ⟨hx0, hxx⟩
  all_goals first
    | (have hdy := hdx hne
       subst hxx
       clear hab hem hne hdx
       go_wp2_with fail)
    | (subst hx0
       clear hdx
       rw [hem]
       have HX : Hid _ := hxx
       clear hxx hem
       go_wp2_with fail
       rw [← hab, ← HX.out]
       clear hab HX
       obtain ⟨x, rfl⟩ : ∃ x, x = xx := ⟨_, rfl⟩)
  all_goals
    refine hpk.mono ?_
    clear hpk
    rintro e w4 ⟨k, rfl, hk4, rfl⟩
    obtain ⟨ki, hki⟩ : ∃ ki : Int, ki = (k : Int) := ⟨_, rfl⟩
    rw [← hki]
    have HKI : Hid _ := hki
    rcases Nat.eq_zero_or_pos k with hk0 | hk0
  all_goals first
    | (have dk : ¬ (0 : Int) < ki := by omega
       obtain ⟨w5, hw5⟩ : ∃ u, u = w4 := ⟨_, rfl⟩
       have o5 : Only (fun _ => False) w4 w5 := by rw [hw5]; exact Only.refl _ _
       have hg : tx (Adz.flg false k) = ⟨#[103]⟩ := by rw [hk0]; decide +kernel
       clear hk0 hki
       go_wp2_with fail
       rw [← hg, ← hw5]
       clear hg hw5)
    | (have dk : (0 : Int) < ki := by omega
       have c5 := digits_calls k (by omega) w4
       rw [← hki] at c5
       clear hki
       go_wp2_with fail
       refine c5.mono ?_
       clear c5
       rintro e w5 ⟨rfl, o5⟩
       have hfl : digR k = Adz.flg false k := by
         have h0 : k ≠ 0 := by omega
         have h10 : k < 10 := by omega
         simp [digR, Adz.flg, h0, h10]
       rw [hfl]
       clear hfl
       go_wp2_with fail)
  all_goals
    clear dk hya hy8
    obtain ⟨fl, hfl⟩ : ∃ fl, fl = Adz.flg false k := ⟨_, rfl⟩
    rw [← hfl]
    have HFL : Hid _ := hfl
    clear hfl
    have o25 : Only (fun _ => False) w2 w5 := o24.trans o5 (fun _ e => e) (fun _ _ e => e)
    have o15 : Only (fun _ => False) w w5 := o14.trans o5 (fun _ e => e) (fun _ _ e => e)
    clear o24 o14 o5
    go_loopg [15, 16, 17] ls.length (fun gk wv tv iv wr => ∃ j : Nat, iv = .int .i64 j ∧ wv = .string (tx (txtR ((ls.take j).map (rp x y k)))) ∧ tv = .string (tx (txtR ((ls.take j).flatMap (rpG x y k)))) ∧ j ≤ ls.length ∧ Hid (j + gk = ls.length ∧ Only (fun _ => False) w5 wr))
    case atStart => exact ⟨0, rfl, rfl, rfl, by omega, ⟨by omega, Only.refl _ _⟩⟩
    case round =>
      obtain ⟨j, rfl, rfl, rfl, hj, H⟩ := hrel
      have hwj : IntKind.i64.wrap ((j : Int) + 1) = (j : Int) + 1 := by rw [IntKind.wrap_i64]; omega
      by_cases hlt : j < ls.length
      · have dj : (j : Int) < (ls.length : Int) := by omega
        obtain ⟨g, rfl, hgb, hgt, hcells⟩ := row_cell hown (by omega)
        have hcell := H.out.2.keeps (o25.keeps (hcells j (.string (tx ls[j])) (by rw [List.getElem?_map, List.getElem?_eq_getElem hlt]; rfl)) id) id
        have hlj := hls ls[j] (List.getElem_mem hlt)
        have hW := rpW_len (k := k) hls h40 hxe hy.2 j
        have hT := Nat.le_trans (rpT_len x y k (ls.take j)) hW
        have hnW : txtR ((ls.take j).map (rp x y k)) ++ rp x y k ls[j] ++ [10] = txtR ((ls.take (j + 1)).map (rp x y k)) := by
          rw [← List.take_append_getElem hlt, List.map_append, List.map_cons, List.map_nil, txtR_snoc, List.append_assoc]
        have hnT : txtR ((ls.take (j + 1)).flatMap (rpG x y k)) = txtR ((ls.take j).flatMap (rpG x y k)) ++ txtR (rpG x y k ls[j]) := by
          rw [← List.take_append_getElem hlt, List.flatMap_append, txtR_append, List.flatMap_cons, List.flatMap_nil, List.append_nil]
        have HNW : Hid _ := hnW
        have HNT : Hid _ := hnT
        clear hcells hnW hnT
        generalize ls[j] = l at *
        have c1 : ∀ u, Calls Tryz.prog 24 #[.string (tx l), .string (tx x), .string (tx y), .int .i64 ki] u fun e w' => e = .returned (.string (tx (rp x y k l))) ∧ Only (fun _ => False) u w' := fun u => by
          rw [HKI.out]
          exact rp_calls x y l k hx.ln.ok hxe hx.2 hy.2 hlj.ln.ok hlj.2 (by omega) u
        have c2 : ∀ u, Calls Tryz.prog 24 #[.string (tx l), .string (tx x), .string ⟨#[35]⟩, .int .i64 ki] u fun e w' => e = .returned (.string (tx (rp x [35] k l))) ∧ Only (fun _ => False) u w' := fun u => by
          rw [HKI.out]
          have := rp_calls x [35] l k hx.ln.ok hxe hx.2 (by simp) hlj.ln.ok hlj.2 (by omega) u
          rw [show tx [35] = ⟨#[35]⟩ by decide +kernel] at this
          exact this
        have h64 := rp_len (k := k) hxe hy.2 hlj.2
        have tU := tx_bound (rp x [35] k l) 64 (rp_len (k := k) hxe (by simp) hlj.2)
        have tT := tx_bound (rp x y k l) 64 h64
        have tL := tx_bound l 8 hlj.2
        have wl0 : (txtR ((ls.take j).map (rp x y k))).length ≤ 2600 := hW
        have wt0 := tx_bound (txtR ((ls.take j).map (rp x y k))) 2600 wl0
        have wq1 := tx_append (txtR ((ls.take j).map (rp x y k))) (rp x y k l)
        have wl1 : (txtR ((ls.take j).map (rp x y k)) ++ rp x y k l).length ≤ 2664 := len_app wl0 h64
        have wt1 := tx_bound (txtR ((ls.take j).map (rp x y k)) ++ rp x y k l) 2664 wl1
        have wq2 := tx_append (txtR ((ls.take j).map (rp x y k)) ++ rp x y k l) ([10])
        rw [show tx ([10]) = ⟨#[10]⟩ by decide +kernel] at wq2
        have wl2 : (txtR ((ls.take j).map (rp x y k)) ++ rp x y k l ++ [10]).length ≤ 2665 := len_app wl1 (Nat.le_refl _)
        have wt2 := tx_bound (txtR ((ls.take j).map (rp x y k)) ++ rp x y k l ++ [10]) 2665 wl2
        clear wl0 wl1 wl2
        rw [HNW.out] at wq2 wt2
        clear HNW
        by_cases hu : rp x [35] k l = l
        · have hG : txtR ((ls.take (j + 1)).flatMap (rpG x y k)) = txtR ((ls.take j).flatMap (rpG x y k)) := by
            rw [HNT.out]
            unfold rpG
            rw [if_pos hu]
            simp [txtR]
          rw [hu] at c2 tU
          clear HNT hu
          have HG : Hid _ := hG
          clear hG
          generalize tx (txtR ((ls.take j).map (rp x y k))) = W0 at *
          generalize tx (txtR ((ls.take j).map (rp x y k)) ++ rp x y k l) = W1 at *
          generalize hwL : tx (txtR ((ls.take (j + 1)).map (rp x y k))) = W2 at *
          generalize hT0 : tx (txtR ((ls.take j).flatMap (rpG x y k))) = T0 at *
          generalize tx (rp x y k l) = TL at *
          generalize tx l = LJ at *
          generalize tx x = XX at *
          generalize tx y = YY at *
          go_wp2_with fail
          refine (c1 _).mono ?_
          rintro e wa ⟨rfl, oa⟩
          have hcell1 := oa.keeps hcell id
          go_wp2_with fail
          refine (c2 _).mono ?_
          rintro e wb ⟨rfl, ob⟩
          have hcell2 := ob.keeps hcell1 id
          clear hcell1 c1 c2
          have HO : Hid (Only (fun _ => False) w5 wb) := (H.out.2.trans oa (fun _ e => e) (fun _ _ e => e)).trans ob (fun _ e => e) (fun _ _ e => e)
          have HM : Hid (j + gk = ls.length) := H.out.1
          clear H oa ob hcell
          go_wp2
          go_roundg (ls.length - (j + 1))
          case measure => have := HM.out; omega
          case rel => exact ⟨j + 1, by go_num, by rw [hwL], by rw [HG.out, hT0], by omega, ⟨by omega, HO.out⟩⟩
        · have hG : txtR ((ls.take j).flatMap (rpG x y k)) ++ rp x y k l ++ [10] = txtR ((ls.take (j + 1)).flatMap (rpG x y k)) := by
            rw [HNT.out]
            unfold rpG
            rw [if_neg hu]
            simp [txtR]
          have hne := tx_ne (rp_ok (k := k) hx.ln.ok (y := [35]) (by intro r hr; simp at hr; subst hr; exact Or.inl (by decide)) hlj.ln.ok) hlj.ln.ok hu
          clear HNT
          have tl0 : (txtR ((ls.take j).flatMap (rpG x y k))).length ≤ 2600 := hT
          have tt0 := tx_bound (txtR ((ls.take j).flatMap (rpG x y k))) 2600 tl0
          have tq1 := tx_append (txtR ((ls.take j).flatMap (rpG x y k))) (rp x y k l)
          have tl1 : (txtR ((ls.take j).flatMap (rpG x y k)) ++ rp x y k l).length ≤ 2664 := len_app tl0 h64
          have tt1 := tx_bound (txtR ((ls.take j).flatMap (rpG x y k)) ++ rp x y k l) 2664 tl1
          have tq2 := tx_append (txtR ((ls.take j).flatMap (rpG x y k)) ++ rp x y k l) ([10])
          rw [show tx ([10]) = ⟨#[10]⟩ by decide +kernel] at tq2
          have tl2 : (txtR ((ls.take j).flatMap (rpG x y k)) ++ rp x y k l ++ [10]).length ≤ 2665 := len_app tl1 (Nat.le_refl _)
          have tt2 := tx_bound (txtR ((ls.take j).flatMap (rpG x y k)) ++ rp x y k l ++ [10]) 2665 tl2
          clear tl0 tl1 tl2
          rw [hG] at tq2 tt2
          clear hG hu
          generalize tx (txtR ((ls.take j).map (rp x y k))) = W0 at *
          generalize tx (txtR ((ls.take j).map (rp x y k)) ++ rp x y k l) = W1 at *
          generalize hwL : tx (txtR ((ls.take (j + 1)).map (rp x y k))) = W2 at *
          generalize tx (txtR ((ls.take j).flatMap (rpG x y k))) = T0 at *
          generalize tx (txtR ((ls.take j).flatMap (rpG x y k)) ++ rp x y k l) = T1 at *
          generalize htL : tx (txtR ((ls.take (j + 1)).flatMap (rpG x y k))) = T2 at *
          generalize tx (rp x y k l) = TL at *
          generalize tx (rp x [35] k l) = UL at *
          generalize tx l = LJ at *
          generalize tx x = XX at *
          generalize tx y = YY at *
          go_wp2_with fail
          refine (c1 _).mono ?_
          rintro e wa ⟨rfl, oa⟩
          have hcell1 := oa.keeps hcell id
          go_wp2_with fail
          refine (c2 _).mono ?_
          rintro e wb ⟨rfl, ob⟩
          have hcell2 := ob.keeps hcell1 id
          clear hcell1 c1 c2
          have HO : Hid (Only (fun _ => False) w5 wb) := (H.out.2.trans oa (fun _ e => e) (fun _ _ e => e)).trans ob (fun _ e => e) (fun _ _ e => e)
          have HM : Hid (j + gk = ls.length) := H.out.1
          clear H oa ob hcell
          go_wp2
          go_roundg (ls.length - (j + 1))
          case measure => have := HM.out; omega
          case rel => exact ⟨j + 1, by go_num, by rw [hwL], by rw [htL], by omega, ⟨by omega, HO.out⟩⟩
      · have hje : j = ls.length := by omega
        subst hje
        have dj : ¬ ((ls.length : Int) < (ls.length : Int)) := by omega
        have o1r : Only (fun _ => False) w wr := o15.trans H.out.2 (fun _ e => e) (fun _ _ e => e)
        have hfl1 : fl.length ≤ 1 := by
          rw [HFL.out]; unfold Adz.flg
          by_cases h0 : k = 0 <;> simp [h0]
        have eE1 : [115, 47] ++ escR spec1 x ++ [47] ++ escR spec2 y ++ [47] ++ fl = Adz.rplL x y false k := by rw [HFL.out]; simp [Adz.rplL]
        have eE2 : [115, 47] ++ escR spec1 x ++ [47] ++ escR spec2 y ++ [47, 112] ++ fl = Adz.rplL x y true k := by rw [HFL.out]; simp [Adz.rplL, Adz.flg]
        have HE : Hid (∀ u, Only (fun _ => False) w u → _) := fun u (o : Only (fun _ => False) w u) => edits_rpl u (ht.keeps o) ls hls h40 x y hx hxe hy k (by omega)
        have E1 := fun u o => (HE.out u o).1
        have E2 := fun u o => (HE.out u o).2
        have X1 := fun u => escaped_calls1 x u hx.ln.ok hx.2
        have X2 := fun u => escaped_calls2 y u hy.ln.ok hy.2
        have hl1 : (escR spec1 x).length ≤ 16 := by have := escR_len spec1 x; have := hx.2; omega
        have hl2 : (escR spec2 y).length ≤ 16 := by have := escR_len spec2 y; have := hy.2; omega
        have t1 := tx_bound (escR spec1 x) 16 hl1
        have t2 := tx_bound (escR spec2 y) 16 hl2
        have t3 := tx_bound fl 1 hfl1
        rw [List.take_length]
        clear HE hown
        have al0 : ([115, 47]).length ≤ 2 := (Nat.le_refl _)
        have at0 := tx_bound ([115, 47]) 2 al0
        have aq1 := tx_append ([115, 47]) (escR spec1 x)
        have al1 : ([115, 47] ++ escR spec1 x).length ≤ 18 := len_app al0 hl1
        have at1 := tx_bound ([115, 47] ++ escR spec1 x) 18 al1
        have aq2 := tx_append ([115, 47] ++ escR spec1 x) ([47])
        rw [show tx ([47]) = ⟨#[47]⟩ by decide +kernel] at aq2
        have al2 : ([115, 47] ++ escR spec1 x ++ [47]).length ≤ 19 := len_app al1 (Nat.le_refl _)
        have at2 := tx_bound ([115, 47] ++ escR spec1 x ++ [47]) 19 al2
        have aq3 := tx_append ([115, 47] ++ escR spec1 x ++ [47]) (escR spec2 y)
        have al3 : ([115, 47] ++ escR spec1 x ++ [47] ++ escR spec2 y).length ≤ 35 := len_app al2 hl2
        have at3 := tx_bound ([115, 47] ++ escR spec1 x ++ [47] ++ escR spec2 y) 35 al3
        have aq4 := tx_append ([115, 47] ++ escR spec1 x ++ [47] ++ escR spec2 y) ([47])
        rw [show tx ([47]) = ⟨#[47]⟩ by decide +kernel] at aq4
        have al4 : ([115, 47] ++ escR spec1 x ++ [47] ++ escR spec2 y ++ [47]).length ≤ 36 := len_app al3 (Nat.le_refl _)
        have at4 := tx_bound ([115, 47] ++ escR spec1 x ++ [47] ++ escR spec2 y ++ [47]) 36 al4
        have aq5 := tx_append ([115, 47] ++ escR spec1 x ++ [47] ++ escR spec2 y ++ [47]) (fl)
        have al5 : ([115, 47] ++ escR spec1 x ++ [47] ++ escR spec2 y ++ [47] ++ fl).length ≤ 37 := len_app al4 hfl1
        have at5 := tx_bound ([115, 47] ++ escR spec1 x ++ [47] ++ escR spec2 y ++ [47] ++ fl) 37 al5
        clear al0 al1 al2 al3 al4 al5
        rw [show tx ([115, 47]) = ⟨#[115, 47]⟩ by decide +kernel] at aq1 at0
        have bl0 : ([115, 47]).length ≤ 2 := (Nat.le_refl _)
        have bt0 := tx_bound ([115, 47]) 2 bl0
        have bq1 := tx_append ([115, 47]) (escR spec1 x)
        have bl1 : ([115, 47] ++ escR spec1 x).length ≤ 18 := len_app bl0 hl1
        have bt1 := tx_bound ([115, 47] ++ escR spec1 x) 18 bl1
        have bq2 := tx_append ([115, 47] ++ escR spec1 x) ([47])
        rw [show tx ([47]) = ⟨#[47]⟩ by decide +kernel] at bq2
        have bl2 : ([115, 47] ++ escR spec1 x ++ [47]).length ≤ 19 := len_app bl1 (Nat.le_refl _)
        have bt2 := tx_bound ([115, 47] ++ escR spec1 x ++ [47]) 19 bl2
        have bq3 := tx_append ([115, 47] ++ escR spec1 x ++ [47]) (escR spec2 y)
        have bl3 : ([115, 47] ++ escR spec1 x ++ [47] ++ escR spec2 y).length ≤ 35 := len_app bl2 hl2
        have bt3 := tx_bound ([115, 47] ++ escR spec1 x ++ [47] ++ escR spec2 y) 35 bl3
        have bq4 := tx_append ([115, 47] ++ escR spec1 x ++ [47] ++ escR spec2 y) ([47, 112])
        rw [show tx ([47, 112]) = ⟨#[47, 112]⟩ by decide +kernel] at bq4
        have bl4 : ([115, 47] ++ escR spec1 x ++ [47] ++ escR spec2 y ++ [47, 112]).length ≤ 37 := len_app bl3 (Nat.le_refl _)
        have bt4 := tx_bound ([115, 47] ++ escR spec1 x ++ [47] ++ escR spec2 y ++ [47, 112]) 37 bl4
        have bq5 := tx_append ([115, 47] ++ escR spec1 x ++ [47] ++ escR spec2 y ++ [47, 112]) (fl)
        have bl5 : ([115, 47] ++ escR spec1 x ++ [47] ++ escR spec2 y ++ [47, 112] ++ fl).length ≤ 38 := len_app bl4 hfl1
        have bt5 := tx_bound ([115, 47] ++ escR spec1 x ++ [47] ++ escR spec2 y ++ [47, 112] ++ fl) 38 bl5
        clear bl0 bl1 bl2 bl3 bl4 bl5
        rw [show tx ([115, 47]) = ⟨#[115, 47]⟩ by decide +kernel] at bq1 bt0
        rw [eE1] at aq5 at5
        rw [eE2] at bq5 bt5
        clear eE1 eE2
        generalize tx ([115, 47] ++ escR spec1 x) = A1 at *
        generalize tx ([115, 47] ++ escR spec1 x ++ [47]) = A2 at *
        generalize tx ([115, 47] ++ escR spec1 x ++ [47] ++ escR spec2 y) = A3 at *
        generalize tx ([115, 47] ++ escR spec1 x ++ [47] ++ escR spec2 y ++ [47]) = A4 at *
        generalize tx (Adz.rplL x y false k) = A5 at *
        generalize tx ([115, 47] ++ escR spec1 x ++ [47] ++ escR spec2 y ++ [47, 112]) = B4 at *
        generalize tx (Adz.rplL x y true k) = B5 at *
        generalize tx (escR spec1 x) = X1s at *
        generalize tx (escR spec2 y) = X2s at *
        generalize tx (txtR ls) = T at *
        generalize tx (txtR (ls.map (rp x y k))) = TW at *
        generalize tx (txtR (ls.flatMap (rpG x y k))) = TT at *
        generalize tx fl = FL at *
        generalize tx x = XX at *
        generalize tx y = YY at *
        clear dj hwj
        go_wp2_with fail
        refine (X1 _).mono ?_
        rintro e wa ⟨rfl, oa⟩
        go_wp2_with fail
        refine (X2 _).mono ?_
        rintro e wb ⟨rfl, ob⟩
        have o2r : Only (fun _ => False) w wb := (o1r.trans oa (fun _ e => e) (fun _ _ e => e)).trans ob (fun _ e => e) (fun _ _ e => e)
        go_wp2_with fail
        refine (E1 _ o2r).mono ?_
        rintro e wc ⟨rfl, oc⟩
        have o3r : Only (fun _ => False) w wc := o2r.trans oc (fun _ e => e) (fun _ _ e => e)
        clear o1r oa ob o2r oc E1
        go_wp2_with fail
        refine (X1 _).mono ?_
        rintro e wa ⟨rfl, oa⟩
        go_wp2_with fail
        refine (X2 _).mono ?_
        rintro e wb ⟨rfl, ob⟩
        have o4r : Only (fun _ => False) w wb := (o3r.trans oa (fun _ e => e) (fun _ _ e => e)).trans ob (fun _ e => e) (fun _ _ e => e)
        go_wp2_with fail
        refine (E2 _ o4r).mono ?_
        rintro e wc ⟨rfl, oc⟩
        have o5r : Only (fun _ => False) w wc := o4r.trans oc (fun _ e => e) (fun _ _ e => e)
        clear o3r oa ob o4r oc E2 X1 X2
        go_wp2
        go_ret
        exact ⟨rfl, o5r⟩
end Go.Proofs.YtbiobhghnldckaaGreatDoor
