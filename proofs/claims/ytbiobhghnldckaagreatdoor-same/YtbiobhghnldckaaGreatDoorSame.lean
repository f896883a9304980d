/- Proved: a call of adzekeep.Same returns true and turns nothing of what was there. Conditions: what the library's variables hold; the raw numbers lie in memory. -/
import Derived.Test.YtbiobhghnldckaaGreatDoorK12
import Derived.Test.YtbiobhghnldckaaGreatDoorK13
namespace Go.Proofs.YtbiobhghnldckaaGreatDoor
open Go.RowKit
set_option linter.unusedVariables false

/-- Each line twice. -/
def dup (ls : List (List Int)) : List (List Int) := ls.flatMap fun l => [l, l]
theorem dup_tx (ls : List (List Int)) : ((ls.map tx).flatMap fun l => [l, l]) = (dup ls).map tx := by
  induction ls with
  | nil => rfl
  | cons l ls ih =>
    rw [List.map_cons, List.flatMap_cons, ih]
    rfl
theorem dup_snoc (ls : List (List Int)) (l : List Int) : dup (ls ++ [l]) = dup ls ++ [l, l] := by simp [dup]
theorem dup_len : ∀ ls : List (List Int), (dup ls).length = 2 * ls.length
  | [] => rfl
  | l :: ls => by
    have := dup_len ls
    show (l :: l :: dup ls).length = _
    simp; omega
theorem dup_ok {ls : List (List Int)} (h : ∀ l ∈ ls, LineOk l) : ∀ l ∈ dup ls, LineOk l := by
  intro l hl
  obtain ⟨x, hx, hb⟩ := List.mem_flatMap.1 hl
  simp at hb
  subst hb
  exact h l hx
theorem text_len {ls : List (List Int)} (h : ∀ l ∈ ls, LineOk l) (n : Nat) (hn : ls.length ≤ n) : (txtR ls).length ≤ 9 * n := by
  have := txtR_len ls h; omega
theorem enc_text {ls : List (List Int)} (h : ∀ l ∈ ls, LineOk l) (n : Nat) (hn : ls.length ≤ n) : (encL (txtR ls)).length ≤ 18 * n := by
  have h1 := text_len h n hn
  have h2 := (encL_len (txtR ls)).2
  omega

set_option maxRecDepth 100000 in
/-- What Same asks of its four scripts. -/
theorem same_edits (w : World) (ht : Tabs w) (ls : List (List Int)) (h : ∀ l ∈ ls, LineOk l) (h40 : ls.length ≤ 40) :
    (Calls Tryz.prog 20 #[.string ⟨#[32, 59, 10]⟩, .string (tx (txtR ls)), .bool false] w fun e w' => e = .returned (.tuple #[.string (tx (txtR ls)), .bool true]) ∧ Only (fun _ => False) w w') ∧
    (Calls Tryz.prog 20 #[.string ⟨#[]⟩, .string (tx (txtR ls)), .bool true] w fun e w' => e = .returned (.tuple #[.string ⟨#[]⟩, .bool true]) ∧ Only (fun _ => False) w w') ∧
    (Calls Tryz.prog 20 #[.string ⟨#[112]⟩, .string (tx (txtR ls)), .bool true] w fun e w' => e = .returned (.tuple #[.string (tx (txtR ls)), .bool true]) ∧ Only (fun _ => False) w w') ∧
    (Calls Tryz.prog 20 #[.string ⟨#[112]⟩, .string (tx (txtR ls)), .bool false] w fun e w' => e = .returned (.tuple #[.string (tx (txtR (dup ls))), .bool true]) ∧ Only (fun _ => False) w w') ∧
    (Calls Tryz.prog 20 #[.string ⟨#[110]⟩, .string (tx (txtR ls ++ [120])), .bool false] w fun e w' => e = .returned (.tuple #[.string (tx (txtR (ls ++ [[120]]))), .bool true]) ∧ Only (fun _ => False) w w') := by
  have hln : ∀ l ∈ ls, Ln l := fun l hl => (h l hl).ln
  have h4 : ∀ l ∈ ls, l.length ≤ 400 := fun l hl => by have := (h l hl).2; omega
  have hlen : (ls.map tx).length ≤ 4000 := by rw [List.length_map]; omega
  have ht1 := textOk_lines ht hln (by have := text_len h 40 h40; omega)
  have hsh := shorts hln h4
  have hx : Ln [120] := ⟨fun r hr => Or.inl (by rw [List.mem_singleton.1 hr]; omega), by simp⟩
  have ht2 := textOk_open ht hln hx (by simp) (by rw [List.length_append]; have := text_len h 40 h40; simp; omega)
  have h2 : ∀ l ∈ ls ++ [[120]], Ln l := fun l hl => by
    rcases List.mem_append.1 hl with e | e
    · exact hln l e
    · rw [List.mem_singleton.1 e]; exact hx
  have h24 : ∀ l ∈ ls ++ [[120]], l.length ≤ 400 := fun l hl => by
    rcases List.mem_append.1 hl with e | e
    · exact h4 l e
    · rw [List.mem_singleton.1 e]; simp
  refine ⟨?_, ?_, ?_, ?_, ?_⟩
  · have := edit_gaps ⟨#[32, 59, 10]⟩ [32, 59, 10] [0, 1, 2, 3] (dec_of (by decide +kernel)) 3 3 walks_gap (by decide) w _ false _ ht1 hlen hsh (by show (Adz.outs [] (ls.map tx)).length ≤ 8000; rw [outs_tx]; have := enc_text h 40 h40; omega)
    rw [show (if false = true then ([] : List ByteArray) else ls.map tx) = ls.map tx from rfl, outs_mk] at this
    exact this
  · exact edit_gaps ⟨#[]⟩ [] [0] (dec_of (by decide +kernel)) 0 0 walks_none (by decide) w _ true _ ht1 hlen hsh (by simp [Adz.outs])
  · have e1 : ((ls.map tx).flatMap fun l => if true = true then [l] else [l, l]) = ls.map tx := by simp
    have := edit_p w _ true _ ht1 hlen hsh (by rw [e1, outs_tx]; have := enc_text h 40 h40; omega)
    rw [e1, outs_mk] at this
    exact this
  · have e1 : ((ls.map tx).flatMap fun l => if false = true then [l] else [l, l]) = (dup ls).map tx := dup_tx ls
    have := edit_p w _ false _ ht1 hlen hsh (by rw [e1, outs_tx]; have := enc_text (dup_ok h) 80 (by rw [dup_len]; omega); omega)
    rw [e1, outs_mk] at this
    exact this
  · have := edit_n w _ _ ht2 (by simp; omega) (shorts h2 h24) (by
      rw [outs_tx, txtR_snoc, encL_append, List.length_append]
      have h1 := enc_text h 40 h40
      have h2 : (encL ([120] ++ [10])).length = 2 := by decide
      omega)
    rw [outs_mk] at this
    exact this

set_option maxRecDepth 100000 in
set_option maxHeartbeats 3200000 in
theorem same_calls (a : Option Addr) (cap : Nat) (zs : List Int) (w : World) (hr : RawAt w a zs) (hzn : zs.length ≤ 9223372036854775807) (ht : Tabs w) :
    Calls Tryz.prog 6 #[.slice a zs.length cap] w fun e w' => e = .returned (.bool true) ∧ Only (fun _ => False) w w' := by
  have c0 := opened_calls w ht
  go_enter Tryz.func6, Tryz.ntmps6
  go_wp2_with fail
  refine c0.mono ?_
  clear c0
  rintro e w1 ⟨rfl, o1⟩
  have c1 := lines_calls a cap zs w1 (hr.keeps o1) hzn
  go_wp2_with fail
  refine c1.mono ?_
  clear c1
  rintro e w2 ⟨ls, v, rfl, hown, hls, h40, o2⟩
  obtain ⟨la, lc, rfl⟩ := row_shape hown
  have o12 := o1.trans o2 (fun _ e => e) (fun _ _ e => e)
  have HE : Hid (∀ u, Only (fun _ => False) w u → _) := fun u (o : Only (fun _ => False) w u) => same_edits u (ht.keeps o) ls hls h40
  have e1 := tx_append (txtR ls) [120]
  have e2 : tx (txtR ls ++ [120]) ++ ⟨#[10]⟩ = tx (txtR (ls ++ [[120]])) := by
    rw [txtR_snoc, ← List.append_assoc]
    exact tx_append (txtR ls ++ [120]) [10]
  have s1 := tx_bound (txtR ls) 360 (text_len hls 40 h40)
  have s2 := tx_bound (txtR ls ++ [120]) 361 (by have := text_len hls 40 h40; rw [List.length_append]; simp; omega)
  have E1 := (HE.out w2 o12).1
  have E2 := fun u o => (HE.out u o).2.1
  have E3 := fun u o => (HE.out u o).2.2.1
  have E4 := fun u o => (HE.out u o).2.2.2.1
  have E5 := fun u o => (HE.out u o).2.2.2.2
  have ex : tx [120] = ⟨#[120]⟩ := by decide +kernel
  rw [ex] at e1
  clear HE ex
  generalize hT : tx (txtR ls) = T at *
  generalize hT2 : tx (txtR (dup ls)) = T2 at *
  generalize tx (txtR ls ++ [120]) = X at *
  generalize tx (txtR (ls ++ [[120]])) = Y at *
  go_wp2_with fail
  refine E1.mono ?_
  clear E1
  rintro e w3 ⟨rfl, o3⟩
  have o13 := o12.trans o3 (fun _ e => e) (fun _ _ e => e)
  have E2' := E2 w3 o13
  clear E2
  go_wp2_with fail
  refine E2'.mono ?_
  clear E2'
  rintro e w4 ⟨rfl, o4⟩
  have o14 := o13.trans o4 (fun _ e => e) (fun _ _ e => e)
  have E3' := E3 w4 o14
  clear E3
  go_wp2_with fail
  refine E3'.mono ?_
  clear E3'
  rintro e w5 ⟨rfl, o5⟩
  have o15 := o14.trans o5 (fun _ e => e) (fun _ _ e => e)
  have o25 : Only (fun _ => False) w2 w5 := (o3.trans o4 (fun _ e => e) (fun _ _ e => e)).trans o5 (fun _ e => e) (fun _ _ e => e)
  go_wp2_with fail
  go_loopg [12, 13] ls.length (fun k tv iv wr => ∃ j : Nat, iv = .int .i64 j ∧ tv = .string (tx (txtR (dup (ls.take j)))) ∧ j ≤ ls.length ∧ Hid (j + k = ls.length ∧ Only (fun _ => False) w2 wr))
  case atStart => exact ⟨0, rfl, by simp [dup, txtR]; rfl, by omega, ⟨by omega, o25⟩⟩
  case round =>
    obtain ⟨j, rfl, rfl, hj, H⟩ := hrel
    have hwj : IntKind.i64.wrap ((j : Int) + 1) = (j : Int) + 1 := by rw [IntKind.wrap_i64]; omega
    by_cases hlt : j < ls.length
    · have dj : (j : Int) < (ls.length : Int) := by omega
      obtain ⟨g, rfl, hgb, hgt, hcells⟩ := row_cell hown (by omega)
      have hcell := H.out.2.keeps (hcells j (.string (tx ls[j])) (by rw [List.getElem?_map, List.getElem?_eq_getElem hlt]; rfl)) id
      have hlj := hls ls[j] (List.getElem_mem hlt)
      have htk : ∀ l ∈ dup (ls.take j), LineOk l := dup_ok (fun l hl => hls l (List.mem_of_mem_take hl))
      have hb0 := text_len htk 80 (by rw [dup_len, List.length_take]; omega)
      have q1 := tx_append (txtR (dup (ls.take j))) ls[j]
      have q2 := tx_append (txtR (dup (ls.take j)) ++ ls[j]) [10]
      have q3 := tx_append (txtR (dup (ls.take j)) ++ ls[j] ++ [10]) ls[j]
      have q4 := tx_append (txtR (dup (ls.take j)) ++ ls[j] ++ [10] ++ ls[j]) [10]
      have q5 : txtR (dup (ls.take j)) ++ ls[j] ++ [10] ++ ls[j] ++ [10] = txtR (dup (ls.take (j + 1))) := by
        rw [← List.take_append_getElem hlt, dup_snoc, txtR_append]
        simp [txtR]
      have et : tx [10] = ⟨#[10]⟩ := by decide +kernel
      rw [et] at q2 q4
      have t0 := tx_bound (txtR (dup (ls.take j))) 720 hb0
      have t1 := tx_bound (txtR (dup (ls.take j)) ++ ls[j]) 728 (by have := hlj.2; simp; omega)
      have t2 := tx_bound (txtR (dup (ls.take j)) ++ ls[j] ++ [10]) 729 (by have := hlj.2; simp; omega)
      have t3 := tx_bound (txtR (dup (ls.take j)) ++ ls[j] ++ [10] ++ ls[j]) 740 (by have := hlj.2; simp; omega)
      have t4 := tx_bound (txtR (dup (ls.take j)) ++ ls[j] ++ [10] ++ ls[j] ++ [10]) 741 (by have := hlj.2; simp; omega)
      have t5 := tx_bound ls[j] 8 hlj.2
      rw [q5] at q4 t4
      generalize tx (txtR (dup (ls.take j))) = A0 at *
      generalize tx (txtR (dup (ls.take j)) ++ ls[j]) = A1 at *
      generalize tx (txtR (dup (ls.take j)) ++ ls[j] ++ [10]) = A2 at *
      generalize tx (txtR (dup (ls.take j)) ++ ls[j] ++ [10] ++ ls[j]) = A3 at *
      generalize hA4 : tx (txtR (dup (ls.take (j + 1)))) = A4 at *
      generalize tx ls[j] = Lj at *
      clear q5 et hlj htk hcells
      go_wp2_with fail
      go_quiet (fail)
      go_wp2
      go_roundg (gk - 1)
      case measure => have := H.out.1; omega
      case rel => exact ⟨j + 1, by go_num, by rw [hA4], by omega, ⟨by have := H.out.1; omega, H.out.2.drewN _⟩⟩
    · have hje : j = ls.length := by omega
      subst hje
      rw [List.take_length, hT2]
      have dj : ¬ ((ls.length : Int) < (ls.length : Int)) := by omega
      have o16 : Only (fun _ => False) w wr := o12.trans H.out.2 (fun _ e => e) (fun _ _ e => e)
      have E4' := E4 wr o16
      go_wp2_with fail
      refine E4'.mono ?_
      clear E4' E4
      rintro e w6 ⟨rfl, o6⟩
      have o17 := o16.trans o6 (fun _ e => e) (fun _ _ e => e)
      have E5' := E5 w6 o17
      clear E5
      go_wp2_with fail
      refine E5'.mono ?_
      clear E5'
      rintro e w7 ⟨rfl, o7⟩
      go_wp2
      go_ret
      exact ⟨rfl, o17.trans o7 (fun _ e => e) (fun _ _ e => e)⟩
end Go.Proofs.YtbiobhghnldckaaGreatDoor
