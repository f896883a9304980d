/- Proved: utf8.ValidString of a short text of ASCII and of one other rune (195, 169). Conditions: what three places of the library's tables hold. -/
import Derived.Test.YtbiobhghnldckaaGreatDoorRune
import Derived.Laws.Bits64b
namespace Go.Proofs.YtbiobhghnldckaaGreatDoor
open Go.RowKit
set_option linter.unusedVariables false
def byteAt (s : ByteArray) (i : Nat) : Nat := ((s.data[i]?).getD 0).toNat
theorem byteAt_lt (s : ByteArray) (i : Nat) : byteAt s i < 256 := UInt8.toNat_lt _
theorem idx (s : ByteArray) (i : Int) (u : World) (h0 : 0 ≤ i) (h1 : i < s.size) : (Instr.index 9 (.string s) (.int .i64 i)).run Tryz.prog u = .ok (.int .u8 (byteAt s i.toNat)) u := by
  rw [run_index_string u _ s _ i Tryz.underlying9, dif_pos ⟨h0, h1⟩]
  have h2 : i.toNat < s.data.size := by have : i < s.data.size := h1; omega
  unfold byteAt
  rw [Array.getElem?_eq_getElem h2]
  rfl

def mask8 : Nat := 9259542123273814144
/-- eight bytes as one number -/
def word8 (b0 b1 b2 b3 b4 b5 b6 b7 : Nat) : Nat := ((((((b0 ||| b1 * 256) ||| b2 * 65536) ||| b3 * 16777216) ||| b4 * 4294967296) ||| b5 * 1099511627776) ||| b6 * 281474976710656) ||| b7 * 72057594037927936
theorem m0 : ∀ b, b < 256 → (b &&& mask8) = 0 → b < 128 := by decide +kernel
theorem m1 : ∀ b, b < 256 → (b * 256 &&& mask8) = 0 → b < 128 := by decide +kernel
theorem m2 : ∀ b, b < 256 → (b * 65536 &&& mask8) = 0 → b < 128 := by decide +kernel
theorem m3 : ∀ b, b < 256 → (b * 16777216 &&& mask8) = 0 → b < 128 := by decide +kernel
theorem m4 : ∀ b, b < 256 → (b * 4294967296 &&& mask8) = 0 → b < 128 := by decide +kernel
theorem m5 : ∀ b, b < 256 → (b * 1099511627776 &&& mask8) = 0 → b < 128 := by decide +kernel
theorem m6 : ∀ b, b < 256 → (b * 281474976710656 &&& mask8) = 0 → b < 128 := by decide +kernel
theorem m7 : ∀ b, b < 256 → (b * 72057594037927936 &&& mask8) = 0 → b < 128 := by decide +kernel
theorem or_lt {a b : Nat} (ha : a < 18446744073709551616) (hb : b < 18446744073709551616) : a ||| b < 18446744073709551616 := by
  have h : (18446744073709551616 : Nat) = 2 ^ 64 := by decide
  rw [h] at *
  exact Nat.or_lt_two_pow ha hb
theorem word8_low {b0 b1 b2 b3 b4 b5 b6 b7 : Nat} (h0 : b0 < 256) (h1 : b1 < 256) (h2 : b2 < 256) (h3 : b3 < 256) (h4 : b4 < 256) (h5 : b5 < 256) (h6 : b6 < 256) (h7 : b7 < 256) (h : word8 b0 b1 b2 b3 b4 b5 b6 b7 &&& mask8 = 0) :
    b0 < 128 ∧ b1 < 128 ∧ b2 < 128 ∧ b3 < 128 ∧ b4 < 128 ∧ b5 < 128 ∧ b6 < 128 ∧ b7 < 128 := by
  unfold word8 at h
  simp only [Nat.and_or_distrib_right, Nat.or_eq_zero_iff] at h
  obtain ⟨⟨⟨⟨⟨⟨⟨g0, g1⟩, g2⟩, g3⟩, g4⟩, g5⟩, g6⟩, g7⟩ := h
  exact ⟨m0 _ h0 g0, m1 _ h1 g1, m2 _ h2 g2, m3 _ h3 g3, m4 _ h4 g4, m5 _ h5 g5, m6 _ h6 g6, m7 _ h7 g7⟩
theorem word8_lt {b0 b1 b2 b3 b4 b5 b6 b7 : Nat} (h0 : b0 < 256) (h1 : b1 < 256) (h2 : b2 < 256) (h3 : b3 < 256) (h4 : b4 < 256) (h5 : b5 < 256) (h6 : b6 < 256) (h7 : b7 < 256) : word8 b0 b1 b2 b3 b4 b5 b6 b7 < 18446744073709551616 := by
  unfold word8
  exact or_lt (or_lt (or_lt (or_lt (or_lt (or_lt (or_lt (by omega) (by omega)) (by omega)) (by omega)) (by omega)) (by omega)) (by omega)) (by omega)
theorem wrapu (n : Nat) (h : n < 18446744073709551616) : IntKind.u64.wrap (n : Int) = n := by
  have := IntKind.wrap_u64 (n : Int)
  rw [this]; omega
set_option maxRecDepth 100000 in
set_option maxHeartbeats 1600000 in
theorem word_calls (s : ByteArray) (w : World) (h : 8 ≤ s.size) :
    Calls Tryz.prog 67 #[.string s] w fun e w' => e = .returned (.int .u64 (word8 (byteAt s 0) (byteAt s 1) (byteAt s 2) (byteAt s 3) (byteAt s 4) (byteAt s 5) (byteAt s 6) (byteAt s 7) : Nat)) ∧ ∃ k, w' = w.drewN k := by
  have l0 := byteAt_lt s 0
  have l1 := byteAt_lt s 1
  have l2 := byteAt_lt s 2
  have l3 := byteAt_lt s 3
  have l4 := byteAt_lt s 4
  have l5 := byteAt_lt s 5
  have l6 := byteAt_lt s 6
  have l7 := byteAt_lt s 7
  have x0 : ∀ u, (Instr.index 9 (.string s) (.int .i64 0)).run Tryz.prog u = .ok (.int .u8 (byteAt s 0)) u := fun u => idx s 0 u (by omega) (by omega)
  have x1 : ∀ u, (Instr.index 9 (.string s) (.int .i64 1)).run Tryz.prog u = .ok (.int .u8 (byteAt s 1)) u := fun u => idx s 1 u (by omega) (by omega)
  have x2 : ∀ u, (Instr.index 9 (.string s) (.int .i64 2)).run Tryz.prog u = .ok (.int .u8 (byteAt s 2)) u := fun u => idx s 2 u (by omega) (by omega)
  have x3 : ∀ u, (Instr.index 9 (.string s) (.int .i64 3)).run Tryz.prog u = .ok (.int .u8 (byteAt s 3)) u := fun u => idx s 3 u (by omega) (by omega)
  have x4 : ∀ u, (Instr.index 9 (.string s) (.int .i64 4)).run Tryz.prog u = .ok (.int .u8 (byteAt s 4)) u := fun u => idx s 4 u (by omega) (by omega)
  have x5 : ∀ u, (Instr.index 9 (.string s) (.int .i64 5)).run Tryz.prog u = .ok (.int .u8 (byteAt s 5)) u := fun u => idx s 5 u (by omega) (by omega)
  have x6 : ∀ u, (Instr.index 9 (.string s) (.int .i64 6)).run Tryz.prog u = .ok (.int .u8 (byteAt s 6)) u := fun u => idx s 6 u (by omega) (by omega)
  have x7 : ∀ u, (Instr.index 9 (.string s) (.int .i64 7)).run Tryz.prog u = .ok (.int .u8 (byteAt s 7)) u := fun u => idx s 7 u (by omega) (by omega)
  generalize byteAt s 0 = b0 at *
  generalize byteAt s 1 = b1 at *
  generalize byteAt s 2 = b2 at *
  generalize byteAt s 3 = b3 at *
  generalize byteAt s 4 = b4 at *
  generalize byteAt s 5 = b5 at *
  generalize byteAt s 6 = b6 at *
  generalize byteAt s 7 = b7 at *
  have e1 : (b1 : Int) * 256 = ((b1 * 256 : Nat) : Int) := by omega
  have e2 : (b2 : Int) * 65536 = ((b2 * 65536 : Nat) : Int) := by omega
  have e3 : (b3 : Int) * 16777216 = ((b3 * 16777216 : Nat) : Int) := by omega
  have e4 : (b4 : Int) * 4294967296 = ((b4 * 4294967296 : Nat) : Int) := by omega
  have e5 : (b5 : Int) * 1099511627776 = ((b5 * 1099511627776 : Nat) : Int) := by omega
  have e6 : (b6 : Int) * 281474976710656 = ((b6 * 281474976710656 : Nat) : Int) := by omega
  have e7 : (b7 : Int) * 72057594037927936 = ((b7 * 72057594037927936 : Nat) : Int) := by omega
  have hval : (bits BinOp.or IntKind.u64 (bits BinOp.or IntKind.u64 (bits BinOp.or IntKind.u64 (bits BinOp.or IntKind.u64 (bits BinOp.or IntKind.u64 (bits BinOp.or IntKind.u64 (bits BinOp.or IntKind.u64 (b0 : Int) ((b1 : Int) * 256)) ((b2 : Int) * 65536)) ((b3 : Int) * 16777216)) ((b4 : Int) * 4294967296)) ((b5 : Int) * 1099511627776)) ((b6 : Int) * 281474976710656)) ((b7 : Int) * 72057594037927936)) = ((word8 b0 b1 b2 b3 b4 b5 b6 b7 : Nat) : Int) := by
    rw [e1, e2, e3, e4, e5, e6, e7]
    have g1 : b0 ||| b1 * 256 < 18446744073709551616 := or_lt (by omega) (by omega)
    have g2 := or_lt g1 (show b2 * 65536 < 18446744073709551616 by omega)
    have g3 := or_lt g2 (show b3 * 16777216 < 18446744073709551616 by omega)
    have g4 := or_lt g3 (show b4 * 4294967296 < 18446744073709551616 by omega)
    have g5 := or_lt g4 (show b5 * 1099511627776 < 18446744073709551616 by omega)
    have g6 := or_lt g5 (show b6 * 281474976710656 < 18446744073709551616 by omega)
    rw [bits_or_u64_nat _ _ (by omega) (by omega), bits_or_u64_nat _ _ g1 (by omega), bits_or_u64_nat _ _ g2 (by omega), bits_or_u64_nat _ _ g3 (by omega), bits_or_u64_nat _ _ g4 (by omega), bits_or_u64_nat _ _ g5 (by omega), bits_or_u64_nat _ _ g6 (by omega)]
    rfl
  have HV : Hid _ := hval
  clear hval e1 e2 e3 e4 e5 e6 e7
  go_enter Tryz.func67, Tryz.ntmps67
  go_wp2_with fail
  go_quiet (fail)
  go_wp2
  go_ret
  exact ⟨by rw [← HV.out]; rfl, _, rfl⟩
end Go.Proofs.YtbiobhghnldckaaGreatDoor

/- Proved: utf8.ValidString of a short text of ASCII and of one other rune (195, 169). Conditions: what three places of the library's tables hold. -/
namespace Go.Proofs.YtbiobhghnldckaaGreatDoor
open Go.RowKit
set_option linter.unusedVariables false

/-- A text of ASCII and of the rune that is 195, 169. -/
def simple : List UInt8 → Bool
  | [] => true
  | 195 :: 169 :: t => simple t
  | b :: t => decide (b.toNat < 128) && simple t
theorem simple_low {b : UInt8} {t : List UInt8} (h : simple (b :: t) = true) (hb : b.toNat < 128) : simple t = true := by
  unfold simple at h
  split at h
  · rename_i e; cases e
  · rename_i e
    injection e with e1 e2
    subst e1
    exact absurd hb (by decide)
  · rename_i e
    injection e with e1 e2
    subst e1; subst e2
    simp at h
    exact h.2
theorem simple_high {b : UInt8} {t : List UInt8} (h : simple (b :: t) = true) (hb : ¬ b.toNat < 128) : b = 195 ∧ ∃ t', t = 169 :: t' ∧ simple t' = true := by
  unfold simple at h
  split at h
  · rename_i e; cases e
  · rename_i e
    injection e with e1 e2
    subst e1; subst e2
    exact ⟨rfl, _, rfl, h⟩
  · rename_i e
    injection e with e1 e2
    subst e1; subst e2
    simp at h
    exact absurd h.1 hb
theorem simple_drop : ∀ (k : Nat) (l : List UInt8), simple l = true → k ≤ l.length → (∀ i, i < k → ((l[i]?).getD 0).toNat < 128) → simple (l.drop k) = true
  | 0, l, h, _, _ => by simpa using h
  | k + 1, [], h, hk, _ => by simp at hk
  | k + 1, b :: t, h, hk, hb => by
    have h0 := hb 0 (by omega)
    simp at h0
    have := simple_drop k t (simple_low h h0) (by simpa using hk) (fun i hi => by have := hb (i + 1) (by omega); simpa using this)
    simpa using this
theorem extract_list (s : ByteArray) (i : Nat) : (s.extract i s.size).data.toList = s.data.toList.drop i := by
  rw [ByteArray.data_extract, Array.toList_extract, List.extract_eq_take_drop]
  exact List.take_of_length_le (by rw [List.length_drop, Array.length_toList]; exact Nat.le_refl _)
theorem extract_size (s : ByteArray) (i : Nat) : (s.extract i s.size).size = s.size - i := by
  rw [ByteArray.size_extract]; omega
theorem byteAt_list (s : ByteArray) (i : Nat) : byteAt s i = ((s.data.toList[i]?).getD 0).toNat := by
  unfold byteAt; rw [Array.getElem?_toList]

set_option maxRecDepth 100000 in
set_option maxHeartbeats 6400000 in
theorem validString_calls (s : ByteArray) (w : World) (hs : simple s.data.toList = true) (hn : s.size ≤ 24) (hF : w.cell? ⟨0, 195, none⟩ = some (.int .u8 2)) (hR0 : w.cell? ⟨1, 0, none⟩ = some (.int .u8 128)) (hR1 : w.cell? ⟨1, 1, none⟩ = some (.int .u8 191)) :
    Calls Tryz.prog 42 #[.string s] w fun e w' => e = .returned (.bool true) ∧ Only (fun _ => False) w w' := by
  have l0 : 0 < w.heap.size := World.block_lt_of_cell? w _ hF
  have l1 : 1 < w.heap.size := World.block_lt_of_cell? w _ hR0
  go_enter Tryz.func42, Tryz.ntmps42
  go_wp2_with fail
  go_loopg [0] (s.size + 1) (fun k v wr => ∃ r : ByteArray, v = .string r ∧ r.size < k ∧ r.size ≤ 24 ∧ Hid (simple r.data.toList = true) ∧ Hid (Only (fun _ => False) w wr))
  case atStart => exact ⟨s, rfl, by omega, hn, hs, Only.refl _ _⟩
  case round =>
    obtain ⟨r, rfl, hk, hr, hS, hO⟩ := hrel
    have hO' : Only (fun _ => False) w wr := hO
    by_cases h0 : 0 < r.size
    · obtain ⟨b, t, hbt⟩ : ∃ b t, r.data.toList = b :: t := by
        cases hd : r.data.toList with
        | nil => have : r.data.toList.length = r.size := Array.length_toList; rw [hd] at this; simp at this; omega
        | cons b t => exact ⟨b, t, rfl⟩
      have hb0 : byteAt r 0 = b.toNat := by rw [byteAt_list, hbt]; rfl
      have x0 : ∀ u, (Instr.index 9 (.string r) (.int .i64 0)).run Tryz.prog u = .ok (.int .u8 (byteAt r 0)) u := fun u => idx r 0 u (by omega) (by omega)
      have hS' := hS.out
      rw [hbt] at hS'
      have d0 : (0 : Int) < (r.size : Int) := by omega
      by_cases hlow : b.toNat < 128
      · have dl : (byteAt r 0 : Int) < 128 := by rw [hb0]; omega
        have hst := simple_low hS' hlow
        have hst1 : simple (r.extract 1 r.size).data.toList = true := by rw [extract_list, hbt]; exact hst
        have hz1 := extract_size r 1
        have h1r : 1 ≤ r.size := by omega
        have HS1 : Hid _ := hst1
        clear hst1 hst hS' hbt hb0 hS
        generalize hr1 : r.extract 1 r.size = r1 at *
        have hr1s : r1.size ≤ 23 := by omega
        have hr1r : r1.size < r.size := by omega
        clear hz1
        by_cases h8 : 8 < r1.size
        · have d8 : (8 : Int) < (r1.size : Int) := by omega
          have hc := word_calls r1 wr (by omega)
          have hW := @word8_low _ _ _ _ _ _ _ _ (byteAt_lt r1 0) (byteAt_lt r1 1) (byteAt_lt r1 2) (byteAt_lt r1 3) (byteAt_lt r1 4) (byteAt_lt r1 5) (byteAt_lt r1 6) (byteAt_lt r1 7)
          have hWl := @word8_lt _ _ _ _ _ _ _ _ (byteAt_lt r1 0) (byteAt_lt r1 1) (byteAt_lt r1 2) (byteAt_lt r1 3) (byteAt_lt r1 4) (byteAt_lt r1 5) (byteAt_lt r1 6) (byteAt_lt r1 7)
          generalize word8 (byteAt r1 0) (byteAt r1 1) (byteAt r1 2) (byteAt r1 3) (byteAt r1 4) (byteAt r1 5) (byteAt r1 6) (byteAt r1 7) = W at *
          have HW : Hid _ := hW
          clear hW
          have hand := bits_and_u64_nat W mask8 hWl (by decide)
          have hand2 : bits .and .u64 (W : Int) 9259542123273814144 = ((W &&& mask8 : Nat) : Int) := hand
          clear hand
          by_cases hz : W &&& mask8 = 0
          · have hlo := HW.out hz
            have hz2 : simple (r1.extract 8 r1.size).data.toList = true := by
              rw [extract_list]
              refine simple_drop 8 _ HS1.out (by rw [Array.length_toList]; have : r1.data.size = r1.size := rfl; omega) (fun i hi => ?_)
              rw [← byteAt_list]
              have : i = 0 ∨ i = 1 ∨ i = 2 ∨ i = 3 ∨ i = 4 ∨ i = 5 ∨ i = 6 ∨ i = 7 := by omega
              rcases this with rfl | rfl | rfl | rfl | rfl | rfl | rfl | rfl
              · exact hlo.1
              · exact hlo.2.1
              · exact hlo.2.2.1
              · exact hlo.2.2.2.1
              · exact hlo.2.2.2.2.1
              · exact hlo.2.2.2.2.2.1
              · exact hlo.2.2.2.2.2.2.1
              · exact hlo.2.2.2.2.2.2.2
            have HZ2 : Hid _ := hz2
            have hzs := extract_size r1 8
            rw [hz] at hand2
            have h8r : 8 ≤ r1.size := by omega
            clear hz2 hlo HW hWl hz
            generalize hr2 : r1.extract 8 r1.size = r2 at *
            have d16 : ¬ ((16 : Int) < (r2.size : Int)) := by omega
            have hr2r : r2.size < r.size := by omega
            clear hzs
            have d16' : decide ((16 : Int) < (r2.size : Int)) = false := by simp; omega
            go_wp2_with fail
            refine hc.mono ?_
            clear hc
            rintro e wr2 ⟨rfl, k2, rfl⟩
            go_wp2_with fail
            go_quiet (fail)
            go_wp2
            go_roundg (gk - 1)
            case measure => omega
            case rel => exact ⟨r2, rfl, by omega, by omega, HZ2, ((hO'.drewN _).drewN _)⟩
          · have hnz : ((W &&& mask8 : Nat) : Int) ≠ 0 := by omega
            rw [← hand2] at hnz
            have dnz : (bits .and .u64 (W : Int) 9259542123273814144 == 0) = false := by simpa using hnz
            clear HW hWl hz hand2
            go_wp2_with fail
            refine hc.mono ?_
            clear hc
            rintro e wr2 ⟨rfl, k2, rfl⟩
            go_wp2
            go_roundg (gk - 1)
            case measure => omega
            case rel => exact ⟨r1, rfl, by omega, by omega, HS1, (hO'.drewN _)⟩
        · have d8 : ¬ ((8 : Int) < (r1.size : Int)) := by omega
          go_wp2
          go_roundg (gk - 1)
          case measure => omega
          case rel => exact ⟨r1, rfl, by omega, by omega, HS1, hO'⟩
      · obtain ⟨rfl, t', rfl, hst⟩ := simple_high hS' hlow
        have hln : r.data.toList.length = r.size := Array.length_toList
        have h2r : 2 ≤ r.size := by rw [hbt] at hln; simp at hln; omega
        have hb1 : byteAt r 1 = 169 := by rw [byteAt_list, hbt]; rfl
        have x1 : ∀ u, (Instr.index 9 (.string r) (.int .i64 1)).run Tryz.prog u = .ok (.int .u8 169) u := fun u => by have := idx r 1 u (by omega) (by omega); rw [show (1 : Int).toNat = 1 from rfl, hb1] at this; exact this
        have hb0' : byteAt r 0 = 195 := hb0
        rw [hb0'] at x0
        have hst2 : simple (r.extract 2 r.size).data.toList = true := by rw [extract_list, hbt]; exact hst
        have hzs := extract_size r 2
        have HS2 : Hid _ := hst2
        have dn2 : ¬ ((r.size : Int) < 2) := by omega
        have dn2' : decide ((r.size : Int) < 2) = false := by simp; omega
        have q0 := hO'.keeps hF id
        have q1 := hO'.keeps hR0 id
        have q2 := hO'.keeps hR1 id
        have lr0 : 0 < wr.heap.size := World.block_lt_of_cell? wr _ q0
        have lr1 : 1 < wr.heap.size := World.block_lt_of_cell? wr _ q1
        have hn0 : 0 ≠ wr.heap.size := by omega
        have hn1 : 1 ≠ wr.heap.size := by omega
        clear hst2 hst hS' hbt hb0 hb0' hb1 hS hln hlow
        generalize hr2 : r.extract 2 r.size = r2 at *
        have hr2r : r2.size < r.size := by omega
        have hr2s : r2.size ≤ 24 := by omega
        clear hzs
        go_wp2_with fail
        go_quiet (fail)
        go_wp2
        go_roundg (gk - 1)
        case measure => omega
        case rel => exact ⟨r2, rfl, by omega, by omega, HS2, ((hO'.alloc _).drewN _)⟩
    · have e0 : r.size = 0 := by omega
      have d0 : ¬ ((0 : Int) < (r.size : Int)) := by omega
      clear hS hO
      go_wp2
      go_ret
      exact ⟨rfl, hO'⟩
end Go.Proofs.YtbiobhghnldckaaGreatDoor
