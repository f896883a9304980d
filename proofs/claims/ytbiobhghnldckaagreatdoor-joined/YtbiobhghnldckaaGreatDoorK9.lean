/- Proved: utf8.ValidString of a short text of ASCII and of one other rune (195, 169). Conditions: what three places of the library's tables hold. -/
import Derived.Test.YtbiobhghnldckaaGreatDoorProg
import Derived.Test.YtbiobhghnldckaaGreatDoorK1
import Derived.WalkKit
import Derived.WalkLawsBesides
import Derived.BigQuiet
import Derived.Deep.QuietTactic
import Derived.Deep.LoopGhost
import Derived.Laws.Bits64b
import Derived.Test.YtbiobhghnldckaaGreatDoorK8
import Derived.Deep.RegionHeld3
namespace Go.Proofs.YtbiobhghnldckaaGreatDoor
open Go.RowKit
set_option linter.unusedVariables false
def byteAt (s : ByteArray) (i : Nat) : Nat := ((s.data[i]?).getD 0).toNat
theorem byteAt_lt (s : ByteArray) (i : Nat) : byteAt s i < 256 := UInt8.toNat_lt _
theorem idx (s : ByteArray) (i : Int) (u : World) (h0 : 0 ≤ i) (h1 : i < s.size) : (Instr.index 9 (.string s) (.int .i64 i)).run Tryz.prog u = .ok (.int .u8 (byteAt s i.toNat)) u := by
  rw [run_index_string u _ s _ i Tryz.underlying9, dif_pos ⟨h0, h1⟩]
  have h2 : i.toNat < s.data.size := by have : i < s.data.size := h1; omega
  unfold byteAt
  rw [Array.getElem?_eq_getElem h2]
  rfl

def mask8 : Nat := 9259542123273814144
/-- eight bytes as one number -/
def word8 (b0 b1 b2 b3 b4 b5 b6 b7 : Nat) : Nat := ((((((b0 ||| b1 * 256) ||| b2 * 65536) ||| b3 * 16777216) ||| b4 * 4294967296) ||| b5 * 1099511627776) ||| b6 * 281474976710656) ||| b7 * 72057594037927936
theorem m0 : ∀ b, b < 256 → (b &&& mask8) = 0 → b < 128 := by decide +kernel
theorem m1 : ∀ b, b < 256 → (b * 256 &&& mask8) = 0 → b < 128 := by decide +kernel
theorem m2 : ∀ b, b < 256 → (b * 65536 &&& mask8) = 0 → b < 128 := by decide +kernel
theorem m3 : ∀ b, b < 256 → (b * 16777216 &&& mask8) = 0 → b < 128 := by decide +kernel
theorem m4 : ∀ b, b < 256 → (b * 4294967296 &&& mask8) = 0 → b < 128 := by decide +kernel
theorem m5 : ∀ b, b < 256 → (b * 1099511627776 &&& mask8) = 0 → b < 128 := by decide +kernel
theorem m6 : ∀ b, b < 256 → (b * 281474976710656 &&& mask8) = 0 → b < 128 := by decide +kernel
theorem m7 : ∀ b, b < 256 → (b * 72057594037927936 &&& mask8) = 0 → b < 128 := by decide +kernel
theorem or_lt {a b : Nat} (ha : a < 18446744073709551616) (hb : b < 18446744073709551616) : a ||| b < 18446744073709551616 := by
  have h : (18446744073709551616 : Nat) = 2 ^ 64 := by decide
  rw [h] at *
  exact Nat.or_lt_two_pow ha hb
theorem word8_low {b0 b1 b2 b3 b4 b5 b6 b7 : Nat} (h0 : b0 < 256) (h1 : b1 < 256) (h2 : b2 < 256) (h3 : b3 < 256) (h4 : b4 < 256) (h5 : b5 < 256) (h6 : b6 < 256) (h7 : b7 < 256) (h : word8 b0 b1 b2 b3 b4 b5 b6 b7 &&& mask8 = 0) :
    b0 < 128 ∧ b1 < 128 ∧ b2 < 128 ∧ b3 < 128 ∧ b4 < 128 ∧ b5 < 128 ∧ b6 < 128 ∧ b7 < 128 := by
  unfold word8 at h
  simp only [Nat.and_or_distrib_right, Nat.or_eq_zero_iff] at h
  obtain ⟨⟨⟨⟨⟨⟨⟨g0, g1⟩, g2⟩, g3⟩, g4⟩, g5⟩, g6⟩, g7⟩ := h
  exact ⟨m0 _ h0 g0, m1 _ h1 g1, m2 _ h2 g2, m3 _ h3 g3, m4 _ h4 g4, m5 _ h5 g5, m6 _ h6 g6, m7 _ h7 g7⟩
theorem word8_lt {b0 b1 b2 b3 b4 b5 b6 b7 : Nat} (h0 : b0 < 256) (h1 : b1 < 256) (h2 : b2 < 256) (h3 : b3 < 256) (h4 : b4 < 256) (h5 : b5 < 256) (h6 : b6 < 256) (h7 : b7 < 256) : word8 b0 b1 b2 b3 b4 b5 b6 b7 < 18446744073709551616 := by
  unfold word8
  exact or_lt (or_lt (or_lt (or_lt (or_lt (or_lt (or_lt (by omega) (by omega)) (by omega)) (by omega)) (by omega)) (by omega)) (by omega)) (by omega)
theorem wrapu (n : Nat) (h : n < 18446744073709551616) : IntKind.u64.wrap (n : Int) = n := by
  have := IntKind.wrap_u64 (n : Int)
  rw [this]; omega
set_option maxRecDepth 100000 in
set_option maxHeartbeats 1600000 in
theorem word_calls (s : ByteArray) (w : World) (h : 8 ≤ s.size) :
    Calls Tryz.prog 67 #[.string s] w fun e w' => e = .returned (.int .u64 (word8 (byteAt s 0) (byteAt s 1) (byteAt s 2) (byteAt s 3) (byteAt s 4) (byteAt s 5) (byteAt s 6) (byteAt s 7) : Nat)) ∧ ∃ k, w' = w.drewN k := by
  have l0 := byteAt_lt s 0
  have l1 := byteAt_lt s 1
  have l2 := byteAt_lt s 2
  have l3 := byteAt_lt s 3
  have l4 := byteAt_lt s 4
  have l5 := byteAt_lt s 5
  have l6 := byteAt_lt s 6
  have l7 := byteAt_lt s 7
  have x0 : ∀ u, (Instr.index 9 (.string s) (.int .i64 0)).run Tryz.prog u = .ok (.int .u8 (byteAt s 0)) u := fun u => idx s 0 u (by omega) (by omega)
  have x1 : ∀ u, (Instr.index 9 (.string s) (.int .i64 1)).run Tryz.prog u = .ok (.int .u8 (byteAt s 1)) u := fun u => idx s 1 u (by omega) (by omega)
  have x2 : ∀ u, (Instr.index 9 (.string s) (.int .i64 2)).run Tryz.prog u = .ok (.int .u8 (byteAt s 2)) u := fun u => idx s 2 u (by omega) (by omega)
  have x3 : ∀ u, (Instr.index 9 (.string s) (.int .i64 3)).run Tryz.prog u = .ok (.int .u8 (byteAt s 3)) u := fun u => idx s 3 u (by omega) (by omega)
  have x4 : ∀ u, (Instr.index 9 (.string s) (.int .i64 4)).run Tryz.prog u = .ok (.int .u8 (byteAt s 4)) u := fun u => idx s 4 u (by omega) (by omega)
  have x5 : ∀ u, (Instr.index 9 (.string s) (.int .i64 5)).run Tryz.prog u = .ok (.int .u8 (byteAt s 5)) u := fun u => idx s 5 u (by omega) (by omega)
  have x6 : ∀ u, (Instr.index 9 (.string s) (.int .i64 6)).run Tryz.prog u = .ok (.int .u8 (byteAt s 6)) u := fun u => idx s 6 u (by omega) (by omega)
  have x7 : ∀ u, (Instr.index 9 (.string s) (.int .i64 7)).run Tryz.prog u = .ok (.int .u8 (byteAt s 7)) u := fun u => idx s 7 u (by omega) (by omega)
  generalize byteAt s 0 = b0 at *
  generalize byteAt s 1 = b1 at *
  generalize byteAt s 2 = b2 at *
  generalize byteAt s 3 = b3 at *
  generalize byteAt s 4 = b4 at *
  generalize byteAt s 5 = b5 at *
  generalize byteAt s 6 = b6 at *
  generalize byteAt s 7 = b7 at *
  have e1 : (b1 : Int) * 256 = ((b1 * 256 : Nat) : Int) := by omega
  have e2 : (b2 : Int) * 65536 = ((b2 * 65536 : Nat) : Int) := by omega
  have e3 : (b3 : Int) * 16777216 = ((b3 * 16777216 : Nat) : Int) := by omega
  have e4 : (b4 : Int) * 4294967296 = ((b4 * 4294967296 : Nat) : Int) := by omega
  have e5 : (b5 : Int) * 1099511627776 = ((b5 * 1099511627776 : Nat) : Int) := by omega
  have e6 : (b6 : Int) * 281474976710656 = ((b6 * 281474976710656 : Nat) : Int) := by omega
  have e7 : (b7 : Int) * 72057594037927936 = ((b7 * 72057594037927936 : Nat) : Int) := by omega
  have hval : (bits BinOp.or IntKind.u64 (bits BinOp.or IntKind.u64 (bits BinOp.or IntKind.u64 (bits BinOp.or IntKind.u64 (bits BinOp.or IntKind.u64 (bits BinOp.or IntKind.u64 (bits BinOp.or IntKind.u64 (b0 : Int) ((b1 : Int) * 256)) ((b2 : Int) * 65536)) ((b3 : Int) * 16777216)) ((b4 : Int) * 4294967296)) ((b5 : Int) * 1099511627776)) ((b6 : Int) * 281474976710656)) ((b7 : Int) * 72057594037927936)) = ((word8 b0 b1 b2 b3 b4 b5 b6 b7 : Nat) : Int) := by
    rw [e1, e2, e3, e4, e5, e6, e7]
    have g1 : b0 ||| b1 * 256 < 18446744073709551616 := or_lt (by omega) (by omega)
    have g2 := or_lt g1 (show b2 * 65536 < 18446744073709551616 by omega)
    have g3 := or_lt g2 (show b3 * 16777216 < 18446744073709551616 by omega)
    have g4 := or_lt g3 (show b4 * 4294967296 < 18446744073709551616 by omega)
    have g5 := or_lt g4 (show b5 * 1099511627776 < 18446744073709551616 by omega)
    have g6 := or_lt g5 (show b6 * 281474976710656 < 18446744073709551616 by omega)
    rw [bits_or_u64_nat _ _ (by omega) (by omega), bits_or_u64_nat _ _ g1 (by omega), bits_or_u64_nat _ _ g2 (by omega), bits_or_u64_nat _ _ g3 (by omega), bits_or_u64_nat _ _ g4 (by omega), bits_or_u64_nat _ _ g5 (by omega), bits_or_u64_nat _ _ g6 (by omega)]
    rfl
  have HV : Hid _ := hval
  clear hval e1 e2 e3 e4 e5 e6 e7
  go_enter Tryz.func67, Tryz.ntmps67
  go_wp2_with fail
  go_quiet (fail)
  go_wp2
  go_ret
  exact ⟨by rw [← HV.out]; rfl, _, rfl⟩
end Go.Proofs.YtbiobhghnldckaaGreatDoor

/- Proved: utf8.ValidString of a short text of ASCII and of one other rune (195, 169). Conditions: what three places of the library's tables hold. -/
namespace Go.Proofs.YtbiobhghnldckaaGreatDoor
open Go.RowKit
set_option linter.unusedVariables false

/-- A text of ASCII and of the rune that is 195, 169. -/
def simple : List UInt8 → Bool
  | [] => true
  | 195 :: 169 :: t => simple t
  | b :: t => decide (b.toNat < 128) && simple t
theorem simple_low {b : UInt8} {t : List UInt8} (h : simple (b :: t) = true) (hb : b.toNat < 128) : simple t = true := by
  unfold simple at h
  split at h
  · rename_i e; cases e
  · rename_i e
    injection e with e1 e2
    subst e1
    exact absurd hb (by decide)
  · rename_i e
    injection e with e1 e2
    subst e1; subst e2
    simp at h
    exact h.2
theorem simple_high {b : UInt8} {t : List UInt8} (h : simple (b :: t) = true) (hb : ¬ b.toNat < 128) : b = 195 ∧ ∃ t', t = 169 :: t' ∧ simple t' = true := by
  unfold simple at h
  split at h
  · rename_i e; cases e
  · rename_i e
    injection e with e1 e2
    subst e1; subst e2
    exact ⟨rfl, _, rfl, h⟩
  · rename_i e
    injection e with e1 e2
    subst e1; subst e2
    simp at h
    exact absurd h.1 hb
theorem simple_drop : ∀ (k : Nat) (l : List UInt8), simple l = true → k ≤ l.length → (∀ i, i < k → ((l[i]?).getD 0).toNat < 128) → simple (l.drop k) = true
  | 0, l, h, _, _ => by simpa using h
  | k + 1, [], h, hk, _ => by simp at hk
  | k + 1, b :: t, h, hk, hb => by
    have h0 := hb 0 (by omega)
    simp at h0
    have := simple_drop k t (simple_low h h0) (by simpa using hk) (fun i hi => by have := hb (i + 1) (by omega); simpa using this)
    simpa using this
theorem extract_list (s : ByteArray) (i : Nat) : (s.extract i s.size).data.toList = s.data.toList.drop i := by
  rw [ByteArray.data_extract, Array.toList_extract, List.extract_eq_take_drop]
  exact List.take_of_length_le (by rw [List.length_drop, Array.length_toList]; exact Nat.le_refl _)
theorem extract_size (s : ByteArray) (i : Nat) : (s.extract i s.size).size = s.size - i := by
  rw [ByteArray.size_extract]; omega
theorem byteAt_list (s : ByteArray) (i : Nat) : byteAt s i = ((s.data.toList[i]?).getD 0).toNat := by
  unfold byteAt; rw [Array.getElem?_toList]

set_option maxRecDepth 100000 in
set_option maxHeartbeats 6400000 in
theorem validString_calls (s : ByteArray) (w : World) (hs : simple s.data.toList = true) (hn : s.size ≤ 24) (hF : w.cell? ⟨0, 195, none⟩ = some (.int .u8 2)) (hR0 : w.cell? ⟨1, 0, none⟩ = some (.int .u8 128)) (hR1 : w.cell? ⟨1, 1, none⟩ = some (.int .u8 191)) :
    Calls Tryz.prog 42 #[.string s] w fun e w' => e = .returned (.bool true) ∧ Only (fun _ => False) w w' := by
  have l0 : 0 < w.heap.size := World.block_lt_of_cell? w _ hF
  have l1 : 1 < w.heap.size := World.block_lt_of_cell? w _ hR0
  go_enter Tryz.func42, Tryz.ntmps42
  go_wp2_with fail
  go_loopg [0] (s.size + 1) (fun k v wr => ∃ r : ByteArray, v = .string r ∧ r.size < k ∧ r.size ≤ 24 ∧ Hid (simple r.data.toList = true) ∧ Hid (Only (fun _ => False) w wr))
  case atStart => exact ⟨s, rfl, by omega, hn, hs, Only.refl _ _⟩
  case round =>
    obtain ⟨r, rfl, hk, hr, hS, hO⟩ := hrel
    have hO' : Only (fun _ => False) w wr := hO
    by_cases h0 : 0 < r.size
    · obtain ⟨b, t, hbt⟩ : ∃ b t, r.data.toList = b :: t := by
        cases hd : r.data.toList with
        | nil => have : r.data.toList.length = r.size := Array.length_toList; rw [hd] at this; simp at this; omega
        | cons b t => exact ⟨b, t, rfl⟩
      have hb0 : byteAt r 0 = b.toNat := by rw [byteAt_list, hbt]; rfl
      have x0 : ∀ u, (Instr.index 9 (.string r) (.int .i64 0)).run Tryz.prog u = .ok (.int .u8 (byteAt r 0)) u := fun u => idx r 0 u (by omega) (by omega)
      have hS' := hS.out
      rw [hbt] at hS'
      have d0 : (0 : Int) < (r.size : Int) := by omega
      by_cases hlow : b.toNat < 128
      · have dl : (byteAt r 0 : Int) < 128 := by rw [hb0]; omega
        have hst := simple_low hS' hlow
        have hst1 : simple (r.extract 1 r.size).data.toList = true := by rw [extract_list, hbt]; exact hst
        have hz1 := extract_size r 1
        have h1r : 1 ≤ r.size := by omega
        have HS1 : Hid _ := hst1
        clear hst1 hst hS' hbt hb0 hS
        generalize hr1 : r.extract 1 r.size = r1 at *
        have hr1s : r1.size ≤ 23 := by omega
        have hr1r : r1.size < r.size := by omega
        clear hz1
        by_cases h8 : 8 < r1.size
        · have d8 : (8 : Int) < (r1.size : Int) := by omega
          have hc := word_calls r1 wr (by omega)
          have hW := @word8_low _ _ _ _ _ _ _ _ (byteAt_lt r1 0) (byteAt_lt r1 1) (byteAt_lt r1 2) (byteAt_lt r1 3) (byteAt_lt r1 4) (byteAt_lt r1 5) (byteAt_lt r1 6) (byteAt_lt r1 7)
          have hWl := @word8_lt _ _ _ _ _ _ _ _ (byteAt_lt r1 0) (byteAt_lt r1 1) (byteAt_lt r1 2) (byteAt_lt r1 3) (byteAt_lt r1 4) (byteAt_lt r1 5) (byteAt_lt r1 6) (byteAt_lt r1 7)
          generalize word8 (byteAt r1 0) (byteAt r1 1) (byteAt r1 2) (byteAt r1 3) (byteAt r1 4) (byteAt r1 5) (byteAt r1 6) (byteAt r1 7) = W at *
          have HW : Hid _ := hW
          clear hW
          have hand := bits_and_u64_nat W mask8 hWl (by decide)
          have hand2 : bits .and .u64 (W : Int) 9259542123273814144 = ((W &&& mask8 : Nat) : Int) := hand
          clear hand
          by_cases hz : W &&& mask8 = 0
          · have hlo := HW.out hz
            have hz2 : simple (r1.extract 8 r1.size).data.toList = true := by
              rw [extract_list]
              refine simple_drop 8 _ HS1.out (by rw [Array.length_toList]; have : r1.data.size = r1.size := rfl; omega) (fun i hi => ?_)
              rw [← byteAt_list]
              have : i = 0 ∨ i = 1 ∨ i = 2 ∨ i = 3 ∨ i = 4 ∨ i = 5 ∨ i = 6 ∨ i = 7 := by omega
              rcases this with rfl | rfl | rfl | rfl | rfl | rfl | rfl | rfl
              · exact hlo.1
              · exact hlo.2.1
              · exact hlo.2.2.1
              · exact hlo.2.2.2.1
              · exact hlo.2.2.2.2.1
              · exact hlo.2.2.2.2.2.1
              · exact hlo.2.2.2.2.2.2.1
              · exact hlo.2.2.2.2.2.2.2
            have HZ2 : Hid _ := hz2
            have hzs := extract_size r1 8
            rw [hz] at hand2
            have h8r : 8 ≤ r1.size := by omega
            clear hz2 hlo HW hWl hz
            generalize hr2 : r1.extract 8 r1.size = r2 at *
            have d16 : ¬ ((16 : Int) < (r2.size : Int)) := by omega
            have hr2r : r2.size < r.size := by omega
            clear hzs
            have d16' : decide ((16 : Int) < (r2.size : Int)) = false := by simp; omega
            go_wp2_with fail
            refine hc.mono ?_
            clear hc
            rintro e wr2 ⟨rfl, k2, rfl⟩
            go_wp2_with fail
            go_quiet (fail)
            go_wp2
            go_roundg (gk - 1)
            case measure => omega
            case rel => exact ⟨r2, rfl, by omega, by omega, HZ2, ((hO'.drewN _).drewN _)⟩
          · have hnz : ((W &&& mask8 : Nat) : Int) ≠ 0 := by omega
            rw [← hand2] at hnz
            have dnz : (bits .and .u64 (W : Int) 9259542123273814144 == 0) = false := by simpa using hnz
            clear HW hWl hz hand2
            go_wp2_with fail
            refine hc.mono ?_
            clear hc
            rintro e wr2 ⟨rfl, k2, rfl⟩
            go_wp2
            go_roundg (gk - 1)
            case measure => omega
            case rel => exact ⟨r1, rfl, by omega, by omega, HS1, (hO'.drewN _)⟩
        · have d8 : ¬ ((8 : Int) < (r1.size : Int)) := by omega
          go_wp2
          go_roundg (gk - 1)
          case measure => omega
          case rel => exact ⟨r1, rfl, by omega, by omega, HS1, hO'⟩
      · obtain ⟨rfl, t', rfl, hst⟩ := simple_high hS' hlow
        have hln : r.data.toList.length = r.size := Array.length_toList
        have h2r : 2 ≤ r.size := by rw [hbt] at hln; simp at hln; omega
        have hb1 : byteAt r 1 = 169 := by rw [byteAt_list, hbt]; rfl
        have x1 : ∀ u, (Instr.index 9 (.string r) (.int .i64 1)).run Tryz.prog u = .ok (.int .u8 169) u := fun u => by have := idx r 1 u (by omega) (by omega); rw [show (1 : Int).toNat = 1 from rfl, hb1] at this; exact this
        have hb0' : byteAt r 0 = 195 := hb0
        rw [hb0'] at x0
        have hst2 : simple (r.extract 2 r.size).data.toList = true := by rw [extract_list, hbt]; exact hst
        have hzs := extract_size r 2
        have HS2 : Hid _ := hst2
        have dn2 : ¬ ((r.size : Int) < 2) := by omega
        have dn2' : decide ((r.size : Int) < 2) = false := by simp; omega
        have q0 := hO'.keeps hF id
        have q1 := hO'.keeps hR0 id
        have q2 := hO'.keeps hR1 id
        have lr0 : 0 < wr.heap.size := World.block_lt_of_cell? wr _ q0
        have lr1 : 1 < wr.heap.size := World.block_lt_of_cell? wr _ q1
        have hn0 : 0 ≠ wr.heap.size := by omega
        have hn1 : 1 ≠ wr.heap.size := by omega
        clear hst2 hst hS' hbt hb0 hb0' hb1 hS hln hlow
        generalize hr2 : r.extract 2 r.size = r2 at *
        have hr2r : r2.size < r.size := by omega
        have hr2s : r2.size ≤ 24 := by omega
        clear hzs
        go_wp2_with fail
        go_quiet (fail)
        go_wp2
        go_roundg (gk - 1)
        case measure => omega
        case rel => exact ⟨r2, rfl, by omega, by omega, HS2, ((hO'.alloc _).drewN _)⟩
    · have e0 : r.size = 0 := by omega
      have d0 : ¬ ((0 : Int) < (r.size : Int)) := by omega
      clear hS hO
      go_wp2
      go_ret
      exact ⟨rfl, hO'⟩
end Go.Proofs.YtbiobhghnldckaaGreatDoor

/- Proved: a text of one line is parted; what was put out is told. Conditions: as told in each theorem. -/
namespace Go.Proofs.YtbiobhghnldckaaGreatDoor
open Go.RowKit
set_option linter.unusedVariables false

/-- What the library's variables hold, as far as it is asked. -/
structure Tabs (w : World) : Prop where
  f : w.cell? ⟨0, 195, none⟩ = some (.int .u8 2)
  r0 : w.cell? ⟨1, 0, none⟩ = some (.int .u8 128)
  r1 : w.cell? ⟨1, 1, none⟩ = some (.int .u8 191)
  m : ∃ m, w.cell? ⟨2, 0, none⟩ = some (.int .i64 m)
/-- A run turns nothing of what was there. -/
theorem Tabs.keeps {w w' : World} (h : Tabs w) (o : Only (fun _ => False) w w') : Tabs w' := by
  obtain ⟨m, hm⟩ := h.m
  exact ⟨o.keeps h.f id, o.keeps h.r0 id, o.keeps h.r1 id, ⟨m, o.keeps hm id⟩⟩

def lineOf (s : ByteArray) : ByteArray := ⟨(Lib.trimSuffix s.data.toList [10]).toArray⟩
set_option maxRecDepth 100000 in
set_option maxHeartbeats 1600000 in
theorem split_one (s : ByteArray) (w : World) (ht : Tabs w) (h0 : 0 < s.size) (hs : s.size ≤ 3000) (hl : (lineOf s).size ≤ 3000) (h1 : Lib.countB (lineOf s) ⟨#[10]⟩ = 0) (h2 : Lib.splitB ⟨#[10]⟩ 0 0 (lineOf s) = [lineOf s]) :
    Calls Tryz.prog 43 #[.string s] w fun e w' => e = .returned (.slice (some ⟨w.heap.size, 0, none⟩) 1 1) ∧ w' = w.alloc (.cells #[.string (lineOf s)] 9) := by
  obtain ⟨m, hm⟩ := ht.m
  have hne : s.toList.isEmpty = false := by
    rw [Lib.toList_data]
    cases hd : s.data.toList with
    | nil => have : s.data.toList.length = s.size := Array.length_toList; rw [hd] at this; simp at this; omega
    | cons b t => rfl
  have c1 := Tryz.strings_TrimSuffix s ⟨#[10]⟩ w (by omega)
  have c2 := Tryz.strings_Split (lineOf s) ⟨#[10]⟩ m w (by omega) hm (by decide)
  rw [h1, h2] at c2
  have e1 : (⟨(Lib.trimSuffix s.data.toList (⟨#[10]⟩ : ByteArray).data.toList).toArray⟩ : ByteArray) = lineOf s := rfl
  rw [e1] at c1
  generalize lineOf s = ln at *
  go_enter Tryz.func43, Tryz.ntmps43
  go_wp2_with fail
  refine c1.mono ?_
  rintro e w1 ⟨rfl, rfl⟩
  go_wp2_with fail
  refine c2.mono ?_
  rintro e w2 ⟨rfl, rfl⟩
  go_wp2
  go_ret
  exact ⟨rfl, rfl⟩

set_option maxRecDepth 100000 in
set_option maxHeartbeats 1600000 in
theorem builderString_calls (eb : Nat) (w : World) (l : List Value) (out : List UInt8) (h : Ed w eb l out) :
    Calls Tryz.prog 47 #[.pointer (some ⟨eb, 13, none⟩)] w fun e w' => e = .returned (.string ⟨out.toArray⟩) ∧ Only (fun b => eb ≤ b) w w' := by
  obtain ⟨p, a, c, g1, g2, g3⟩ := h.cells
  have hl := h.len
  have c14 := (g1 14 _ (by rw [List.getElem?_set_self (by rw [List.length_set]; omega)])).1
  by_cases h0 : out = []
  · subst h0
    simp only [List.length_nil] at c14
    have c14d : w.drew.cell? ⟨eb, 14, none⟩ = some (.slice a 0 c) := c14
    have hSD : ∃ q wq, (Builtin.unsafeSliceData_ #[64] 142 #[.slice a 0 c]).run Tryz.prog w.drew = .ok (.pointer q) wq ∧ wq.cell? ⟨eb, 14, none⟩ = some (.slice a 0 c) ∧ Only (fun _ => False) w wq := by
      rcases g3.2 with ⟨e, _⟩ | ⟨g, cap, cur, hv, _, hg, hcap, _, hsz, _⟩
      · injection e with e1 e2 e3; subst e1; subst e3
        exact ⟨none, _, Lib.run_unsafeSliceData_nil _ _ _ _ _, c14d, (Only.refl _ w).drew⟩
      · injection hv with e1 e2 e3; subst e1; subst e3
        by_cases hc0 : c = 0
        · subst hc0
          have hg' : w.drew.heap[g]? = some (.cells cur 5 (0, 0)) := hg
          have := Lib.run_unsafeSliceData_zero (P := Tryz.prog) w.drew #[64] 142 5 Tryz.underlying142 ⟨g, 0, none⟩ 0 (5, cur.size) (by simp [World.shape?, hg'])
          have oq : Only (fun _ => False) w (w.drew.alloc (.view ⟨g, 0, none⟩ 5)) := ((Only.refl _ w).drew).alloc _
          exact ⟨_, _, this, oq.keeps c14 id, oq⟩
        · exact ⟨some ⟨g, 0, none⟩, _, Lib.run_unsafeSliceData_row _ _ _ _ _ _ hc0, c14d, (Only.refl _ w).drew⟩
    obtain ⟨q, wq, hq, c14q, oq⟩ := hSD
    have hUS := Lib.run_unsafeString_none (P := Tryz.prog) wq 142 3 9 q
    go_enter Tryz.func47, Tryz.ntmps47
    go_wp2_with fail
    go_region
    all_goals
      go_wp2
      go_ret
      exact ⟨rfl, oq.mono (fun _ _ e => e.elim)⟩
  · have hl0 : out.length ≠ 0 := by simpa using h0
    obtain ⟨g, cap, cur, hv, tg, hg, hnc, hcm, hcs, htake⟩ : ∃ g cap cur, Value.slice a out.length c = .slice (some ⟨g, 0, none⟩) out.length cap ∧ eb ≤ g ∧ w.heap[g]? = some (.cells cur 5 (0, 0)) ∧ out.length ≤ cap ∧ cap ≤ maxLen ∧ cur.size = cap * 1 ∧ cur.toList.take (out.length * 1) = Lib.byteCells out := by
      rcases g3.2 with ⟨_, hz⟩ | r
      · exact absurd hz hl0
      · exact r
    injection hv with e1 e2 e3
    subst e1; subst e3
    have c14d : w.drew.cell? ⟨eb, 14, none⟩ = some (.slice (some ⟨g, 0, none⟩) out.length c) := c14
    have hSD : (Builtin.unsafeSliceData_ #[64] 142 #[.slice (some ⟨g, 0, none⟩) out.length c]).run Tryz.prog w.drew = .ok (.pointer (some ⟨g, 0, none⟩)) w.drew :=
      Lib.run_unsafeSliceData_row _ _ _ _ _ _ (by omega)
    have hUS : (Builtin.unsafeString_ #[142, 3] 9 #[.pointer (some ⟨g, 0, none⟩), .int .i64 out.length]).run Tryz.prog w.drew = .ok (.string ⟨out.toArray⟩) (w.drew.freeze ⟨g, 0, none⟩ out.length) := by
      refine Lib.run_unsafeString_row w.drew 142 3 9 5 Tryz.underlying142 (by kernel_rfl) g cur.size (by have hg' : w.drew.heap[g]? = some (.cells cur 5 (0, 0)) := hg; simp [World.shape?, hg']) out h0 (by omega) (by unfold maxLen at hcm; omega) ?_
      intro j x hx
      exact g3.cells (g := g) rfl j (.int .u8 x.toNat) (by simp [Lib.byteCells, hx])
    have ofr : Only (· = g) w (w.drew.freeze ⟨g, 0, none⟩ out.length) := by
      unfold World.freeze
      rw [if_neg hl0]
      exact ⟨rfl, rfl, rfl, by simp, fun k hk hne => by
        simp only [Array.getElem?_modify]
        rw [if_neg (fun e => hne e.symm)]; rfl⟩
    go_enter Tryz.func47, Tryz.ntmps47
    go_wp2_with fail
    go_region
    all_goals
      go_wp2
      go_ret
      exact ⟨rfl, ofr.mono (fun b _ e => by subst e; exact tg)⟩
end Go.Proofs.YtbiobhghnldckaaGreatDoor

/- Proved: a run over a text of one line, by a program that is one s. Conditions: the program lies in memory, and the library's variables hold what they should. -/
namespace Go.Proofs.YtbiobhghnldckaaGreatDoor
open Go.RowKit
set_option linter.unusedVariables false

set_option maxRecDepth 100000 in
set_option maxHeartbeats 800000 in
theorem hasNext_calls (eb k n lc : Nat) (la : Option Addr) (w : World) (h2 : w.cell? ⟨eb, 2, none⟩ = some (.slice la n lc)) (h3 : w.cell? ⟨eb, 3, none⟩ = some (.int .i64 k)) :
    Calls Tryz.prog 45 #[.pointer (some ⟨eb, 0, none⟩)] w fun e w' => e = .returned (.bool (decide ((k : Int) < n))) ∧ Only (fun _ => False) w w' := by
  go_enter Tryz.func45, Tryz.ntmps45
  go_wp2_with fail
  go_quiet (fail)
  go_wp2
  go_ret
  exact ⟨by first | rfl | simp, (Only.refl _ w).drewN _⟩

set_option maxRecDepth 100000 in
theorem mk_open (u : World) : (Instr.makeSlice 92 (.int .i64 1) (.int .i64 1)).run Tryz.prog u = .ok (.slice (some ⟨u.heap.size, 0, none⟩) 1 1) (u.alloc (.cells #[.bool false] 4)) := by
  have h := run_make (P := Tryz.prog) (w := u) 92 4 _ (.bool false) (by rfl) (by rfl) (by rfl) .i64 .i64 1 1 (by omega) (by omega) (by show (1 : Int) * 1 ≤ _; omega) (by omega)
  have e : Tryz.prog.types[4].size = 1 := by rfl
  rw [h, e]
  have hm : madeCells (Value.bool false).cells (Int.toNat 1 * 1) = #[.bool false] := Array.toList_inj.1 (by rw [show (Value.bool false).cells = #[Value.bool false] from rfl, toList_madeCells_one]; rfl)
  rw [hm]
  rfl
/-- An editor that was just made. -/
theorem ed_new (u : World) (v0 v1 v2 v7 : Value) :
    Ed (u.alloc (.cells #[v0, v1, v2, .int .i64 0, .slice none 0 0, .slice none 0 0, .slice none 0 0, v7, .bool false, .int .i64 0, .bool false, .bool false, .int .i64 0, .pointer none, .slice none 0 0, .int .i64 0] 108)) u.heap.size
      [v0, v1, v2, .int .i64 0, .slice none 0 0, .slice none 0 0, .slice none 0 0, v7, .bool false, .int .i64 0, .bool false, .bool false, .int .i64 0, .pointer none, .slice none 0 0, .int .i64 0] [] := by
  have hc := Cells.new u #[v0, v1, v2, .int .i64 0, .slice none 0 0, .slice none 0 0, .slice none 0 0, v7, .bool false, .int .i64 0, .bool false, .bool false, .int .i64 0, .pointer none, .slice none 0 0, .int .i64 0] 108
  refine ⟨⟨.pointer none, none, 0, hc, Or.inl rfl, World.ownsRow_nil _ _ _ _⟩, ?_, Typ.new _ _ _ _, rfl⟩
  unfold World.shape?
  rw [heap_alloc_new]
  rfl

/-- What a run over a text of one line asks. -/
structure OneLine (s : ByteArray) (c : Adz.Cmd) : Prop where
  simple : simple s.data.toList = true
  size : s.size ≤ 24
  some : 0 < s.size
  lsize : (lineOf s).size ≤ 3000
  count : Lib.countB (lineOf s) ⟨#[10]⟩ = 0
  split : Lib.splitB ⟨#[10]⟩ 0 0 (lineOf s) = [lineOf s]
  fine : Fine (Adz.runes (lineOf s)) c
  less : (runesBytes (Adz.subst (Adz.runes (lineOf s)) c)).size + 1 ≤ 8000

set_option maxRecDepth 100000 in
set_option maxHeartbeats 3200000 in
theorem run_s (c : Adz.Cmd) (pb g cap : Nat) (w : World) (ht : Tabs w) (hp : w.cell? ⟨pb, 0, none⟩ = some (.slice (some ⟨g, 0, none⟩) 1 cap)) (hc : OneCmd w g c) (s : ByteArray) (q : Bool) (h1 : OneLine s c) :
    Calls Tryz.prog 31 #[.pointer (some ⟨pb, 0, none⟩), .string s, .bool q] w fun e w' => e = .returned (.tuple #[.string ⟨(Adz.told q [] (Adz.subst (Adz.runes (lineOf s)) c)).toArray⟩, .int .i64 0]) ∧ Only (fun _ => False) w w' := by
  have hsz := h1.size
  have d1 : ¬ ((3000 : Int) < (s.size : Int)) := by omega
  have hval := validString_calls s w h1.simple h1.size ht.f ht.r0 ht.r1
  have hfine := h1.fine
  have hless := h1.less
  have hsplit := fun (u : World) (hu : Tabs u) => split_one s u hu h1.some (by omega) h1.lsize h1.count h1.split
  have hl3 := h1.lsize
  clear h1
  generalize lineOf s = ln at *
  go_enter Tryz.func31, Tryz.ntmps31
  go_wp2_with fail
  refine hval.mono ?_
  clear hval
  rintro e w1 ⟨rfl, o1⟩
  have hp1 := o1.keeps hp id
  have lp : pb < w1.heap.size := World.block_lt_of_cell? w1 _ hp1
  have hpa : ∀ (u : World) (o : Obj), u.cell? ⟨pb, 0, none⟩ = some (.slice (some ⟨g, 0, none⟩) 1 cap) → (u.alloc o).cell? ⟨pb, 0, none⟩ = some (.slice (some ⟨g, 0, none⟩) 1 cap) := fun u o hu => by
    have oo : Only (fun _ => False) u (u.alloc o) := (Only.refl _ u).alloc o
    exact oo.keeps hu id
  have hmk := mk_open
  have ht1 : Tabs w1.drew := (ht.keeps o1).keeps ((Only.refl _ w1).drew)
  have hta : ∀ o : Obj, Tabs (w1.drew.alloc o) := fun o => ht1.keeps ((Only.refl _ w1.drew).alloc o)
  go_wp2_with fail
  go_region_held3 (fun u => u.cell? ⟨pb, 0, none⟩ = some (.slice (some ⟨g, 0, none⟩) 1 cap)) (first | exact hp1 | exact hpa _ _ (by assumption) | assumption) ((go_at_call 43; refine (hsplit _ (by first | exact ht1 | exact hta _)).mono ?_; rintro e wS ⟨rfl, rfl⟩))
  · have hE0 := ed_new ((w1.alloc (.cells #[.string ln] 9)).alloc (.cells #[.bool false] 4)) (.slice (some ⟨g, 0, none⟩) 1 cap) (.bool q) (.slice (some ⟨w1.heap.size, 0, none⟩) 1 1) (.slice (some ⟨w1.heap.size + 1, 0, none⟩) 1 1)
    simp only [World.size_alloc] at hE0
    have oW : Only (fun _ => False) w1 (((w1.alloc (.cells #[.string ln] 9)).alloc (.cells #[.bool false] 4)).alloc (.cells #[.slice (some ⟨g, 0, none⟩) 1 cap, .bool q, .slice (some ⟨w1.heap.size, 0, none⟩) 1 1, .int .i64 0, .slice none 0 0, .slice none 0 0, .slice none 0 0, .slice (some ⟨w1.heap.size + 1, 0, none⟩) 1 1, .bool false, .int .i64 0, .bool false, .bool false, .int .i64 0, .pointer none, .slice none 0 0, .int .i64 0] 108)).drew := ((((Only.refl _ w1).alloc _).alloc _).alloc _).drew
    have hE5 := hE0.keeps (S := fun _ => False) ((Only.refl _ (((w1.alloc (.cells #[.string ln] 9)).alloc (.cells #[.bool false] 4)).alloc (.cells #[.slice (some ⟨g, 0, none⟩) 1 cap, .bool q, .slice (some ⟨w1.heap.size, 0, none⟩) 1 1, .int .i64 0, .slice none 0 0, .slice none 0 0, .slice none 0 0, .slice (some ⟨w1.heap.size + 1, 0, none⟩) 1 1, .bool false, .int .i64 0, .bool false, .bool false, .int .i64 0, .pointer none, .slice none 0 0, .int .i64 0] 108))).drew) id (fun _ _ => id)
    have hln0 : ((w1.alloc (.cells #[.string ln] 9)).alloc (.cells #[.bool false] 4)).cell? ⟨w1.heap.size, 0, none⟩ = some (.string ln) := ((Only.refl (fun _ => False) (w1.alloc (.cells #[.string ln] 9))).alloc (.cells #[.bool false] 4)).keeps ((Cells.new w1 #[.string ln] 9) 0 _ rfl).1 id
    have hln : (((w1.alloc (.cells #[.string ln] 9)).alloc (.cells #[.bool false] 4)).alloc (.cells #[.slice (some ⟨g, 0, none⟩) 1 cap, .bool q, .slice (some ⟨w1.heap.size, 0, none⟩) 1 1, .int .i64 0, .slice none 0 0, .slice none 0 0, .slice none 0 0, .slice (some ⟨w1.heap.size + 1, 0, none⟩) 1 1, .bool false, .int .i64 0, .bool false, .bool false, .int .i64 0, .pointer none, .slice none 0 0, .int .i64 0] 108)).drew.cell? ⟨w1.heap.size, 0, none⟩ = some (.string ln) := (((Only.refl (fun _ => False) ((w1.alloc (.cells #[.string ln] 9)).alloc (.cells #[.bool false] 4))).alloc (.cells #[.slice (some ⟨g, 0, none⟩) 1 cap, .bool q, .slice (some ⟨w1.heap.size, 0, none⟩) 1 1, .int .i64 0, .slice none 0 0, .slice none 0 0, .slice none 0 0, .slice (some ⟨w1.heap.size + 1, 0, none⟩) 1 1, .bool false, .int .i64 0, .bool false, .bool false, .int .i64 0, .pointer none, .slice none 0 0, .int .i64 0] 108)).drew).keeps hln0 id
    have ow5 : Only (fun _ => False) w (((w1.alloc (.cells #[.string ln] 9)).alloc (.cells #[.bool false] 4)).alloc (.cells #[.slice (some ⟨g, 0, none⟩) 1 cap, .bool q, .slice (some ⟨w1.heap.size, 0, none⟩) 1 1, .int .i64 0, .slice none 0 0, .slice none 0 0, .slice none 0 0, .slice (some ⟨w1.heap.size + 1, 0, none⟩) 1 1, .bool false, .int .i64 0, .bool false, .bool false, .int .i64 0, .pointer none, .slice none 0 0, .int .i64 0] 108)).drew := o1.trans oW (fun _ e => e) (fun _ _ e => e)
    have hc5 := hc.keeps ow5 (fun _ _ => id) (fun _ _ => id) (fun _ _ => id) (fun _ _ => id)
    clear hE0 hln0 oW hsplit hta ht1 hpa hmk
    have e0 : [.slice (some ⟨g, 0, none⟩) 1 cap, .bool q, .slice (some ⟨w1.heap.size, 0, none⟩) 1 1, .int .i64 0, .slice none 0 0, .slice none 0 0, .slice none 0 0, .slice (some ⟨w1.heap.size + 1, 0, none⟩) 1 1, .bool false, .int .i64 0, .bool false, .bool false, .int .i64 0, .pointer none, .slice none 0 0, .int .i64 0][0]? = some (Value.slice (some ⟨g, 0, none⟩) 1 cap) := rfl
    have e1 : [.slice (some ⟨g, 0, none⟩) 1 cap, .bool q, .slice (some ⟨w1.heap.size, 0, none⟩) 1 1, .int .i64 0, .slice none 0 0, .slice none 0 0, .slice none 0 0, .slice (some ⟨w1.heap.size + 1, 0, none⟩) 1 1, .bool false, .int .i64 0, .bool false, .bool false, .int .i64 0, .pointer none, .slice none 0 0, .int .i64 0][1]? = some (Value.bool q) := rfl
    have e2 : [.slice (some ⟨g, 0, none⟩) 1 cap, .bool q, .slice (some ⟨w1.heap.size, 0, none⟩) 1 1, .int .i64 0, .slice none 0 0, .slice none 0 0, .slice none 0 0, .slice (some ⟨w1.heap.size + 1, 0, none⟩) 1 1, .bool false, .int .i64 0, .bool false, .bool false, .int .i64 0, .pointer none, .slice none 0 0, .int .i64 0][2]? = some (Value.slice (some ⟨w1.heap.size, 0, none⟩) 1 1) := rfl
    have e3 : [.slice (some ⟨g, 0, none⟩) 1 cap, .bool q, .slice (some ⟨w1.heap.size, 0, none⟩) 1 1, .int .i64 0, .slice none 0 0, .slice none 0 0, .slice none 0 0, .slice (some ⟨w1.heap.size + 1, 0, none⟩) 1 1, .bool false, .int .i64 0, .bool false, .bool false, .int .i64 0, .pointer none, .slice none 0 0, .int .i64 0][3]? = some (Value.int .i64 (0 : Nat)) := rfl
    have e5 : [.slice (some ⟨g, 0, none⟩) 1 cap, .bool q, .slice (some ⟨w1.heap.size, 0, none⟩) 1 1, .int .i64 0, .slice none 0 0, .slice none 0 0, .slice none 0 0, .slice (some ⟨w1.heap.size + 1, 0, none⟩) 1 1, .bool false, .int .i64 0, .bool false, .bool false, .int .i64 0, .pointer none, .slice none 0 0, .int .i64 0][5]? = some (Value.slice none 0 0) := rfl
    have e6 : [.slice (some ⟨g, 0, none⟩) 1 cap, .bool q, .slice (some ⟨w1.heap.size, 0, none⟩) 1 1, .int .i64 0, .slice none 0 0, .slice none 0 0, .slice none 0 0, .slice (some ⟨w1.heap.size + 1, 0, none⟩) 1 1, .bool false, .int .i64 0, .bool false, .bool false, .int .i64 0, .pointer none, .slice none 0 0, .int .i64 0][6]? = some (Value.slice none 0 0) := rfl
    have e8 : [.slice (some ⟨g, 0, none⟩) 1 cap, .bool q, .slice (some ⟨w1.heap.size, 0, none⟩) 1 1, .int .i64 0, .slice none 0 0, .slice none 0 0, .slice none 0 0, .slice (some ⟨w1.heap.size + 1, 0, none⟩) 1 1, .bool false, .int .i64 0, .bool false, .bool false, .int .i64 0, .pointer none, .slice none 0 0, .int .i64 0][8]? = some (Value.bool false) := rfl
    have e11 : [.slice (some ⟨g, 0, none⟩) 1 cap, .bool q, .slice (some ⟨w1.heap.size, 0, none⟩) 1 1, .int .i64 0, .slice none 0 0, .slice none 0 0, .slice none 0 0, .slice (some ⟨w1.heap.size + 1, 0, none⟩) 1 1, .bool false, .int .i64 0, .bool false, .bool false, .int .i64 0, .pointer none, .slice none 0 0, .int .i64 0][11]? = some (Value.bool false) := rfl
    have e12 : [.slice (some ⟨g, 0, none⟩) 1 cap, .bool q, .slice (some ⟨w1.heap.size, 0, none⟩) 1 1, .int .i64 0, .slice none 0 0, .slice none 0 0, .slice none 0 0, .slice (some ⟨w1.heap.size + 1, 0, none⟩) 1 1, .bool false, .int .i64 0, .bool false, .bool false, .int .i64 0, .pointer none, .slice none 0 0, .int .i64 0][12]? = some (Value.int .i64 (0 : Nat)) := rfl
    have e15 : [.slice (some ⟨g, 0, none⟩) 1 cap, .bool q, .slice (some ⟨w1.heap.size, 0, none⟩) 1 1, .int .i64 0, .slice none 0 0, .slice none 0 0, .slice none 0 0, .slice (some ⟨w1.heap.size + 1, 0, none⟩) 1 1, .bool false, .int .i64 0, .bool false, .bool false, .int .i64 0, .pointer none, .slice none 0 0, .int .i64 0][15]? = some (Value.int .i64 0) := rfl
    have hsz5 : w.heap.size ≤ w1.heap.size + 1 + 1 := by have := o1.size; omega
    generalize ([.slice (some ⟨g, 0, none⟩) 1 cap, .bool q, .slice (some ⟨w1.heap.size, 0, none⟩) 1 1, .int .i64 0, .slice none 0 0, .slice none 0 0, .slice none 0 0, .slice (some ⟨w1.heap.size + 1, 0, none⟩) 1 1, .bool false, .int .i64 0, .bool false, .bool false, .int .i64 0, .pointer none, .slice none 0 0, .int .i64 0] : List Value) = l at *
    generalize (((w1.alloc (.cells #[.string ln] 9)).alloc (.cells #[.bool false] 4)).alloc (.cells l.toArray 108)).drew = W5 at *
    go_wp2_with fail
    go_loopg [] 1 (fun k wr => (k = 1 ∧ wr = W5) ∨ (k = 0 ∧ ∃ l', Hid (Ed wr (w1.heap.size + 1 + 1) l' (Adz.told q [] (Adz.subst (Adz.runes ln) c))) ∧ Hid (l'[15]? = some (.int .i64 0)) ∧ Hid (l'[3]? = some (.int .i64 1)) ∧ Hid (l'[2]? = some (.slice (some ⟨w1.heap.size, 0, none⟩) 1 1)) ∧ Hid (l'[11]? = some (.bool false)) ∧ Hid (Only (fun _ => False) w wr)))
    case atStart => exact Or.inl ⟨rfl, rfl⟩
    case round =>
      rcases hrel with ⟨rfl, rfl⟩ | ⟨rfl, l', h1', h2', h3', h4', h5', h6'⟩
      · have d15 := (hE5.get 15 (by omega) _ e15).1
        have d11 := (hE5.get 11 (by omega) _ e11).1
        have d2 := (hE5.get 2 (by omega) _ e2).1
        have d3 := (hE5.get 3 (by omega) _ e3).1
        have hnx := hasNext_calls (w1.heap.size + 1 + 1) 0 1 1 (some ⟨w1.heap.size, 0, none⟩) wr d2 d3
        have hcy := fun (u : World) (ou : Only (fun _ => False) wr u) => cycle_s c g cap (w1.heap.size + 1 + 1) u l [] (hE5.keeps ou id (fun _ _ => id)) (hc5.keeps ou (fun _ _ => id) (fun _ _ => id) (fun _ _ => id) (fun _ _ => id)) e0 q e1 e15 0 e12 (by omega) none 0 0 e5 (by omega) none 0 e6 w1.heap.size 0 1 1 0 ln e2 e3 (by omega) (by omega) (ou.keeps (p := ⟨w1.heap.size, 0 + 0, none⟩) hln id) hl3 false e8 hfine (by simp only [List.length_nil]; omega)
        go_wp2_with fail
        refine (goesOn_calls (w1.heap.size + 1 + 1) _ 0 d15).mono ?_
        rintro e w3 ⟨rfl, rfl⟩
        go_wp2_with fail
        refine hnx.mono ?_
        clear hnx
        rintro e w4 ⟨rfl, o4⟩
        have hdec : decide (((0 : Nat) : Int) < ((1 : Nat) : Int)) = true := by decide
        rw [hdec]
        go_wp2_with fail
        refine (hcy w4 o4).mono ?_
        clear hcy
        rintro e w6 ⟨⟨v6, rfl⟩, l', r1, r2, r3, r4, r5, r6⟩
        have oF : Only (fun _ => False) w w6 := by
          have o5 := ow5.trans o4 (fun _ e => e) (fun _ _ e => e)
          refine o5.trans r6 (fun _ e => e.elim) (fun b hb e => ?_)
          rcases e with e | e | e
          · omega
          · have := e.2; omega
          · have := e.2; omega
        go_wp2
        go_roundg 0
        case measure => omega
        case rel => exact Or.inr ⟨rfl, l', r1, r2, r3, r4.trans e2, r5.trans e11, oF⟩
      · have hE6 : Ed wr (w1.heap.size + 1 + 1) l' (Adz.told q [] (Adz.subst (Adz.runes ln) c)) := h1'
        have d15 := (hE6.get 15 (by omega) _ h2'.out).1
        have d11 := (hE6.get 11 (by omega) _ h5'.out).1
        have d2 := (hE6.get 2 (by omega) _ h4'.out).1
        have d3 := (hE6.get 3 (by omega) _ h3'.out).1
        have hnx := hasNext_calls (w1.heap.size + 1 + 1) 1 1 1 (some ⟨w1.heap.size, 0, none⟩) wr d2 d3
        have hst := fun (u : World) (ou : Only (fun _ => False) wr u) => builderString_calls (w1.heap.size + 1 + 1) u l' _ (hE6.keeps ou id (fun _ _ => id))
        have d15' := fun (u : World) (ou : Only (fun _ => False) wr u) => ou.keeps d15 id
        clear h1' h2' h3' h4' h5' hln hfine hless
        go_wp2_with fail
        refine (goesOn_calls (w1.heap.size + 1 + 1) _ 0 d15).mono ?_
        rintro e w3 ⟨rfl, rfl⟩
        go_wp2_with fail
        refine hnx.mono ?_
        clear hnx
        rintro e w4 ⟨rfl, o4⟩
        have hdec : decide (((1 : Nat) : Int) < ((1 : Nat) : Int)) = false := by decide
        rw [hdec]
        have k15 := d15' w4 o4
        go_wp2_with fail
        refine (hst w4 o4).mono ?_
        rintro e w5 ⟨rfl, o5⟩
        go_wp2
        go_ret2
        refine ⟨rfl, ?_⟩
        have o64 := h6'.out.trans o4 (fun _ e => e) (fun _ _ e => e.elim)
        refine o64.trans o5 (fun _ e => e) (fun b hb e => ?_)
        omega
  · have hE0 := ed_new ((w1.alloc (.cells #[.bool false] 4)).alloc (.cells #[.string ln] 9)) (.slice (some ⟨g, 0, none⟩) 1 cap) (.bool q) (.slice (some ⟨(w1.heap.size + 1), 0, none⟩) 1 1) (.slice (some ⟨w1.heap.size, 0, none⟩) 1 1)
    simp only [World.size_alloc] at hE0
    have oW : Only (fun _ => False) w1 (((w1.alloc (.cells #[.bool false] 4)).alloc (.cells #[.string ln] 9)).alloc (.cells #[.slice (some ⟨g, 0, none⟩) 1 cap, .bool q, .slice (some ⟨(w1.heap.size + 1), 0, none⟩) 1 1, .int .i64 0, .slice none 0 0, .slice none 0 0, .slice none 0 0, .slice (some ⟨w1.heap.size, 0, none⟩) 1 1, .bool false, .int .i64 0, .bool false, .bool false, .int .i64 0, .pointer none, .slice none 0 0, .int .i64 0] 108)).drew := ((((Only.refl _ w1).alloc _).alloc _).alloc _).drew
    have hE5 := hE0.keeps (S := fun _ => False) ((Only.refl _ (((w1.alloc (.cells #[.bool false] 4)).alloc (.cells #[.string ln] 9)).alloc (.cells #[.slice (some ⟨g, 0, none⟩) 1 cap, .bool q, .slice (some ⟨(w1.heap.size + 1), 0, none⟩) 1 1, .int .i64 0, .slice none 0 0, .slice none 0 0, .slice none 0 0, .slice (some ⟨w1.heap.size, 0, none⟩) 1 1, .bool false, .int .i64 0, .bool false, .bool false, .int .i64 0, .pointer none, .slice none 0 0, .int .i64 0] 108))).drew) id (fun _ _ => id)
    have hln0 : ((w1.alloc (.cells #[.bool false] 4)).alloc (.cells #[.string ln] 9)).cell? ⟨(w1.heap.size + 1), 0, none⟩ = some (.string ln) := by have := ((Cells.new (w1.alloc (.cells #[.bool false] 4)) #[.string ln] 9) 0 _ rfl).1; simp only [World.size_alloc] at this; exact this
    have hln : (((w1.alloc (.cells #[.bool false] 4)).alloc (.cells #[.string ln] 9)).alloc (.cells #[.slice (some ⟨g, 0, none⟩) 1 cap, .bool q, .slice (some ⟨(w1.heap.size + 1), 0, none⟩) 1 1, .int .i64 0, .slice none 0 0, .slice none 0 0, .slice none 0 0, .slice (some ⟨w1.heap.size, 0, none⟩) 1 1, .bool false, .int .i64 0, .bool false, .bool false, .int .i64 0, .pointer none, .slice none 0 0, .int .i64 0] 108)).drew.cell? ⟨(w1.heap.size + 1), 0, none⟩ = some (.string ln) := (((Only.refl (fun _ => False) ((w1.alloc (.cells #[.bool false] 4)).alloc (.cells #[.string ln] 9))).alloc (.cells #[.slice (some ⟨g, 0, none⟩) 1 cap, .bool q, .slice (some ⟨(w1.heap.size + 1), 0, none⟩) 1 1, .int .i64 0, .slice none 0 0, .slice none 0 0, .slice none 0 0, .slice (some ⟨w1.heap.size, 0, none⟩) 1 1, .bool false, .int .i64 0, .bool false, .bool false, .int .i64 0, .pointer none, .slice none 0 0, .int .i64 0] 108)).drew).keeps hln0 id
    have ow5 : Only (fun _ => False) w (((w1.alloc (.cells #[.bool false] 4)).alloc (.cells #[.string ln] 9)).alloc (.cells #[.slice (some ⟨g, 0, none⟩) 1 cap, .bool q, .slice (some ⟨(w1.heap.size + 1), 0, none⟩) 1 1, .int .i64 0, .slice none 0 0, .slice none 0 0, .slice none 0 0, .slice (some ⟨w1.heap.size, 0, none⟩) 1 1, .bool false, .int .i64 0, .bool false, .bool false, .int .i64 0, .pointer none, .slice none 0 0, .int .i64 0] 108)).drew := o1.trans oW (fun _ e => e) (fun _ _ e => e)
    have hc5 := hc.keeps ow5 (fun _ _ => id) (fun _ _ => id) (fun _ _ => id) (fun _ _ => id)
    clear hE0 hln0 oW hsplit hta ht1 hpa hmk
    have e0 : [.slice (some ⟨g, 0, none⟩) 1 cap, .bool q, .slice (some ⟨(w1.heap.size + 1), 0, none⟩) 1 1, .int .i64 0, .slice none 0 0, .slice none 0 0, .slice none 0 0, .slice (some ⟨w1.heap.size, 0, none⟩) 1 1, .bool false, .int .i64 0, .bool false, .bool false, .int .i64 0, .pointer none, .slice none 0 0, .int .i64 0][0]? = some (Value.slice (some ⟨g, 0, none⟩) 1 cap) := rfl
    have e1 : [.slice (some ⟨g, 0, none⟩) 1 cap, .bool q, .slice (some ⟨(w1.heap.size + 1), 0, none⟩) 1 1, .int .i64 0, .slice none 0 0, .slice none 0 0, .slice none 0 0, .slice (some ⟨w1.heap.size, 0, none⟩) 1 1, .bool false, .int .i64 0, .bool false, .bool false, .int .i64 0, .pointer none, .slice none 0 0, .int .i64 0][1]? = some (Value.bool q) := rfl
    have e2 : [.slice (some ⟨g, 0, none⟩) 1 cap, .bool q, .slice (some ⟨(w1.heap.size + 1), 0, none⟩) 1 1, .int .i64 0, .slice none 0 0, .slice none 0 0, .slice none 0 0, .slice (some ⟨w1.heap.size, 0, none⟩) 1 1, .bool false, .int .i64 0, .bool false, .bool false, .int .i64 0, .pointer none, .slice none 0 0, .int .i64 0][2]? = some (Value.slice (some ⟨(w1.heap.size + 1), 0, none⟩) 1 1) := rfl
    have e3 : [.slice (some ⟨g, 0, none⟩) 1 cap, .bool q, .slice (some ⟨(w1.heap.size + 1), 0, none⟩) 1 1, .int .i64 0, .slice none 0 0, .slice none 0 0, .slice none 0 0, .slice (some ⟨w1.heap.size, 0, none⟩) 1 1, .bool false, .int .i64 0, .bool false, .bool false, .int .i64 0, .pointer none, .slice none 0 0, .int .i64 0][3]? = some (Value.int .i64 (0 : Nat)) := rfl
    have e5 : [.slice (some ⟨g, 0, none⟩) 1 cap, .bool q, .slice (some ⟨(w1.heap.size + 1), 0, none⟩) 1 1, .int .i64 0, .slice none 0 0, .slice none 0 0, .slice none 0 0, .slice (some ⟨w1.heap.size, 0, none⟩) 1 1, .bool false, .int .i64 0, .bool false, .bool false, .int .i64 0, .pointer none, .slice none 0 0, .int .i64 0][5]? = some (Value.slice none 0 0) := rfl
    have e6 : [.slice (some ⟨g, 0, none⟩) 1 cap, .bool q, .slice (some ⟨(w1.heap.size + 1), 0, none⟩) 1 1, .int .i64 0, .slice none 0 0, .slice none 0 0, .slice none 0 0, .slice (some ⟨w1.heap.size, 0, none⟩) 1 1, .bool false, .int .i64 0, .bool false, .bool false, .int .i64 0, .pointer none, .slice none 0 0, .int .i64 0][6]? = some (Value.slice none 0 0) := rfl
    have e8 : [.slice (some ⟨g, 0, none⟩) 1 cap, .bool q, .slice (some ⟨(w1.heap.size + 1), 0, none⟩) 1 1, .int .i64 0, .slice none 0 0, .slice none 0 0, .slice none 0 0, .slice (some ⟨w1.heap.size, 0, none⟩) 1 1, .bool false, .int .i64 0, .bool false, .bool false, .int .i64 0, .pointer none, .slice none 0 0, .int .i64 0][8]? = some (Value.bool false) := rfl
    have e11 : [.slice (some ⟨g, 0, none⟩) 1 cap, .bool q, .slice (some ⟨(w1.heap.size + 1), 0, none⟩) 1 1, .int .i64 0, .slice none 0 0, .slice none 0 0, .slice none 0 0, .slice (some ⟨w1.heap.size, 0, none⟩) 1 1, .bool false, .int .i64 0, .bool false, .bool false, .int .i64 0, .pointer none, .slice none 0 0, .int .i64 0][11]? = some (Value.bool false) := rfl
    have e12 : [.slice (some ⟨g, 0, none⟩) 1 cap, .bool q, .slice (some ⟨(w1.heap.size + 1), 0, none⟩) 1 1, .int .i64 0, .slice none 0 0, .slice none 0 0, .slice none 0 0, .slice (some ⟨w1.heap.size, 0, none⟩) 1 1, .bool false, .int .i64 0, .bool false, .bool false, .int .i64 0, .pointer none, .slice none 0 0, .int .i64 0][12]? = some (Value.int .i64 (0 : Nat)) := rfl
    have e15 : [.slice (some ⟨g, 0, none⟩) 1 cap, .bool q, .slice (some ⟨(w1.heap.size + 1), 0, none⟩) 1 1, .int .i64 0, .slice none 0 0, .slice none 0 0, .slice none 0 0, .slice (some ⟨w1.heap.size, 0, none⟩) 1 1, .bool false, .int .i64 0, .bool false, .bool false, .int .i64 0, .pointer none, .slice none 0 0, .int .i64 0][15]? = some (Value.int .i64 0) := rfl
    have hsz5 : w.heap.size ≤ w1.heap.size + 1 + 1 := by have := o1.size; omega
    generalize ([.slice (some ⟨g, 0, none⟩) 1 cap, .bool q, .slice (some ⟨(w1.heap.size + 1), 0, none⟩) 1 1, .int .i64 0, .slice none 0 0, .slice none 0 0, .slice none 0 0, .slice (some ⟨w1.heap.size, 0, none⟩) 1 1, .bool false, .int .i64 0, .bool false, .bool false, .int .i64 0, .pointer none, .slice none 0 0, .int .i64 0] : List Value) = l at *
    generalize (((w1.alloc (.cells #[.bool false] 4)).alloc (.cells #[.string ln] 9)).alloc (.cells l.toArray 108)).drew = W5 at *
    go_wp2_with fail
    go_loopg [] 1 (fun k wr => (k = 1 ∧ wr = W5) ∨ (k = 0 ∧ ∃ l', Hid (Ed wr (w1.heap.size + 1 + 1) l' (Adz.told q [] (Adz.subst (Adz.runes ln) c))) ∧ Hid (l'[15]? = some (.int .i64 0)) ∧ Hid (l'[3]? = some (.int .i64 1)) ∧ Hid (l'[2]? = some (.slice (some ⟨(w1.heap.size + 1), 0, none⟩) 1 1)) ∧ Hid (l'[11]? = some (.bool false)) ∧ Hid (Only (fun _ => False) w wr)))
    case atStart => exact Or.inl ⟨rfl, rfl⟩
    case round =>
      rcases hrel with ⟨rfl, rfl⟩ | ⟨rfl, l', h1', h2', h3', h4', h5', h6'⟩
      · have d15 := (hE5.get 15 (by omega) _ e15).1
        have d11 := (hE5.get 11 (by omega) _ e11).1
        have d2 := (hE5.get 2 (by omega) _ e2).1
        have d3 := (hE5.get 3 (by omega) _ e3).1
        have hnx := hasNext_calls (w1.heap.size + 1 + 1) 0 1 1 (some ⟨(w1.heap.size + 1), 0, none⟩) wr d2 d3
        have hcy := fun (u : World) (ou : Only (fun _ => False) wr u) => cycle_s c g cap (w1.heap.size + 1 + 1) u l [] (hE5.keeps ou id (fun _ _ => id)) (hc5.keeps ou (fun _ _ => id) (fun _ _ => id) (fun _ _ => id) (fun _ _ => id)) e0 q e1 e15 0 e12 (by omega) none 0 0 e5 (by omega) none 0 e6 (w1.heap.size + 1) 0 1 1 0 ln e2 e3 (by omega) (by omega) (ou.keeps (p := ⟨(w1.heap.size + 1), 0 + 0, none⟩) hln id) hl3 false e8 hfine (by simp only [List.length_nil]; omega)
        go_wp2_with fail
        refine (goesOn_calls (w1.heap.size + 1 + 1) _ 0 d15).mono ?_
        rintro e w3 ⟨rfl, rfl⟩
        go_wp2_with fail
        refine hnx.mono ?_
        clear hnx
        rintro e w4 ⟨rfl, o4⟩
        have hdec : decide (((0 : Nat) : Int) < ((1 : Nat) : Int)) = true := by decide
        rw [hdec]
        go_wp2_with fail
        refine (hcy w4 o4).mono ?_
        clear hcy
        rintro e w6 ⟨⟨v6, rfl⟩, l', r1, r2, r3, r4, r5, r6⟩
        have oF : Only (fun _ => False) w w6 := by
          have o5 := ow5.trans o4 (fun _ e => e) (fun _ _ e => e)
          refine o5.trans r6 (fun _ e => e.elim) (fun b hb e => ?_)
          rcases e with e | e | e
          · omega
          · have := e.2; omega
          · have := e.2; omega
        go_wp2
        go_roundg 0
        case measure => omega
        case rel => exact Or.inr ⟨rfl, l', r1, r2, r3, r4.trans e2, r5.trans e11, oF⟩
      · have hE6 : Ed wr (w1.heap.size + 1 + 1) l' (Adz.told q [] (Adz.subst (Adz.runes ln) c)) := h1'
        have d15 := (hE6.get 15 (by omega) _ h2'.out).1
        have d11 := (hE6.get 11 (by omega) _ h5'.out).1
        have d2 := (hE6.get 2 (by omega) _ h4'.out).1
        have d3 := (hE6.get 3 (by omega) _ h3'.out).1
        have hnx := hasNext_calls (w1.heap.size + 1 + 1) 1 1 1 (some ⟨(w1.heap.size + 1), 0, none⟩) wr d2 d3
        have hst := fun (u : World) (ou : Only (fun _ => False) wr u) => builderString_calls (w1.heap.size + 1 + 1) u l' _ (hE6.keeps ou id (fun _ _ => id))
        have d15' := fun (u : World) (ou : Only (fun _ => False) wr u) => ou.keeps d15 id
        clear h1' h2' h3' h4' h5' hln hfine hless
        go_wp2_with fail
        refine (goesOn_calls (w1.heap.size + 1 + 1) _ 0 d15).mono ?_
        rintro e w3 ⟨rfl, rfl⟩
        go_wp2_with fail
        refine hnx.mono ?_
        clear hnx
        rintro e w4 ⟨rfl, o4⟩
        have hdec : decide (((1 : Nat) : Int) < ((1 : Nat) : Int)) = false := by decide
        rw [hdec]
        have k15 := d15' w4 o4
        go_wp2_with fail
        refine (hst w4 o4).mono ?_
        rintro e w5 ⟨rfl, o5⟩
        go_wp2
        go_ret2
        refine ⟨rfl, ?_⟩
        have o64 := h6'.out.trans o4 (fun _ e => e) (fun _ _ e => e.elim)
        refine o64.trans o5 (fun _ e => e) (fun b hb e => ?_)
        omega
end Go.Proofs.YtbiobhghnldckaaGreatDoor

/- Proved: a script that is one s, read and run over a text of one line. Conditions: what the script's runes are, what the s and the text ask, and what the library's variables hold. -/
namespace Go.Proofs.YtbiobhghnldckaaGreatDoor
open Go.RowKit
set_option linter.unusedVariables false

theorem one_of_prog {w : World} {pb : Nat} {c : Adz.Cmd} (h : ProgAt w pb [c]) (hw : c.what = 115) (ha : c.addrs = []) (hn : c.neg = false) : ∃ g cap, w.cell? ⟨pb, 0, none⟩ = some (.slice (some ⟨g, 0, none⟩) 1 cap) ∧ OneCmd w g c := by
  obtain ⟨qv, xs, p1, p2, p3, p4⟩ := h
  rcases p2.2 with ⟨_, h0⟩ | ⟨g, cap, cur, rfl, _, hg, hcap, _, hsz, htake⟩
  · simp at h0
  · refine ⟨g, cap, p1, ?_⟩
    match xs, p3 with
    | x0 :: x1 :: x2 :: x3 :: x4 :: x5 :: x6 :: x7 :: x8 :: x9 :: x10 :: x11 :: x12 :: x13 :: xs, p3 =>
      obtain ⟨⟨av, iv, rv, fv, tv, hx, hd⟩, _⟩ := p3
      have hcell : ∀ o u, o < 14 → (cmdCells c av iv rv fv tv)[o]? = some u → w.cell? ⟨g, o, none⟩ = some u := by
        intro o u ho hu
        rw [cell_of_row _ g o cur _ (0, 0) hg]
        rw [← hx] at hu
        have h2 : (x0 :: x1 :: x2 :: x3 :: x4 :: x5 :: x6 :: x7 :: x8 :: x9 :: x10 :: x11 :: x12 :: x13 :: xs)[o]? = some u := by
          have e : (x0 :: x1 :: x2 :: x3 :: x4 :: x5 :: x6 :: x7 :: x8 :: x9 :: x10 :: x11 :: x12 :: x13 :: xs) = [x0, x1, x2, x3, x4, x5, x6, x7, x8, x9, x10, x11, x12, x13] ++ xs := rfl
          rw [e, List.getElem?_append_left (by simp; omega)]
          exact hu
        rw [← htake, List.getElem?_take, if_pos (by simp; omega), Array.getElem?_toList] at h2
        exact h2
      obtain ⟨ivs, a1, _⟩ := hd.a
      rw [ha] at a1
      obtain ⟨aa, ac, rfl⟩ := row_shape a1
      obtain ⟨pa, pc, rfl⟩ := row_shape hd.r
      have c0 := hcell 0 _ (by omega) rfl
      have c2 := hcell 2 _ (by omega) rfl
      rw [hw] at c0
      rw [hn] at c2
      exact ⟨c0, ⟨aa, ac, hcell 1 _ (by omega) rfl⟩, c2, ⟨⟨cur, (0, 0), hg⟩, ⟨iv, hcell 6 _ (by omega) rfl, hd.i⟩, ⟨pa, pc, hcell 8 _ (by omega) rfl, hd.r⟩, hcell 9 _ (by omega) rfl, hcell 10 _ (by omega) rfl, hcell 11 _ (by omega) rfl⟩⟩

set_option maxRecDepth 100000 in
set_option maxHeartbeats 1600000 in
theorem scriptEdit_s (c : Adz.Cmd) (sb : Nat) (w : World) (ht : Tabs w) (hs : ScriptAt w sb [c]) (hw : c.what = 115) (ha : c.addrs = []) (hn : c.neg = false) (s : ByteArray) (q : Bool) (h1 : OneLine s c) :
    Calls Tryz.prog 26 #[.pointer (some ⟨sb, 0, none⟩), .string s, .bool q] w fun e w' => e = .returned (.tuple #[.string ⟨(Adz.told q [] (Adz.subst (Adz.runes (lineOf s)) c)).toArray⟩, .int .i64 0]) ∧ Only (fun _ => False) w w' := by
  obtain ⟨pb, p1, p2⟩ := hs.prog
  obtain ⟨g, cap, g1, g2⟩ := one_of_prog p2 hw ha hn
  have hcall := run_s c pb g cap w ht g1 g2 s q h1
  generalize (⟨(Adz.told q [] (Adz.subst (Adz.runes (lineOf s)) c)).toArray⟩ : ByteArray) = out at *
  go_enter Tryz.func26, Tryz.ntmps26
  go_wp2_with fail
  refine hcall.mono ?_
  rintro e w1 ⟨rfl, o1⟩
  go_wp2
  go_ret2
  exact ⟨rfl, o1⟩

/-- A script that is one s. -/
structure IsS (sc : ByteArray) (c : Adz.Cmd) : Prop where
  read : ∃ L pl, Dec sc L pl ∧ OneS L pl c
  what : c.what = 115
  addrs : c.addrs = []
  neg : c.neg = false

set_option maxRecDepth 100000 in
set_option maxHeartbeats 1600000 in
theorem edit_s (sc : ByteArray) (c : Adz.Cmd) (hsc : IsS sc c) (w : World) (ht : Tabs w) (s : ByteArray) (q : Bool) (h1 : OneLine s c) :
    Calls Tryz.prog 20 #[.string sc, .string s, .bool q] w fun e w' => e = .returned (.tuple #[.string ⟨(Adz.told q [] (Adz.subst (Adz.runes (lineOf s)) c)).toArray⟩, .bool true]) ∧ Only (fun _ => False) w w' := by
  obtain ⟨L, pl, hd, h1s⟩ := hsc.read
  have hparse := parse_s sc L pl hd c h1s w
  have hedit := fun (u : World) (hu : Tabs u) (sb : Nat) (hb : ScriptAt u sb [c]) => scriptEdit_s c sb u hu hb hsc.what hsc.addrs hsc.neg s q h1
  generalize (⟨(Adz.told q [] (Adz.subst (Adz.runes (lineOf s)) c)).toArray⟩ : ByteArray) = out at *
  go_enter Tryz.func20, Tryz.ntmps20
  go_wp2_with fail
  refine hparse.mono ?_
  rintro e w1 ⟨sb, rfl, hsb, o1, _⟩
  have hcall := hedit w1 (ht.keeps o1) sb hsb
  clear hedit hparse
  go_wp2_with fail
  refine hcall.mono ?_
  rintro e w2 ⟨rfl, o2⟩
  go_wp2
  go_ret2
  exact ⟨rfl, o1.trans o2 (fun _ e => e.elim) (fun _ _ e => e)⟩
end Go.Proofs.YtbiobhghnldckaaGreatDoor

/- Proved: what the scripts and the texts of adzekeep.Groups are, and what the scripts make of the texts: reckoned by the kernel. No condition. -/
namespace Go.Proofs.YtbiobhghnldckaaGreatDoor
open Go.RowKit
set_option linter.unusedVariables false

def placesGo (s : ByteArray) : Nat → Nat → List Int
  | 0, i => [(i : Int)]
  | b + 1, i => if i < s.size then (i : Int) :: placesGo s b (i + (Utf8.decode s i).2) else [(i : Int)]
def placesOf (s : ByteArray) : List Int := placesGo s s.size 0
def stepB (s : ByteArray) (L pl : List Int) (k : Nat) : Bool :=
  decide (0 ≤ Adz.place pl k) && decide (0 ≤ Adz.place pl (k + 1)) && decide ((Adz.place pl k).toNat < s.size) && decide (((Utf8.decode s (Adz.place pl k).toNat).1 : Int) = Adz.peek L k) && decide ((Adz.place pl k).toNat + (Utf8.decode s (Adz.place pl k).toNat).2 = (Adz.place pl (k + 1)).toNat) &&
  decide (0 ≤ Adz.peek L k) && decide (Adz.peek L k ≤ 1114111) && decide (Adz.peek L k ≠ 65533) && Lib.validRune (Adz.peek L k)
def decB (s : ByteArray) (L pl : List Int) : Bool :=
  decide (pl.length = L.length + 1) && decide (Adz.place pl 0 = 0) && decide (Adz.place pl L.length = s.size) && decide (s.size ≤ 500) && decide (L.length ≤ 500) && (List.range L.length).all (stepB s L pl)
theorem dec_of {s : ByteArray} {L pl : List Int} (h : decB s L pl = true) : Dec s L pl := by
  simp only [decB, Bool.and_eq_true, decide_eq_true_eq] at h
  obtain ⟨⟨⟨⟨⟨h1, h2⟩, h3⟩, h4⟩, h5⟩, h6⟩ := h
  have hk : ∀ k, k < L.length → stepB s L pl k = true := fun k hk => List.all_eq_true.1 h6 k (List.mem_range.2 hk)
  refine ⟨h1, h2, h3, fun k hk' => ?_, h4, h5, fun k hk' => ?_⟩
  · have := hk k hk'
    simp only [stepB, Bool.and_eq_true, decide_eq_true_eq] at this
    obtain ⟨⟨⟨⟨⟨⟨⟨⟨a1, a2⟩, a3⟩, a4⟩, a5⟩, _⟩, _⟩, _⟩, _⟩ := this
    exact ⟨(Adz.place pl k).toNat, (Adz.place pl (k + 1)).toNat, by omega, by omega, a3, a4, a5⟩
  · have := hk k hk'
    simp only [stepB, Bool.and_eq_true, decide_eq_true_eq] at this
    obtain ⟨⟨⟨⟨_, b1⟩, b2⟩, b3⟩, b4⟩ := this
    exact ⟨b1, b2, b3, b4⟩

/-- The command of a script that is one s. -/
def cmdOf (sc : ByteArray) : Adz.Cmd :=
  match Adz.command (Adz.runes sc) (placesOf sc) ⟨0, [], [], []⟩ with
  | .ok p => p.cmds.headD {}
  | .error _ => {}
def oneB : List Adz.Cmd → Bool
  | [_] => true
  | _ => false
theorem one_of : ∀ {l : List Adz.Cmd}, oneB l = true → l = [l.headD {}]
  | [], h => by simp [oneB] at h
  | [_], _ => rfl
  | _ :: _ :: _, h => by simp [oneB] at h
def cmdB (sc : ByteArray) : Bool :=
  match Adz.command (Adz.runes sc) (placesOf sc) ⟨0, [], [], []⟩ with
  | .ok p => decide (p.i = (Adz.runes sc).length) && oneB p.cmds && p.opens.isEmpty && p.labs.isEmpty
  | .error _ => false
def isSB (sc : ByteArray) : Bool :=
  decB sc (Adz.runes sc) (placesOf sc) && decide (Adz.peek (Adz.runes sc) 0 = 115) && cmdB sc && decide ((cmdOf sc).what = 115) && (cmdOf sc).addrs.isEmpty && decide ((cmdOf sc).neg = false)
theorem isS_of {sc : ByteArray} (h : isSB sc = true) : IsS sc (cmdOf sc) := by
  simp only [isSB, Bool.and_eq_true, decide_eq_true_eq, List.isEmpty_iff] at h
  obtain ⟨⟨⟨⟨⟨h1, h2⟩, h3⟩, h4⟩, h5⟩, h6⟩ := h
  refine ⟨⟨Adz.runes sc, placesOf sc, dec_of h1, h2, ?_⟩, h4, h5, h6⟩
  unfold cmdB at h3
  unfold cmdOf
  split at h3
  · rename_i p hp
    rw [hp]
    simp only [Bool.and_eq_true, decide_eq_true_eq, List.isEmpty_iff] at h3
    obtain ⟨⟨⟨a1, a2⟩, a3⟩, a4⟩ := h3
    have a2 := one_of a2
    obtain ⟨pi, pc, po, pl⟩ := p
    simp only at a1 a2 a3 a4 ⊢
    rw [← a2, a1, a3, a4]
  · simp at h3

def insideB (f t : Int) (n : Nat) : Bool := decide (0 ≤ f) && (decide (f ≤ t) && decide (t ≤ n))
theorem inside_of {f t : Int} {n : Nat} (h : insideB f t n = true) : Adz.inside f t n := by
  simp only [insideB, Bool.and_eq_true, decide_eq_true_eq] at h
  exact h
def fitsB (m : List Int) (n : Nat) (p : Adz.Part) : Bool := (decide (p.kind = 0) && decide (p.text.length ≤ 100000)) || (decide (p.kind = 1) || (decide (p.kind = 2) && (decide (1 ≤ p.group) && (decide (p.group ≤ 9) && insideB (m.getD (p.group.toNat * 2) 0) (m.getD (p.group.toNat * 2 + 1) 0) n))))
theorem fits_of {m : List Int} {n : Nat} {p : Adz.Part} (h : fitsB m n p = true) : Adz.fits m n p := by
  simp only [fitsB, Bool.or_eq_true, Bool.and_eq_true, decide_eq_true_eq] at h
  rcases h with h | h | ⟨h1, h2, h3, h4⟩
  · exact Or.inl h
  · exact Or.inr (Or.inl h)
  · exact Or.inr (Or.inr ⟨h1, h2, h3, inside_of h4⟩)
def okRunB (sp : List Int) (nth : Int) (all : Bool) (ps : List Adz.Part) : List (List Int) → Int → Nat → List Int → Bool
  | [], _, k, ch => decide (k ≤ sp.length) && decide (ch.length ≤ 20000000)
  | m :: ms, n, k, ch =>
    decide (m.length = 20) && (insideB k (m.getD 0 0) sp.length && (insideB (m.getD 0 0) (m.getD 1 0) sp.length && (decide (ch.length ≤ 20000000) && (decide (k ≤ sp.length) &&
    if n + 1 < nth then okRunB sp nth all ps ms (n + 1) k ch
    else ps.all (fitsB m sp.length) && (decide ((Adz.replAll sp m ps).length ≤ 20000000) && (decide (((ch ++ Adz.seg sp k (m.getD 0 0)) ++ Adz.replAll sp m ps).length ≤ 20000000) &&
      (!all || okRunB sp nth all ps ms (n + 1) (m.getD 1 0).toNat ((ch ++ Adz.seg sp k (m.getD 0 0)) ++ Adz.replAll sp m ps))))))))
theorem okRun_of (sp : List Int) (nth : Int) (all : Bool) (ps : List Adz.Part) : ∀ (ms : List (List Int)) (n : Int) (k : Nat) (ch : List Int), okRunB sp nth all ps ms n k ch = true → Adz.okRun sp nth all ps ms n k ch
  | [], _, k, ch, h => by
    simp only [okRunB, Bool.and_eq_true, decide_eq_true_eq] at h
    exact h
  | m :: ms, n, k, ch, h => by
    unfold okRunB at h
    unfold Adz.okRun
    simp only [Bool.and_eq_true, decide_eq_true_eq] at h
    obtain ⟨h1, h2, h3, h4, h5, h6⟩ := h
    refine ⟨h1, inside_of h2, inside_of h3, h4, h5, ?_⟩
    split
    · rename_i hn
      rw [if_pos hn] at h6
      exact okRun_of sp nth all ps ms _ _ _ h6
    · rename_i hn
      rw [if_neg hn] at h6
      simp only [Bool.and_eq_true, Bool.or_eq_true, Bool.not_eq_true', decide_eq_true_eq] at h6
      obtain ⟨g1, g2, g3, g4⟩ := h6
      refine ⟨fun p hp => fits_of (List.all_eq_true.1 g1 p hp), g2, g3, fun ha => ?_⟩
      rcases g4 with g4 | g4
      · rw [ha] at g4; cases g4
      · exact okRun_of sp nth all ps ms _ _ _ g4

def fineB (sp : List Int) (c : Adz.Cmd) : Bool :=
  decide (c.pat.items.length ≤ 1000) && c.pat.items.all (fun x => decide (x.spans.length ≤ 1000)) && decide (sp.length ≤ 400) && c.pat.items.all (fun x => decide (1 ≤ x.group ∧ x.group ≤ 9 ∨ (x.kind ≠ 2 ∧ x.kind ≠ 3))) && decide (c.repl.length ≤ 1000) && okRunB sp c.nth c.all c.repl (Adz.matches_ sp c.pat.items) 0 0 [] && decide (c.print = false) && decide ((Adz.subst sp c).length ≤ 400)
theorem fine_of {sp : List Int} {c : Adz.Cmd} (h : fineB sp c = true) : Fine sp c := by
  simp only [fineB, Bool.and_eq_true, decide_eq_true_eq] at h
  obtain ⟨⟨⟨⟨⟨⟨⟨h1, h2⟩, h3⟩, h4⟩, h5⟩, h6⟩, h7⟩, h8⟩ := h
  exact ⟨h1, fun x hx => of_decide_eq_true (List.all_eq_true.1 h2 x hx), h3, fun x hx => of_decide_eq_true (List.all_eq_true.1 h4 x hx), h5, okRun_of _ _ _ _ _ _ _ _ h6, h7, h8⟩
def lineB (s : ByteArray) (c : Adz.Cmd) : Bool :=
  simple s.data.toList && decide (s.size ≤ 24) && decide (0 < s.size) && decide ((lineOf s).size ≤ 3000) && decide (Lib.countB (lineOf s) ⟨#[10]⟩ = 0) && fineB (Adz.runes (lineOf s)) c && decide ((runesBytes (Adz.subst (Adz.runes (lineOf s)) c)).size + 1 ≤ 8000)
theorem line_of {s : ByteArray} {c : Adz.Cmd} (h : lineB s c = true) : OneLine s c := by
  simp only [lineB, Bool.and_eq_true, decide_eq_true_eq] at h
  obtain ⟨⟨⟨⟨⟨⟨h1, h2⟩, h3⟩, h4⟩, h5⟩, h6⟩, h7⟩ := h
  exact ⟨h1, h2, h3, h4, h5, rfl, fine_of h6, h7⟩
/-- What a script makes of a text. -/
def made (sc s : ByteArray) (q : Bool) : List UInt8 := Adz.told q [] (Adz.subst (Adz.runes (lineOf s)) (cmdOf sc))
def allB (sc s : ByteArray) (q : Bool) (out : List UInt8) : Bool := isSB sc && lineB s (cmdOf sc) && decide (made sc s q = out)

theorem edit_all (sc s : ByteArray) (q : Bool) (out : List UInt8) (h : allB sc s q out = true) (w : World) (ht : Tabs w) :
    Calls Tryz.prog 20 #[.string sc, .string s, .bool q] w fun e w' => e = .returned (.tuple #[.string ⟨out.toArray⟩, .bool true]) ∧ Only (fun _ => False) w w' := by
  simp only [allB, Bool.and_eq_true, decide_eq_true_eq] at h
  obtain ⟨⟨h1, h2⟩, h3⟩ := h
  rw [← h3]
  exact edit_s sc (cmdOf sc) (isS_of h1) w ht s q (line_of h2)

theorem opened1 : allB ⟨#[115, 47, 97, 47, 98, 47, 50]⟩ ⟨#[98, 97, 110, 97, 110, 97, 10]⟩ false [98, 97, 110, 98, 110, 97, 10] = true := by decide +kernel
theorem opened2 : allB ⟨#[115, 47, 97, 42, 47, 120, 47, 103]⟩ ⟨#[98, 97, 97, 99]⟩ true [] = true := by decide +kernel
end Go.Proofs.YtbiobhghnldckaaGreatDoor

/- Proved: adzekeep.opened, adzekeep.pick, adzekeep.Groups answer as they should. Conditions: what the library's variables hold. -/
namespace Go.Proofs.YtbiobhghnldckaaGreatDoor
open Go.RowKit
set_option linter.unusedVariables false

set_option maxRecDepth 100000 in
set_option maxHeartbeats 1600000 in
theorem pick_calls (c : Int) (n : Nat) (w : World) (hc : -9223372036854775808 ≤ c ∧ c ≤ 9223372036854775807) (hn : 0 < n) (hn2 : n ≤ 1000) :
    Calls Tryz.prog 22 #[.int .i64 c, .int .i64 n] w fun e w' => ∃ r : Nat, e = .returned (.int .i64 r) ∧ r < n ∧ w' = w := by
  have hn0 : (n : Int) ≠ 0 := by omega
  have key : ∀ a : Int, 0 ≤ a → ∃ r : Nat, a.tmod n = r ∧ r < n := fun a ha => by
    have h1 := Int.tmod_nonneg (n : Int) ha
    have h2 := Int.tmod_lt_of_pos a (show (0 : Int) < n by omega)
    exact ⟨(a.tmod n).toNat, by omega, by omega⟩
  by_cases h0 : c < 0
  · have w1 : IntKind.i64.wrap (c + 1) = c + 1 := by rw [IntKind.wrap_i64]; omega
    have w2 : IntKind.i64.wrap (-(c + 1)) = -(c + 1) := by rw [IntKind.wrap_i64]; omega
    obtain ⟨r, hr, hr2⟩ := key (-(c + 1)) (by omega)
    have w3 : IntKind.i64.wrap ((-(c + 1)).tmod n) = r := by rw [hr, IntKind.wrap_i64]; omega
    go_enter Tryz.func22, Tryz.ntmps22
    go_wp2
    go_ret
    exact ⟨r, rfl, hr2, rfl⟩
  · obtain ⟨r, hr, hr2⟩ := key c (by omega)
    have w3 : IntKind.i64.wrap (c.tmod n) = r := by rw [hr, IntKind.wrap_i64]; omega
    go_enter Tryz.func22, Tryz.ntmps22
    go_wp2
    go_ret
    exact ⟨r, rfl, hr2, rfl⟩

set_option maxRecDepth 100000 in
set_option maxHeartbeats 1600000 in
theorem opened_calls (w : World) (ht : Tabs w) :
    Calls Tryz.prog 18 #[] w fun e w' => e = .returned (.bool true) ∧ Only (fun _ => False) w w' := by
  have c1 := edit_all _ _ _ _ opened1 w ht
  have c2 := fun (u : World) (hu : Tabs u) => edit_all _ _ _ _ opened2 u hu
  go_enter Tryz.func18, Tryz.ntmps18
  go_wp2_with fail
  refine c1.mono ?_
  clear c1
  rintro e w1 ⟨rfl, o1⟩
  have c2' := c2 w1 (ht.keeps o1)
  clear c2
  go_wp2_with fail
  refine c2'.mono ?_
  rintro e w2 ⟨rfl, o2⟩
  go_wp2
  go_ret
  exact ⟨rfl, o1.trans o2 (fun _ e => e) (fun _ _ e => e)⟩
end Go.Proofs.YtbiobhghnldckaaGreatDoor
