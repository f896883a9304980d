/- Proved: what adzekeep.replaced makes of a text. Conditions: the texts are those of runes. -/
import Derived.Test.YtbiobhghnldckaaGreatDoorRpl1
import Derived.Test.YtbiobhghnldckaaGreatDoorK13
namespace Go.Proofs.YtbiobhghnldckaaGreatDoor
open Go.RowKit
set_option linter.unusedVariables false
attribute [local go_sem ↓] Go.wp_at_zero Go.wp_at_succ

/-- A text by its bytes. -/
def ba (l : List UInt8) : ByteArray := ⟨l.toArray⟩

theorem ba_app (a b : List UInt8) : ba a ++ ba b = ba (a ++ b) := by
  apply ba_ext2
  simp [ba]
theorem ba_size (a : List UInt8) : (ba a).size = a.length := by simp [ba, ByteArray.size]
theorem ba_cut (S : List UInt8) (i j : Nat) : (ba S).extract i j = ba ((S.drop i).take (j - i)) := by
  apply ba_ext2
  simp [ba, List.take_drop]
theorem ba_inj {a b : List UInt8} (h : ba a = ba b) : a = b := by
  have := congrArg (fun x => x.data.toList) h
  simpa [ba] using this
theorem ba_beq {a b : List UInt8} (h : ba a ≠ ba b) : (ba a == ba b) = false := by
  have e : (ba a == ba b) = (a.toArray == b.toArray) := rfl
  rw [e]
  exact beq_eq_false_iff_ne.2 (fun h2 => h (by unfold ba; rw [h2]))
theorem pre_take {x l : List UInt8} : x.isPrefixOf l = true ↔ l.take x.length = x := by
  constructor
  · intro h
    obtain ⟨t, rfl⟩ := pre_drop h
    rw [List.take_left]
  · intro h
    rw [List.isPrefixOf_iff_prefix, ← h]
    exact List.take_prefix _ _

theorem slice_ba (S : List UInt8) (i j : Nat) (h1 : i ≤ j) (h2 : j ≤ S.length) (wx : World) : (Instr.slice 9 (.string (ba S)) (some (.int .i64 (i : Int))) (some (.int .i64 (j : Int))) none).run Tryz.prog wx = .ok (.string (ba ((S.drop i).take (j - i)))) wx := by
  rw [run_slice_string wx _ (ba S) .i64 .i64 (i : Int) (j : Int) Tryz.underlying9 (by omega) (by omega) (by rw [ba_size]; omega), Int.toNat_natCast, Int.toNat_natCast, ba_cut]

set_option maxRecDepth 100000 in
set_option maxHeartbeats 3200000 in
theorem replaced_calls (S X Y : List UInt8) (k : Nat) (w : World) (hX : X ≠ []) (hS : S.length ≤ 1000) (hXl : X.length ≤ 1000) (hYl : Y.length ≤ 1000) (hk : k ≤ 100) (R : List UInt8) (hR : repX X Y k S.length 0 S = R) (hRl : R.length ≤ 4000) :
    Calls Tryz.prog 24 #[.string (ba S), .string (ba X), .string (ba Y), .int .i64 k] w fun e w' => e = .returned (.string (ba R)) ∧ Only (fun _ => False) w w' := by
  have hx0 : 0 < X.length := List.length_pos_iff.2 hX
  have zs := ba_size S
  have zx := ba_size X
  have zy := ba_size Y
  have HR : Hid (repX X Y k S.length 0 S = R) := hR
  clear hR
  go_enter Tryz.func24, Tryz.ntmps24
  go_wp2_with fail
  go_loopg [9, 10, 11] S.length (fun g ov nv iv wr => ∃ i n : Nat, ∃ O : List UInt8, ov = .string (ba O) ∧ nv = .int .i64 n ∧ iv = .int .i64 i ∧ i ≤ S.length ∧ n ≤ i ∧ wr = w ∧ Hid (i + g = S.length ∧ ∃ D, S.length ≤ i + D ∧ O ++ repX X Y k D n (S.drop i) = R))
  case atStart => exact ⟨0, 0, [], rfl, rfl, rfl, by omega, by omega, rfl, ⟨by omega, S.length, by omega, by simpa using HR.out⟩⟩
  case round =>
    obtain ⟨i, n, O, rfl, rfl, rfl, hi, hni, rfl, H⟩ := hrel
    by_cases hlt : i < S.length
    · obtain ⟨hg, D, hD, hO⟩ := H.out
      obtain ⟨D, rfl⟩ : ∃ D', D = D' + 1 := ⟨D - 1, by omega⟩
      have hol : O.length ≤ 4000 := by
        have := congrArg List.length hO
        rw [List.length_append] at this
        omega
      have zo := ba_size O
      have hcons : S.drop i = S[i] :: S.drop (i + 1) := List.drop_eq_getElem_cons hlt
      have w1 : IntKind.i64.wrap ((i : Int) + (X.length : Int)) = (i : Int) + (X.length : Int) := by rw [IntKind.wrap_i64]; omega
      have w2 : IntKind.i64.wrap ((n : Int) + 1) = (n : Int) + 1 := by rw [IntKind.wrap_i64]; omega
      have w3 : IntKind.i64.wrap ((i : Int) + 1) = (i : Int) + 1 := by rw [IntKind.wrap_i64]; omega
      have hsl1 := slice_ba S i (i + 1) (by omega) (by omega)
      rw [show i + 1 - i = 1 by omega, hcons, List.take_succ_cons, List.take_zero] at hsl1
      rw [show ((i + 1 : Nat) : Int) = (i : Int) + 1 by omega] at hsl1
      have hne1 : ∀ x : ¬ X.isPrefixOf (S.drop i) = true, (O ++ [S[i]]) ++ repX X Y k D n (S.drop (i + 1)) = R := fun hp => by
        rw [hcons] at hp hO
        rw [repX_no hp] at hO
        rw [List.append_assoc]; exact hO
      have hap1 := ba_app O [S[i]]
      by_cases hle : i + X.length ≤ S.length
      · have hle' : (i : Int) + (X.length : Int) ≤ (S.length : Int) := by omega
        have hsl := slice_ba S i (i + X.length) (by omega) hle
        rw [show i + X.length - i = X.length by omega, show ((i + X.length : Nat) : Int) = (i : Int) + (X.length : Int) by omega] at hsl
        by_cases hp : X.isPrefixOf (S.drop i) = true
        · rw [pre_take.1 hp] at hsl
          have hiX : ((i + X.length : Nat) : Int) = (i : Int) + (X.length : Int) := by omega
          by_cases hk1 : k = 0 ∨ k = n + 1
          · have hnew : (O ++ Y) ++ repX X Y k D (n + 1) (S.drop (i + X.length)) = R := by
              rw [hcons] at hp hO
              rw [repX_yes hp, if_pos hk1, ← hcons, List.drop_drop] at hO
              rw [List.append_assoc]; exact hO
            have hap := ba_app O Y
            have HN : Hid (_ = _) := hnew
            clear hO hnew hcons hp hsl1 hne1 hap1
            by_cases hk0 : k = 0
            · subst hk0
              have dk : (((0 : Nat) : Int) == 0) = true := rfl
              go_wp2
              go_roundg (S.length - (i + X.length))
              case measure => omega
              case rel => exact ⟨i + X.length, n + 1, O ++ Y, rfl, rfl, by rw [hiX], hle, by omega, rfl, ⟨by omega, D, by omega, HN.out⟩⟩
            · have dk2 : ((k : Int) == (n : Int) + 1) = true := by simp; omega
              have dk : ((k : Int) == 0) = false := by simp; omega
              go_wp2
              go_roundg (S.length - (i + X.length))
              case measure => omega
              case rel => exact ⟨i + X.length, n + 1, O ++ Y, rfl, by first | rfl | (congr 1; omega), by rw [hiX], hle, by omega, rfl, ⟨by omega, D, by omega, HN.out⟩⟩
          · have hnew : (O ++ X) ++ repX X Y k D (n + 1) (S.drop (i + X.length)) = R := by
              rw [hcons] at hp hO
              rw [repX_yes hp, if_neg hk1, ← hcons, List.drop_drop] at hO
              rw [List.append_assoc]; exact hO
            have hap := ba_app O X
            have HN : Hid (_ = _) := hnew
            have dk : ((k : Int) == 0) = false := by simp; omega
            have dk2 : ((k : Int) == (n : Int) + 1) = false := by simp; omega
            clear hO hnew hcons hp hsl1 hne1 hap1
            go_wp2
            go_roundg (S.length - (i + X.length))
            case measure => omega
            case rel => exact ⟨i + X.length, n + 1, O ++ X, rfl, rfl, by rw [hiX], hle, by omega, rfl, ⟨by omega, D, by omega, HN.out⟩⟩
        · have hnew := hne1 hp
          have HN : Hid (_ = _) := hnew
          have hbne : ((ba ((S.drop i).take X.length)).toList == (ba X).toList) = false := by
            have : ba ((S.drop i).take X.length) ≠ ba X := fun e => hp (pre_take.2 (ba_inj e))
            rw [← beq_toListBytes]
            exact ba_beq this
          clear hO hnew hcons hp hne1
          have zc : (ba [S[i]]).size = 1 := ba_size _
          generalize S[i] = c at *
          go_wp2
          go_roundg (S.length - (i + 1))
          case measure => omega
          case rel => exact ⟨i + 1, n, O ++ [c], rfl, rfl, by first | rfl | simp, by omega, by omega, rfl, ⟨by omega, D, by omega, HN.out⟩⟩
      · have hle' : ¬ ((i : Int) + (X.length : Int) ≤ (S.length : Int)) := by omega
        have hp : ¬ X.isPrefixOf (S.drop i) = true := fun h => by
          have := congrArg List.length (pre_take.1 h)
          rw [List.length_take, List.length_drop] at this
          omega
        have hnew := hne1 hp
        have HN : Hid (_ = _) := hnew
        clear hO hnew hcons hp hne1
        have zc : (ba [S[i]]).size = 1 := ba_size _
        generalize S[i] = c at *
        go_wp2
        go_roundg (S.length - (i + 1))
        case measure => omega
        case rel => exact ⟨i + 1, n, O ++ [c], rfl, rfl, by first | rfl | simp, by omega, by omega, rfl, ⟨by omega, D, by omega, HN.out⟩⟩
    · have hie : i = S.length := by omega
      subst hie
      obtain ⟨hg, D, hD, hO⟩ := H.out
      rw [List.drop_length] at hO
      have hO2 : O = R := by
        cases D with
        | zero => simpa [repX] using hO
        | succ D => simpa [repX] using hO
      subst hO2
      go_wp2
      go_ret
      exact ⟨rfl, Only.refl _ _⟩
end Go.Proofs.YtbiobhghnldckaaGreatDoor
