/- Proved: strings.ContainsRune at a text of ASCII and any well-formed rune. -/
import Derived.Test.YtbiobhghnldckaaGreatDoorProg
import Derived.Test.YtbiobhghnldckaaGreatDoorMemJ
import Derived.Test.YtbiobhghnldckaaGreatDoorSpecJ
import Derived.Test.YtbiobhghnldckaaGreatDoorShelf
import Derived.WalkKit
import Derived.WalkLawsBesides
import Derived.BigQuiet
import Derived.Deep.QuietTactic
import Derived.Deep.LoopGhost
namespace Go.Proofs.YtbiobhghnldckaaGreatDoor
open Go.RowKit
set_option linter.unusedVariables false

theorem encode_high (r : Int) (h1 : 128 ≤ r) : ∃ E : ByteArray, Utf8.encode r = E ∧ 2 ≤ E.size ∧ E.size ≤ 4 ∧ ∀ h : E.size - 1 < E.size, 128 ≤ E[E.size - 1].toNat := by
  refine ⟨_, rfl, ?_⟩
  unfold Utf8.encode
  have hc : ∀ c : Nat, c % 64 < 64 := fun c => Nat.mod_lt _ (by omega)
  have key : ∀ c : Nat, 128 ≤ (UInt8.ofNat (128 + c % 64)).toNat := fun c => by
    have := hc c
    simp [UInt8.toNat_ofNat]; omega
  generalize hcc : (if Utf8.valid r = true then r.toNat else Utf8.runeError) = c
  have hge : 128 ≤ c := by
    rw [← hcc]
    split
    · omega
    · decide
  simp only [show ¬ c < 0x80 by omega, if_false]
  split
  · exact ⟨by simp [ByteArray.size], by simp [ByteArray.size], fun h => key c⟩
  · split
    · exact ⟨by simp [ByteArray.size], by simp [ByteArray.size], fun h => key c⟩
    · exact ⟨by simp [ByteArray.size], by simp [ByteArray.size], fun h => key c⟩

theorem indexByte_miss (l : List UInt8) (c : UInt8) (h : ∀ b ∈ l, b ≠ c) : Lib.indexByte l c = -1 := by
  induction l with
  | nil => rfl
  | cons b l ih =>
    have hb := h b (by simp)
    have := ih (fun x hx => h x (by simp [hx]))
    simp [Lib.indexByte, hb, this]

theorem extract_mem {s : ByteArray} {a b : Nat} {x : UInt8} (h : x ∈ (s.extract a b).data.toList) : x ∈ s.data.toList := by
  rw [Lib.extract_data] at h
  exact List.mem_of_mem_drop (List.mem_of_mem_take h)

set_option maxRecDepth 100000 in
set_option maxHeartbeats 400000 in
theorem indexRune_high (s : ByteArray) (r : Int) (w : World) (h1 : 128 ≤ r) (h2 : r ≤ 1114111) (h3 : r ≠ 65533) (h4 : Lib.validRune r = true)
    (hsz : s.size ≤ 1000) (hasc : ∀ b ∈ s.data.toList, b.toNat < 128) :
    Calls Tryz.prog 233 #[.string s, .int .i32 r] w fun e w' => e = .returned (.int .i64 (-1)) ∧ ∃ n, w' = w.drewN n := by
  obtain ⟨E, hE, e1, e2, e3⟩ := encode_high r h1
  obtain ⟨m, hm⟩ : ∃ m, E.size = m + 1 := ⟨E.size - 1, by omega⟩
  have e3 : ∀ h : m < E.size, 128 ≤ E[m].toNat := by
    intro h
    have := e3 (by omega)
    simp only [hm, Nat.add_sub_cancel] at this
    exact this
  have b1 : decide (0 ≤ r) = true := by simp; omega
  have b2 : decide (r < 128) = false := by simp; omega
  have b3 : (r == 65533) = false := by simp; omega
  have HV : Hid (Lib.validRune r = true) := h4
  clear h4 h3
  go_enter Tryz.func233, Tryz.ntmps233
  go_wp2_with fail
  refine (Tryz.utf8_ValidRune r w).mono ?_
  rintro e w' ⟨rfl, rfl⟩
  rw [HV.out]
  go_wp2_with fail
  go_step3
  go_wp2_with fail
  go_loopg [9, 10] 0 (fun k a b wr => k = 0 ∧ a = .int .i64 m ∧ b = .int .i64 0 ∧ wr = w')
  case atStart => exact ⟨rfl, rfl, rfl, rfl⟩
  case round =>
    obtain ⟨rfl, rfl, rfl, rfl⟩ := hrel
    have hmE : m < E.size := by omega
    have hm4 : m ≤ 4 := by omega
    have hw : IntKind.i64.wrap ((m : Int) + 1) = (m : Int) + 1 := by rw [IntKind.wrap_i64]; omega
    clear hm e1 e2
    by_cases hlt : m < s.size
    · have hne : ((s[m].toNat : Int) != (E[m].toNat : Int)) = true := by
        have q1 := hasc s[m] (Array.mem_toList_iff.2 (Array.getElem_mem hlt))
        have q2 := e3 (by omega)
        rw [bne_iff_ne]; omega
      have hsl : ∀ wx, (Instr.slice 9 (.string s) (some (.int .i64 ((m : Int) + 1))) none none).run Tryz.prog wx = .ok (.string (s.extract (m + 1) s.size)) wx := fun wx => by
        rw [run_slice_string_l wx _ s Tryz.underlying9 .i64 _ (by omega) (by omega)]
        rfl
      have hcall : ∀ wx, Calls Tryz.prog 237 #[.string (s.extract (m + 1) s.size), .int .u8 (E[m].toNat : Int)] wx fun e w' => e = .returned (.int .i64 (-1)) ∧ w' = wx := fun wx => by
        have := Tryz.strings_IndexByte (s.extract (m + 1) s.size) (E[m].toNat : Int) wx
        rw [indexByte_miss _ _ (fun b hb => ?_)] at this
        · exact this
        · have q1 := hasc b (extract_mem hb)
          have q2 := e3 hmE
          intro e
          subst e
          simp at q1
          omega
      go_wp2_with fail
      go_step3
      go_wp2_with fail
      go_quiet (fail)
      go_wp2_with fail
      go_quiet ((go_at_call 237; exact (hcall _).mono (fun e w1 ⟨he, hw1⟩ => ⟨he, _, hw1⟩)))
      go_wp2_with fail
      rw [Exit.noGoto_ret]
      go_wp2
      rw [Exit.noGoto_ret]
      go_ret
      exact ⟨rfl, _, rfl⟩
    · go_wp2
      rw [Exit.noGoto_ret]
      go_ret
      exact ⟨rfl, 0, rfl⟩

theorem contains_bytes (l : List UInt8) (r : Int) (h0 : 0 ≤ r) (h1 : r < 256) : decide (0 ≤ Lib.indexByte l r.toNat.toUInt8) = (l.map (fun b => (b.toNat : Int))).contains r := by
  have hr : (r.toNat.toUInt8).toNat = r.toNat := by simp [Nat.toUInt8]; omega
  induction l with
  | nil => simp [Lib.indexByte]
  | cons b l ih =>
    have hge := Lib.indexByte_ge l r.toNat.toUInt8
    by_cases hb : b = r.toNat.toUInt8
    · have e : (b.toNat : Int) = r := by rw [hb, hr]; omega
      simp [Lib.indexByte, ← hb, e]
    · have e : ¬ r = (b.toNat : Int) := by
        intro e
        exact hb (UInt8.toNat_inj.1 (by rw [hr]; omega))
      have e2 : (r == (b.toNat : Int)) = false := by simp [e]
      rw [List.map_cons, List.contains_cons, e2, Bool.false_or, ← ih]
      simp only [Lib.indexByte, beq_iff_eq, hb, if_false]
      by_cases h9 : Lib.indexByte l r.toNat.toUInt8 = -1
      · simp [h9]
      · simp only [h9, if_false]
        exact decide_eq_decide.2 ⟨by omega, by omega⟩

/-- strings.ContainsRune at a text of ASCII, and any well-formed rune but the one that stands for what is none. -/
theorem containsRune_calls (s : ByteArray) (may : List Int) (r : Int) (w : World) (hs : s.data.toList.map (fun b => (b.toNat : Int)) = may) (hasc : ∀ c ∈ may, c < 128) (hsz : may.length ≤ 1000)
    (h0 : 0 ≤ r) (h2 : r ≤ 1114111) (h3 : r ≠ 65533) (h4 : Lib.validRune r = true) :
    Calls Tryz.prog 227 #[.string s, .int .i32 r] w fun e w' => e = .returned (.bool (may.contains r)) ∧ ∃ n, w' = w.drewN n := by
  by_cases h1 : r < 128
  · refine (Tryz.strings_ContainsRune_ascii s r w h0 h1).mono ?_
    rintro e w' ⟨rfl, rfl⟩
    rw [contains_bytes _ r h0 (by omega), hs]
    exact ⟨rfl, 0, rfl⟩
  · have hf : may.contains r = false := by
      rw [List.contains_eq_any_beq, List.any_eq_false]
      intro c hc
      have := hasc c hc
      simp; omega
    have hsz' : s.size ≤ 1000 := by
      have e : s.data.toList.length = may.length := by rw [← hs, List.length_map]
      have e2 : s.data.toList.length = s.data.size := Array.length_toList
      show s.data.size ≤ 1000
      omega
    have hb : ∀ b ∈ s.data.toList, b.toNat < 128 := by
      intro b hb
      have := hasc (b.toNat : Int) (by rw [← hs]; exact List.mem_map_of_mem hb)
      omega
    rw [hf]
    go_enter Tryz.func227, Tryz.ntmps227
    go_wp2_with fail
    refine (indexRune_high s r w (by omega) h2 h3 h4 hsz' hb).mono ?_
    rintro e w' ⟨rfl, n, rfl⟩
    go_wp2
    go_ret
    exact ⟨rfl, n, rfl⟩
end Go.Proofs.YtbiobhghnldckaaGreatDoor
