/- Proved: what adzekeep.escaped makes of a text. Conditions: the text is one of runes. -/
import Derived.Test.YtbiobhghnldckaaGreatDoorRpl2
import Derived.Test.YtbiobhghnldckaaGreatDoorK17
namespace Go.Proofs.YtbiobhghnldckaaGreatDoor
open Go.RowKit
set_option linter.unusedVariables false
attribute [local go_sem ↓] Go.wp_at_zero Go.wp_at_succ

theorem encode_tx2 {r : Int} (h : Okr r) : Utf8.encode r = tx [r] := by
  have := runesBytes_ok (l := [r]) (by intro x hx; simp at hx; subst hx; exact h)
  rw [← this]
  simp [runesBytes]
/-- The backslash ahead of a rune. -/
def escb (s : List Int) (r : Int) : List Int := if r ∈ s then [92] else []
/-- A text with backslashes. -/
def escR (s l : List Int) : List Int := l.flatMap fun r => escb s r ++ [r]
def spec1 : List Int := [92, 46, 91, 93, 40, 41, 42, 43, 63, 94, 36, 47, 45]
def spec2 : List Int := [92, 47, 38]

theorem escb_len (s : List Int) (r : Int) : (escb s r).length ≤ 1 := by unfold escb; split <;> simp
theorem escR_len (s : List Int) : ∀ l : List Int, (escR s l).length ≤ 2 * l.length
  | [] => by simp [escR]
  | r :: l => by
    have := escR_len s l
    have h1 := escb_len s r
    simp only [escR, List.flatMap_cons, List.length_append, List.length_cons, List.length_nil] at this ⊢
    omega
theorem escR_step (s l : List Int) (m : Nat) (hm : m < l.length) : escR s (l.take (m + 1)) = escR s (l.take m) ++ escb s l[m] ++ [l[m]] := by
  have e : l.take (m + 1) = l.take m ++ [l[m]] := (List.take_append_getElem hm).symm
  unfold escR
  rw [e, List.flatMap_append]
  simp only [List.flatMap_cons, List.flatMap_nil, List.append_nil, List.append_assoc]
theorem escb_yes {s : List Int} {i : Nat} {r : Int} (hi : i < s.length) (he : s[i] = r) : escb (s.take (i + 1)) r = [92] := by
  unfold escb
  rw [if_pos]
  rw [← List.take_append_getElem hi]
  simp [he]
theorem escb_no {s : List Int} {i : Nat} {r : Int} (hi : i < s.length) (he : s[i] ≠ r) : escb (s.take (i + 1)) r = escb (s.take i) r := by
  unfold escb
  have : r ∈ s.take (i + 1) ↔ r ∈ s.take i := by
    have e : s.take (i + 1) = s.take i ++ [s[i]] := (List.take_append_getElem hi).symm
    rw [e, List.mem_append, List.mem_singleton]
    exact ⟨fun h => h.elim id (fun h => absurd h.symm he), Or.inl⟩
  simp only [this]



set_option maxRecDepth 100000 in
set_option maxHeartbeats 3200000 in
theorem escaped_calls1 (l : List Int) (w : World) (hl : ∀ r ∈ l, Okr r) (h8 : l.length ≤ 8) :
    Calls Tryz.prog 25 #[.string (tx l), .bool false] w fun e w' => e = .returned (.string (tx (escR spec1 l))) ∧ Only (fun _ => False) w w' := by
  have hd := dec_tx hl (by omega)
  have hit0 := World.iter_heap w (tx l) 0
  have oi : Only (fun _ => False) w (w.iter (tx l) 0) := (Only.refl _ w).alloc _
  have HSZ : Hid ((⟨#[92, 46, 91, 93, 40, 41, 42, 43, 63, 94, 36, 47, 45]⟩ : ByteArray).size = 13) := rfl
  have HBY : Hid (∀ i, i < 13 → (byteAt (⟨#[92, 46, 91, 93, 40, 41, 42, 43, 63, 94, 36, 47, 45]⟩ : ByteArray) i : Int) = spec1.getD i 0 ∧ 0 ≤ spec1.getD i 0 ∧ spec1.getD i 0 < 128) := by show ∀ i, i < 13 → _; decide
  have HND : Hid (∀ i, i < 13 → ∀ j, j < i → spec1.getD j 0 ≠ spec1.getD i 0) := by show ∀ i, i < 13 → ∀ j, j < i → _; decide
  go_enter Tryz.func25, Tryz.ntmps25
  go_wp2_with fail
  generalize hib : w.heap.size = ib at *
  generalize w.iter (tx l) 0 = wI at *
  have hib' : w.heap.size ≤ ib := by omega
  clear hib
  go_loopg [5] l.length (fun k av wq => ∃ m : Nat, av = .string (tx (escR spec1 (l.take m))) ∧ m ≤ l.length ∧ Hid (m + k = l.length ∧ wq.heap[ib]? = some (.stringIter (tx l) (Adz.place (plc l) m).toNat) ∧ Only (fun _ => False) w wq))
  case atStart => exact ⟨0, rfl, by omega, ⟨by omega, by rw [hd.zero]; exact hit0, oi⟩⟩
  case round =>
    obtain ⟨m, rfl, hm, G⟩ := hrel
    by_cases hlm : m < l.length
    · obtain ⟨p, q, e1, e2, e3, e4, e5⟩ := hd.step m hlm
      have hnx : ∀ ty, (Instr.next (.pointer (some ⟨ib, 0, none⟩)) true ty).run Tryz.prog wr = .ok (.tuple #[.bool true, .int .i64 (Adz.place (plc l) m), .int .i32 (Adz.peek l m)]) (wr.iterAt ib (tx l) (Adz.place (plc l) (m + 1)).toNat) := fun ty => by
        have hit := G.out.2.1
        rw [e1] at hit
        have := Lib.run_next_any_at (P := Tryz.prog) wr ib (tx l) p ty hit e3
        rw [e4, e5] at this
        rw [e1, e2]
        simpa using this
      have o1 := iterAt_only wr ib (tx l) (Adz.place (plc l) (m + 1)).toNat
      have hit1 := Lib.iterAt_heap wr ib (tx l) _ (Adz.place (plc l) (m + 1)).toNat G.out.2.1
      have oq1 : Only (fun _ => False) w (wr.iterAt ib (tx l) (Adz.place (plc l) (m + 1)).toNat) := G.out.2.2.trans o1 (fun _ e => e) (fun b hb e => by omega)
      have HIT : Hid ((wr.iterAt ib (tx l) (Adz.place (plc l) (m + 1)).toNat).heap[ib]? = some (.stringIter (tx l) (Adz.place (plc l) (m + 1)).toNat)) := hit1
      have HOQ : Hid (Only (fun _ => False) w (wr.iterAt ib (tx l) (Adz.place (plc l) (m + 1)).toNat)) := oq1
      clear hit1 oq1 o1
      generalize wr.iterAt ib (tx l) (Adz.place (plc l) (m + 1)).toNat = wn at *
      have hpk : Adz.peek l m = l[m] := by simp [Adz.peek, List.getElem?_eq_getElem hlm]
      have hes := escR_step spec1 l m hlm
      have hen := encode_tx2 (hl _ (List.getElem_mem hlm))
      have hkr := hl _ (List.getElem_mem hlm)
      have hlm2 : (escR spec1 (l.take m)).length ≤ 16 := by
        have := escR_len spec1 (l.take m)
        rw [List.length_take] at this
        omega
      rw [hpk] at hnx
      have HM : Hid (m + gk = l.length) := G.out.1
      clear G
      generalize Adz.place (plc l) m = pm at *
      generalize l[m] = r at *
      clear hpk e1 e2 e3 e4 e5 hl hkr hd hit0 oi
      have HE : Hid (Utf8.encode r = tx [r]) := hen
      have HES : Hid (_ = _) := hes
      clear hen hes
      have ht16 := tx_bound _ 16 hlm2
      go_wp2_with fail
      clear hnx
      generalize (⟨#[92, 46, 91, 93, 40, 41, 42, 43, 63, 94, 36, 47, 45]⟩ : ByteArray) = SP at *
      have hsz : SP.size = 13 := HSZ.out
      clear wr
      go_loopg [5, 9] 13 (fun k av iv wq => ∃ i : Nat, iv = .int .i64 i ∧ av = .string (tx (escR spec1 (l.take m) ++ escb (spec1.take i) r)) ∧ i ≤ 13 ∧ wq = wn ∧ Hid (i + k = 13))
      case atStart => exact ⟨0, rfl, by simp [escb], by omega, rfl, (by show 0 + 13 = 13; rfl)⟩
      case round =>
        obtain ⟨i, rfl, rfl, hi, rfl, HI⟩ := hrel
        have hwi : IntKind.i64.wrap ((i : Int) + 1) = (i : Int) + 1 := by rw [IntKind.wrap_i64]; omega
        have hbi : (escR spec1 (l.take m) ++ escb (spec1.take i) r).length ≤ 24 := by
          have := escb_len (spec1.take i) r
          rw [List.length_append]; omega
        by_cases hin : i < 13
        · have di : (i : Int) < 13 := by omega
          obtain ⟨hb1, hb2, hb3⟩ := HBY.out i hin
          have hix : ∀ u, (Instr.index 9 (.string SP) (.int .i64 (i : Int))).run Tryz.prog u = .ok (.int .u8 (spec1.getD i 0)) u := fun u => by
            have := idx SP (i : Int) u (by omega) (by omega)
            rw [Int.toNat_natCast, hb1] at this
            exact this
          have hil : i < spec1.length := hin
          have hgd : spec1.getD i 0 = spec1[i] := by rw [List.getD_eq_getElem?_getD, List.getElem?_eq_getElem hil]; rfl
          have hyes := escb_yes (r := r) hil
          have hno := escb_no (r := r) hil
          rw [← hgd] at hyes hno
          have hnd : escb (spec1.take i) (spec1.getD i 0) = [] := by
            unfold escb
            rw [if_neg]
            intro hc
            obtain ⟨j, hj, he⟩ := List.getElem_of_mem hc
            rw [List.length_take] at hj
            have := HND.out i hin j (by omega)
            rw [List.getElem_take] at he
            exact this (by rw [← he, List.getD_eq_getElem?_getD, List.getElem?_eq_getElem (by omega)]; rfl)
          have hw32 : IntKind.i32.wrap (spec1.getD i 0) = spec1.getD i 0 := by rw [IntKind.wrap_i32]; omega
          clear hb1 HBY HND hgd
          generalize spec1.getD i 0 = c at *
          by_cases hcr : c = r
          · subst hcr
            have hy := hyes rfl
            clear hyes hno
            have yl0 : (escR spec1 (l.take m) ++ escb (spec1.take i) c).length ≤ 24 := hbi
            have yt0 := tx_bound (escR spec1 (l.take m) ++ escb (spec1.take i) c) 24 yl0
            have yq1 := tx_append (escR spec1 (l.take m) ++ escb (spec1.take i) c) ([92])
            rw [show tx ([92]) = ⟨#[92]⟩ by decide +kernel] at yq1
            have yl1 : (escR spec1 (l.take m) ++ escb (spec1.take i) c ++ [92]).length ≤ 25 := len_app yl0 (Nat.le_refl _)
            have yt1 := tx_bound (escR spec1 (l.take m) ++ escb (spec1.take i) c ++ [92]) 25 yl1
            clear yl0 yl1
            rw [show escR spec1 (l.take m) ++ escb (spec1.take i) c ++ [92] = escR spec1 (l.take m) ++ escb (spec1.take (i + 1)) c by rw [hy, hnd]; simp] at yq1 yt1
            clear hy hnd
            generalize tx (escR spec1 (l.take m) ++ escb (spec1.take i) c) = Y0 at *
            generalize hyL : tx (escR spec1 (l.take m) ++ escb (spec1.take (i + 1)) c) = Y1 at *
            go_wp2
            go_roundg (13 - (i + 1))
            case measure => have := HI.out; omega
            case rel => exact ⟨i + 1, by go_num, by rw [hyL], by omega, rfl, (by show i + 1 + (13 - (i + 1)) = 13; omega)⟩
          · have hy := hno hcr
            have dc : (c == r) = false := by simpa using hcr
            clear hyes hno hnd
            rw [← hy]
            generalize hyL : tx (escR spec1 (l.take m) ++ escb (spec1.take (i + 1)) r) = Y1 at *
            clear hy hbi
            go_wp2
            go_roundg (13 - (i + 1))
            case measure => have := HI.out; omega
            case rel => exact ⟨i + 1, by go_num, by rw [hyL], by omega, rfl, (by show i + 1 + (13 - (i + 1)) = 13; omega)⟩
        · have hie : i = 13 := by omega
          subst hie
          have hall : spec1.take 13 = spec1 := rfl
          rw [hall] at hbi ⊢
          have hbe := hbi
          have el0 : (escR spec1 (l.take m) ++ escb spec1 r).length ≤ 24 := hbe
          have et0 := tx_bound (escR spec1 (l.take m) ++ escb spec1 r) 24 el0
          have eq1 := tx_append (escR spec1 (l.take m) ++ escb spec1 r) ([r])
          have el1 : (escR spec1 (l.take m) ++ escb spec1 r ++ [r]).length ≤ 25 := len_app el0 (Nat.le_refl _)
          have et1 := tx_bound (escR spec1 (l.take m) ++ escb spec1 r ++ [r]) 25 el1
          clear el0 el1
          rw [← HES.out, ← HE.out] at eq1
          rw [← HES.out] at et1
          have enb : (Utf8.encode r).size ≤ 2 := by rw [HE.out]; exact tx_bound [r] 1 (by simp)
          clear HE hall HBY HND
          generalize tx (escR spec1 (l.take m) ++ escb spec1 r) = E0 at *
          generalize heL : tx (escR spec1 (l.take (m + 1))) = E1 at *
          go_wp2
          go_roundg (l.length - (m + 1))
          case measure => have := HM.out; omega
          case rel => exact ⟨m + 1, by rw [heL], by omega, ⟨by omega, HIT.out, HOQ.out⟩⟩
    · have hme : m = l.length := by omega
      subst hme
      have hend : ∀ ty, (Instr.next (.pointer (some ⟨ib, 0, none⟩)) true ty).run Tryz.prog wr = .ok (.tuple #[.bool false]) wr := fun ty =>
        Lib.run_next_end_at (P := Tryz.prog) wr ib (tx l) _ ty G.out.2.1 (by rw [hd.last]; simp)
      rw [List.take_length]
      clear hd HSZ HBY HND
      go_wp2
      go_ret
      exact ⟨rfl, G.out.2.2⟩

set_option maxRecDepth 100000 in
set_option maxHeartbeats 3200000 in
theorem escaped_calls2 (l : List Int) (w : World) (hl : ∀ r ∈ l, Okr r) (h8 : l.length ≤ 8) :
    Calls Tryz.prog 25 #[.string (tx l), .bool true] w fun e w' => e = .returned (.string (tx (escR spec2 l))) ∧ Only (fun _ => False) w w' := by
  have hd := dec_tx hl (by omega)
  have hit0 := World.iter_heap w (tx l) 0
  have oi : Only (fun _ => False) w (w.iter (tx l) 0) := (Only.refl _ w).alloc _
  have HSZ : Hid ((⟨#[92, 47, 38]⟩ : ByteArray).size = 3) := rfl
  have HBY : Hid (∀ i, i < 3 → (byteAt (⟨#[92, 47, 38]⟩ : ByteArray) i : Int) = spec2.getD i 0 ∧ 0 ≤ spec2.getD i 0 ∧ spec2.getD i 0 < 128) := by show ∀ i, i < 3 → _; decide
  have HND : Hid (∀ i, i < 3 → ∀ j, j < i → spec2.getD j 0 ≠ spec2.getD i 0) := by show ∀ i, i < 3 → ∀ j, j < i → _; decide
  go_enter Tryz.func25, Tryz.ntmps25
  go_wp2_with fail
  generalize hib : w.heap.size = ib at *
  generalize w.iter (tx l) 0 = wI at *
  have hib' : w.heap.size ≤ ib := by omega
  clear hib
  go_loopg [5] l.length (fun k av wq => ∃ m : Nat, av = .string (tx (escR spec2 (l.take m))) ∧ m ≤ l.length ∧ Hid (m + k = l.length ∧ wq.heap[ib]? = some (.stringIter (tx l) (Adz.place (plc l) m).toNat) ∧ Only (fun _ => False) w wq))
  case atStart => exact ⟨0, rfl, by omega, ⟨by omega, by rw [hd.zero]; exact hit0, oi⟩⟩
  case round =>
    obtain ⟨m, rfl, hm, G⟩ := hrel
    by_cases hlm : m < l.length
    · obtain ⟨p, q, e1, e2, e3, e4, e5⟩ := hd.step m hlm
      have hnx : ∀ ty, (Instr.next (.pointer (some ⟨ib, 0, none⟩)) true ty).run Tryz.prog wr = .ok (.tuple #[.bool true, .int .i64 (Adz.place (plc l) m), .int .i32 (Adz.peek l m)]) (wr.iterAt ib (tx l) (Adz.place (plc l) (m + 1)).toNat) := fun ty => by
        have hit := G.out.2.1
        rw [e1] at hit
        have := Lib.run_next_any_at (P := Tryz.prog) wr ib (tx l) p ty hit e3
        rw [e4, e5] at this
        rw [e1, e2]
        simpa using this
      have o1 := iterAt_only wr ib (tx l) (Adz.place (plc l) (m + 1)).toNat
      have hit1 := Lib.iterAt_heap wr ib (tx l) _ (Adz.place (plc l) (m + 1)).toNat G.out.2.1
      have oq1 : Only (fun _ => False) w (wr.iterAt ib (tx l) (Adz.place (plc l) (m + 1)).toNat) := G.out.2.2.trans o1 (fun _ e => e) (fun b hb e => by omega)
      have HIT : Hid ((wr.iterAt ib (tx l) (Adz.place (plc l) (m + 1)).toNat).heap[ib]? = some (.stringIter (tx l) (Adz.place (plc l) (m + 1)).toNat)) := hit1
      have HOQ : Hid (Only (fun _ => False) w (wr.iterAt ib (tx l) (Adz.place (plc l) (m + 1)).toNat)) := oq1
      clear hit1 oq1 o1
      generalize wr.iterAt ib (tx l) (Adz.place (plc l) (m + 1)).toNat = wn at *
      have hpk : Adz.peek l m = l[m] := by simp [Adz.peek, List.getElem?_eq_getElem hlm]
      have hes := escR_step spec2 l m hlm
      have hen := encode_tx2 (hl _ (List.getElem_mem hlm))
      have hkr := hl _ (List.getElem_mem hlm)
      have hlm2 : (escR spec2 (l.take m)).length ≤ 16 := by
        have := escR_len spec2 (l.take m)
        rw [List.length_take] at this
        omega
      rw [hpk] at hnx
      have HM : Hid (m + gk = l.length) := G.out.1
      clear G
      generalize Adz.place (plc l) m = pm at *
      generalize l[m] = r at *
      clear hpk e1 e2 e3 e4 e5 hl hkr hd hit0 oi
      have HE : Hid (Utf8.encode r = tx [r]) := hen
      have HES : Hid (_ = _) := hes
      clear hen hes
      have ht16 := tx_bound _ 16 hlm2
      go_wp2_with fail
      clear hnx
      generalize (⟨#[92, 47, 38]⟩ : ByteArray) = SP at *
      have hsz : SP.size = 3 := HSZ.out
      clear wr
      go_loopg [5, 9] 3 (fun k av iv wq => ∃ i : Nat, iv = .int .i64 i ∧ av = .string (tx (escR spec2 (l.take m) ++ escb (spec2.take i) r)) ∧ i ≤ 3 ∧ wq = wn ∧ Hid (i + k = 3))
      case atStart => exact ⟨0, rfl, by simp [escb], by omega, rfl, (by show 0 + 3 = 3; rfl)⟩
      case round =>
        obtain ⟨i, rfl, rfl, hi, rfl, HI⟩ := hrel
        have hwi : IntKind.i64.wrap ((i : Int) + 1) = (i : Int) + 1 := by rw [IntKind.wrap_i64]; omega
        have hbi : (escR spec2 (l.take m) ++ escb (spec2.take i) r).length ≤ 24 := by
          have := escb_len (spec2.take i) r
          rw [List.length_append]; omega
        by_cases hin : i < 3
        · have di : (i : Int) < 3 := by omega
          obtain ⟨hb1, hb2, hb3⟩ := HBY.out i hin
          have hix : ∀ u, (Instr.index 9 (.string SP) (.int .i64 (i : Int))).run Tryz.prog u = .ok (.int .u8 (spec2.getD i 0)) u := fun u => by
            have := idx SP (i : Int) u (by omega) (by omega)
            rw [Int.toNat_natCast, hb1] at this
            exact this
          have hil : i < spec2.length := hin
          have hgd : spec2.getD i 0 = spec2[i] := by rw [List.getD_eq_getElem?_getD, List.getElem?_eq_getElem hil]; rfl
          have hyes := escb_yes (r := r) hil
          have hno := escb_no (r := r) hil
          rw [← hgd] at hyes hno
          have hnd : escb (spec2.take i) (spec2.getD i 0) = [] := by
            unfold escb
            rw [if_neg]
            intro hc
            obtain ⟨j, hj, he⟩ := List.getElem_of_mem hc
            rw [List.length_take] at hj
            have := HND.out i hin j (by omega)
            rw [List.getElem_take] at he
            exact this (by rw [← he, List.getD_eq_getElem?_getD, List.getElem?_eq_getElem (by omega)]; rfl)
          have hw32 : IntKind.i32.wrap (spec2.getD i 0) = spec2.getD i 0 := by rw [IntKind.wrap_i32]; omega
          clear hb1 HBY HND hgd
          generalize spec2.getD i 0 = c at *
          by_cases hcr : c = r
          · subst hcr
            have hy := hyes rfl
            clear hyes hno
            have yl0 : (escR spec2 (l.take m) ++ escb (spec2.take i) c).length ≤ 24 := hbi
            have yt0 := tx_bound (escR spec2 (l.take m) ++ escb (spec2.take i) c) 24 yl0
            have yq1 := tx_append (escR spec2 (l.take m) ++ escb (spec2.take i) c) ([92])
            rw [show tx ([92]) = ⟨#[92]⟩ by decide +kernel] at yq1
            have yl1 : (escR spec2 (l.take m) ++ escb (spec2.take i) c ++ [92]).length ≤ 25 := len_app yl0 (Nat.le_refl _)
            have yt1 := tx_bound (escR spec2 (l.take m) ++ escb (spec2.take i) c ++ [92]) 25 yl1
            clear yl0 yl1
            rw [show escR spec2 (l.take m) ++ escb (spec2.take i) c ++ [92] = escR spec2 (l.take m) ++ escb (spec2.take (i + 1)) c by rw [hy, hnd]; simp] at yq1 yt1
            clear hy hnd
            generalize tx (escR spec2 (l.take m) ++ escb (spec2.take i) c) = Y0 at *
            generalize hyL : tx (escR spec2 (l.take m) ++ escb (spec2.take (i + 1)) c) = Y1 at *
            go_wp2
            go_roundg (3 - (i + 1))
            case measure => have := HI.out; omega
            case rel => exact ⟨i + 1, by go_num, by rw [hyL], by omega, rfl, (by show i + 1 + (3 - (i + 1)) = 3; omega)⟩
          · have hy := hno hcr
            have dc : (c == r) = false := by simpa using hcr
            clear hyes hno hnd
            rw [← hy]
            generalize hyL : tx (escR spec2 (l.take m) ++ escb (spec2.take (i + 1)) r) = Y1 at *
            clear hy hbi
            go_wp2
            go_roundg (3 - (i + 1))
            case measure => have := HI.out; omega
            case rel => exact ⟨i + 1, by go_num, by rw [hyL], by omega, rfl, (by show i + 1 + (3 - (i + 1)) = 3; omega)⟩
        · have hie : i = 3 := by omega
          subst hie
          have hall : spec2.take 3 = spec2 := rfl
          rw [hall] at hbi ⊢
          have hbe := hbi
          have el0 : (escR spec2 (l.take m) ++ escb spec2 r).length ≤ 24 := hbe
          have et0 := tx_bound (escR spec2 (l.take m) ++ escb spec2 r) 24 el0
          have eq1 := tx_append (escR spec2 (l.take m) ++ escb spec2 r) ([r])
          have el1 : (escR spec2 (l.take m) ++ escb spec2 r ++ [r]).length ≤ 25 := len_app el0 (Nat.le_refl _)
          have et1 := tx_bound (escR spec2 (l.take m) ++ escb spec2 r ++ [r]) 25 el1
          clear el0 el1
          rw [← HES.out, ← HE.out] at eq1
          rw [← HES.out] at et1
          have enb : (Utf8.encode r).size ≤ 2 := by rw [HE.out]; exact tx_bound [r] 1 (by simp)
          clear HE hall HBY HND
          generalize tx (escR spec2 (l.take m) ++ escb spec2 r) = E0 at *
          generalize heL : tx (escR spec2 (l.take (m + 1))) = E1 at *
          go_wp2
          go_roundg (l.length - (m + 1))
          case measure => have := HM.out; omega
          case rel => exact ⟨m + 1, by rw [heL], by omega, ⟨by omega, HIT.out, HOQ.out⟩⟩
    · have hme : m = l.length := by omega
      subst hme
      have hend : ∀ ty, (Instr.next (.pointer (some ⟨ib, 0, none⟩)) true ty).run Tryz.prog wr = .ok (.tuple #[.bool false]) wr := fun ty =>
        Lib.run_next_end_at (P := Tryz.prog) wr ib (tx l) _ ty G.out.2.1 (by rw [hd.last]; simp)
      rw [List.take_length]
      clear hd HSZ HBY HND
      go_wp2
      go_ret
      exact ⟨rfl, G.out.2.2⟩
end Go.Proofs.YtbiobhghnldckaaGreatDoor
