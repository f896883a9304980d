/- Proved: the looking for a pattern in a space is made: where each item ends, from each place. Conditions: the pattern and the space lie in memory. -/
import Derived.Test.YtbiobhghnldckaaGreatDoorMatch3
namespace Go.Proofs.YtbiobhghnldckaaGreatDoor
open Go.RowKit
set_option linter.unusedVariables false
namespace Adz
def fin (sp : List Int) (xs : List Item) (j t : Nat) : Int := ((allEnds sp xs).getD j []).getD t 0
theorem fin_last (sp : List Int) (xs : List Item) (t : Nat) (h : t ≤ sp.length) : fin sp xs xs.length t = 0 := by
  unfold fin; rw [allEnds_last, List.getD_eq_getElem?_getD, List.getElem?_replicate]; split <;> rfl
theorem fin_lt (sp : List Int) (xs : List Item) (i t : Nat) (hi : i < xs.length) (h : t < sp.length) :
    fin sp xs i t = endAt xs[i] (some (sp.getD t 0)) t sp.length (fin sp xs i (t + 1)) (fin sp xs (i + 1) (t + 1)) (fin sp xs (i + 1) t) := by
  unfold fin
  rw [allEnds_at sp xs i hi]
  exact ends_lt xs[i] sp _ (allEnds_width sp xs (i + 1) (by omega)) t h
theorem fin_eq (sp : List Int) (xs : List Item) (i : Nat) (hi : i < xs.length) :
    fin sp xs i sp.length = endAt xs[i] none sp.length sp.length 0 0 (fin sp xs (i + 1) sp.length) := by
  unfold fin
  rw [allEnds_at sp xs i hi]
  exact ends_eq xs[i] sp _ (allEnds_width sp xs (i + 1) (by omega))
end Adz

set_option maxRecDepth 100000 in
set_option maxHeartbeats 3200000 in
theorem lookIn_calls (xs : List Adz.Item) (pb po : Nat) (w : World) (iv : Value) (hp : w.cell? ⟨pb, po, none⟩ = some iv) (hi : ItemsAt w iv xs) (hk : xs.length ≤ 1000) (hf : ∀ x ∈ xs, x.spans.length ≤ 1000) (ra : Option Addr) (rc : Nat) (sp : List Int) (hr : SpaceAt w ra sp) (hn : sp.length ≤ 1000000) :
    Calls Tryz.prog 187 #[.pointer (some ⟨pb, po, none⟩), .slice ra sp.length rc] w fun e w' => ∃ sb ab base, e = .returned (.pointer (some ⟨sb, 0, none⟩)) ∧ Srch w' sb iv (.slice ra sp.length rc) (.slice (some ⟨ab, 0, none⟩) (xs.length + 1) (xs.length + 1)) ∧ Mat w' ab base (xs.length + 1) sp.length (Adz.fin sp xs) ∧ Only (fun _ => False) w w' ∧ w.heap.size ≤ sb ∧ w.heap.size ≤ base := by
  obtain ⟨svs, r1, r2⟩ := id hi
  obtain ⟨ia, ic, rfl⟩ := row_shape r1
  clear r1 r2 svs
  have hw1 : IntKind.i64.wrap ((xs.length : Int) + 1) = (xs.length : Int) + 1 := by rw [IntKind.wrap_i64]; omega
  have hw2 : IntKind.i64.wrap ((sp.length : Int) + 1) = (sp.length : Int) + 1 := by rw [IntKind.wrap_i64]; omega
  have hw3 : IntKind.i64.wrap ((xs.length : Int) - 1) = (xs.length : Int) - 1 := by rw [IntKind.wrap_i64]; omega
  have hmk : ∀ u : World, (Instr.makeSlice 77 (.int .i64 ((xs.length : Int) + 1)) (.int .i64 ((xs.length : Int) + 1))).run Tryz.prog u = .ok (.slice (some ⟨u.heap.size, 0, none⟩) (xs.length + 1) (xs.length + 1)) (u.alloc (.cells (madeCells #[.slice none 0 0] (xs.length + 1)) 35)) := by
    intro u
    have := mk_rows u (xs.length + 1) (by omega)
    rw [show (((xs.length + 1 : Nat)) : Int) = (xs.length : Int) + 1 by omega] at this
    exact this
  have hmkI : ∀ u : World, (Instr.makeSlice 35 (.int .i64 ((sp.length : Int) + 1)) (.int .i64 ((sp.length : Int) + 1))).run Tryz.prog u = .ok (.slice (some ⟨u.heap.size, 0, none⟩) (sp.length + 1) (sp.length + 1)) (u.alloc (.cells (madeCells #[.int .i64 0] (sp.length + 1)) 3)) := by
    intro u
    have := mk_ints u (sp.length + 1) (by omega)
    rw [show (((sp.length + 1 : Nat)) : Int) = (sp.length : Int) + 1 by omega] at this
    exact this
  have lp : pb < w.heap.size := World.block_lt_of_cell? w _ hp
  have hpa : ∀ o : Obj, (w.alloc o).cell? ⟨pb, po, none⟩ = some (.slice ia xs.length ic) := fun o => by rw [World.cell?_alloc_past _ _ _ lp]; exact hp
  have hpd : ∀ o : Obj, (w.alloc o).drew.cell? ⟨pb, po, none⟩ = some (.slice ia xs.length ic) := hpa
  go_enter Tryz.func187, Tryz.ntmps187
  go_wp2_with fail
  have hT0 : MatTo _ w.heap.size (w.heap.size + 2) (xs.length + 1) 0 sp.length := MatTo.made w (w.heap.size + 2) (xs.length + 1) sp.length
  have hO0 : Only (fun _ => False) w _ := (Only.refl _ w).alloc (.cells (madeCells #[.slice none 0 0] (xs.length + 1)) 35)
  have hz0 : (w.alloc (.cells (madeCells #[.slice none 0 0] (xs.length + 1)) 35)).heap.size = w.heap.size + 1 := by simp
  go_region
  generalize w.alloc (.cells (madeCells #[.slice none 0 0] (xs.length + 1)) 35) = w0 at *
  have hcN := Cells.new w0 #[.slice ia xs.length ic, .slice ra sp.length rc, .slice (some ⟨w.heap.size, 0, none⟩) (xs.length + 1) (xs.length + 1), .int .i64 0] 258
  have htN := Typ.new w0 #[.slice ia xs.length ic, .slice ra sp.length rc, .slice (some ⟨w.heap.size, 0, none⟩) (xs.length + 1) (xs.length + 1), .int .i64 0] 258 (0, 0)
  have oN : Only (fun _ => False) w0 (w0.alloc (.cells #[.slice ia xs.length ic, .slice ra sp.length rc, .slice (some ⟨w.heap.size, 0, none⟩) (xs.length + 1) (xs.length + 1), .int .i64 0] 258)).drew := ((Only.refl _ w0).alloc _).drew
  have hzN : (w0.alloc (.cells #[.slice ia xs.length ic, .slice ra sp.length rc, .slice (some ⟨w.heap.size, 0, none⟩) (xs.length + 1) (xs.length + 1), .int .i64 0] 258)).drew.heap.size = w.heap.size + 2 := by
    show (w0.alloc _).heap.size = _; simp [hz0]
  rw [hz0] at hcN htN
  have hS1 : Srch (w0.alloc (.cells #[.slice ia xs.length ic, .slice ra sp.length rc, .slice (some ⟨w.heap.size, 0, none⟩) (xs.length + 1) (xs.length + 1), .int .i64 0] 258)).drew (w.heap.size + 1) (.slice ia xs.length ic) (.slice ra sp.length rc) (.slice (some ⟨w.heap.size, 0, none⟩) (xs.length + 1) (xs.length + 1)) :=
    ⟨htN, (hcN 0 _ rfl).1, (hcN 1 _ rfl).1, (hcN 2 _ rfl).1, ⟨0, (hcN 3 _ rfl).1⟩, (hcN 3 _ rfl).2⟩
  have hT1 := hT0.keeps oN (fun _ _ => id) (fun _ _ => id)
  have hO1 : Only (fun _ => False) w _ := hO0.trans oN (fun _ e => e) (fun _ _ e => e)
  clear hcN htN oN hT0 hO0 hz0 hmk hpa hpd lp
  generalize (w0.alloc (.cells #[.slice ia xs.length ic, .slice ra sp.length rc, .slice (some ⟨w.heap.size, 0, none⟩) (xs.length + 1) (xs.length + 1), .int .i64 0] 258)).drew = w1 at *
  have q2 := hS1.ends
  go_wp2_with fail
  go_loopg [28] (xs.length + 1) (fun k v wr => ∃ j : Nat, v = .int .i64 j ∧ j + k = xs.length + 1 ∧ Hid (MatTo wr w.heap.size (w.heap.size + 2) (xs.length + 1) j sp.length) ∧ Hid (w.heap.size + 2 + j = wr.heap.size) ∧ Hid (Srch wr (w.heap.size + 1) (.slice ia xs.length ic) (.slice ra sp.length rc) (.slice (some ⟨w.heap.size, 0, none⟩) (xs.length + 1) (xs.length + 1))) ∧ Hid (Only (fun _ => False) w wr))
  case atStart => exact ⟨0, rfl, by omega, hT1, by show _ = _; omega, hS1, hO1⟩
  case round =>
    obtain ⟨j, rfl, hjk, h1, h2, h3, h4⟩ := hrel
    have HK : Hid (j + gk = xs.length + 1) := hjk
    have hT : MatTo wr w.heap.size (w.heap.size + 2) (xs.length + 1) j sp.length := h1
    have hz : w.heap.size + 2 + j = wr.heap.size := h2
    have hS : Srch wr (w.heap.size + 1) (.slice ia xs.length ic) (.slice ra sp.length rc) (.slice (some ⟨w.heap.size, 0, none⟩) (xs.length + 1) (xs.length + 1)) := h3
    have hO : Only (fun _ => False) w wr := h4
    have hjl : j ≤ xs.length + 1 := by omega
    clear hjk h1 h2 h3 h4 hT1 hS1 hO1 hzN q2
    by_cases hlt : j < xs.length + 1
    · have hb1 : (j : Int) < (xs.length : Int) + 1 := by omega
      have hwj : IntKind.i64.wrap ((j : Int) + 1) = (j : Int) + 1 := by rw [IntKind.wrap_i64]; omega
      have q2 := hS.ends
      have ls : w.heap.size + 1 < wr.heap.size := hS.typ.lt
      have la : w.heap.size < wr.heap.size := by omega
      obtain ⟨u, hu⟩ := (hT.any j hlt).1
      have huf := (hT.any j hlt).2
      have hpd : ∀ o : Obj, (wr.alloc o).drew.cell? ⟨w.heap.size + 1, 2, none⟩ = some (.slice (some ⟨w.heap.size, 0, none⟩) (xs.length + 1) (xs.length + 1)) := fun o => (World.cell?_alloc_past _ _ _ ls).trans q2
      have hua : ∀ o : Obj, (wr.alloc o).drew.cell? ⟨w.heap.size, j, none⟩ = some u := fun o => (World.cell?_alloc_past _ _ _ la).trans hu
      have hub : ∀ o : Obj, (wr.alloc o).drew.frozen? ⟨w.heap.size, j, none⟩ = false := fun o => (World.frozen?_alloc_past _ _ _ la).trans huf
      have hne0 : w.heap.size ≠ wr.heap.size := by omega
      have hTa := hT.add hlt hz
      rw [hz] at hTa
      have oa : Only (fun _ => False) w (((wr.setCell ⟨w.heap.size, j, none⟩ (.slice (some ⟨wr.heap.size, 0, none⟩) (sp.length + 1) (sp.length + 1))).alloc (.cells (madeCells #[.int .i64 0] (sp.length + 1)) 3))).drew := ((Only.setCell (p := ⟨w.heap.size, j, none⟩) hO (fun h => absurd h (by simp)) _).alloc _).drew
      have hTd := hTa.keeps (S := fun _ => False) ((Only.refl _ _).drew) (fun _ _ => id) (fun _ _ => id)
      have hSa := hS.keeps (only_set wr w.heap.size j (.slice (some ⟨wr.heap.size, 0, none⟩) (sp.length + 1) (sp.length + 1))) (by omega)
      have hSd := hSa.keeps (S := fun _ => False) (((Only.refl _ _).alloc (.cells (madeCells #[.int .i64 0] (sp.length + 1)) 3)).drew) id
      have hzd : w.heap.size + 2 + (j + 1) = (((wr.setCell ⟨w.heap.size, j, none⟩ (.slice (some ⟨wr.heap.size, 0, none⟩) (sp.length + 1) (sp.length + 1))).alloc (.cells (madeCells #[.int .i64 0] (sp.length + 1)) 3))).drew.heap.size := by
        show _ = (World.alloc _ _).heap.size
        simp [World.setCell]; omega
      have F1 : Hid _ := hTd
      have F2 : Hid _ := hSd
      have F3 : Hid _ := hzd
      have F4 : Hid _ := oa
      clear hTa hTd hSa hSd hzd oa hT hS hO hz
      go_wp2_with fail
      go_region
      all_goals
        go_wp2
        go_roundg (gk - 1)
        case measure => have := HK.out; omega
        case rel => exact ⟨j + 1, rfl, by have := HK.out; omega, F1, F3, F2, F4⟩
    · have he : j = xs.length + 1 := by omega
      subst he
      have hp' := hO.keeps hp id
      have hM := hT.full
      clear hT HK hjl hlt
      go_wp2_with fail
      go_loopg [7] xs.length (fun k v wr => k ≤ xs.length ∧ v = .int .i64 ((k : Int) - 1) ∧ ∃ F, Hid (Mat wr w.heap.size (w.heap.size + 2) (xs.length + 1) sp.length F) ∧ Hid (∀ j t, k ≤ j → j ≤ xs.length → t ≤ sp.length → F j t = Adz.fin sp xs j t) ∧ Hid (Srch wr (w.heap.size + 1) (.slice ia xs.length ic) (.slice ra sp.length rc) (.slice (some ⟨w.heap.size, 0, none⟩) (xs.length + 1) (xs.length + 1))) ∧ Hid (Only (fun _ => False) w wr))
      case atStart =>
        refine ⟨Nat.le_refl _, rfl, _, hM, ?_, hS, hO⟩
        show ∀ j t, _ → _ → _ → _
        intro j t h1 h2 h3
        have : j = xs.length := by omega
        subst this
        rw [Adz.fin_last _ _ _ h3]
      case round =>
        obtain ⟨hkk, rfl, F, h1, h2, h3, h4⟩ := hrel
        clear hM hS hO hz hp'
        rcases gk with _ | i
        · have dj : decide ((0 : Int) ≤ -1) = false := by simp
          go_wp2
          go_ret
          exact ⟨_, _, _, rfl, h3, Mat.like h1 (fun j t hj ht => h2.out j t (by omega) (by omega) ht), h4, by omega, by omega⟩
        · have ei : (((i + 1 : Nat) : Int) - 1) = (i : Int) := by omega
          rw [ei]
          have hil : i < xs.length := by omega
          go_wp2_with fail
          go_loopg [8] (sp.length + 1) (fun k v wr => k ≤ sp.length + 1 ∧ v = .int .i64 ((k : Int) - 1) ∧ ∃ F, Hid (Mat wr w.heap.size (w.heap.size + 2) (xs.length + 1) sp.length F) ∧ Hid (∀ j t, i + 1 ≤ j → j ≤ xs.length → t ≤ sp.length → F j t = Adz.fin sp xs j t) ∧ Hid (∀ t, k ≤ t → t ≤ sp.length → F i t = Adz.fin sp xs i t) ∧ Hid (Srch wr (w.heap.size + 1) (.slice ia xs.length ic) (.slice ra sp.length rc) (.slice (some ⟨w.heap.size, 0, none⟩) (xs.length + 1) (xs.length + 1))) ∧ Hid (Only (fun _ => False) w wr))
          case atStart =>
            refine ⟨Nat.le_refl _, by congr 1; omega, F, h1, h2, ?_, h3, h4⟩
            show ∀ t, _ → _ → _
            intro t g1 g2
            omega
          case round =>
            clear h1 h2 h3 h4
            obtain ⟨hk2, rfl, F, h1, h2, h2b, h3, h4⟩ := hrel
            have hM : Mat wr w.heap.size (w.heap.size + 2) (xs.length + 1) sp.length F := h1
            have hS : Srch wr (w.heap.size + 1) (.slice ia xs.length ic) (.slice ra sp.length rc) (.slice (some ⟨w.heap.size, 0, none⟩) (xs.length + 1) (xs.length + 1)) := h3
            have hO : Only (fun _ => False) w wr := h4
            clear h1 h3 h4
            have hwi : IntKind.i64.wrap ((i : Int) - 1) = (i : Int) - 1 := by rw [IntKind.wrap_i64]; omega
            rcases gk with _ | t
            · have dj : decide ((0 : Int) ≤ -1) = false := by simp
              go_wp2
              go_roundg i
              case measure => omega
              case rel =>
                refine ⟨by omega, rfl, F, hM, ?_, hS, hO⟩
                show ∀ j t, _ → _ → _ → _
                intro j t g1 g2 g3
                by_cases e : j = i
                · subst e; exact h2b.out t (by omega) g3
                · exact h2.out j t (by omega) g2 g3
            · have et : (((t + 1 : Nat) : Int) - 1) = (t : Int) := by omega
              rw [et]
              have htl : t ≤ sp.length := by omega
              have od : Only (fun _ => False) wr wr.drew := (Only.refl _ wr).drew
              have hMd := hM.keeps od (fun _ _ => id) (fun _ _ => id)
              have hSd := hS.keeps od id
              have hOd := hO.drew
              obtain ⟨ib, rfl, ti, hit⟩ := (hi.keeps hOd (fun _ _ => id) (fun _ _ => id)).get hf (by intro e; simp [e] at hil)
              obtain ⟨hx, hgc⟩ := hit i hil
              have q2 := hS.ends
              have a1 := hM.cell i (by omega)
              have a1d := hMd.cell i (by omega)
              have a2d := hMd.cell (i + 1) (by omega)
              have te := hMd.rows i (by omega)
              have te1 := hMd.rows (i + 1) (by omega)
              have hb1 : (i : Int) < (xs.length : Int) + 1 := by omega
              have hb2 : (t : Int) < (sp.length : Int) + 1 := by omega
              have hwt : IntKind.i64.wrap ((t : Int) - 1) = (t : Int) - 1 := by rw [IntKind.wrap_i64]; omega
              have ty : ∀ {T : TypeId} {c : Nat}, Typ wr.drew c T → T ≠ 258 → ¬ c = w.heap.size + 1 := fun hc hT e => by subst e; exact hT (hc.one hSd.typ)
              by_cases hlt : t < sp.length
              · obtain ⟨rb, ro, rfl, rt, rcell⟩ := (hr.keeps hOd (fun _ _ => id)) (by intro e; simp [e] at hlt)
                have hv := Adz.fin_lt sp xs i t hil hlt
                rw [← h2b.out (t + 1) (by omega) (by omega), ← h2.out (i + 1) (t + 1) (by omega) (by omega) (by omega), ← h2.out (i + 1) t (by omega) (by omega) (by omega)] at hv
                have HV : Hid _ := hv
                clear hv
                have hcall := end_lt xs[i] ib i xs.length ic wr.drew (w.heap.size + 1) w.heap.size rb ro rc sp.length t hSd hil hk hx ti rt hMd.typ hlt hn _ (rcell t hlt) (w.heap.size + 2 + i) (w.heap.size + 2 + (i + 1)) a1d a2d te te1 _ (hMd.place i (t + 1) (by omega) (by omega)).1 _ _ (hMd.place (i + 1) t (by omega) (by omega)).1 (hMd.place (i + 1) (t + 1) (by omega) (by omega)).1
                rw [← HV.out] at hcall
                clear HV hit hgc hx rcell a1d a2d te te1
                generalize hq : Adz.fin sp xs i t = q at *
                go_wp2_with fail
                go_region_with (go_at_call 201; refine hcall.mono ?_; clear hcall; rintro e w3 ⟨rfl, hO3, hS3⟩; have hM3 := hMd.keeps hO3 (fun c hc => ty hc (by decide)) (fun c hc => ty hc (by decide)); have q23 := hS3.ends; have a13 := hM3.cell i (by omega); obtain ⟨u3, f3⟩ := hM3.place i t (by omega) htl)
                all_goals
                  have hM4 := hM3.set i t (by omega) htl q
                  have hO4 : Only (fun _ => False) w _ := Only.setCell (p := ⟨w.heap.size + 2 + i, t, none⟩) (hOd.trans hO3 (fun _ e => e) (fun _ h e => by omega)) (fun h => absurd h (by simp; omega)) (.int .i64 q)
                  have hS4 := hS3.keeps (only_set w3 (w.heap.size + 2 + i) t (.int .i64 q)) (by omega)
                  have F1 : Hid _ := hM4
                  have F2 : Hid _ := hO4
                  have F3 : Hid _ := hS4
                  clear hM4 hO4 hS4 hM3 hO3 hS3 q23 a13 u3 f3 hM hMd hS hSd hO hOd
                  go_wp2
                  go_roundg t
                  case measure => omega
                  case rel =>
                    refine ⟨by omega, rfl, _, F1, ?_, ?_, F3, F2⟩
                    · show ∀ j t, _ → _ → _ → _
                      intro j s g1 g2 g3
                      rw [if_neg (by omega)]
                      exact h2.out j s g1 g2 g3
                    · show ∀ t, _ → _ → _
                      intro s g1 g2
                      by_cases e : s = t
                      · subst e; rw [if_pos ⟨rfl, rfl⟩, hq]
                      · rw [if_neg (by omega)]; exact h2b.out s (by omega) g2
              · have hte : t = sp.length := by omega
                subst hte
                have hv := Adz.fin_eq sp xs i hil
                rw [← h2.out (i + 1) sp.length (by omega) (by omega) (by omega)] at hv
                have HV : Hid _ := hv
                clear hv
                have hcall := end_eq xs[i] ib i xs.length ic wr.drew (w.heap.size + 1) w.heap.size ra rc sp.length hSd hil hk hx ti hMd.typ hn (w.heap.size + 2 + i) (w.heap.size + 2 + (i + 1)) a1d a2d te1 0 0 _ (hMd.place (i + 1) sp.length (by omega) (by omega)).1
                rw [← HV.out] at hcall
                clear HV hit hgc hx a1d a2d te te1
                generalize hq : Adz.fin sp xs i sp.length = q at *
                go_wp2_with fail
                go_region_with (go_at_call 201; refine hcall.mono ?_; clear hcall; rintro e w3 ⟨rfl, hO3, hS3⟩; have hM3 := hMd.keeps hO3 (fun c hc => ty hc (by decide)) (fun c hc => ty hc (by decide)); have q23 := hS3.ends; have a13 := hM3.cell i (by omega); obtain ⟨u3, f3⟩ := hM3.place i sp.length (by omega) htl)
                all_goals
                  have hM4 := hM3.set i sp.length (by omega) htl q
                  have hO4 : Only (fun _ => False) w _ := Only.setCell (p := ⟨w.heap.size + 2 + i, sp.length, none⟩) (hOd.trans hO3 (fun _ e => e) (fun _ h e => by omega)) (fun h => absurd h (by simp; omega)) (.int .i64 q)
                  have hS4 := hS3.keeps (only_set w3 (w.heap.size + 2 + i) sp.length (.int .i64 q)) (by omega)
                  have F1 : Hid _ := hM4
                  have F2 : Hid _ := hO4
                  have F3 : Hid _ := hS4
                  clear hM4 hO4 hS4 hM3 hO3 hS3 q23 a13 u3 f3 hM hMd hS hSd hO hOd
                  go_wp2
                  go_roundg sp.length
                  case measure => omega
                  case rel =>
                    refine ⟨by omega, rfl, _, F1, ?_, ?_, F3, F2⟩
                    · show ∀ j t, _ → _ → _ → _
                      intro j s g1 g2 g3
                      rw [if_neg (by omega)]
                      exact h2.out j s g1 g2 g3
                    · show ∀ t, _ → _ → _
                      intro s g1 g2
                      by_cases e : s = sp.length
                      · subst e; rw [if_pos ⟨rfl, rfl⟩, hq]
                      · rw [if_neg (by omega)]; exact h2b.out s (by omega) g2
end Go.Proofs.YtbiobhghnldckaaGreatDoor
