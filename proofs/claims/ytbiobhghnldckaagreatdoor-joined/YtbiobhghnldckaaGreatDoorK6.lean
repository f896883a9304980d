/- Proved: the looking for a pattern in a space is made: where each item ends, from each place. Conditions: the pattern and the space lie in memory. -/
import Derived.Test.YtbiobhghnldckaaGreatDoorK5
import Derived.Deep.MidRow
import Derived.Laws.IdiomStrings
import Derived.Laws.Cover4
namespace Go.Proofs.YtbiobhghnldckaaGreatDoor
open Go.RowKit
set_option linter.unusedVariables false
namespace Adz
def fin (sp : List Int) (xs : List Item) (j t : Nat) : Int := ((allEnds sp xs).getD j []).getD t 0
theorem fin_last (sp : List Int) (xs : List Item) (t : Nat) (h : t ≤ sp.length) : fin sp xs xs.length t = 0 := by
  unfold fin; rw [allEnds_last, List.getD_eq_getElem?_getD, List.getElem?_replicate]; split <;> rfl
theorem fin_lt (sp : List Int) (xs : List Item) (i t : Nat) (hi : i < xs.length) (h : t < sp.length) :
    fin sp xs i t = endAt xs[i] (some (sp.getD t 0)) t sp.length (fin sp xs i (t + 1)) (fin sp xs (i + 1) (t + 1)) (fin sp xs (i + 1) t) := by
  unfold fin
  rw [allEnds_at sp xs i hi]
  exact ends_lt xs[i] sp _ (allEnds_width sp xs (i + 1) (by omega)) t h
theorem fin_eq (sp : List Int) (xs : List Item) (i : Nat) (hi : i < xs.length) :
    fin sp xs i sp.length = endAt xs[i] none sp.length sp.length 0 0 (fin sp xs (i + 1) sp.length) := by
  unfold fin
  rw [allEnds_at sp xs i hi]
  exact ends_eq xs[i] sp _ (allEnds_width sp xs (i + 1) (by omega))
end Adz

set_option maxRecDepth 100000 in
set_option maxHeartbeats 3200000 in
theorem lookIn_calls (xs : List Adz.Item) (pb po : Nat) (w : World) (iv : Value) (hp : w.cell? ⟨pb, po, none⟩ = some iv) (hi : ItemsAt w iv xs) (hk : xs.length ≤ 1000) (hf : ∀ x ∈ xs, x.spans.length ≤ 1000) (ra : Option Addr) (rc : Nat) (sp : List Int) (hr : SpaceAt w ra sp) (hn : sp.length ≤ 1000000) :
    Calls Tryz.prog 187 #[.pointer (some ⟨pb, po, none⟩), .slice ra sp.length rc] w fun e w' => ∃ sb ab base, e = .returned (.pointer (some ⟨sb, 0, none⟩)) ∧ Srch w' sb iv (.slice ra sp.length rc) (.slice (some ⟨ab, 0, none⟩) (xs.length + 1) (xs.length + 1)) ∧ Mat w' ab base (xs.length + 1) sp.length (Adz.fin sp xs) ∧ Only (fun _ => False) w w' ∧ w.heap.size ≤ sb ∧ w.heap.size ≤ base := by
  obtain ⟨svs, r1, r2⟩ := id hi
  obtain ⟨ia, ic, rfl⟩ := row_shape r1
  clear r1 r2 svs
  have hw1 : IntKind.i64.wrap ((xs.length : Int) + 1) = (xs.length : Int) + 1 := by rw [IntKind.wrap_i64]; omega
  have hw2 : IntKind.i64.wrap ((sp.length : Int) + 1) = (sp.length : Int) + 1 := by rw [IntKind.wrap_i64]; omega
  have hw3 : IntKind.i64.wrap ((xs.length : Int) - 1) = (xs.length : Int) - 1 := by rw [IntKind.wrap_i64]; omega
  have hmk : ∀ u : World, (Instr.makeSlice 77 (.int .i64 ((xs.length : Int) + 1)) (.int .i64 ((xs.length : Int) + 1))).run Tryz.prog u = .ok (.slice (some ⟨u.heap.size, 0, none⟩) (xs.length + 1) (xs.length + 1)) (u.alloc (.cells (madeCells #[.slice none 0 0] (xs.length + 1)) 35)) := by
    intro u
    have := mk_rows u (xs.length + 1) (by omega)
    rw [show (((xs.length + 1 : Nat)) : Int) = (xs.length : Int) + 1 by omega] at this
    exact this
  have hmkI : ∀ u : World, (Instr.makeSlice 35 (.int .i64 ((sp.length : Int) + 1)) (.int .i64 ((sp.length : Int) + 1))).run Tryz.prog u = .ok (.slice (some ⟨u.heap.size, 0, none⟩) (sp.length + 1) (sp.length + 1)) (u.alloc (.cells (madeCells #[.int .i64 0] (sp.length + 1)) 3)) := by
    intro u
    have := mk_ints u (sp.length + 1) (by omega)
    rw [show (((sp.length + 1 : Nat)) : Int) = (sp.length : Int) + 1 by omega] at this
    exact this
  have lp : pb < w.heap.size := World.block_lt_of_cell? w _ hp
  have hpa : ∀ o : Obj, (w.alloc o).cell? ⟨pb, po, none⟩ = some (.slice ia xs.length ic) := fun o => by rw [World.cell?_alloc_past _ _ _ lp]; exact hp
  have hpd : ∀ o : Obj, (w.alloc o).drew.cell? ⟨pb, po, none⟩ = some (.slice ia xs.length ic) := hpa
  go_enter Tryz.func187, Tryz.ntmps187
  go_wp2_with fail
  have hT0 : MatTo _ w.heap.size (w.heap.size + 2) (xs.length + 1) 0 sp.length := MatTo.made w (w.heap.size + 2) (xs.length + 1) sp.length
  have hO0 : Only (fun _ => False) w _ := (Only.refl _ w).alloc (.cells (madeCells #[.slice none 0 0] (xs.length + 1)) 35)
  have hz0 : (w.alloc (.cells (madeCells #[.slice none 0 0] (xs.length + 1)) 35)).heap.size = w.heap.size + 1 := by simp
  go_region
  generalize w.alloc (.cells (madeCells #[.slice none 0 0] (xs.length + 1)) 35) = w0 at *
  have hcN := Cells.new w0 #[.slice ia xs.length ic, .slice ra sp.length rc, .slice (some ⟨w.heap.size, 0, none⟩) (xs.length + 1) (xs.length + 1), .int .i64 0] 258
  have htN := Typ.new w0 #[.slice ia xs.length ic, .slice ra sp.length rc, .slice (some ⟨w.heap.size, 0, none⟩) (xs.length + 1) (xs.length + 1), .int .i64 0] 258 (0, 0)
  have oN : Only (fun _ => False) w0 (w0.alloc (.cells #[.slice ia xs.length ic, .slice ra sp.length rc, .slice (some ⟨w.heap.size, 0, none⟩) (xs.length + 1) (xs.length + 1), .int .i64 0] 258)).drew := ((Only.refl _ w0).alloc _).drew
  have hzN : (w0.alloc (.cells #[.slice ia xs.length ic, .slice ra sp.length rc, .slice (some ⟨w.heap.size, 0, none⟩) (xs.length + 1) (xs.length + 1), .int .i64 0] 258)).drew.heap.size = w.heap.size + 2 := by
    show (w0.alloc _).heap.size = _; simp [hz0]
  rw [hz0] at hcN htN
  have hS1 : Srch (w0.alloc (.cells #[.slice ia xs.length ic, .slice ra sp.length rc, .slice (some ⟨w.heap.size, 0, none⟩) (xs.length + 1) (xs.length + 1), .int .i64 0] 258)).drew (w.heap.size + 1) (.slice ia xs.length ic) (.slice ra sp.length rc) (.slice (some ⟨w.heap.size, 0, none⟩) (xs.length + 1) (xs.length + 1)) :=
    ⟨htN, (hcN 0 _ rfl).1, (hcN 1 _ rfl).1, (hcN 2 _ rfl).1, ⟨0, (hcN 3 _ rfl).1⟩, (hcN 3 _ rfl).2⟩
  have hT1 := hT0.keeps oN (fun _ _ => id) (fun _ _ => id)
  have hO1 : Only (fun _ => False) w _ := hO0.trans oN (fun _ e => e) (fun _ _ e => e)
  clear hcN htN oN hT0 hO0 hz0 hmk hpa hpd lp
  generalize (w0.alloc (.cells #[.slice ia xs.length ic, .slice ra sp.length rc, .slice (some ⟨w.heap.size, 0, none⟩) (xs.length + 1) (xs.length + 1), .int .i64 0] 258)).drew = w1 at *
  have q2 := hS1.ends
  go_wp2_with fail
  go_loopg [28] (xs.length + 1) (fun k v wr => ∃ j : Nat, v = .int .i64 j ∧ j + k = xs.length + 1 ∧ Hid (MatTo wr w.heap.size (w.heap.size + 2) (xs.length + 1) j sp.length) ∧ Hid (w.heap.size + 2 + j = wr.heap.size) ∧ Hid (Srch wr (w.heap.size + 1) (.slice ia xs.length ic) (.slice ra sp.length rc) (.slice (some ⟨w.heap.size, 0, none⟩) (xs.length + 1) (xs.length + 1))) ∧ Hid (Only (fun _ => False) w wr))
  case atStart => exact ⟨0, rfl, by omega, hT1, by show _ = _; omega, hS1, hO1⟩
  case round =>
    obtain ⟨j, rfl, hjk, h1, h2, h3, h4⟩ := hrel
    have HK : Hid (j + gk = xs.length + 1) := hjk
    have hT : MatTo wr w.heap.size (w.heap.size + 2) (xs.length + 1) j sp.length := h1
    have hz : w.heap.size + 2 + j = wr.heap.size := h2
    have hS : Srch wr (w.heap.size + 1) (.slice ia xs.length ic) (.slice ra sp.length rc) (.slice (some ⟨w.heap.size, 0, none⟩) (xs.length + 1) (xs.length + 1)) := h3
    have hO : Only (fun _ => False) w wr := h4
    have hjl : j ≤ xs.length + 1 := by omega
    clear hjk h1 h2 h3 h4 hT1 hS1 hO1 hzN q2
    by_cases hlt : j < xs.length + 1
    · have hb1 : (j : Int) < (xs.length : Int) + 1 := by omega
      have hwj : IntKind.i64.wrap ((j : Int) + 1) = (j : Int) + 1 := by rw [IntKind.wrap_i64]; omega
      have q2 := hS.ends
      have ls : w.heap.size + 1 < wr.heap.size := hS.typ.lt
      have la : w.heap.size < wr.heap.size := by omega
      obtain ⟨u, hu⟩ := (hT.any j hlt).1
      have huf := (hT.any j hlt).2
      have hpd : ∀ o : Obj, (wr.alloc o).drew.cell? ⟨w.heap.size + 1, 2, none⟩ = some (.slice (some ⟨w.heap.size, 0, none⟩) (xs.length + 1) (xs.length + 1)) := fun o => (World.cell?_alloc_past _ _ _ ls).trans q2
      have hua : ∀ o : Obj, (wr.alloc o).drew.cell? ⟨w.heap.size, j, none⟩ = some u := fun o => (World.cell?_alloc_past _ _ _ la).trans hu
      have hub : ∀ o : Obj, (wr.alloc o).drew.frozen? ⟨w.heap.size, j, none⟩ = false := fun o => (World.frozen?_alloc_past _ _ _ la).trans huf
      have hne0 : w.heap.size ≠ wr.heap.size := by omega
      have hTa := hT.add hlt hz
      rw [hz] at hTa
      have oa : Only (fun _ => False) w (((wr.setCell ⟨w.heap.size, j, none⟩ (.slice (some ⟨wr.heap.size, 0, none⟩) (sp.length + 1) (sp.length + 1))).alloc (.cells (madeCells #[.int .i64 0] (sp.length + 1)) 3))).drew := ((Only.setCell (p := ⟨w.heap.size, j, none⟩) hO (fun h => absurd h (by simp)) _).alloc _).drew
      have hTd := hTa.keeps (S := fun _ => False) ((Only.refl _ _).drew) (fun _ _ => id) (fun _ _ => id)
      have hSa := hS.keeps (only_set wr w.heap.size j (.slice (some ⟨wr.heap.size, 0, none⟩) (sp.length + 1) (sp.length + 1))) (by omega)
      have hSd := hSa.keeps (S := fun _ => False) (((Only.refl _ _).alloc (.cells (madeCells #[.int .i64 0] (sp.length + 1)) 3)).drew) id
      have hzd : w.heap.size + 2 + (j + 1) = (((wr.setCell ⟨w.heap.size, j, none⟩ (.slice (some ⟨wr.heap.size, 0, none⟩) (sp.length + 1) (sp.length + 1))).alloc (.cells (madeCells #[.int .i64 0] (sp.length + 1)) 3))).drew.heap.size := by
        show _ = (World.alloc _ _).heap.size
        simp [World.setCell]; omega
      have F1 : Hid _ := hTd
      have F2 : Hid _ := hSd
      have F3 : Hid _ := hzd
      have F4 : Hid _ := oa
      clear hTa hTd hSa hSd hzd oa hT hS hO hz
      go_wp2_with fail
      go_region
      all_goals
        go_wp2
        go_roundg (gk - 1)
        case measure => have := HK.out; omega
        case rel => exact ⟨j + 1, rfl, by have := HK.out; omega, F1, F3, F2, F4⟩
    · have he : j = xs.length + 1 := by omega
      subst he
      have hp' := hO.keeps hp id
      have hM := hT.full
      clear hT HK hjl hlt
      go_wp2_with fail
      go_loopg [7] xs.length (fun k v wr => k ≤ xs.length ∧ v = .int .i64 ((k : Int) - 1) ∧ ∃ F, Hid (Mat wr w.heap.size (w.heap.size + 2) (xs.length + 1) sp.length F) ∧ Hid (∀ j t, k ≤ j → j ≤ xs.length → t ≤ sp.length → F j t = Adz.fin sp xs j t) ∧ Hid (Srch wr (w.heap.size + 1) (.slice ia xs.length ic) (.slice ra sp.length rc) (.slice (some ⟨w.heap.size, 0, none⟩) (xs.length + 1) (xs.length + 1))) ∧ Hid (Only (fun _ => False) w wr))
      case atStart =>
        refine ⟨Nat.le_refl _, rfl, _, hM, ?_, hS, hO⟩
        show ∀ j t, _ → _ → _ → _
        intro j t h1 h2 h3
        have : j = xs.length := by omega
        subst this
        rw [Adz.fin_last _ _ _ h3]
      case round =>
        obtain ⟨hkk, rfl, F, h1, h2, h3, h4⟩ := hrel
        clear hM hS hO hz hp'
        rcases gk with _ | i
        · have dj : decide ((0 : Int) ≤ -1) = false := by simp
          go_wp2
          go_ret
          exact ⟨_, _, _, rfl, h3, Mat.like h1 (fun j t hj ht => h2.out j t (by omega) (by omega) ht), h4, by omega, by omega⟩
        · have ei : (((i + 1 : Nat) : Int) - 1) = (i : Int) := by omega
          rw [ei]
          have hil : i < xs.length := by omega
          go_wp2_with fail
          go_loopg [8] (sp.length + 1) (fun k v wr => k ≤ sp.length + 1 ∧ v = .int .i64 ((k : Int) - 1) ∧ ∃ F, Hid (Mat wr w.heap.size (w.heap.size + 2) (xs.length + 1) sp.length F) ∧ Hid (∀ j t, i + 1 ≤ j → j ≤ xs.length → t ≤ sp.length → F j t = Adz.fin sp xs j t) ∧ Hid (∀ t, k ≤ t → t ≤ sp.length → F i t = Adz.fin sp xs i t) ∧ Hid (Srch wr (w.heap.size + 1) (.slice ia xs.length ic) (.slice ra sp.length rc) (.slice (some ⟨w.heap.size, 0, none⟩) (xs.length + 1) (xs.length + 1))) ∧ Hid (Only (fun _ => False) w wr))
          case atStart =>
            refine ⟨Nat.le_refl _, by congr 1; omega, F, h1, h2, ?_, h3, h4⟩
            show ∀ t, _ → _ → _
            intro t g1 g2
            omega
          case round =>
            clear h1 h2 h3 h4
            obtain ⟨hk2, rfl, F, h1, h2, h2b, h3, h4⟩ := hrel
            have hM : Mat wr w.heap.size (w.heap.size + 2) (xs.length + 1) sp.length F := h1
            have hS : Srch wr (w.heap.size + 1) (.slice ia xs.length ic) (.slice ra sp.length rc) (.slice (some ⟨w.heap.size, 0, none⟩) (xs.length + 1) (xs.length + 1)) := h3
            have hO : Only (fun _ => False) w wr := h4
            clear h1 h3 h4
            have hwi : IntKind.i64.wrap ((i : Int) - 1) = (i : Int) - 1 := by rw [IntKind.wrap_i64]; omega
            rcases gk with _ | t
            · have dj : decide ((0 : Int) ≤ -1) = false := by simp
              go_wp2
              go_roundg i
              case measure => omega
              case rel =>
                refine ⟨by omega, rfl, F, hM, ?_, hS, hO⟩
                show ∀ j t, _ → _ → _ → _
                intro j t g1 g2 g3
                by_cases e : j = i
                · subst e; exact h2b.out t (by omega) g3
                · exact h2.out j t (by omega) g2 g3
            · have et : (((t + 1 : Nat) : Int) - 1) = (t : Int) := by omega
              rw [et]
              have htl : t ≤ sp.length := by omega
              have od : Only (fun _ => False) wr wr.drew := (Only.refl _ wr).drew
              have hMd := hM.keeps od (fun _ _ => id) (fun _ _ => id)
              have hSd := hS.keeps od id
              have hOd := hO.drew
              obtain ⟨ib, rfl, ti, hit⟩ := (hi.keeps hOd (fun _ _ => id) (fun _ _ => id)).get hf (by intro e; simp [e] at hil)
              obtain ⟨hx, hgc⟩ := hit i hil
              have q2 := hS.ends
              have a1 := hM.cell i (by omega)
              have a1d := hMd.cell i (by omega)
              have a2d := hMd.cell (i + 1) (by omega)
              have te := hMd.rows i (by omega)
              have te1 := hMd.rows (i + 1) (by omega)
              have hb1 : (i : Int) < (xs.length : Int) + 1 := by omega
              have hb2 : (t : Int) < (sp.length : Int) + 1 := by omega
              have hwt : IntKind.i64.wrap ((t : Int) - 1) = (t : Int) - 1 := by rw [IntKind.wrap_i64]; omega
              have ty : ∀ {T : TypeId} {c : Nat}, Typ wr.drew c T → T ≠ 258 → ¬ c = w.heap.size + 1 := fun hc hT e => by subst e; exact hT (hc.one hSd.typ)
              by_cases hlt : t < sp.length
              · obtain ⟨rb, ro, rfl, rt, rcell⟩ := (hr.keeps hOd (fun _ _ => id)) (by intro e; simp [e] at hlt)
                have hv := Adz.fin_lt sp xs i t hil hlt
                rw [← h2b.out (t + 1) (by omega) (by omega), ← h2.out (i + 1) (t + 1) (by omega) (by omega) (by omega), ← h2.out (i + 1) t (by omega) (by omega) (by omega)] at hv
                have HV : Hid _ := hv
                clear hv
                have hcall := end_lt xs[i] ib i xs.length ic wr.drew (w.heap.size + 1) w.heap.size rb ro rc sp.length t hSd hil hk hx ti rt hMd.typ hlt hn _ (rcell t hlt) (w.heap.size + 2 + i) (w.heap.size + 2 + (i + 1)) a1d a2d te te1 _ (hMd.place i (t + 1) (by omega) (by omega)).1 _ _ (hMd.place (i + 1) t (by omega) (by omega)).1 (hMd.place (i + 1) (t + 1) (by omega) (by omega)).1
                rw [← HV.out] at hcall
                clear HV hit hgc hx rcell a1d a2d te te1
                generalize hq : Adz.fin sp xs i t = q at *
                go_wp2_with fail
                go_region_with (go_at_call 201; refine hcall.mono ?_; clear hcall; rintro e w3 ⟨rfl, hO3, hS3⟩; have hM3 := hMd.keeps hO3 (fun c hc => ty hc (by decide)) (fun c hc => ty hc (by decide)); have q23 := hS3.ends; have a13 := hM3.cell i (by omega); obtain ⟨u3, f3⟩ := hM3.place i t (by omega) htl)
                all_goals
                  have hM4 := hM3.set i t (by omega) htl q
                  have hO4 : Only (fun _ => False) w _ := Only.setCell (p := ⟨w.heap.size + 2 + i, t, none⟩) (hOd.trans hO3 (fun _ e => e) (fun _ h e => by omega)) (fun h => absurd h (by simp; omega)) (.int .i64 q)
                  have hS4 := hS3.keeps (only_set w3 (w.heap.size + 2 + i) t (.int .i64 q)) (by omega)
                  have F1 : Hid _ := hM4
                  have F2 : Hid _ := hO4
                  have F3 : Hid _ := hS4
                  clear hM4 hO4 hS4 hM3 hO3 hS3 q23 a13 u3 f3 hM hMd hS hSd hO hOd
                  go_wp2
                  go_roundg t
                  case measure => omega
                  case rel =>
                    refine ⟨by omega, rfl, _, F1, ?_, ?_, F3, F2⟩
                    · show ∀ j t, _ → _ → _ → _
                      intro j s g1 g2 g3
                      rw [if_neg (by omega)]
                      exact h2.out j s g1 g2 g3
                    · show ∀ t, _ → _ → _
                      intro s g1 g2
                      by_cases e : s = t
                      · subst e; rw [if_pos ⟨rfl, rfl⟩, hq]
                      · rw [if_neg (by omega)]; exact h2b.out s (by omega) g2
              · have hte : t = sp.length := by omega
                subst hte
                have hv := Adz.fin_eq sp xs i hil
                rw [← h2.out (i + 1) sp.length (by omega) (by omega) (by omega)] at hv
                have HV : Hid _ := hv
                clear hv
                have hcall := end_eq xs[i] ib i xs.length ic wr.drew (w.heap.size + 1) w.heap.size ra rc sp.length hSd hil hk hx ti hMd.typ hn (w.heap.size + 2 + i) (w.heap.size + 2 + (i + 1)) a1d a2d te1 0 0 _ (hMd.place (i + 1) sp.length (by omega) (by omega)).1
                rw [← HV.out] at hcall
                clear HV hit hgc hx a1d a2d te te1
                generalize hq : Adz.fin sp xs i sp.length = q at *
                go_wp2_with fail
                go_region_with (go_at_call 201; refine hcall.mono ?_; clear hcall; rintro e w3 ⟨rfl, hO3, hS3⟩; have hM3 := hMd.keeps hO3 (fun c hc => ty hc (by decide)) (fun c hc => ty hc (by decide)); have q23 := hS3.ends; have a13 := hM3.cell i (by omega); obtain ⟨u3, f3⟩ := hM3.place i sp.length (by omega) htl)
                all_goals
                  have hM4 := hM3.set i sp.length (by omega) htl q
                  have hO4 : Only (fun _ => False) w _ := Only.setCell (p := ⟨w.heap.size + 2 + i, sp.length, none⟩) (hOd.trans hO3 (fun _ e => e) (fun _ h e => by omega)) (fun h => absurd h (by simp; omega)) (.int .i64 q)
                  have hS4 := hS3.keeps (only_set w3 (w.heap.size + 2 + i) sp.length (.int .i64 q)) (by omega)
                  have F1 : Hid _ := hM4
                  have F2 : Hid _ := hO4
                  have F3 : Hid _ := hS4
                  clear hM4 hO4 hS4 hM3 hO3 hS3 q23 a13 u3 f3 hM hMd hS hSd hO hOd
                  go_wp2
                  go_roundg sp.length
                  case measure => omega
                  case rel =>
                    refine ⟨by omega, rfl, _, F1, ?_, ?_, F3, F2⟩
                    · show ∀ j t, _ → _ → _ → _
                      intro j s g1 g2 g3
                      rw [if_neg (by omega)]
                      exact h2.out j s g1 g2 g3
                    · show ∀ t, _ → _ → _
                      intro s g1 g2
                      by_cases e : s = sp.length
                      · subst e; rw [if_pos ⟨rfl, rfl⟩, hq]
                      · rw [if_neg (by omega)]; exact h2b.out s (by omega) g2
end Go.Proofs.YtbiobhghnldckaaGreatDoor

/- Proved: the first place of a match; a match, its items followed. Conditions: the pattern and the rows of ends lie in memory. -/
namespace Go.Proofs.YtbiobhghnldckaaGreatDoor
open Go.RowKit
set_option linter.unusedVariables false
namespace Adz
def firstFrom (l : List Int) (from_ : Nat) : Int := match l with
  | l => match (l.drop from_).findIdx? (fun x => x != -1) with
    | some k => ((from_ + k : Nat) : Int)
    | none => -1
theorem firstFrom_hit (l : List Int) (j : Nat) (h : j < l.length) (hv : l.getD j 0 ≠ -1) : firstFrom l j = j := by
  have e : l.drop j = l.getD j 0 :: l.drop (j + 1) := by rw [List.drop_eq_getElem_cons h]; simp [h]
  have hb : (l.getD j 0 != -1) = true := bne_iff_ne.2 hv
  simp only [firstFrom, e, List.findIdx?_cons, hb, if_true, Nat.add_zero]
theorem firstFrom_miss (l : List Int) (j : Nat) (h : j < l.length) (hv : l.getD j 0 = -1) : firstFrom l j = firstFrom l (j + 1) := by
  have e : l.drop j = l.getD j 0 :: l.drop (j + 1) := by rw [List.drop_eq_getElem_cons h]; simp [h]
  simp only [firstFrom, e, List.findIdx?_cons, hv]
  simp only [bne_self_eq_false, Bool.false_eq_true, if_false]
  cases (l.drop (j + 1)).findIdx? (fun x => x != -1) with
  | none => rfl
  | some k => simp; omega
theorem firstFrom_end (l : List Int) (j : Nat) (h : l.length ≤ j) : firstFrom l j = -1 := by
  simp [firstFrom, List.drop_eq_nil_of_le h]
end Adz

set_option maxHeartbeats 1600000 in
theorem firstFrom_calls (sb ab base K n : Nat) (iv : Value) (ra : Option Addr) (rc : Nat) (F : Nat → Nat → Int) (w : World) (hs : Srch w sb iv (.slice ra n rc) (.slice (some ⟨ab, 0, none⟩) (K + 1) (K + 1))) (hM : Mat w ab base (K + 1) n F) (l : List Int) (hl : l.length = n + 1) (hlF : ∀ t, t ≤ n → l.getD t 0 = F 0 t) (hn : n ≤ 1000000) (fr : Nat) (hfr : fr ≤ n + 1) :
    Calls Tryz.prog 188 #[.pointer (some ⟨sb, 0, none⟩), .int .i64 fr] w fun e w' => e = .returned (.int .i64 (Adz.firstFrom l fr)) ∧ Only (· = sb) w w' ∧ Srch w' sb iv (.slice ra n rc) (.slice (some ⟨ab, 0, none⟩) (K + 1) (K + 1)) := by
  go_enter Tryz.func188, Tryz.ntmps188
  go_wp2_with fail
  go_loopg [5] (n + 1 - fr) (fun k v wr => ∃ j : Nat, v = .int .i64 j ∧ j + k = n + 1 ∧ Hid (Adz.firstFrom l fr = Adz.firstFrom l j) ∧ Hid (Only (· = sb) w wr) ∧ Hid (Srch wr sb iv (.slice ra n rc) (.slice (some ⟨ab, 0, none⟩) (K + 1) (K + 1))))
  case atStart => exact ⟨fr, rfl, by omega, rfl, Only.refl _ _, hs⟩
  case round =>
    obtain ⟨j, rfl, hjk, hF, h1, h2⟩ := hrel
    have HK : Hid (j + gk = n + 1) := hjk
    have hO : Only (· = sb) w wr := h1
    have hS : Srch wr sb iv (.slice ra n rc) (.slice (some ⟨ab, 0, none⟩) (K + 1) (K + 1)) := h2
    have hjl : j ≤ n + 1 := by omega
    clear hjk h1 h2
    have q1 := hS.space
    by_cases hlt : j ≤ n
    · have d0 : decide ((j : Int) ≤ n) = true := by simp; omega
      obtain ⟨st, hst⟩ := hS.steps
      have q2 := hS.ends
      have q3 := hS.free
      have hMr := hM.keeps hO (fun c hc e => by subst e; exact absurd (hc.one hs.typ) (by decide)) (fun c hc e => by subst e; exact absurd (hc.one hs.typ) (by decide))
      have n1 : ab ≠ sb := hMr.typ.ne hS.typ (by decide)
      have n2 : base ≠ sb := (hMr.rows 0 (by omega)).ne hS.typ (by decide)
      have c1 := hMr.cell 0 (by omega)
      have c2 := (hMr.place 0 j (by omega) hlt).1
      rw [Nat.add_zero] at c1 c2
      rw [← hlF j hlt] at c2
      have hw : IntKind.i64.wrap ((j : Int) + 1) = (j : Int) + 1 := by rw [IntKind.wrap_i64]; omega
      have hb1 : (j : Int) < (n : Int) + 1 := by omega
      have hb2 : (0 : Int) < (K : Int) + 1 := by omega
      have o2 : Only (· = sb) w _ := hO.trans (srch_only (w := wr) sb (wrap64 (st + 1))) (fun _ e => e) (fun _ _ e => e)
      have s2 := hS.step (wrap64 (st + 1))
      by_cases hv : l.getD j 0 = -1
      · have HM : Hid _ := Adz.firstFrom_miss l j (by omega) hv
        rw [hv] at c2
        clear hv hM hMr hlF
        go_wp2
        go_roundg (gk - 1)
        case measure => have := HK.out; omega
        case rel => exact ⟨j + 1, rfl, by have := HK.out; omega, by show _ = _; rw [hF.out, HM.out], o2, s2⟩
      · have HM : Hid _ := Adz.firstFrom_hit l j (by omega) hv
        clear hM hMr hlF
        generalize l.getD j 0 = q at *
        have d1 : (q == -1) = false := by simp [hv]
        have d2 : (q != -1) = true := by simp [hv]
        clear hv
        go_wp2
        go_ret
        exact ⟨by rw [hF.out, HM.out]; rfl, o2, s2⟩
    · have he : j = n + 1 := by omega
      have d0 : decide ((j : Int) ≤ n) = false := by simp; omega
      have HM : Hid _ := Adz.firstFrom_end l j (by omega)
      go_wp2
      go_ret
      exact ⟨by rw [hF.out, HM.out]; rfl, hO, hS⟩

set_option maxHeartbeats 800000 in
theorem empty_calls (mb : Nat) (a b : Int) (w : World) (h1 : w.cell? ⟨mb, 0, none⟩ = some (.int .i64 a)) (h2 : w.cell? ⟨mb, 1, none⟩ = some (.int .i64 b)) :
    Calls Tryz.prog 207 #[.pointer (some ⟨mb, 0, none⟩)] w fun e w' => e = .returned (.bool (a == b)) ∧ Only (fun _ => False) w w' := by
  go_enter Tryz.func207, Tryz.ntmps207
  go_wp2_with fail
  go_quiet (fail)
  go_wp2
  go_ret
  exact ⟨rfl, (Only.refl _ w).drewN _⟩
end Go.Proofs.YtbiobhghnldckaaGreatDoor

/- Proved: a match, its items followed. Conditions: the pattern and the rows of ends lie in memory. -/
namespace Go.Proofs.YtbiobhghnldckaaGreatDoor
open Go.RowKit
set_option linter.unusedVariables false

def zeros20 : Array Value := #[.int .i64 0, .int .i64 0, .int .i64 0, .int .i64 0, .int .i64 0, .int .i64 0, .int .i64 0, .int .i64 0, .int .i64 0, .int .i64 0, .int .i64 0, .int .i64 0, .int .i64 0, .int .i64 0, .int .i64 0, .int .i64 0, .int .i64 0, .int .i64 0, .int .i64 0, .int .i64 0]
/-- The cells of a match. -/
structure MatchAt (w : World) (b : Nat) (l : List Int) : Prop where
  len : l.length = 20
  typ : Typ w b 219
  cells : w.rangeAt b 0 (l.map (.int .i64))
  there : w.there b 0 20
theorem MatchAt.keeps {S : Nat → Prop} {w w' : World} {b : Nat} {l : List Int} (h : MatchAt w b l) (o : Only S w w') (hs : ¬ S b) : MatchAt w' b l :=
  ⟨h.len, h.typ.keeps o hs, fun j v hv => o.keeps (h.cells j v hv) hs, fun j hj => by
    obtain ⟨v, hv⟩ := Option.isSome_iff_exists.1 (h.there j hj).1
    exact ⟨by rw [o.keeps hv hs]; rfl, o.keepsFrozen hv (h.there j hj).2 hs⟩⟩
theorem MatchAt.new (w : World) : MatchAt (w.alloc (.cells zeros20 219)) w.heap.size (List.replicate 20 0) := by
  have hc := Cells.new w zeros20 219
  refine ⟨rfl, Typ.new w _ _ _, fun j v hv => ?_, fun j hj => ?_⟩
  · rw [Nat.zero_add]; exact (hc j v hv).1
  · have e : zeros20.toList = List.replicate 20 (Value.int .i64 0) := rfl
    rw [e] at hc
    have := hc j (.int .i64 0) (by rw [List.getElem?_replicate]; simp [hj])
    rw [Nat.zero_add]
    exact ⟨by rw [this.1]; rfl, this.2⟩
theorem setCells_only (b : Nat) : ∀ (l : List Value) (w : World) (o : Nat), Only (· = b) w (w.setCells b o l)
  | [], w, o => Only.refl _ w
  | v :: r, w, o => by
    rw [World.setCells]
    exact only2 (only_set w b o v) (setCells_only b r _ (o + 1))
theorem MatchAt.store {w : World} {b : Nat} {l : List Int} (h : MatchAt w b l) (m : List Int) (hm : m.length = 20) : MatchAt (w.setCells b 0 (m.map (.int .i64))) b m := by
  refine ⟨hm, ?_, ?_, ?_⟩
  · have ht : ∀ (l : List Value) (u : World) (o : Nat), Typ u b 219 → Typ (u.setCells b o l) b 219 := by
      intro l
      induction l with
      | nil => intro u o hu; exact hu
      | cons v r ih => intro u o hu; rw [World.setCells]; exact ih _ _ (hu.setCell _ _)
    exact ht _ _ _ h.typ
  · exact World.rangeAt_setCells_same w b 0 _ (by rw [List.length_map, hm]; exact h.there)
  · exact World.there_setCells h.there b 0 _

namespace Adz
theorem endAt_some (x : Item) (r : Int) (j n e1 b1 b0 : Int) (h : endAt x (some r) j n e1 b1 b0 ≠ -1) :
    (endAt x (some r) j n e1 b1 b0 = e1 ∧ e1 ≠ -1) ∨ (endAt x (some r) j n e1 b1 b0 = j + 1 ∧ b1 ≠ -1) ∨ (endAt x (some r) j n e1 b1 b0 = j ∧ b0 ≠ -1) := by
  revert h
  unfold endAt
  simp only
  generalize takes x r = t1
  generalize takesMany x = t2
  generalize takesNone x j n = t3
  cases t1 <;> cases t2 <;> cases t3 <;> by_cases h1 : e1 = -1 <;> by_cases h2 : b1 = -1 <;> by_cases h3 : b0 = -1 <;> simp [h1, h2, h3]
theorem endAt_none (x : Item) (j n e1 b1 b0 : Int) (h : endAt x none j n e1 b1 b0 ≠ -1) : endAt x none j n e1 b1 b0 = j ∧ b0 ≠ -1 := by
  revert h
  unfold endAt
  simp only
  generalize takesNone x j n = t3
  cases t3 <;> by_cases h3 : b0 = -1 <;> simp [h3]
/-- Where an item has an end, it is a place from which the rest has one. -/
theorem ends_good (x : Item) (sp bh : List Int) (hl : bh.length = sp.length + 1) : ∀ (d j : Nat), j + d = sp.length → (ends x sp bh).getD j 0 ≠ -1 →
    ∃ e : Nat, (ends x sp bh).getD j 0 = e ∧ j ≤ e ∧ e ≤ sp.length ∧ bh.getD e 0 ≠ -1
  | 0, j, hj, h => by
    have e : j = sp.length := by omega
    subst e
    rw [ends_eq x sp bh hl] at h ⊢
    obtain ⟨h1, h2⟩ := endAt_none _ _ _ _ _ _ h
    exact ⟨sp.length, h1, by omega, by omega, h2⟩
  | d + 1, j, hj, h => by
    rw [ends_lt x sp bh hl j (by omega)] at h ⊢
    rcases endAt_some _ _ _ _ _ _ _ h with ⟨h1, h2⟩ | ⟨h1, h2⟩ | ⟨h1, h2⟩
    · obtain ⟨e, g1, g2, g3, g4⟩ := ends_good x sp bh hl d (j + 1) (by omega) h2
      exact ⟨e, h1.trans g1, by omega, g3, g4⟩
    · exact ⟨j + 1, by rw [h1]; omega, by omega, by omega, h2⟩
    · exact ⟨j, h1, by omega, by omega, h2⟩
/-- The same, of a whole pattern's ends. -/
theorem allEnds_good (sp : List Int) (xs : List Item) (i : Nat) (hi : i < xs.length) (j : Nat) (hj : j ≤ sp.length) (h : ((allEnds sp xs).getD i []).getD j 0 ≠ -1) :
    ∃ e : Nat, ((allEnds sp xs).getD i []).getD j 0 = e ∧ j ≤ e ∧ e ≤ sp.length ∧ ((allEnds sp xs).getD (i + 1) []).getD e 0 ≠ -1 := by
  rw [allEnds_at sp xs i hi] at h ⊢
  exact ends_good xs[i] sp _ (allEnds_width sp xs (i + 1) (by omega)) (sp.length - j) j (by omega) h
end Adz
end Go.Proofs.YtbiobhghnldckaaGreatDoor

/- Proved: a match, its items followed. Conditions: the pattern and the rows of ends lie in memory, and the place has an end. -/
namespace Go.Proofs.YtbiobhghnldckaaGreatDoor
open Go.RowKit
set_option linter.unusedVariables false
namespace Adz
/-- What an item's place tells of its group. -/
def mark (x : Item) (m : List Int) (at_ : Int) : List Int := if x.kind = 2 then m.set (x.group.toNat * 2) at_ else if x.kind = 3 then m.set (x.group.toNat * 2 + 1) at_ else m
/-- The items' ends followed: the marks, and the place at the end. -/
def follow (A : List (List Int)) : List Item → Nat → List Int → Nat → List Int × Nat
  | [], _, m, at_ => (m, at_)
  | x :: xs, i, m, at_ => follow A xs (i + 1) (mark x m at_) ((A.getD i []).getD at_ 0).toNat
def matchAt (A : List (List Int)) (xs : List Item) (first : Nat) : List Int :=
  let r := follow A xs 0 (List.replicate 20 0) first
  (r.1.set 0 first).set 1 r.2
end Adz

theorem MatchAt.set {w : World} {b : Nat} {l : List Int} (h : MatchAt w b l) (k : Nat) (v : Int) : MatchAt (w.setCell ⟨b, k, none⟩ (.int .i64 v)) b (l.set k v) := by
  have hc : Cells w b (l.map (.int .i64)) := fun j u hu => by
    have hj : j < 20 := by have := (List.getElem?_eq_some_iff.1 hu).1; rw [List.length_map, h.len] at this; exact this
    have h1 := h.cells j u hu
    have h2 := (h.there j hj).2
    rw [Nat.zero_add] at h1 h2
    exact ⟨h1, h2⟩
  have hs := hc.set k (.int .i64 v)
  rw [← List.map_set] at hs
  refine ⟨by rw [List.length_set]; exact h.len, h.typ.setCell _ _, fun j u hu => by rw [Nat.zero_add]; exact (hs j u hu).1, fun j hj => ?_⟩
  have hl : ((l.set k v).map (Value.int .i64))[j]? = some (.int .i64 ((l.set k v).getD j 0)) := by
    rw [List.getElem?_map, List.getElem?_eq_getElem (by rw [List.length_set, h.len]; exact hj)]
    simp [h.len, hj]
  have := hs j _ hl
  rw [Nat.zero_add]
  exact ⟨by rw [this.1]; rfl, this.2⟩
theorem MatchAt.cellOf {w : World} {b : Nat} {l : List Int} (h : MatchAt w b l) (k : Nat) (hk : k < 20) : (∃ u, w.cell? ⟨b, k, none⟩ = some u) ∧ w.frozen? ⟨b, k, none⟩ = false := by
  have := h.there k hk
  rw [Nat.zero_add] at this
  exact ⟨Option.isSome_iff_exists.1 this.1, this.2⟩

theorem match_results {W : World} {R : Nat} {cs : List Value} {tmps : Array Value} (h6 : tmps[4]? = some (.pointer (some ⟨R, 0, none⟩))) (hrun : (loadVar 219 ⟨R, 0, none⟩).run Tryz.prog W = .ok (.agg cs.toArray) W) :
    (results Tryz.f206 tmps).run Tryz.prog W = .ok (.agg cs.toArray) W := by
  have ha : (asAddr (.pointer (some ⟨R, 0, none⟩))).run Tryz.prog W = .ok ⟨R, 0, none⟩ W := by simp [go_sem]
  simp [results, Tryz.results206, h6, ha, hrun]

set_option maxRecDepth 100000 in
set_option maxHeartbeats 3200000 in
theorem matchAt_calls (xs : List Adz.Item) (sb ab base : Nat) (w : World) (iv : Value) (ra : Option Addr) (rc n : Nat) (hs : Srch w sb iv (.slice ra n rc) (.slice (some ⟨ab, 0, none⟩) (xs.length + 1) (xs.length + 1))) (hi : ItemsAt w iv xs) (hk : xs.length ≤ 1000) (hf : ∀ x ∈ xs, x.spans.length ≤ 1000) (sp : List Int) (hsn : sp.length = n) (hsp : n ≤ 1000000) (hg : ∀ x ∈ xs, 1 ≤ x.group ∧ x.group ≤ 9 ∨ (x.kind ≠ 2 ∧ x.kind ≠ 3)) (hA : Mat w ab base (xs.length + 1) n (Adz.fin sp xs)) (first : Nat) (hfi : first ≤ n) (hfe : Adz.fin sp xs 0 first ≠ -1) :
    Calls Tryz.prog 206 #[.pointer (some ⟨sb, 0, none⟩), .int .i64 first] w fun e w' => e = .returned (.agg ((Adz.matchAt (Adz.allEnds sp xs) xs first).map (.int .i64)).toArray) ∧ Only (· = sb) w w' ∧ Srch w' sb iv (.slice ra n rc) (.slice (some ⟨ab, 0, none⟩) (xs.length + 1) (xs.length + 1)) := by
  obtain ⟨svs, r1, r2⟩ := id hi
  obtain ⟨ia, ic, rfl⟩ := row_shape r1
  clear r1 r2 svs
  have ls : sb < w.heap.size := hs.typ.lt
  have hM0 := MatchAt.new w
  have hM1 := MatchAt.new (w.alloc (.cells zeros20 219))
  have o1 : Only (fun _ => False) w ((w.alloc (.cells zeros20 219)).alloc (.cells zeros20 219)) := ((Only.refl _ w).alloc _).alloc _
  have hM0' := hM0.keeps (S := fun _ => False) ((Only.refl _ (w.alloc (.cells zeros20 219))).alloc (.cells zeros20 219)) id
  simp only [World.size_alloc] at hM1
  have hi219 : (Tryz.prog.info? 219).map (·.size) = some zeros20.size := by kernel_rfl
  have hz219 : zeros20.all (·.oneCell') = true := by simp [zeros20, Value.oneCell']
  go_enter Tryz.func206, Tryz.ntmps206
  go_upto_region 2 with (refine wpList_store_mid (by rfl) 219 _ _ (by rfl) (w.heap.size + 1) 0 zeros20 (by first | rfl | simp [Act.eval, Act.put]) (by first | rfl | simp [Act.eval, Act.put, zeros20]) hM1.there hi219 hz219 ?_)
  have hMm := hM1.store (List.replicate 20 0) rfl
  have hMr := hM0'.keeps (setCells_only (w.heap.size + 1) ((List.replicate 20 0).map (.int .i64)) _ 0) (by omega)
  have hOm : Only (fun _ => False) w (((w.alloc (.cells zeros20 219)).alloc (.cells zeros20 219)).setCells (w.heap.size + 1) 0 ((List.replicate 20 0).map (.int .i64))) := by
    refine o1.trans (setCells_only (w.heap.size + 1) _ _ 0) (fun _ e => e) (fun b hb e => by omega)
  have hw0 : ((w.alloc (.cells zeros20 219)).alloc (.cells zeros20 219)).setCells (w.heap.size + 1) 0 zeros20.toList = ((w.alloc (.cells zeros20 219)).alloc (.cells zeros20 219)).setCells (w.heap.size + 1) 0 ((List.replicate 20 0).map (.int .i64)) := rfl
  change Code.wp _ _ _ _ (((w.alloc (.cells zeros20 219)).alloc (.cells zeros20 219)).setCells (w.heap.size + 1) 0 ((List.replicate 20 0).map (.int .i64)))
  clear hM0 hM1 hM0' o1 hw0
  generalize ((w.alloc (.cells zeros20 219)).alloc (.cells zeros20 219)).setCells (w.heap.size + 1) 0 ((List.replicate 20 0).map (.int .i64)) = w0 at *
  have hs0 := hs.keeps hOm id
  have q0 := hs0.items
  go_wp2_with fail
  go_loopg [6, 16] xs.length (fun k v u wr => ∃ (j at_ : Nat) (m : List Int), v = .int .i64 at_ ∧ u = .int .i64 j ∧ j + k = xs.length ∧ at_ ≤ n ∧ Hid (Adz.fin sp xs j at_ ≠ -1) ∧ Hid (Adz.follow (Adz.allEnds sp xs) xs 0 (List.replicate 20 0) first = Adz.follow (Adz.allEnds sp xs) (xs.drop j) j m at_) ∧ Hid (MatchAt wr (w.heap.size + 1) m) ∧ Hid (MatchAt wr w.heap.size (List.replicate 20 0)) ∧ Hid (Only (· = sb) w wr) ∧ Hid (Srch wr sb (.slice ia xs.length ic) (.slice ra n rc) (.slice (some ⟨ab, 0, none⟩) (xs.length + 1) (xs.length + 1))))
  case atStart => exact ⟨0, first, _, rfl, rfl, by omega, hfi, hfe, rfl, hMm, hMr, hOm.mono (fun _ _ e => e.elim), hs0⟩
  case round =>
    obtain ⟨j, at_, m, rfl, rfl, hjk, hat, hne, hfo, h1, h2, h3, h4⟩ := hrel
    have HK : Hid (j + gk = xs.length) := hjk
    have hjl : j ≤ xs.length := by omega
    have hM' : MatchAt wr (w.heap.size + 1) m := h1
    have hR' : MatchAt wr w.heap.size (List.replicate 20 0) := h2
    have hO' : Only (· = sb) w wr := h3
    have hS' : Srch wr sb (.slice ia xs.length ic) (.slice ra n rc) (.slice (some ⟨ab, 0, none⟩) (xs.length + 1) (xs.length + 1)) := h4
    have ty : ∀ {T : TypeId} {c : Nat}, Typ w c T → T ≠ 258 → ¬ c = sb := fun hc hT e => by subst e; exact hT (hc.one hs.typ)
    clear hjk h1 h2 h3 h4 hMm hMr hOm hs0 q0
    by_cases hlt : j < xs.length
    · obtain ⟨e, g1, g2, g3, g4⟩ := Adz.allEnds_good sp xs j hlt at_ (by omega) hne.out
      obtain ⟨ib, rfl, ti, hit⟩ := (hi.keeps hO' (fun c hc => ty hc (by decide)) (fun c hc => ty hc (by decide))).get hf (by intro e; simp [e] at hlt)
      obtain ⟨hx, hgc⟩ := hit j hlt
      have li : ib < wr.heap.size := World.block_lt_of_cell? wr _ hgc
      have ni : ib ≠ sb := ti.ne hS'.typ (by decide)
      have c0 := hx.kind
      have c1 := hgc
      obtain ⟨sa, sc, c2, _⟩ := hx.spans
      have c3 := hx.times
      have hAr := hA.keeps hO' (fun c hc => ty hc (by decide)) (fun c hc => ty hc (by decide))
      have a1 := hAr.cell j (by omega)
      have a3 := (hAr.place j at_ (by omega) (by omega)).1
      have g1' : Adz.fin sp xs j at_ = e := g1
      rw [g1'] at a3
      have te := hAr.rows j (by omega)
      have ta := hAr.typ
      have la : ab < wr.heap.size := World.block_lt_of_cell? wr _ a1
      have le : base + j < wr.heap.size := World.block_lt_of_cell? wr _ a3
      have hdr : xs.drop j = xs[j] :: xs.drop (j + 1) := List.drop_eq_getElem_cons hlt
      have hfo' := hfo.out
      rw [hdr] at hfo'
      simp only [Adz.follow] at hfo'
      rw [g1, Int.toNat_natCast] at hfo'
      have hgj := hg xs[j] (List.getElem_mem hlt)
      have hb1 : (j : Int) < (xs.length : Int) + 1 := by omega
      have hb2 : (at_ : Int) < (n : Int) + 1 := by omega
      have hw1 : IntKind.i64.wrap ((j : Int) + 1) = (j : Int) + 1 := by rw [IntKind.wrap_i64]; omega
      have G4 : Hid (Adz.fin sp xs (j + 1) e ≠ -1) := g4
      clear g4 hdr hfo hne hAr g1'
      generalize hxe : xs[j] = x at *
      have HFO : Hid _ := hfo'
      clear hfo' hxe hit g1
      have lm : w.heap.size + 1 < wr.heap.size := by obtain ⟨u, hu⟩ := (hM'.cellOf 0 (by omega)).1; exact World.block_lt_of_cell? wr _ hu
      obtain ⟨st, hst⟩ := hS'.steps
      have q2 := hS'.ends
      have q3 := hS'.free
      have nm1 : sb ≠ w.heap.size + 1 := by omega
      have nm1' : w.heap.size + 1 ≠ sb := by omega
      have nm0 : w.heap.size ≠ sb := by omega
      have hne1 : base + j ≠ w.heap.size + 1 := te.ne hM'.typ (by decide)
      have hne2 : ab ≠ w.heap.size + 1 := ta.ne hM'.typ (by decide)
      have hne3 : base + j ≠ sb := te.ne hS'.typ (by decide)
      have hne4 : ab ≠ sb := ta.ne hS'.typ (by decide)
      have lsr : sb < wr.heap.size := hS'.typ.lt
      have sS := hS'.step (wrap64 (st + 1))
      have oS : Only (· = sb) w _ := hO'.trans (srch_only (w := wr) sb (wrap64 (st + 1))) (fun _ e => e) (fun _ _ e => e)
      have mS := hM'.keeps (srch_only (w := wr) sb (wrap64 (st + 1))) nm1'
      have rS := hR'.keeps (srch_only (w := wr) sb (wrap64 (st + 1))) nm0
      by_cases k2 : x.kind = 2
      · obtain ⟨gn, hgn⟩ : ∃ gn : Nat, x.group = gn := ⟨x.group.toNat, by omega⟩
        have hmk : Adz.mark x m at_ = m.set (gn * 2) at_ := by simp [Adz.mark, k2, hgn]
        rw [hmk] at HFO
        have hgb : gn < 10 := by omega
        have hgi : (gn : Int) < 10 := by omega
        rw [hgn] at c1
        clear hgc
        rw [k2] at c0
        obtain ⟨⟨u, hu⟩, hu2⟩ := hM'.cellOf (gn * 2) (by omega)
        generalize hwS : wr.setCell ⟨sb, 3, none⟩ (.int .i64 (wrap64 (st + 1))) = wS at *
        have o1 : Only (· = sb) w (wS.setCell ⟨w.heap.size + 1, gn * 2, none⟩ (.int .i64 at_)) := Only.setCell (p := ⟨w.heap.size + 1, gn * 2, none⟩) oS (fun h => absurd h (by simp)) (.int .i64 at_)
        have m1 := mS.set (gn * 2) at_
        have m2 := rS.keeps (only_set wS (w.heap.size + 1) (gn * 2) (.int .i64 at_)) (by omega)
        have s1 := sS.keeps (only_set wS (w.heap.size + 1) (gn * 2) (.int .i64 at_)) nm1
        have oa : Only (fun _ => False) (wS.setCell ⟨w.heap.size + 1, gn * 2, none⟩ (.int .i64 at_)) ((wS.setCell ⟨w.heap.size + 1, gn * 2, none⟩ (.int .i64 at_)).alloc (.cells #[.int .i64 2, .int .i64 gn, .slice sa x.spans.length sc, .int .i64 x.times] 270)) := (Only.refl _ _).alloc _
        have F1 : Hid _ := m1.keeps oa id
        have F2 : Hid _ := m2.keeps oa id
        have F3 : Hid _ := o1.trans oa (fun _ e => e) (fun _ _ e => e.elim)
        have F4 : Hid _ := s1.keeps oa id
        clear k2 hmk hgj hgn o1 m1 m2 s1 oa mS rS oS sS
        subst hwS
        go_wp2
        go_roundg (gk - 1)
        case measure => have := HK.out; omega
        case rel => exact ⟨j + 1, e, _, rfl, rfl, by have := HK.out; omega, by omega, G4, HFO, F1, F2, F3, F4⟩
      by_cases k3 : x.kind = 3
      · obtain ⟨gn, hgn⟩ : ∃ gn : Nat, x.group = gn := ⟨x.group.toNat, by omega⟩
        have hmk : Adz.mark x m at_ = m.set (gn * 2 + 1) at_ := by simp [Adz.mark, k3, hgn]
        rw [hmk] at HFO
        have hgb : gn < 10 := by omega
        have hgi : (gn : Int) < 10 := by omega
        rw [hgn] at c1
        clear hgc
        rw [k3] at c0
        obtain ⟨⟨u, hu⟩, hu2⟩ := hM'.cellOf (gn * 2 + 1) (by omega)
        generalize hwS : wr.setCell ⟨sb, 3, none⟩ (.int .i64 (wrap64 (st + 1))) = wS at *
        have o1 : Only (· = sb) w (wS.setCell ⟨w.heap.size + 1, gn * 2 + 1, none⟩ (.int .i64 at_)) := Only.setCell (p := ⟨w.heap.size + 1, gn * 2 + 1, none⟩) oS (fun h => absurd h (by simp)) (.int .i64 at_)
        have m1 := mS.set (gn * 2 + 1) at_
        have m2 := rS.keeps (only_set wS (w.heap.size + 1) (gn * 2 + 1) (.int .i64 at_)) (by omega)
        have s1 := sS.keeps (only_set wS (w.heap.size + 1) (gn * 2 + 1) (.int .i64 at_)) nm1
        have oa : Only (fun _ => False) (wS.setCell ⟨w.heap.size + 1, gn * 2 + 1, none⟩ (.int .i64 at_)) ((wS.setCell ⟨w.heap.size + 1, gn * 2 + 1, none⟩ (.int .i64 at_)).alloc (.cells #[.int .i64 3, .int .i64 gn, .slice sa x.spans.length sc, .int .i64 x.times] 270)) := (Only.refl _ _).alloc _
        have F1 : Hid _ := m1.keeps oa id
        have F2 : Hid _ := m2.keeps oa id
        have F3 : Hid _ := o1.trans oa (fun _ e => e) (fun _ _ e => e.elim)
        have F4 : Hid _ := s1.keeps oa id
        clear k3 hmk hgj hgn o1 m1 m2 s1 oa mS rS oS sS
        subst hwS
        go_wp2
        go_roundg (gk - 1)
        case measure => have := HK.out; omega
        case rel => exact ⟨j + 1, e, _, rfl, rfl, by have := HK.out; omega, by omega, G4, HFO, F1, F2, F3, F4⟩
      have d2 : (x.kind == 2) = false := by simp [k2]
      have d3 : (x.kind == 3) = false := by simp [k3]
      have hmk : Adz.mark x m at_ = m := by simp [Adz.mark, k2, k3]
      rw [hmk] at HFO
      generalize hwS : wr.setCell ⟨sb, 3, none⟩ (.int .i64 (wrap64 (st + 1))) = wS at *
      have oa : Only (fun _ => False) wS (wS.alloc (.cells #[.int .i64 x.kind, .int .i64 x.group, .slice sa x.spans.length sc, .int .i64 x.times] 270)) := (Only.refl _ wS).alloc _
      have F1 : Hid _ := mS.keeps oa id
      have F2 : Hid _ := rS.keeps oa id
      have F3 : Hid _ := oS.trans oa (fun _ e => e) (fun _ _ e => e.elim)
      have F4 : Hid _ := sS.keeps oa id
      clear k2 k3 hmk hgj oa mS rS oS sS
      subst hwS
      go_wp2
      go_roundg (gk - 1)
      case measure => have := HK.out; omega
      case rel => exact ⟨j + 1, e, m, rfl, rfl, by have := HK.out; omega, by omega, G4, HFO, F1, F2, F3, F4⟩
    · have he : j = xs.length := by omega
      subst he
      have HFO : Hid (Adz.follow (Adz.allEnds sp xs) xs 0 (List.replicate 20 0) first = (m, at_)) := by show _ = _; rw [hfo.out, List.drop_length]; rfl
      clear hfo hne hlt
      obtain ⟨⟨u0, hu0⟩, hf0⟩ := hM'.cellOf 0 (by omega)
      obtain ⟨⟨u1, hu1⟩, hf1⟩ := hM'.cellOf 1 (by omega)
      have hMe := (hM'.set 0 first).set 1 at_
      have hOe : Only (· = sb) w ((wr.setCell ⟨w.heap.size + 1, 0, none⟩ (.int .i64 first)).setCell ⟨w.heap.size + 1, 1, none⟩ (.int .i64 at_)) := Only.setCell (p := ⟨w.heap.size + 1, 1, none⟩) (Only.setCell (p := ⟨w.heap.size + 1, 0, none⟩) hO' (fun h => absurd h (by simp)) _) (fun h => absurd h (by simp)) _
      have hRe := (hR'.keeps (only_set wr (w.heap.size + 1) 0 (.int .i64 first)) (by omega)).keeps (only_set _ (w.heap.size + 1) 1 (.int .i64 at_)) (by omega)
      have hSe := (hS'.keeps (only_set wr (w.heap.size + 1) 0 (.int .i64 first)) (by omega)).keeps (only_set _ (w.heap.size + 1) 1 (.int .i64 at_)) (by omega)
      have HE : Hid (Adz.matchAt (Adz.allEnds sp xs) xs first = (m.set 0 first).set 1 at_) := by show _ = _; simp only [Adz.matchAt]; rw [HFO.out]
      clear HFO
      generalize hmm : (m.set 0 (first : Int)).set 1 (at_ : Int) = mm at *
      clear hmm
      have hml := hMe.len
      have hi1 : (Tryz.prog.info? 219).map (·.size) = some (mm.map (Value.int .i64)).length := by rw [List.length_map, hml]; exact hi219
      have hi2 : (Tryz.prog.info? 219).map (·.size) = some (mm.map (Value.int .i64)).toArray.size := by rw [List.size_toArray]; exact hi1
      have hz2 : ((mm.map (Value.int .i64)).toArray.all (·.oneCell')) = true := all_oneCell_toArray (by intro v hv; simp at hv; obtain ⟨a, _, rfl⟩ := hv; rfl)
      have hth := hRe.there
      rw [show (20 : Nat) = (mm.map (Value.int .i64)).toArray.size by rw [List.size_toArray, List.length_map, hml]] at hth
      have HI1 : Hid _ := hi1
      have HI2 : Hid _ := hi2
      clear hi1 hi2 hi219 hz219 hml
      go_wp2_with (first | refine wpList_load_mid (by rfl) 219 _ (by rfl) (w.heap.size + 1) 0 (by rfl) (mm.map (Value.int .i64)) _ hMe.cells Tryz.underlying219 (by rfl) HI1.out ?_ | refine wpList_store_mid (by rfl) 219 _ _ (by rfl) w.heap.size 0 (mm.map (Value.int .i64)).toArray (by rfl) (by rfl) hth HI2.out hz2 ?_)
      have hfin := hRe.store mm hMe.len
      have hOf := hOe.trans (setCells_only w.heap.size (mm.map (Value.int .i64)) _ 0) (fun _ e => e) (fun b hb e => by omega)
      have hSf := hSe.keeps (setCells_only w.heap.size (mm.map (Value.int .i64)) _ 0) (by omega)
      have hrun := run_loadVar_mid (P := Tryz.prog) _ w.heap.size 0 219 (mm.map (Value.int .i64)) _ hfin.cells Tryz.underlying219 (by rfl) HI1.out
      exact bodyPost_ret (v := .agg (mm.map (Value.int .i64)).toArray) (match_results rfl hrun) rfl ⟨by rw [HE.out], hOf, hSf⟩
end Go.Proofs.YtbiobhghnldckaaGreatDoor

/- Proved: nothing but small laws on plain Lean functions: the matches in a space, one after the other. No condition. -/
namespace Go.Proofs.YtbiobhghnldckaaGreatDoor.Adz

def eachGo (l0 : List Int) (mat : Nat → List Int) : Nat → Int → Int → List (List Int)
  | 0, _, _ => []
  | k + 1, at_, ended =>
    if at_ = -1 then [] else
      let m := mat at_.toNat
      if m.getD 0 0 = m.getD 1 0 ∧ at_ = ended then eachGo l0 mat k (firstFrom l0 (at_.toNat + 1)) ended
      else m :: eachGo l0 mat k (firstFrom l0 (m.getD 1 0).toNat) (m.getD 1 0)
def row0 (sp : List Int) (xs : List Item) : List Int := (allEnds sp xs).getD 0 []
/-- All matches in a space, one after the other. -/
def matches_ (sp : List Int) (xs : List Item) : List (List Int) := eachGo (row0 sp xs) (matchAt (allEnds sp xs) xs) (2 * sp.length + 3) (firstFrom (row0 sp xs) 0) (-1)

theorem firstFrom_cases (l : List Int) : ∀ (d j : Nat), j + d = l.length → firstFrom l j = -1 ∨ ∃ k : Nat, firstFrom l j = k ∧ j ≤ k ∧ k < l.length ∧ l.getD k 0 ≠ -1
  | 0, j, h => Or.inl (firstFrom_end l j (by omega))
  | d + 1, j, h => by
    by_cases hv : l.getD j 0 = -1
    · rw [firstFrom_miss l j (by omega) hv]
      rcases firstFrom_cases l d (j + 1) (by omega) with h1 | ⟨k, h1, h2, h3, h4⟩
      · exact Or.inl h1
      · exact Or.inr ⟨k, h1, by omega, h3, h4⟩
    · exact Or.inr ⟨j, firstFrom_hit l j (by omega) hv, Nat.le_refl _, by omega, hv⟩
theorem follow_end (sp : List Int) (xs : List Item) : ∀ (d j : Nat) (m : List Int) (at_ : Nat), j + d = xs.length → at_ ≤ sp.length → fin sp xs j at_ ≠ -1 → at_ ≤ (follow (allEnds sp xs) (xs.drop j) j m at_).2 ∧ (follow (allEnds sp xs) (xs.drop j) j m at_).2 ≤ sp.length
  | 0, j, m, at_, h, h1, h2 => by
    have : j = xs.length := by omega
    subst this
    rw [List.drop_length]
    exact ⟨Nat.le_refl _, h1⟩
  | d + 1, j, m, at_, h, h1, h2 => by
    have hj : j < xs.length := by omega
    obtain ⟨e, g1, g2, g3, g4⟩ := allEnds_good sp xs j hj at_ h1 h2
    rw [List.drop_eq_getElem_cons hj]
    simp only [follow]
    rw [g1, Int.toNat_natCast]
    have := follow_end sp xs d (j + 1) (mark xs[j] m at_) e (by omega) g3 g4
    exact ⟨by omega, this.2⟩
theorem follow_len (A : List (List Int)) : ∀ (xs : List Item) (i : Nat) (m : List Int) (at_ : Nat), (follow A xs i m at_).1.length = m.length
  | [], i, m, at_ => rfl
  | x :: xs, i, m, at_ => by
    simp only [follow]
    rw [follow_len A xs]
    unfold mark
    split
    · simp
    · split <;> simp
theorem matchAt_len (A : List (List Int)) (xs : List Item) (first : Nat) : (matchAt A xs first).length = 20 := by
  simp [matchAt, follow_len]
theorem matchAt_from (A : List (List Int)) (xs : List Item) (first : Nat) : (matchAt A xs first).getD 0 0 = first := by
  have h := follow_len A xs 0 (List.replicate 20 0) first
  simp only [matchAt]
  rw [List.getD_eq_getElem?_getD, List.getElem?_set_ne (by omega), List.getElem?_set_self (by rw [h]; simp)]
  rfl
theorem matchAt_to (sp : List Int) (xs : List Item) (first : Nat) (h1 : first ≤ sp.length) (h2 : fin sp xs 0 first ≠ -1) : ∃ to_ : Nat, (matchAt (allEnds sp xs) xs first).getD 1 0 = to_ ∧ first ≤ to_ ∧ to_ ≤ sp.length := by
  have h := follow_len (allEnds sp xs) xs 0 (List.replicate 20 0) first
  have := follow_end sp xs xs.length 0 (List.replicate 20 0) first (by omega) h1 h2
  rw [List.drop_zero] at this
  refine ⟨_, ?_, this⟩
  simp only [matchAt]
  rw [List.getD_eq_getElem?_getD, List.getElem?_set_self (by rw [List.length_set, h]; simp)]
  rfl
theorem row0_get (sp : List Int) (xs : List Item) (t : Nat) : (row0 sp xs).getD t 0 = fin sp xs 0 t := rfl
theorem row0_len (sp : List Int) (xs : List Item) : (row0 sp xs).length = sp.length + 1 := allEnds_width sp xs 0 (by omega)
/-- how many rounds are left at most -/
def left (n : Nat) (ended at_ : Int) : Nat := if at_ = -1 then 0 else 2 * (n - at_.toNat) + (if ended = at_ then 1 else 2)
theorem left_nat (n : Nat) (ended : Int) (a : Nat) : left n ended a = 2 * (n - a) + (if ended = a then 1 else 2) := by
  unfold left; rw [if_neg (by omega), Int.toNat_natCast]
theorem left_none (n : Nat) (ended : Int) : left n ended (-1) = 0 := by simp [left]
theorem first_cases (sp : List Int) (xs : List Item) (j : Nat) (hj : j ≤ sp.length + 1) : firstFrom (row0 sp xs) j = -1 ∨ ∃ k : Nat, firstFrom (row0 sp xs) j = k ∧ j ≤ k ∧ k ≤ sp.length ∧ fin sp xs 0 k ≠ -1 := by
  rcases firstFrom_cases (row0 sp xs) (sp.length + 1 - j) j (by rw [row0_len]; omega) with h | ⟨k, h1, h2, h3, h4⟩
  · exact Or.inl h
  · rw [row0_len] at h3
    exact Or.inr ⟨k, h1, h2, by omega, h4⟩
theorem each_skip (sp : List Int) (xs : List Item) (k a : Nat) (ended : Int) (ha : a ≤ sp.length) (hk : left sp.length ended a ≤ k) (h0 : (matchAt (allEnds sp xs) xs a).getD 0 0 = (matchAt (allEnds sp xs) xs a).getD 1 0) (he : (a : Int) = ended) :
    ∃ k', eachGo (row0 sp xs) (matchAt (allEnds sp xs) xs) k a ended = eachGo (row0 sp xs) (matchAt (allEnds sp xs) xs) k' (firstFrom (row0 sp xs) (a + 1)) ended ∧ left sp.length ended (firstFrom (row0 sp xs) (a + 1)) ≤ k' ∧ left sp.length ended (firstFrom (row0 sp xs) (a + 1)) < left sp.length ended a := by
  subst he
  rw [left_nat, if_pos rfl] at hk
  rw [left_nat, if_pos rfl]
  obtain ⟨k', rfl⟩ : ∃ k', k = k' + 1 := ⟨k - 1, by omega⟩
  refine ⟨k', ?_, ?_⟩
  · rw [eachGo, if_neg (by omega)]
    have e : ((a : Int)).toNat = a := Int.toNat_natCast a
    rw [e]
    exact if_pos ⟨h0, rfl⟩
  · rcases first_cases sp xs (a + 1) (by omega) with h | ⟨b, h1, h2, h3, _⟩
    · rw [h, left_none]; omega
    · rw [h1, left_nat]; split <;> omega
theorem each_yield (sp : List Int) (xs : List Item) (k a : Nat) (ended : Int) (ha : a ≤ sp.length) (hk : left sp.length ended a ≤ k) (to_ : Nat) (hto : (matchAt (allEnds sp xs) xs a).getD 1 0 = to_) (h1 : a ≤ to_) (h2 : to_ ≤ sp.length) (hn : ¬ ((a : Int) = to_ ∧ (a : Int) = ended)) :
    ∃ k', eachGo (row0 sp xs) (matchAt (allEnds sp xs) xs) k a ended = matchAt (allEnds sp xs) xs a :: eachGo (row0 sp xs) (matchAt (allEnds sp xs) xs) k' (firstFrom (row0 sp xs) to_) to_ ∧ left sp.length to_ (firstFrom (row0 sp xs) to_) ≤ k' ∧ left sp.length to_ (firstFrom (row0 sp xs) to_) < left sp.length ended a := by
  have hl : 2 * (sp.length - a) + (if ended = a then 1 else 2) ≤ k := by rw [left_nat] at hk; exact hk
  rw [left_nat]
  obtain ⟨k', rfl⟩ : ∃ k', k = k' + 1 := ⟨k - 1, by split at hl <;> omega⟩
  have hdec : left sp.length to_ (firstFrom (row0 sp xs) to_) < 2 * (sp.length - a) + (if ended = a then 1 else 2) := by
    rcases first_cases sp xs to_ (by omega) with h | ⟨b, e1, e2, e3, _⟩
    · rw [h, left_none]; split <;> omega
    · rw [e1, left_nat]
      by_cases hab : ended = a
      · rw [if_pos hab]
        have : a ≠ to_ := fun e => hn ⟨by omega, by omega⟩
        split <;> omega
      · rw [if_neg hab]
        split <;> omega
  refine ⟨k', ?_, by omega, hdec⟩
  rw [eachGo, if_neg (by omega)]
  simp only [Int.toNat_natCast]
  rw [matchAt_from, hto, if_neg hn, Int.toNat_natCast]
end Go.Proofs.YtbiobhghnldckaaGreatDoor.Adz

/- Proved: appending runes to runes; a text's runes; runes' text. Conditions: the rows lie in memory. -/
namespace Go.Proofs.YtbiobhghnldckaaGreatDoor
open Go.RowKit
set_option linter.unusedVariables false
namespace Adz
def runesGo (s : ByteArray) : Nat → Nat → List Int
  | 0, _ => []
  | b + 1, i => if i < s.size then Int.ofNat (Utf8.decode s i).1 :: runesGo s b (i + (Utf8.decode s i).2) else []
/-- A text's runes. -/
def runes (s : ByteArray) : List Int := runesGo s s.size 0
theorem runesFrom_eq (s : ByteArray) : ∀ (b i : Nat) (acc : Array Value), (Conv.runesFrom s b i acc).toList = acc.toList ++ (runesGo s b i).map (.int .i32)
  | 0, i, acc => by simp [Conv.runesFrom, runesGo]
  | b + 1, i, acc => by
    unfold Conv.runesFrom runesGo
    split
    · simp only []
      rw [runesFrom_eq s b]
      simp
    · simp
theorem runesGo_len (s : ByteArray) : ∀ (b i : Nat), (runesGo s b i).length ≤ b
  | 0, i => by simp [runesGo]
  | b + 1, i => by
    unfold runesGo
    split
    · have := runesGo_len s b (i + (Utf8.decode s i).2); simp; omega
    · simp
theorem runes_len (s : ByteArray) : (runes s).length ≤ s.size := runesGo_len s _ _
theorem runesFrom_all (s : ByteArray) : (Conv.runesFrom s s.size 0 #[]).toList = (runes s).map (.int .i32) := by
  rw [runesFrom_eq]; simp [runes]
theorem runesFrom_size (s : ByteArray) : (Conv.runesFrom s s.size 0 #[]).size = (runes s).length := by
  rw [← Array.length_toList, runesFrom_all, List.length_map]
end Adz

theorem append_none (w : World) (ty : TypeId) (v : Value) (k c : Nat) {base : Nat} {e : TypeId} {xs : List Value} (hown : w.ownsRow base e 1 v k xs) :
    (Builtin.append_ #[103, 103] ty #[v, .slice none 0 c]).run Tryz.prog w = .ok v w := by
  have hcap : ∃ a cap, v = .slice a k cap ∧ k ≤ cap := by
    rcases hown.2 with ⟨rfl, rfl⟩ | ⟨g, cap, cur, rfl, _, _, h, _⟩
    · exact ⟨_, _, rfl, Nat.le_refl _⟩
    · exact ⟨_, _, rfl, h⟩
  obtain ⟨a, cap, rfl, hc⟩ := hcap
  obtain ⟨i, hi, hz0, hz1, hz2⟩ := info_parts infoRune
  have hu := run_underlying (P := Tryz.prog) (w := w) Tryz.underlying103
  have hsz : (sizeOf 21).run Tryz.prog w = .ok 1 w := by simp [sizeOf, typeInfo, hi, hz1]
  cases a <;> simp [Builtin.append_, hu, hsz, Builtin.lenOf, Builtin.firstCells, hc, storeCells, Sem.run_bind, Result.andThen]

theorem run_append_runes (w : World) (ty : TypeId) (base : Nat) (v : Value) (k : Nat) (xs : List Int) (hown : w.ownsRow base 21 1 v k (xs.map (.int .i32))) (a : Option Addr) (c : Nat) (sp : List Int) (hs : SpaceAt w a sp) (hkn : k + sp.length ≤ 100000000) (hb : base ≤ w.heap.size) :
    ∃ v' w', (Builtin.append_ #[103, 103] ty #[v, .slice a sp.length c]).run Tryz.prog w = .ok v' w' ∧ w'.ownsRow base 21 1 v' (k + sp.length) ((xs ++ sp).map (.int .i32)) ∧ w.grownBy w' v.ownBlock ∧ (v'.ownBlock = v.ownBlock ∨ v'.ownBlock = some w.heap.size) := by
  obtain ⟨i, hi, hz0, hz1, hz2⟩ := info_parts infoRune
  by_cases he : sp = []
  · subst he
    cases a with
    | none => exact ⟨v, w, append_none w ty v k c hown, by simpa using hown, ⟨rfl, rfl, rfl, Nat.le_refl _, fun _ _ _ => rfl⟩, Or.inl rfl⟩
    | some ad =>
      obtain ⟨v', w', h1, h2, h3, _, h5⟩ := run_append_own_at (P := Tryz.prog) w base 103 ty 21 i _ 1 4 Tryz.underlying103 hi hz0 hz1 hz2 rfl (by omega) v k _ hown ad 0 c [] rfl (by simp) (by simp) (by unfold maxLen; omega) (by simp at hkn; omega) hb
      exact ⟨v', w', h1, by simpa using h2, h3, h5⟩
  · obtain ⟨rb, ro, rfl, _, hc⟩ := hs he
    obtain ⟨v', w', h1, h2, h3, _, h5⟩ := run_append_own_at (P := Tryz.prog) w base 103 ty 21 i _ 1 4 Tryz.underlying103 hi hz0 hz1 hz2 rfl (by omega) v k _ hown ⟨rb, ro, none⟩ sp.length c (sp.map (.int .i32)) (by simp) (fun j u hu => by
      rw [Addr.add_mid]
      rw [List.getElem?_map] at hu
      cases hj : sp[j]? with
      | none => rw [hj] at hu; cases hu
      | some r =>
        rw [hj] at hu
        simp at hu
        subst hu
        have hl : j < sp.length := (List.getElem?_eq_some_iff.1 hj).1
        rw [hc j hl, List.getD_eq_getElem?_getD, hj]; rfl) (by intro u hu; simp at hu; obtain ⟨r, _, rfl⟩ := hu; rfl) (by unfold maxLen; omega) (by omega) hb
    exact ⟨v', w', h1, by simpa using h2, h3, h5⟩

/-- At the operation. -/
theorem wp_append_runes (w : World) {o : Oper} {a : Act} {K : Act → World → Prop} {Q : Exit → Act → World → Prop} (s x : Operand)
    (ho : o.op = .call { callee := .builtin .append, args := #[s, x], argTypes := #[103, 103] }) (base : Nat) (v : Value) (k : Nat) (xs : List Int) (hv : a.eval s = v) (hown : w.ownsRow base 21 1 v k (xs.map (.int .i32))) (ad : Option Addr) (c : Nat) (sp : List Int) (n : Nat) (hx : a.eval x = .slice ad n c) (hn : n = sp.length) (hs : SpaceAt w ad sp) (hkn : k + n ≤ 100000000) (hb : base ≤ w.heap.size)
    (h : ∀ a' c' w', w'.ownsRow base 21 1 (.slice a' (k + n) c') (k + n) ((xs ++ sp).map (.int .i32)) → Only (fun b => v.ownBlock = some b) w w' → ((Value.slice a' (k + n) c').ownBlock = v.ownBlock ∨ (Value.slice a' (k + n) c').ownBlock = some w.heap.size) → K (a.put o.dst (.slice a' (k + n) c')) w') : o.wp Tryz.prog a w K Q := by
  subst hn
  obtain ⟨v', w', hr, h2, h3, h4⟩ := run_append_runes w o.type base v k xs hown ad c sp hs hkn hb
  obtain ⟨a', c', rfl⟩ := row_shape h2
  unfold Oper.wp execOp
  simp only [ho, resolve, invoke, builtin, Sem.run_bind, Sem.run_pure, Result.andThen_ok, List.map_toArray, List.map_cons, List.map_nil, hv, hx, hr]
  exact h a' c' w' h2 (Only.of_grown h3) h4
theorem step_append_runes (w : World) {ops : Array Oper} {o : Oper} {a : Act} {K : Act → World → Prop} {Q : Exit → Act → World → Prop} {E : Prop} (hgd : o.guard = none) (s x : Operand)
    (ho : o.op = .call { callee := .builtin .append, args := #[s, x], argTypes := #[103, 103] }) (base : Nat) (v : Value) (k : Nat) (xs : List Int) (hv : a.eval s = v) (hown : w.ownsRow base 21 1 v k (xs.map (.int .i32))) (ad : Option Addr) (c : Nat) (sp : List Int) (n : Nat) (hx : a.eval x = .slice ad n c) (hn : n = sp.length) (hs : SpaceAt w ad sp) (hkn : k + n ≤ 100000000) (hb : base ≤ w.heap.size)
    (h : ∀ a' c' w', w'.ownsRow base 21 1 (.slice a' (k + n) c') (k + n) ((xs ++ sp).map (.int .i32)) → Only (fun b => v.ownBlock = some b) w w' → ((Value.slice a' (k + n) c').ownBlock = v.ownBlock ∨ (Value.slice a' (k + n) c').ownBlock = some w.heap.size) → K (a.put o.dst (.slice a' (k + n) c')) w') :
    if Region.wanted o (yielded ops a.tmps) = true then Oper.wp Tryz.prog o a w K Q else E := by
  rw [if_pos (by simp [Region.wanted, hgd])]
  exact wp_append_runes w s x ho base v k xs hv hown ad c sp n hx hn hs hkn hb h
theorem wpList_append_runes (w : World) {ops : Array Oper} {rest : List Oper} {o : Oper} {a : Act} {Q : Exit → Act → World → Prop} (hgd : o.guard = none) (s x : Operand)
    (ho : o.op = .call { callee := .builtin .append, args := #[s, x], argTypes := #[103, 103] }) (base : Nat) (v : Value) (k : Nat) (xs : List Int) (hv : a.eval s = v) (hown : w.ownsRow base 21 1 v k (xs.map (.int .i32))) (ad : Option Addr) (c : Nat) (sp : List Int) (n : Nat) (hx : a.eval x = .slice ad n c) (hn : n = sp.length) (hs : SpaceAt w ad sp) (hkn : k + n ≤ 100000000) (hb : base ≤ w.heap.size)
    (h : ∀ a' c' w', w'.ownsRow base 21 1 (.slice a' (k + n) c') (k + n) ((xs ++ sp).map (.int .i32)) → Only (fun b => v.ownBlock = some b) w w' → ((Value.slice a' (k + n) c').ownBlock = v.ownBlock ∨ (Value.slice a' (k + n) c').ownBlock = some w.heap.size) → wpList Tryz.prog ops Q rest (a.put o.dst (.slice a' (k + n) c')) w') :
    wpList Tryz.prog ops Q (o :: rest) a w :=
  wpList_plain hgd fun _ hK => wp_append_runes w s x ho base v k xs hv hown ad c sp n hx hn hs hkn hb (fun a' c' w' h1 h2 h3 => hK _ _ (h a' c' w' h1 h2 h3))

/-- '[]rune(s)'. -/
theorem conv_runes (w : World) (s : ByteArray) (hs : s.size ≤ 1000000) : ∃ c w', (convert 9 103 (.string s)).run Tryz.prog w = .ok (.slice (some ⟨w.heap.size, 0, none⟩) (Adz.runes s).length c) w' ∧ SpaceAt w' (some ⟨w.heap.size, 0, none⟩) (Adz.runes s) ∧ Only (fun _ => False) w w' ∧ (Adz.runes s).length ≤ c ∧ Typ w' w.heap.size 21 := by
  have hz := Adz.runesFrom_size s
  have hl := Adz.runes_len s
  have hrun := run_runes_of_string (P := Tryz.prog) w 9 103 21 s Tryz.underlying9 Tryz.underlying103 Tryz.underlying21 (by rw [hz]; omega)
  have hge := grownCap_ge w (Conv.runesFrom s s.size 0 #[]).size 0 21
  generalize hcap : grownCap w (Conv.runesFrom s s.size 0 #[]).size 0 21 = cap at *
  have hcells := Cells.new w.drew (Conv.runesFrom s s.size 0 #[] ++ Array.replicate (cap - (Conv.runesFrom s s.size 0 #[]).size) (.int .i32 0)) 21
  have htyp := Typ.new w.drew (Conv.runesFrom s s.size 0 #[] ++ Array.replicate (cap - (Conv.runesFrom s s.size 0 #[]).size) (.int .i32 0)) 21 (0, 0)
  have hblk := heap_alloc_new w.drew (.cells (Conv.runesFrom s s.size 0 #[] ++ Array.replicate (cap - (Conv.runesFrom s s.size 0 #[]).size) (.int .i32 0)) 21)
  rw [hz] at hrun
  refine ⟨cap, _, hrun, ?_, ((Only.refl _ w).drew).alloc _, by rw [hz] at hge; exact hge, by rw [← hz]; exact htyp⟩
  · intro _
    refine ⟨_, 0, rfl, by rw [← hz]; exact htyp, fun j hj => ?_⟩
    rw [← hz]
    refine (hcells (0 + j) _ ?_).1
    rw [Array.toList_append, Adz.runesFrom_all, Nat.zero_add, List.getElem?_append_left (by rw [List.length_map]; exact hj), List.getElem?_map, List.getD_eq_getElem?_getD, List.getElem?_eq_getElem hj]
    rfl
end Go.Proofs.YtbiobhghnldckaaGreatDoor

/- Proved: a match's replacement is laid behind what has been changed. Conditions: the parts, the space and the match lie in memory, and the match's places lie in the space. -/
namespace Go.Proofs.YtbiobhghnldckaaGreatDoor
open Go.RowKit
set_option linter.unusedVariables false
namespace Adz
def seg (sp : List Int) (f t : Int) : List Int := (sp.drop f.toNat).take (t.toNat - f.toNat)
def repl1 (sp m : List Int) (p : Part) : List Int :=
  if p.kind = 0 then runes ⟨p.text.toArray⟩ else if p.kind = 1 then seg sp (m.getD 0 0) (m.getD 1 0) else if p.kind = 2 then seg sp (m.getD (p.group.toNat * 2) 0) (m.getD (p.group.toNat * 2 + 1) 0) else []
def replAll (sp m : List Int) (ps : List Part) : List Int := ps.flatMap (repl1 sp m)
/-- two places of a space, one not behind the other -/
def inside (f t : Int) (n : Nat) : Prop := 0 ≤ f ∧ f ≤ t ∧ t ≤ n
/-- what a part of a replacement asks of a match -/
def fits (m : List Int) (n : Nat) (p : Part) : Prop := (p.kind = 0 ∧ p.text.length ≤ 100000) ∨ p.kind = 1 ∨ (p.kind = 2 ∧ 1 ≤ p.group ∧ p.group ≤ 9 ∧ inside (m.getD (p.group.toNat * 2) 0) (m.getD (p.group.toNat * 2 + 1) 0) n)
theorem seg_len (sp : List Int) (f t : Nat) (h1 : f ≤ t) (h2 : t ≤ sp.length) : (seg sp f t).length = t - f := by
  simp [seg]; omega
theorem repl1_len (sp m : List Int) (p : Part) (h : fits m sp.length p) : (repl1 sp m p).length ≤ sp.length + 100000 := by
  unfold repl1
  split
  · rcases h with ⟨_, h⟩ | h | ⟨h, _⟩
    · have := runes_len ⟨p.text.toArray⟩
      have e : (⟨p.text.toArray⟩ : ByteArray).size = p.text.length := by simp [ByteArray.size]
      omega
    · omega
    · omega
  · split
    · simp [seg]; omega
    · split
      · simp [seg]; omega
      · simp
end Adz

/-- A slice of runes, nil or not. -/
def Sl (w : World) (ra : Option Addr) (sp : List Int) : Prop := (ra = none ∧ sp = []) ∨ ∃ rb ro, ra = some ⟨rb, ro, none⟩ ∧ Typ w rb 21 ∧ ∀ j, j < sp.length → w.cell? ⟨rb, ro + j, none⟩ = some (.int .i32 (sp.getD j 0))
theorem Sl.space {w : World} {ra : Option Addr} {sp : List Int} (h : Sl w ra sp) : SpaceAt w ra sp := by
  intro hne
  rcases h with ⟨_, h⟩ | h
  · exact absurd h hne
  · exact h
theorem Sl.keeps {S : Nat → Prop} {w w' : World} {ra : Option Addr} {sp : List Int} (h : Sl w ra sp) (o : Only S w w') (hs : ∀ b o, ra = some ⟨b, o, none⟩ → ¬ S b) : Sl w' ra sp := by
  rcases h with h | ⟨rb, ro, e, ht, hc⟩
  · exact Or.inl h
  · exact Or.inr ⟨rb, ro, e, ht.keeps o (hs _ _ e), fun j hj => o.keeps (hc j hj) (hs _ _ e)⟩
/-- A piece of a slice of runes. -/
theorem Sl.cut {w : World} {ra : Option Addr} {sp : List Int} (h : Sl w ra sp) (rc f t : Nat) (h1 : f ≤ t) (h2 : t ≤ sp.length) (h3 : sp.length ≤ rc) : SpaceAt w (if rc = f then ra else ra.map (·.add f)) (Adz.seg sp f t) := by
  intro hne
  have hlen := Adz.seg_len sp f t h1 h2
  have hp : 0 < (Adz.seg sp f t).length := List.length_pos_iff.2 hne
  rcases h with ⟨_, e⟩ | ⟨rb, ro, rfl, ht, hc⟩
  · subst e; simp at h2; omega
  · rw [if_neg (by omega)]
    refine ⟨rb, ro + f, ?_, ht, fun j hj => ?_⟩
    · simp [Addr.add_mid]
    · rw [show ro + f + j = ro + (f + j) by omega, hc (f + j) (by omega)]
      congr 2
      simp only [Adz.seg, List.getD_eq_getElem?_getD, Int.toNat_natCast]
      rw [List.getElem?_take, if_pos (by omega), List.getElem?_drop]

theorem PartsAt.get {w : World} {a : Option Addr} {n c : Nat} {ps : List Adz.Part} (h : PartsAt w (.slice a n c) ps) (hne : ps ≠ []) :
    ∃ b, a = some ⟨b, 0, none⟩ ∧ Typ w b 240 ∧ ∀ i (hi : i < ps.length), w.cell? ⟨b, i * 3, none⟩ = some (.int .i64 ps[i].kind) ∧ w.cell? ⟨b, i * 3 + 1, none⟩ = some (.string ⟨ps[i].text.toArray⟩) ∧ w.cell? ⟨b, i * 3 + 2, none⟩ = some (.int .i64 ps[i].group) := by
  rcases h.2 with ⟨_, e⟩ | ⟨g, cap, cur, hv, _, hg, hcap, _, hsz, htake⟩
  · exact absurd (List.length_eq_zero_iff.1 e) hne
  · injection hv with e1 e2 e3
    refine ⟨g, e1, ⟨cur, (0, 0), hg⟩, fun i hi => ?_⟩
    have key : ∀ (l : List Adz.Part) (i : Nat) (hi : i < l.length) (o : Nat), o < 3 → (l.flatMap partCells)[i * 3 + o]? = (partCells l[i])[o]? := by
      intro l
      induction l with
      | nil => intro i hi; simp at hi
      | cons p l ih =>
        intro i hi o ho
        cases i with
        | zero =>
          simp only [List.flatMap_cons, Nat.zero_mul, Nat.zero_add, List.getElem_cons_zero]
          rw [List.getElem?_append_left (by simp [partCells]; omega)]
        | succ i =>
          simp only [List.flatMap_cons, List.getElem_cons_succ]
          rw [List.getElem?_append_right (by simp [partCells]; omega)]
          have e : (i + 1) * 3 + o - (partCells p).length = i * 3 + o := by simp [partCells]; omega
          rw [e]
          exact ih i (by simpa using hi) o ho
    have hcell : ∀ o u, o < 3 → (partCells ps[i])[o]? = some u → w.cell? ⟨g, i * 3 + o, none⟩ = some u := by
      intro o u ho hu
      rw [cell_of_row _ g (i * 3 + o) cur _ (0, 0) hg]
      have hx := key ps i hi o ho
      rw [hu, ← htake, List.getElem?_take] at hx
      have : i * 3 + o < ps.length * 3 := by omega
      simpa [this] using hx
    exact ⟨hcell 0 _ (by omega) rfl, hcell 1 _ (by omega) rfl, hcell 2 _ (by omega) rfl⟩
theorem shape_only {S : Nat → Prop} {w w' : World} {b : Nat} (o : Only S w w') (hb : b < w.heap.size) (hs : ¬ S b) : w'.shape? b = w.shape? b := by
  unfold World.shape?
  rw [o.block b hb hs]
theorem shape_set {w : World} {p : Addr} {v : Value} {b : Nat} : (w.setCell p v).shape? b = w.shape? b := by
  unfold World.shape?
  by_cases e : b = p.block
  · subst e
    simp only [World.setCell, Array.getElem?_modify, if_true]
    cases h : w.heap[p.block]? with
    | none => rfl
    | some o => cases o <;> simp <;> (first | rfl | (split <;> simp))
  · rw [Below.heap_setCell _ _ _ _ e]

end Go.Proofs.YtbiobhghnldckaaGreatDoor
