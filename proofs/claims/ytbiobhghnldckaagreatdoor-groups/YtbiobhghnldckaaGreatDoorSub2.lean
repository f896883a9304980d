/- Proved: a match's replacement is laid behind what has been changed. Conditions: the parts, the space and the match lie in memory, and the match's places lie in the space. -/
import Derived.Test.YtbiobhghnldckaaGreatDoorSub1
namespace Go.Proofs.YtbiobhghnldckaaGreatDoor
open Go.RowKit
set_option linter.unusedVariables false

theorem replAll_take (sp m : List Int) (ps : List Adz.Part) (j : Nat) (h : j < ps.length) : Adz.replAll sp m (ps.take (j + 1)) = Adz.replAll sp m (ps.take j) ++ Adz.repl1 sp m ps[j] := by
  unfold Adz.replAll
  rw [List.take_succ_eq_append_getElem h, List.flatMap_append]
  simp
theorem replAll_le (sp m : List Int) (ps : List Adz.Part) (j : Nat) (h : j < ps.length) : (Adz.replAll sp m (ps.take j)).length + (Adz.repl1 sp m ps[j]).length ≤ (Adz.replAll sp m ps).length := by
  have e : Adz.replAll sp m ps = Adz.replAll sp m (ps.take (j + 1)) ++ Adz.replAll sp m (ps.drop (j + 1)) := by
    unfold Adz.replAll; rw [← List.flatMap_append, List.take_append_drop]
  rw [e, replAll_take sp m ps j h]
  simp only [List.length_append]
  omega

set_option maxRecDepth 100000 in
set_option maxHeartbeats 3200000 in
theorem replace_calls (ps : List Adz.Part) (pa : Option Addr) (pc : Nat) (w : World) (hp : PartsAt w (.slice pa ps.length pc) ps) (hpl : ps.length ≤ 1000) (base : Nat) (hb : base ≤ w.heap.size) (ca : Option Addr) (cc : Nat) (ch : List Int) (hown : w.ownsRow base 21 1 (.slice ca ch.length cc) ch.length (ch.map (.int .i32)))
    (ra : Option Addr) (rc : Nat) (sp : List Int) (hs : Sl w ra sp) (hrc : sp.length ≤ rc) (hsep : ∀ b o, ra = some ⟨b, o, none⟩ → (Value.slice ca ch.length cc).ownBlock ≠ some b) (mb : Nat) (m : List Int) (hM : MatchAt w mb m) (hfit : ∀ p ∈ ps, Adz.fits m sp.length p) (h01 : Adz.inside (m.getD 0 0) (m.getD 1 0) sp.length) (hbd : ch.length + (Adz.replAll sp m ps).length ≤ 50000000) :
    Calls Tryz.prog 165 #[.slice ca ch.length cc, .slice pa ps.length pc, .slice ra sp.length rc, .pointer (some ⟨mb, 0, none⟩)] w fun e w' => ∃ a' c' N, N = ch.length + (Adz.replAll sp m ps).length ∧ e = .returned (.slice a' N c') ∧ w'.ownsRow base 21 1 (.slice a' N c') N ((ch ++ Adz.replAll sp m ps).map (.int .i32)) ∧
      Only (fun b => (Value.slice ca ch.length cc).ownBlock = some b) w w' ∧ (∀ b, (Value.slice a' N c').ownBlock = some b → (Value.slice ca ch.length cc).ownBlock = some b ∨ w.heap.size ≤ b) := by
  go_enter Tryz.func165, Tryz.ntmps165
  go_wp2_with fail
  go_loopg [0, 13] ps.length (fun k v u wr => ∃ (j N : Nat) (a' : Option Addr) (c' : Nat) (h : List Int), v = .slice a' N c' ∧ u = .int .i64 j ∧ j + k = ps.length ∧ Hid (h = ch ++ Adz.replAll sp m (ps.take j)) ∧ Hid (N = h.length) ∧ Hid (wr.ownsRow base 21 1 (.slice a' N c') N (h.map (.int .i32))) ∧ Hid (Only (fun b => (Value.slice ca ch.length cc).ownBlock = some b) w wr) ∧ Hid (∀ b, (Value.slice a' N c').ownBlock = some b → (Value.slice ca ch.length cc).ownBlock = some b ∨ w.heap.size ≤ b))
  case atStart =>
    refine ⟨0, ch.length, ca, cc, ch, rfl, rfl, by omega, ?_, rfl, hown, Only.refl _ _, ?_⟩
    · show _ = _; simp [Adz.replAll]
    · show ∀ b, _ → _; intro b hb'; exact Or.inl hb'
  case round =>
    obtain ⟨j, N, a', c', h, rfl, rfl, hjk, hH, hN, h1, h2, h3⟩ := hrel
    have HK : Hid (j + gk = ps.length) := hjk
    have hjl : j ≤ ps.length := by omega
    have hW : wr.ownsRow base 21 1 (.slice a' N c') N (h.map (.int .i32)) := h1
    have hO : Only (fun b => (Value.slice ca ch.length cc).ownBlock = some b) w wr := h2
    clear hjk h1 h2
    by_cases hlt : j < ps.length
    · have hpr := hp.keeps hO (fun b hb' e => by
        have := (Typ.of_row hown e).one hb'
        exact absurd this (by decide))
      obtain ⟨pb, rfl, tp, hcells⟩ := hpr.get (by intro e; simp [e] at hlt)
      obtain ⟨p0, p1, p2⟩ := hcells j hlt
      have lpb : pb < wr.heap.size := tp.lt
      have hsr := hs.keeps hO (fun b o e1 e2 => hsep b o e1 e2)
      have hMr := hM.keeps hO (fun e => absurd ((Typ.of_row hown e).one hM.typ) (by decide))
      have hfj := hfit _ (List.getElem_mem hlt)
      have htk := replAll_take sp m ps j hlt
      have hle := replAll_le sp m ps j hlt
      have hwj : IntKind.i64.wrap ((j : Int) + 1) = (j : Int) + 1 := by rw [IntKind.wrap_i64]; omega
      have hb1 : (j : Int) < ps.length := by omega
      have hNb : N + (Adz.repl1 sp m ps[j]).length ≤ 50000000 := by
        have := hN.out
        have e2 := hH.out
        rw [e2, List.length_append] at this
        omega
      have htk2 : Hid (h ++ Adz.repl1 sp m ps[j] = ch ++ Adz.replAll sp m (ps.take (j + 1))) := by
        show _ = _
        rw [htk, hH.out, List.append_assoc]
      have hnew : ∀ {u : World} {a2 : Option Addr} {c2 N2 : Nat}, w.heap.size ≤ u.heap.size → ((Value.slice a2 N2 c2).ownBlock = (Value.slice a' N c').ownBlock ∨ (Value.slice a2 N2 c2).ownBlock = some u.heap.size) → ∀ b, (Value.slice a2 N2 c2).ownBlock = some b → (Value.slice ca ch.length cc).ownBlock = some b ∨ w.heap.size ≤ b := by
        intro u a2 c2 N2 hu hor b hb2
        rcases hor with e | e
        · exact h3.out b (e ▸ hb2)
        · rw [e] at hb2; injection hb2 with e; right; omega
      clear htk hle hH hcells
      generalize hpj : ps[j] = p at *
      by_cases k0 : p.kind = 0
      · have hr1 : Adz.repl1 sp m p = Adz.runes ⟨p.text.toArray⟩ := by simp [Adz.repl1, k0]
        rw [hr1] at htk2 hNb
        rw [k0] at p0
        have htl : p.text.length ≤ 100000 := by rcases hfj with ⟨_, h⟩ | h | ⟨h, _⟩ <;> omega
        have oA : Only (fun _ => False) wr (wr.alloc (.cells #[.int .i64 0, .string ⟨p.text.toArray⟩, .int .i64 p.group] 240)) := (Only.refl _ wr).alloc _
        have hWA := row_keeps hW oA (fun _ _ => id)
        obtain ⟨cv, w1, hrun, hsp1, ho1, _, _⟩ := conv_runes (wr.alloc (.cells #[.int .i64 0, .string ⟨p.text.toArray⟩, .int .i64 p.group] 240)) ⟨p.text.toArray⟩ (by simp [ByteArray.size]; omega)
        have hW1 := row_keeps hWA ho1 (fun _ _ => id)
        have hO1 := hO.trans (oA.trans ho1 (fun _ e => e) (fun _ _ e => e)) (fun _ e => e) (fun _ _ e => e.elim)
        simp only [World.size_alloc] at hsp1
        clear hWA hsr hMr hfj hpj k0 hr1
        generalize hrs : Adz.runes ⟨p.text.toArray⟩ = rs at *
        go_wp2_with (at_builtin; refine wpList_append_runes _ (by rfl) _ _ (by rfl) base (.slice a' N c') N h (by rfl) hW1 _ _ rs _ (by rfl) rfl hsp1 (by omega) (by have := hO1.size; omega) ?_; intro a2 c2 w2 hown2 ho2 hat2)
        go_roundg (gk - 1)
        case measure => have := HK.out; omega
        case rel => exact ⟨j + 1, N + rs.length, a2, c2, h ++ rs, rfl, by first | rfl | simp, by have := HK.out; omega, htk2, by show _ = _; rw [List.length_append, hN.out], hown2, hO1.trans ho2 (fun _ e => e) (fun b hb e => by rcases h3.out b e with e | e; exact e; omega), hnew hO1.size hat2⟩
      by_cases k1 : p.kind = 1
      · obtain ⟨f, hf⟩ : ∃ f : Nat, m.getD 0 0 = f := ⟨(m.getD 0 0).toNat, by have := h01.1; omega⟩
        obtain ⟨t, ht⟩ : ∃ t : Nat, m.getD 1 0 = t := ⟨(m.getD 1 0).toNat, by have := h01.1; have := h01.2.1; omega⟩
        have hin := h01
        rw [hf, ht] at hin
        obtain ⟨_, hi1, hi2⟩ := hin
        have hr1 : Adz.repl1 sp m p = Adz.seg sp f t := by unfold Adz.repl1; rw [if_neg (by omega), if_pos k1, hf, ht]
        have hsl := Adz.seg_len sp f t (by omega) (by omega)
        rw [hr1] at htk2 hNb
        rw [k1] at p0
        have mc0 : wr.cell? ⟨mb, 0, none⟩ = some (.int .i64 f) := by
          have := hMr.cells 0 (.int .i64 f) (by rw [List.getElem?_map, ← hf, List.getD_eq_getElem?_getD, List.getElem?_eq_getElem (by rw [hM.len]; omega)]; rfl)
          rwa [Nat.zero_add] at this
        have mc1 : wr.cell? ⟨mb, 1, none⟩ = some (.int .i64 t) := by
          have := hMr.cells 1 (.int .i64 t) (by rw [List.getElem?_map, ← ht, List.getD_eq_getElem?_getD, List.getElem?_eq_getElem (by rw [hM.len]; omega)]; rfl)
          rwa [Nat.zero_add] at this
        have lmb : mb < wr.heap.size := hMr.typ.lt
        have oA : Only (fun _ => False) wr (wr.alloc (.cells #[.int .i64 1, .string ⟨p.text.toArray⟩, .int .i64 p.group] 240)) := (Only.refl _ wr).alloc _
        have hWA := row_keeps hW oA (fun _ _ => id)
        have hsA := hsr.keeps oA (fun _ _ _ => id)
        have q0 := oA.keeps mc0 id
        have q1 := oA.keeps mc1 id
        have hOA := hO.trans oA (fun _ e => e) (fun _ _ e => e.elim)
        clear hsr hMr hfj hpj hr1 k0 k1
        go_wp2_with fail
        generalize wr.alloc (.cells #[.int .i64 1, .string ⟨p.text.toArray⟩, .int .i64 p.group] 240) = wA at *
        clear p0 p1 p2 mc0 mc1
        have od : Only (fun _ => False) wA wA.drew := (Only.refl _ wA).drew
        have hWd := row_keeps hWA od (fun _ _ => id)
        have hcs := (hsA.keeps od (fun _ _ _ => id)).cut rc f t (by omega) (by omega) hrc
        have hx1 : f ≤ t := by omega
        have hx2 : t ≤ rc := by omega
        go_region_law ((refine step_append_runes _ (by rfl) _ _ (by rfl) base (.slice a' N c') N h (by rfl) hWd _ _ (Adz.seg sp f t) _ (by rfl) hsl.symm (by first | exact hcs | simpa using hcs) (by omega) (by have := hOA.size; have := od.size; omega) ?_; intro a2 c2 w2 hown2 ho2 hat2))
        all_goals
          clear hcs
          generalize (if rc = f then ra else Option.map (fun x => x.add f) ra) = sa at *
          go_wp2
          go_roundg (gk - 1)
          case measure => have := HK.out; omega
          case rel => exact ⟨j + 1, N + (t - f), a2, c2, h ++ Adz.seg sp f t, rfl, by first | rfl | simp, by have := HK.out; omega, htk2, by show _ = _; rw [List.length_append, hsl, hN.out], hown2, (hOA.trans od (fun _ e => e) (fun _ _ e => e.elim)).trans ho2 (fun _ e => e) (fun b hb e => by rcases h3.out b e with e | e; exact e; omega), hnew (hOA.trans od (fun _ e => e) (fun _ _ e => e.elim)).size hat2⟩
      obtain ⟨k2, hg1, hg2, hins⟩ : p.kind = 2 ∧ 1 ≤ p.group ∧ p.group ≤ 9 ∧ Adz.inside (m.getD (p.group.toNat * 2) 0) (m.getD (p.group.toNat * 2 + 1) 0) sp.length := by
        rcases hfj with ⟨h, _⟩ | h | h
        · omega
        · omega
        · exact h
      obtain ⟨gn, hgn⟩ : ∃ gn : Nat, p.group = gn := ⟨p.group.toNat, by omega⟩
      have hgb : gn < 10 := by omega
      have hgi : (gn : Int) < 10 := by omega
      rw [hgn, Int.toNat_natCast] at hins
      obtain ⟨f, hf⟩ : ∃ f : Nat, m.getD (gn * 2) 0 = f := ⟨(m.getD (gn * 2) 0).toNat, by have := hins.1; omega⟩
      obtain ⟨t, ht⟩ : ∃ t : Nat, m.getD (gn * 2 + 1) 0 = t := ⟨(m.getD (gn * 2 + 1) 0).toNat, by have := hins.1; have := hins.2.1; omega⟩
      rw [hf, ht] at hins
      obtain ⟨_, hi1, hi2⟩ := hins
      have hr1 : Adz.repl1 sp m p = Adz.seg sp f t := by unfold Adz.repl1; rw [if_neg (by omega), if_neg (by omega), if_pos k2, hgn, Int.toNat_natCast, hf, ht]
      have hsl := Adz.seg_len sp f t (by omega) (by omega)
      rw [hr1] at htk2 hNb
      rw [k2] at p0
      rw [hgn] at p2
      have mc0 : wr.cell? ⟨mb, gn * 2, none⟩ = some (.int .i64 f) := by
        have := hMr.cells (gn * 2) (.int .i64 f) (by rw [List.getElem?_map, ← hf, List.getD_eq_getElem?_getD, List.getElem?_eq_getElem (by rw [hM.len]; omega)]; rfl)
        rwa [Nat.zero_add] at this
      have mc1 : wr.cell? ⟨mb, gn * 2 + 1, none⟩ = some (.int .i64 t) := by
        have := hMr.cells (gn * 2 + 1) (.int .i64 t) (by rw [List.getElem?_map, ← ht, List.getD_eq_getElem?_getD, List.getElem?_eq_getElem (by rw [hM.len]; omega)]; rfl)
        rwa [Nat.zero_add] at this
      have lmb : mb < wr.heap.size := hMr.typ.lt
      have oA : Only (fun _ => False) wr (wr.alloc (.cells #[.int .i64 2, .string ⟨p.text.toArray⟩, .int .i64 gn] 240)) := (Only.refl _ wr).alloc _
      have hWA := row_keeps hW oA (fun _ _ => id)
      have hsA := hsr.keeps oA (fun _ _ _ => id)
      have q0 := oA.keeps mc0 id
      have q1 := oA.keeps mc1 id
      have q2 := ((Cells.new wr #[.int .i64 2, .string ⟨p.text.toArray⟩, .int .i64 gn] 240) 2 _ rfl).1
      have hOA := hO.trans oA (fun _ e => e) (fun _ _ e => e.elim)
      clear hsr hMr hfj hpj hr1 k0 k1 k2 hg1 hg2
      go_wp2_with fail
      generalize wr.alloc (.cells #[.int .i64 2, .string ⟨p.text.toArray⟩, .int .i64 gn] 240) = wA at *
      clear p0 p1 p2 mc0 mc1
      have od : Only (fun _ => False) wA wA.drew := (Only.refl _ wA).drew
      have hWd := row_keeps hWA od (fun _ _ => id)
      have hcs := (hsA.keeps od (fun _ _ _ => id)).cut rc f t (by omega) (by omega) hrc
      have hx1 : f ≤ t := by omega
      have hx2 : t ≤ rc := by omega
      go_region_law ((refine step_append_runes _ (by rfl) _ _ (by rfl) base (.slice a' N c') N h (by rfl) hWd _ _ (Adz.seg sp f t) _ (by rfl) hsl.symm (by first | exact hcs | simpa using hcs) (by omega) (by have := hOA.size; have := od.size; omega) ?_; intro a2 c2 w2 hown2 ho2 hat2))
      all_goals
        clear hcs
        generalize (if rc = f then ra else Option.map (fun x => x.add f) ra) = sa at *
        go_wp2
        go_roundg (gk - 1)
        case measure => have := HK.out; omega
        case rel => exact ⟨j + 1, N + (t - f), a2, c2, h ++ Adz.seg sp f t, rfl, by first | rfl | simp, by have := HK.out; omega, htk2, by show _ = _; rw [List.length_append, hsl, hN.out], hown2, (hOA.trans od (fun _ e => e) (fun _ _ e => e.elim)).trans ho2 (fun _ e => e) (fun b hb e => by rcases h3.out b e with e | e; exact e; omega), hnew (hOA.trans od (fun _ e => e) (fun _ _ e => e.elim)).size hat2⟩
    · have he : j = ps.length := by omega
      subst he
      have e2 : Hid (h = ch ++ Adz.replAll sp m ps) := by show _ = _; rw [hH.out, List.take_length]
      have e3 : Hid (N = ch.length + (Adz.replAll sp m ps).length) := by show _ = _; rw [hN.out, e2.out, List.length_append]
      clear hH hN
      go_wp2
      go_ret
      refine ⟨a', c', N, e3.out, rfl, ?_, hO, h3⟩
      rw [← e2.out]; exact hW
end Go.Proofs.YtbiobhghnldckaaGreatDoor
