/- Proved: a match's replacement is laid behind what has been changed. Conditions: the parts, the space and the match lie in memory, and the match's places lie in the space. -/
import Derived.Test.YtbiobhghnldckaaGreatDoorK6
import Derived.Test.YtbiobhghnldckaaGreatDoorK1
import Derived.RangeFuncNested
import Derived.RangeFuncBound
import Derived.RangeFuncCalls
import Derived.RangeFuncLeaves
import Derived.OwnWalkIn
import Derived.TacticsInMore
import Derived.LoopIn
import Derived.OrdersHeld
import Derived.Deep.MidRow
import Derived.Lib.Builder
import Derived.Lib.AppendStr
import Derived.Lib.UnsafeStr
import Derived.Laws.Externs
namespace Go.Proofs.YtbiobhghnldckaaGreatDoor
open Go.RowKit
set_option linter.unusedVariables false

theorem replAll_take (sp m : List Int) (ps : List Adz.Part) (j : Nat) (h : j < ps.length) : Adz.replAll sp m (ps.take (j + 1)) = Adz.replAll sp m (ps.take j) ++ Adz.repl1 sp m ps[j] := by
  unfold Adz.replAll
  rw [List.take_succ_eq_append_getElem h, List.flatMap_append]
  simp
theorem replAll_le (sp m : List Int) (ps : List Adz.Part) (j : Nat) (h : j < ps.length) : (Adz.replAll sp m (ps.take j)).length + (Adz.repl1 sp m ps[j]).length ≤ (Adz.replAll sp m ps).length := by
  have e : Adz.replAll sp m ps = Adz.replAll sp m (ps.take (j + 1)) ++ Adz.replAll sp m (ps.drop (j + 1)) := by
    unfold Adz.replAll; rw [← List.flatMap_append, List.take_append_drop]
  rw [e, replAll_take sp m ps j h]
  simp only [List.length_append]
  omega

set_option maxRecDepth 100000 in
set_option maxHeartbeats 3200000 in
theorem replace_calls (ps : List Adz.Part) (pa : Option Addr) (pc : Nat) (w : World) (hp : PartsAt w (.slice pa ps.length pc) ps) (hpl : ps.length ≤ 1000) (base : Nat) (hb : base ≤ w.heap.size) (ca : Option Addr) (cc : Nat) (ch : List Int) (hown : w.ownsRow base 21 1 (.slice ca ch.length cc) ch.length (ch.map (.int .i32)))
    (ra : Option Addr) (rc : Nat) (sp : List Int) (hs : Sl w ra sp) (hrc : sp.length ≤ rc) (hsep : ∀ b o, ra = some ⟨b, o, none⟩ → (Value.slice ca ch.length cc).ownBlock ≠ some b) (mb : Nat) (m : List Int) (hM : MatchAt w mb m) (hfit : ∀ p ∈ ps, Adz.fits m sp.length p) (h01 : Adz.inside (m.getD 0 0) (m.getD 1 0) sp.length) (hbd : ch.length + (Adz.replAll sp m ps).length ≤ 50000000) :
    Calls Tryz.prog 165 #[.slice ca ch.length cc, .slice pa ps.length pc, .slice ra sp.length rc, .pointer (some ⟨mb, 0, none⟩)] w fun e w' => ∃ a' c' N, N = ch.length + (Adz.replAll sp m ps).length ∧ e = .returned (.slice a' N c') ∧ w'.ownsRow base 21 1 (.slice a' N c') N ((ch ++ Adz.replAll sp m ps).map (.int .i32)) ∧
      Only (fun b => (Value.slice ca ch.length cc).ownBlock = some b) w w' ∧ (∀ b, (Value.slice a' N c').ownBlock = some b → (Value.slice ca ch.length cc).ownBlock = some b ∨ w.heap.size ≤ b) := by
  go_enter Tryz.func165, Tryz.ntmps165
  go_wp2_with fail
  go_loopg [0, 13] ps.length (fun k v u wr => ∃ (j N : Nat) (a' : Option Addr) (c' : Nat) (h : List Int), v = .slice a' N c' ∧ u = .int .i64 j ∧ j + k = ps.length ∧ Hid (h = ch ++ Adz.replAll sp m (ps.take j)) ∧ Hid (N = h.length) ∧ Hid (wr.ownsRow base 21 1 (.slice a' N c') N (h.map (.int .i32))) ∧ Hid (Only (fun b => (Value.slice ca ch.length cc).ownBlock = some b) w wr) ∧ Hid (∀ b, (Value.slice a' N c').ownBlock = some b → (Value.slice ca ch.length cc).ownBlock = some b ∨ w.heap.size ≤ b))
  case atStart =>
    refine ⟨0, ch.length, ca, cc, ch, rfl, rfl, by omega, ?_, rfl, hown, Only.refl _ _, ?_⟩
    · show _ = _; simp [Adz.replAll]
    · show ∀ b, _ → _; intro b hb'; exact Or.inl hb'
  case round =>
    obtain ⟨j, N, a', c', h, rfl, rfl, hjk, hH, hN, h1, h2, h3⟩ := hrel
    have HK : Hid (j + gk = ps.length) := hjk
    have hjl : j ≤ ps.length := by omega
    have hW : wr.ownsRow base 21 1 (.slice a' N c') N (h.map (.int .i32)) := h1
    have hO : Only (fun b => (Value.slice ca ch.length cc).ownBlock = some b) w wr := h2
    clear hjk h1 h2
    by_cases hlt : j < ps.length
    · have hpr := hp.keeps hO (fun b hb' e => by
        have := (Typ.of_row hown e).one hb'
        exact absurd this (by decide))
      obtain ⟨pb, rfl, tp, hcells⟩ := hpr.get (by intro e; simp [e] at hlt)
      obtain ⟨p0, p1, p2⟩ := hcells j hlt
      have lpb : pb < wr.heap.size := tp.lt
      have hsr := hs.keeps hO (fun b o e1 e2 => hsep b o e1 e2)
      have hMr := hM.keeps hO (fun e => absurd ((Typ.of_row hown e).one hM.typ) (by decide))
      have hfj := hfit _ (List.getElem_mem hlt)
      have htk := replAll_take sp m ps j hlt
      have hle := replAll_le sp m ps j hlt
      have hwj : IntKind.i64.wrap ((j : Int) + 1) = (j : Int) + 1 := by rw [IntKind.wrap_i64]; omega
      have hb1 : (j : Int) < ps.length := by omega
      have hNb : N + (Adz.repl1 sp m ps[j]).length ≤ 50000000 := by
        have := hN.out
        have e2 := hH.out
        rw [e2, List.length_append] at this
        omega
      have htk2 : Hid (h ++ Adz.repl1 sp m ps[j] = ch ++ Adz.replAll sp m (ps.take (j + 1))) := by
        show _ = _
        rw [htk, hH.out, List.append_assoc]
      have hnew : ∀ {u : World} {a2 : Option Addr} {c2 N2 : Nat}, w.heap.size ≤ u.heap.size → ((Value.slice a2 N2 c2).ownBlock = (Value.slice a' N c').ownBlock ∨ (Value.slice a2 N2 c2).ownBlock = some u.heap.size) → ∀ b, (Value.slice a2 N2 c2).ownBlock = some b → (Value.slice ca ch.length cc).ownBlock = some b ∨ w.heap.size ≤ b := by
        intro u a2 c2 N2 hu hor b hb2
        rcases hor with e | e
        · exact h3.out b (e ▸ hb2)
        · rw [e] at hb2; injection hb2 with e; right; omega
      clear htk hle hH hcells
      generalize hpj : ps[j] = p at *
      by_cases k0 : p.kind = 0
      · have hr1 : Adz.repl1 sp m p = Adz.runes ⟨p.text.toArray⟩ := by simp [Adz.repl1, k0]
        rw [hr1] at htk2 hNb
        rw [k0] at p0
        have htl : p.text.length ≤ 100000 := by rcases hfj with ⟨_, h⟩ | h | ⟨h, _⟩ <;> omega
        have oA : Only (fun _ => False) wr (wr.alloc (.cells #[.int .i64 0, .string ⟨p.text.toArray⟩, .int .i64 p.group] 240)) := (Only.refl _ wr).alloc _
        have hWA := row_keeps hW oA (fun _ _ => id)
        obtain ⟨cv, w1, hrun, hsp1, ho1, _, _⟩ := conv_runes (wr.alloc (.cells #[.int .i64 0, .string ⟨p.text.toArray⟩, .int .i64 p.group] 240)) ⟨p.text.toArray⟩ (by simp [ByteArray.size]; omega)
        have hW1 := row_keeps hWA ho1 (fun _ _ => id)
        have hO1 := hO.trans (oA.trans ho1 (fun _ e => e) (fun _ _ e => e)) (fun _ e => e) (fun _ _ e => e.elim)
        simp only [World.size_alloc] at hsp1
        clear hWA hsr hMr hfj hpj k0 hr1
        generalize hrs : Adz.runes ⟨p.text.toArray⟩ = rs at *
        go_wp2_with (at_builtin; refine wpList_append_runes _ (by rfl) _ _ (by rfl) base (.slice a' N c') N h (by rfl) hW1 _ _ rs _ (by rfl) rfl hsp1 (by omega) (by have := hO1.size; omega) ?_; intro a2 c2 w2 hown2 ho2 hat2)
        go_roundg (gk - 1)
        case measure => have := HK.out; omega
        case rel => exact ⟨j + 1, N + rs.length, a2, c2, h ++ rs, rfl, by first | rfl | simp, by have := HK.out; omega, htk2, by show _ = _; rw [List.length_append, hN.out], hown2, hO1.trans ho2 (fun _ e => e) (fun b hb e => by rcases h3.out b e with e | e; exact e; omega), hnew hO1.size hat2⟩
      by_cases k1 : p.kind = 1
      · obtain ⟨f, hf⟩ : ∃ f : Nat, m.getD 0 0 = f := ⟨(m.getD 0 0).toNat, by have := h01.1; omega⟩
        obtain ⟨t, ht⟩ : ∃ t : Nat, m.getD 1 0 = t := ⟨(m.getD 1 0).toNat, by have := h01.1; have := h01.2.1; omega⟩
        have hin := h01
        rw [hf, ht] at hin
        obtain ⟨_, hi1, hi2⟩ := hin
        have hr1 : Adz.repl1 sp m p = Adz.seg sp f t := by unfold Adz.repl1; rw [if_neg (by omega), if_pos k1, hf, ht]
        have hsl := Adz.seg_len sp f t (by omega) (by omega)
        rw [hr1] at htk2 hNb
        rw [k1] at p0
        have mc0 : wr.cell? ⟨mb, 0, none⟩ = some (.int .i64 f) := by
          have := hMr.cells 0 (.int .i64 f) (by rw [List.getElem?_map, ← hf, List.getD_eq_getElem?_getD, List.getElem?_eq_getElem (by rw [hM.len]; omega)]; rfl)
          rwa [Nat.zero_add] at this
        have mc1 : wr.cell? ⟨mb, 1, none⟩ = some (.int .i64 t) := by
          have := hMr.cells 1 (.int .i64 t) (by rw [List.getElem?_map, ← ht, List.getD_eq_getElem?_getD, List.getElem?_eq_getElem (by rw [hM.len]; omega)]; rfl)
          rwa [Nat.zero_add] at this
        have lmb : mb < wr.heap.size := hMr.typ.lt
        have oA : Only (fun _ => False) wr (wr.alloc (.cells #[.int .i64 1, .string ⟨p.text.toArray⟩, .int .i64 p.group] 240)) := (Only.refl _ wr).alloc _
        have hWA := row_keeps hW oA (fun _ _ => id)
        have hsA := hsr.keeps oA (fun _ _ _ => id)
        have q0 := oA.keeps mc0 id
        have q1 := oA.keeps mc1 id
        have hOA := hO.trans oA (fun _ e => e) (fun _ _ e => e.elim)
        clear hsr hMr hfj hpj hr1 k0 k1
        go_wp2_with fail
        generalize wr.alloc (.cells #[.int .i64 1, .string ⟨p.text.toArray⟩, .int .i64 p.group] 240) = wA at *
        clear p0 p1 p2 mc0 mc1
        have od : Only (fun _ => False) wA wA.drew := (Only.refl _ wA).drew
        have hWd := row_keeps hWA od (fun _ _ => id)
        have hcs := (hsA.keeps od (fun _ _ _ => id)).cut rc f t (by omega) (by omega) hrc
        have hx1 : f ≤ t := by omega
        have hx2 : t ≤ rc := by omega
        go_region_law ((refine step_append_runes _ (by rfl) _ _ (by rfl) base (.slice a' N c') N h (by rfl) hWd _ _ (Adz.seg sp f t) _ (by rfl) hsl.symm (by first | exact hcs | simpa using hcs) (by omega) (by have := hOA.size; have := od.size; omega) ?_; intro a2 c2 w2 hown2 ho2 hat2))
        all_goals
          clear hcs
          generalize (if rc = f then ra else Option.map (fun x => x.add f) ra) = sa at *
          go_wp2
          go_roundg (gk - 1)
          case measure => have := HK.out; omega
          case rel => exact ⟨j + 1, N + (t - f), a2, c2, h ++ Adz.seg sp f t, rfl, by first | rfl | simp, by have := HK.out; omega, htk2, by show _ = _; rw [List.length_append, hsl, hN.out], hown2, (hOA.trans od (fun _ e => e) (fun _ _ e => e.elim)).trans ho2 (fun _ e => e) (fun b hb e => by rcases h3.out b e with e | e; exact e; omega), hnew (hOA.trans od (fun _ e => e) (fun _ _ e => e.elim)).size hat2⟩
      obtain ⟨k2, hg1, hg2, hins⟩ : p.kind = 2 ∧ 1 ≤ p.group ∧ p.group ≤ 9 ∧ Adz.inside (m.getD (p.group.toNat * 2) 0) (m.getD (p.group.toNat * 2 + 1) 0) sp.length := by
        rcases hfj with ⟨h, _⟩ | h | h
        · omega
        · omega
        · exact h
      obtain ⟨gn, hgn⟩ : ∃ gn : Nat, p.group = gn := ⟨p.group.toNat, by omega⟩
      have hgb : gn < 10 := by omega
      have hgi : (gn : Int) < 10 := by omega
      rw [hgn, Int.toNat_natCast] at hins
      obtain ⟨f, hf⟩ : ∃ f : Nat, m.getD (gn * 2) 0 = f := ⟨(m.getD (gn * 2) 0).toNat, by have := hins.1; omega⟩
      obtain ⟨t, ht⟩ : ∃ t : Nat, m.getD (gn * 2 + 1) 0 = t := ⟨(m.getD (gn * 2 + 1) 0).toNat, by have := hins.1; have := hins.2.1; omega⟩
      rw [hf, ht] at hins
      obtain ⟨_, hi1, hi2⟩ := hins
      have hr1 : Adz.repl1 sp m p = Adz.seg sp f t := by unfold Adz.repl1; rw [if_neg (by omega), if_neg (by omega), if_pos k2, hgn, Int.toNat_natCast, hf, ht]
      have hsl := Adz.seg_len sp f t (by omega) (by omega)
      rw [hr1] at htk2 hNb
      rw [k2] at p0
      rw [hgn] at p2
      have mc0 : wr.cell? ⟨mb, gn * 2, none⟩ = some (.int .i64 f) := by
        have := hMr.cells (gn * 2) (.int .i64 f) (by rw [List.getElem?_map, ← hf, List.getD_eq_getElem?_getD, List.getElem?_eq_getElem (by rw [hM.len]; omega)]; rfl)
        rwa [Nat.zero_add] at this
      have mc1 : wr.cell? ⟨mb, gn * 2 + 1, none⟩ = some (.int .i64 t) := by
        have := hMr.cells (gn * 2 + 1) (.int .i64 t) (by rw [List.getElem?_map, ← ht, List.getD_eq_getElem?_getD, List.getElem?_eq_getElem (by rw [hM.len]; omega)]; rfl)
        rwa [Nat.zero_add] at this
      have lmb : mb < wr.heap.size := hMr.typ.lt
      have oA : Only (fun _ => False) wr (wr.alloc (.cells #[.int .i64 2, .string ⟨p.text.toArray⟩, .int .i64 gn] 240)) := (Only.refl _ wr).alloc _
      have hWA := row_keeps hW oA (fun _ _ => id)
      have hsA := hsr.keeps oA (fun _ _ _ => id)
      have q0 := oA.keeps mc0 id
      have q1 := oA.keeps mc1 id
      have q2 := ((Cells.new wr #[.int .i64 2, .string ⟨p.text.toArray⟩, .int .i64 gn] 240) 2 _ rfl).1
      have hOA := hO.trans oA (fun _ e => e) (fun _ _ e => e.elim)
      clear hsr hMr hfj hpj hr1 k0 k1 k2 hg1 hg2
      go_wp2_with fail
      generalize wr.alloc (.cells #[.int .i64 2, .string ⟨p.text.toArray⟩, .int .i64 gn] 240) = wA at *
      clear p0 p1 p2 mc0 mc1
      have od : Only (fun _ => False) wA wA.drew := (Only.refl _ wA).drew
      have hWd := row_keeps hWA od (fun _ _ => id)
      have hcs := (hsA.keeps od (fun _ _ _ => id)).cut rc f t (by omega) (by omega) hrc
      have hx1 : f ≤ t := by omega
      have hx2 : t ≤ rc := by omega
      go_region_law ((refine step_append_runes _ (by rfl) _ _ (by rfl) base (.slice a' N c') N h (by rfl) hWd _ _ (Adz.seg sp f t) _ (by rfl) hsl.symm (by first | exact hcs | simpa using hcs) (by omega) (by have := hOA.size; have := od.size; omega) ?_; intro a2 c2 w2 hown2 ho2 hat2))
      all_goals
        clear hcs
        generalize (if rc = f then ra else Option.map (fun x => x.add f) ra) = sa at *
        go_wp2
        go_roundg (gk - 1)
        case measure => have := HK.out; omega
        case rel => exact ⟨j + 1, N + (t - f), a2, c2, h ++ Adz.seg sp f t, rfl, by first | rfl | simp, by have := HK.out; omega, htk2, by show _ = _; rw [List.length_append, hsl, hN.out], hown2, (hOA.trans od (fun _ e => e) (fun _ _ e => e.elim)).trans ho2 (fun _ e => e) (fun b hb e => by rcases h3.out b e with e | e; exact e; omega), hnew (hOA.trans od (fun _ e => e) (fun _ _ e => e.elim)).size hat2⟩
    · have he : j = ps.length := by omega
      subst he
      have e2 : Hid (h = ch ++ Adz.replAll sp m ps) := by show _ = _; rw [hH.out, List.take_length]
      have e3 : Hid (N = ch.length + (Adz.replAll sp m ps).length) := by show _ = _; rw [hN.out, e2.out, List.length_append]
      clear hH hN
      go_wp2
      go_ret
      refine ⟨a', c', N, e3.out, rfl, ?_, hO, h3⟩
      rw [← e2.out]; exact hW
end Go.Proofs.YtbiobhghnldckaaGreatDoor

/- Proved: laws of our own on a range over a function: a round's region by a walk outside of a round; an iterator that writes cells of a type of its own. No condition. -/
namespace Go.Proofs.YtbiobhghnldckaaGreatDoor
open Go.RowKit

/-- Operations that were walked outside of a round are carried out so in a round. -/
theorem ops_inRound {P : Program} {ops : Array Oper} {Q : Exit → Act → World → Prop} (l n : Nat) (hd : ∀ (i : Nat) o, ops[i]? = some o → ∀ c, o.op ≠ .defer c) (hQ : ¬ LetsOut Q) :
    ∀ (is : List Nat) (a : Act) (w : World), wpOps P ops Q is a w → wpOpsIn (Fence.wide.inRound l) n P ops Q is a w
  | [], a, w, h => h
  | i :: is, a, w, h => by
    have ih := ops_inRound (P := P) l n hd hQ is
    unfold wpOps at h
    unfold wpOpsIn
    cases ho : ops[i]? with
    | none => rw [ho] at h; exact ih a w h
    | some o =>
      rw [ho] at h
      simp only at h ⊢
      split
      · rename_i hw
        rw [if_pos hw] at h
        rcases h with h | ⟨_, h⟩
        · refine ⟨fun _ _ => trivial, ?_⟩
          show o.uponIn _ n P a _ Q ((o.semAt (some l) a.eval).run P w)
          rw [Oper.semAt_some l a.eval o (hd i o ho)]
          unfold Oper.wp at h
          generalize (execOp a.eval o).run P w = r at h ⊢
          cases r with
          | ok x w' =>
            cases x with
            | value v => exact ih _ _ h
            | skip => exact ih _ _ h
            | defer d => exact ih _ _ h
            | enter f args =>
              refine ⟨fun e => by simp [Fence.inRound, Fence.wide] at e, CallsIn.inRound l (callsIn_wide.2 (Calls.mono h ?_))⟩
              intro e w2 he
              cases e with
              | returned v => exact ih _ _ he
              | panicked ch => exact he
              | outgrown => exact he
            | row row args =>
              refine ⟨fun e => by simp [Fence.inRound, Fence.wide] at e, ?_⟩
              intro c cs _
              obtain ⟨v, w2, hv, hs⟩ := h c cs
              exact ⟨v, w2, ih _ _ hv, stepsIn_wide.2 hs⟩
            | round l' f tmps assign body => exact h.elim
            | _ => exact h.elim
          | halt x w' =>
            cases x <;> first | exact h | exact h.elim
        · exact absurd h hQ
      · rename_i hw
        rw [if_neg hw] at h
        exact ⟨fun _ _ => trivial, ih _ _ h⟩

/-- A plain region, in a round. -/
theorem region_inRound {P : Program} {ops : List Oper} {Q : Exit → Act → World → Prop} {l n id : Nat} {a : Act} {w : World} (hd : ops.all (fun o => match o.op with | .defer _ => false | _ => true) = true) (hQ : ¬ LetsOut Q)
    (h : wpList P ops.toArray Q ops a w) : (Code.region id ops.toArray false).wpIn (Fence.wide.inRound l) n P Q a w := by
  refine wpIn_region (ops_inRound l n (fun i o ho c hc => ?_) hQ _ _ _ ?_)
  · have hm : o ∈ ops := by simp at ho; exact List.mem_of_getElem? ho
    have := List.all_eq_true.1 hd o hm
    rw [hc] at this
    simp at this
  · have e := wpOps_eq_wpList (P := P) (ops := ops.toArray) (Q := Q) ops 0 (by simp)
    rw [List.range_eq_range', List.size_toArray, e]
    exact h
/-- A region that draws its order, in a round. -/
theorem region_inRound_any {P : Program} {ops : List Oper} {Q : Exit → Act → World → Prop} {l n id : Nat} {a : Act} {w : World} (hm : P.follows .mixedOrders = true) (hd : ops.all (fun o => match o.op with | .defer _ => false | _ => true) = true) (hQ : ¬ LetsOut Q)
    (h : wpAny P .any ops.toArray Q ops.toArray.size (Array.replicate ops.toArray.size false) a w.drew) : (Code.region id ops.toArray true).wpIn (Fence.wide.inRound l) n P Q a w := by
  refine wpIn_region_draw fun t => ops_inRound l n (fun i o ho c hc => ?_) hQ _ _ _ ?_
  · have hmm : o ∈ ops := by simp at ho; exact List.mem_of_getElem? ho
    have := List.all_eq_true.1 hd o hmm
    rw [hc] at this
    simp at this
  · simp only [Region.schedule, hm, Bool.true_or, if_true]
    exact wpAny_sound ops.toArray.size t _ a _ h

/-- What abides the turn of blocks of type T that are made from B on. -/
def LetsT {β : Type} (T : TypeId) (B : Nat) (J : β → World → Prop) : Prop := ∀ s W W', J s W → Only (fun b => Typ W b T ∧ B ≤ b) W W' → J s W'
/-- .. and that of two blocks more. -/
def LetsB {β : Type} (T : TypeId) (B : Nat) (I : β → World → Prop) : Prop := ∀ s W W', I s W → Only (fun b => (Typ W b T ∧ B ≤ b) ∨ b = B ∨ b = B + 1) W W' → I s W'

/-- How the body of a round may be left. -/
def myPost {α : Type} (B : Nat) (Kp : World → World → Prop) (I : List α → World → Prop) (Ix : Code → List α → World → Prop) (xs : List α) (W : World) : Exit → Act → World → Prop
  | .normal, _, W' => (W'.heap[B]? = W.heap[B]? ∧ W'.heap[B + 1]? = W.heap[B + 1]?) ∧ Kp W W' ∧ I xs W'
  | .ret, _, W' => (W'.heap[B]? = W.heap[B]? ∧ W'.heap[B + 1]? = W.heap[B + 1]?) ∧ Ix .ret xs W'
  | .exit id, _, W' => (W'.heap[B]? = W.heap[B]? ∧ W'.heap[B + 1]? = W.heap[B + 1]?) ∧ Ix (.exit id) xs W'
  | .goto t, _, W' => (W'.heap[B]? = W.heap[B]? ∧ W'.heap[B + 1]? = W.heap[B + 1]?) ∧ Ix (.goto t) xs W'
  | .panic _, _, _ => False
  | .outgrown, _, _ => False

theorem only_putObj (W : World) (b : Nat) (o : Obj) : Only (· = b) W (W.putObj b o) :=
  ⟨rfl, rfl, rfl, by simp, fun k _ hk => World.putObj_heap_other hk⟩

theorem range_law {α : Type} {P : Program} {g : Operand} {ps : Array Tmp} {assign body : Code} {Q : Exit → Act → World → Prop} {a : Act} {w : World}
    {gf : Nat} {lb : Array Value} (hg : a.eval g = .func (.func gf) #[] lb) (eg : ∀ args w, (callFunc gf args).run P w = .ok (.enter gf args) w)
    {encs : α → Array Value} (hps : ∀ x, (encs x).size = ps.size) (T : TypeId) {S Sp Ok : List α → Prop} {Kp : World → World → Prop}
    (hseq : ∀ (l : Nat) (J Jx : List α → World → Prop) (W : World), Only (fun _ => False) w W → LetsT T w.heap.size J → LetsT T w.heap.size Jx →
      (∀ pre x W1, J pre W1 → Ok (pre ++ [x]) → YieldAt Fence.wide 0 P l (encs x) W1 fun e W' => (e = .returned (.bool true) ∧ J (pre ++ [x]) W' ∧ Kp W1 W') ∨ (e = .returned (.bool false) ∧ Jx (pre ++ [x]) W')) → J [] W →
      CallsIn Fence.wide 0 P gf (#[.func (.yield l) #[] #[]] ++ lb) W fun e W' => (∃ v, e = .returned v) ∧ ((∃ xs, S xs ∧ J xs W') ∨ (∃ pre, Sp pre ∧ Jx pre W')))
    (hKt : ∀ {A B C : World}, Kp A B → Kp B C → Kp A C) (hKb : ∀ (W : World) (r : Loop) (o : Obj), W.heap[w.heap.size + 1]? = some (.loop r) → Kp W (W.putObj (w.heap.size + 1) o))
    (I : List α → World → Prop) (Ix : Code → List α → World → Prop) (hI : LetsB T w.heap.size I) (hIx : ∀ c, LetsB T w.heap.size (Ix c)) (h0 : I [] w)
    (hround : ∀ (pre : List α) (x : α) (W : World) (r : Loop), I pre W → Ok (pre ++ [x]) → W.heap[w.heap.size + 1]? = some (.loop r) →
      assign.wpIn (Fence.wide.inRound (w.heap.size + 1)) 0 P (Exit.then (fun a₁ W₁ => (W₁.heap[w.heap.size]? = W.heap[w.heap.size]? ∧ W₁.heap[w.heap.size + 1]? = W.heap[w.heap.size + 1]?) ∧ Kp W W₁ ∧ ∀ r' : Loop,
          body.wpIn (Fence.wide.inRound (w.heap.size + 1)) 0 P (myPost w.heap.size Kp I Ix (pre ++ [x]) (W₁.putObj (w.heap.size + 1) (.loop r'))) a₁ (W₁.putObj (w.heap.size + 1) (.loop r'))) (fun _ _ _ => False))
        { tmps := (ps.zip (encs x)).foldl (fun t (p, v) => t.setIfInBounds p v) a.tmps, defers := [] } W)
    (hdone : ∀ (xs : List α) (W : World), S xs → I xs W → W.heap[w.heap.size]? = some (.deferred (some [])) → Q .normal { a with defers := { target := .collected w.heap.size, args := #[] } :: a.defers } W)
    (hstop : ∀ (c : Code) (pre : List α) (W : World), Sp pre → Ix c pre W → W.heap[w.heap.size]? = some (.deferred (some [])) → c.wpIn Fence.wide 0 P Q { a with defers := { target := .collected w.heap.size, args := #[] } :: a.defers } W) :
    (Code.rangeFunc g ps assign body).wpIn Fence.wide 0 P Q a w := by
  refine wpIn_rangeFunc ?_
  intro fn hfn
  obtain ⟨rec, hrec⟩ : ∃ rec : LoopState → Option Code → Loop, rec = fun st pe => { state := st, pending := pe, fn, tmps := a.tmps, params := ps, assign, body, defers := w.heap.size } := ⟨_, rfl⟩
  obtain ⟨W1, hW1⟩ : ∃ W1, (w.alloc (.deferred (some []))).alloc (.loop (rec .ready none)) = W1 := ⟨_, rfl⟩
  have hO1 : Only (fun _ => False) w W1 := by rw [← hW1]; exact ((Only.refl _ w).alloc _).alloc _
  have hL1 : W1.heap[w.heap.size + 1]? = some (.loop (rec .ready none)) := by
    rw [← hW1]; have := World.alloc_heap_new (w.alloc (.deferred (some []))) (.loop (rec .ready none)); rwa [World.size_alloc] at this
  have hK1 : W1.heap[w.heap.size]? = some (.deferred (some [])) := by
    rw [← hW1]; exact (Below.heap_alloc _ _ _ (by simp)).trans (World.alloc_heap_new w _)
  have nt : ∀ {A : World} {b : Nat} {o : Obj}, A.heap[b]? = some o → o.isCells = false → ¬ Typ A b T := fun h hc ⟨cur, fz, e⟩ => by
    rw [h] at e; cases e; simp [Obj.isCells] at hc
  have hlet : ∀ {β : Type} {I : β → World → Prop}, LetsB T w.heap.size I → ∀ {s W o}, I s W → I s (W.putObj (w.heap.size + 1) o) := fun h s W o hs =>
    h s W _ hs ((only_putObj W _ o).mono (fun _ _ e => Or.inr (Or.inr e)))
  refine ⟨w.heap.size + 1, [{ target := .collected w.heap.size, args := #[] }], W1, { target := .fn (.func gf) lb, args := #[.func (.yield (w.heap.size + 1)) #[] #[]] }, W1, gf,
    #[.func (.yield (w.heap.size + 1)) #[] #[]] ++ lb, W1, ?_, ?_, fun _ _ => trivial, ?_, fun e => by simp [Fence.wide] at e, ?_⟩
  · rw [← hW1, hrec]; exact run_enterLoop_outer _ _ _ _ _
  · simp only [resolve, hg]
    simp [go_sem]
  · simp [invoke, go_sem, eg]
  · refine (hseq (w.heap.size + 1)
      (fun pre W => I pre W ∧ W.heap[w.heap.size + 1]? = some (.loop (rec .ready none)) ∧ W.heap[w.heap.size]? = some (.deferred (some [])))
      (fun pre W => ∃ c, Ix c pre W ∧ W.heap[w.heap.size + 1]? = some (.loop (rec .done (some c))) ∧ W.heap[w.heap.size]? = some (.deferred (some [])))
      W1 hO1 ?_ ?_ ?_ ⟨?_, hL1, hK1⟩).mono ?_
    · rintro s A B ⟨hs, h1, h2⟩ ho
      exact ⟨hI s A B hs (ho.mono (fun _ _ e => Or.inl e)), (ho.block _ (Array.getElem?_eq_some_iff.1 h1).1 (fun e => nt h1 rfl e.1)).trans h1, (ho.block _ (Array.getElem?_eq_some_iff.1 h2).1 (fun e => nt h2 rfl e.1)).trans h2⟩
    · rintro s A B ⟨c, hs, h1, h2⟩ ho
      exact ⟨c, hIx c s A B hs (ho.mono (fun _ _ e => Or.inl e)), (ho.block _ (Array.getElem?_eq_some_iff.1 h1).1 (fun e => nt h1 rfl e.1)).trans h1, (ho.block _ (Array.getElem?_eq_some_iff.1 h2).1 (fun e => nt h2 rfl e.1)).trans h2⟩
    · rintro pre x W ⟨hi, hl, hk⟩ hok
      have hlt : w.heap.size + 1 < W.heap.size := (Array.getElem?_eq_some_iff.1 hl).1
      have hy := run_yield (P := P) (args := encs x) hl (by rw [hrec]; exact hps x)
      rw [hrec] at hy
      refine ⟨fn, _, assign, body, hy, roundIn_of_wpIn hfn (wpIn_mono (hround pre x W _ hi hok hl) ?_)⟩
      rintro e0 a' W' hp0
      cases e0 with
      | exit _ => exact hp0.elim
      | goto _ => exact hp0.elim
      | ret => exact hp0.elim
      | panic _ => exact hp0.elim
      | outgrown => exact hp0.elim
      | normal => ?_
      obtain ⟨⟨k1, k2⟩, hkp, hb0⟩ := hp0
      have hl' := k2.trans hl
      have hk' := k1.trans hk
      have hlt' : w.heap.size + 1 < W'.heap.size := (Array.getElem?_eq_some_iff.1 hl').1
      refine ⟨_, run_beginRound hl' (by rw [hrec]), ?_⟩
      have hl2 : (W'.putObj (w.heap.size + 1) (.loop { rec .ready none with state := .busy })).heap[w.heap.size + 1]? = some (.loop { rec .ready none with state := .busy }) := World.putObj_heap_same hlt'
      have hk2 : (W'.putObj (w.heap.size + 1) (.loop { rec .ready none with state := .busy })).heap[w.heap.size]? = some (.deferred (some [])) := (World.putObj_heap_other (by omega)).trans hk'
      refine wpIn_mono (hb0 { rec .ready none with state := .busy }) ?_
      have fin : ∀ (jump : Option Code) (W3 : World), W3.heap[w.heap.size]? = (W'.putObj (w.heap.size + 1) (.loop { rec .ready none with state := .busy })).heap[w.heap.size]? ∧ W3.heap[w.heap.size + 1]? = (W'.putObj (w.heap.size + 1) (.loop { rec .ready none with state := .busy })).heap[w.heap.size + 1]? →
          (Instr.endRound (w.heap.size + 1) jump).run P W3 = .ok (.bool jump.isNone) (W3.putObj (w.heap.size + 1) (.loop (rec (if jump.isNone then .ready else .done) jump))) ∧
          (W3.putObj (w.heap.size + 1) (.loop (rec (if jump.isNone then .ready else .done) jump))).heap[w.heap.size + 1]? = some (.loop (rec (if jump.isNone then .ready else .done) jump)) ∧
          (W3.putObj (w.heap.size + 1) (.loop (rec (if jump.isNone then .ready else .done) jump))).heap[w.heap.size]? = some (.deferred (some [])) := fun jump W3 hk3 => by
        have hl3 := hk3.2.trans hl2
        have := run_endRound (P := P) jump hl3
        rw [hrec] at this ⊢
        exact ⟨this, World.putObj_heap_same (Array.getElem?_eq_some_iff.1 hl3).1, (World.putObj_heap_other (by omega)).trans (hk3.1.trans hk2)⟩
      rintro e a3 W3 hp
      cases e with
      | normal =>
        obtain ⟨hk3, hkp3, hi3⟩ := hp
        obtain ⟨hr, hl4, hk4⟩ := fin none W3 hk3
        exact ⟨_, _, hr, .inl ⟨rfl, ⟨hlet hI hi3, hl4, hk4⟩, hKt (hKt (hKt hkp (hKb _ _ _ hl')) hkp3) (hKb _ _ _ (hk3.2.trans hl2))⟩⟩
      | ret =>
        obtain ⟨hk3, hi3⟩ := hp
        obtain ⟨hr, hl4, hk4⟩ := fin (some .ret) W3 hk3
        exact ⟨_, _, hr, .inr ⟨rfl, .ret, hlet (hIx _) hi3, hl4, hk4⟩⟩
      | exit id =>
        obtain ⟨hk3, hi3⟩ := hp
        obtain ⟨hr, hl4, hk4⟩ := fin (some (.exit id)) W3 hk3
        exact ⟨_, _, hr, .inr ⟨rfl, .exit id, hlet (hIx _) hi3, hl4, hk4⟩⟩
      | goto t =>
        obtain ⟨hk3, hi3⟩ := hp
        obtain ⟨hr, hl4, hk4⟩ := fin (some (.goto t)) W3 hk3
        exact ⟨_, _, hr, .inr ⟨rfl, .goto t, hlet (hIx _) hi3, hl4, hk4⟩⟩
      | panic ch => exact hp.elim
      | outgrown => exact hp.elim
    · exact hI _ _ _ h0 (hO1.mono (fun _ _ e => e.elim))
    · rintro e W2 ⟨⟨v, rfl⟩, (⟨xs, hS, hi, hl, hk⟩ | ⟨pre, hSp, c, hi, hl, hk⟩)⟩
      · exact ⟨none, _, by have := run_endLoop (P := P) hl (by rw [hrec]; simp); rw [hrec] at this; exact this, hdone xs _ hS (hlet hI hi) ((World.putObj_heap_other (by omega)).trans hk)⟩
      · exact ⟨some c, _, by have := run_endLoop (P := P) hl (by rw [hrec]; simp); rw [hrec] at this; exact this, hstop c pre _ hSp (hlet (hIx c) hi) ((World.putObj_heap_other (by omega)).trans hk)⟩

/-- A store of a row of cells, inside a fence. -/
theorem wpListIn_store_mid {F : Fence} {n : Nat} {P : Program} (hro : F.round = none) {ops : Array Oper} {rest : List Oper} {op : Oper} {a : Act} {w : World} {Q : Exit → Act → World → Prop} (hgd : op.guard = none) (ty : TypeId) (x y : Operand) (ho : op.op = .store ty x y)
    (b o : Nat) (cells : Array Value) (hx : a.eval x = .pointer (some ⟨b, o, none⟩)) (hy : a.eval y = .agg cells)
    (ht : w.there b o cells.size) (hi : (P.info? ty).map (·.size) = some cells.size) (h1 : cells.all (·.oneCell') = true)
    (h : wpListIn F n P ops Q rest (a.put op.dst undef) (w.setCells b o cells.toList)) : wpListIn F n P ops Q (op :: rest) a w :=
  wpListIn_plain hgd fun K hK => by
    refine ⟨fun f hf => by simp [Oper.about, ho] at hf, ?_⟩
    have e : op.semAt F.round a.eval = execOp a.eval op := by
      rw [hro]; unfold Oper.semAt; split <;> simp_all
    rw [e]
    have hw : op.wp P a w K Q := wp_store_mid ty x y ho b o cells hx hy ht hi h1 (hK _ _ h)
    unfold Oper.wp at hw
    unfold execOp at hw ⊢
    simp only [ho, hx, hy, Instr.storeAt, Instr.sureAddr, Sem.run_bind, Sem.run_pure, Result.andThen_ok, run_storeVar_mid w b o ty cells ht hi h1] at hw ⊢
    exact hw
/-- A load of one. -/
theorem wpListIn_load_mid {F : Fence} {n : Nat} {P : Program} (hro : F.round = none) {ops : Array Oper} {rest : List Oper} {op : Oper} {a : Act} {w : World} {Q : Exit → Act → World → Prop} (hgd : op.guard = none) (ty : TypeId) (x : Operand) (ho : op.op = .load ty x)
    (b o : Nat) (hx : a.eval x = .pointer (some ⟨b, o, none⟩)) (cs : List Value) (d : TypeDesc) (hc : w.rangeAt b o cs)
    (hu : P.underlying ty = some d) (hd : d.isRow = true) (hi : (P.info? ty).map (·.size) = some cs.length)
    (h : wpListIn F n P ops Q rest (a.put op.dst (.agg cs.toArray)) w) : wpListIn F n P ops Q (op :: rest) a w :=
  wpListIn_plain hgd fun K hK => by
    refine ⟨fun f hf => by simp [Oper.about, ho] at hf, ?_⟩
    have e : op.semAt F.round a.eval = execOp a.eval op := by
      rw [hro]; unfold Oper.semAt; split <;> simp_all
    rw [e]
    unfold execOp
    simp only [ho, hx, Instr.loadAt, Instr.sureAddr, Sem.run_bind, Sem.run_pure, Result.andThen_ok, run_loadVar_mid w b o ty cs d hc hu hd hi]
    exact hK _ _ h
end Go.Proofs.YtbiobhghnldckaaGreatDoor

/- Proved: the matches in a space are handed on one after the other, whatever the caller does with them. Conditions: the looking lies in memory; a round of the caller's turns no block of its. -/
namespace Go.Proofs.YtbiobhghnldckaaGreatDoor
open Go.RowKit
set_option linter.unusedVariables false
attribute [local go_sem] Oper.semAt_some

/-- What a round of the caller's may turn: its own boxes below B0, rows of runes, and the loop's record. -/
def KpB (B0 : Nat) (W W' : World) : Prop :=
  ∃ S : Nat → Prop, Only S W W' ∧ ∀ c, S c → (c < B0 ∧ (Typ W c 3 ∨ Typ W c 4 ∨ Typ W c 103)) ∨ Typ W c 21 ∨ ∃ r, W.heap[c]? = some (.loop r)
theorem KpB.trans {B0 : Nat} {A B C : World} (h : KpB B0 A B) (k : KpB B0 B C) : KpB B0 A C := by
  obtain ⟨S, o1, h1⟩ := h
  obtain ⟨T, o2, h2⟩ := k
  refine ⟨fun c => S c ∨ (T c ∧ ¬ S c ∧ c < A.heap.size), o1.trans o2 (fun c e => Or.inl e) (fun c hc e => ?_), fun c hc => ?_⟩
  · by_cases hs : S c
    · exact Or.inl hs
    · exact Or.inr ⟨e, hs, hc⟩
  · rcases hc with hc | ⟨ht, hn, hl⟩
    · exact h1 c hc
    · have e := o1.block c hl hn
      have ty : ∀ {T}, Typ B c T → Typ A c T := fun ⟨cur, fz, hb⟩ => ⟨cur, fz, e.symm.trans hb⟩
      rcases h2 c ht with ⟨g1, g2⟩ | g | ⟨r, hr⟩
      · exact Or.inl ⟨g1, g2.imp ty (Or.imp ty ty)⟩
      · exact Or.inr (Or.inl (ty g))
      · exact Or.inr (Or.inr ⟨r, e.symm.trans hr⟩)
theorem KpB.put {B0 L : Nat} {W : World} {r : Loop} (o : Obj) (h : W.heap[L]? = some (.loop r)) : KpB B0 W (W.putObj L o) :=
  ⟨(· = L), only_putObj W L o, fun c e => by subst e; exact Or.inr (Or.inr ⟨r, h⟩)⟩
theorem KpB.quiet {B0 : Nat} {W W' : World} (h : Only (fun _ => False) W W') : KpB B0 W W' := ⟨_, h, fun _ e => e.elim⟩
theorem KpB.only {B0 : Nat} {W W' : World} (h : KpB B0 W W') : ∃ S : Nat → Prop, Only S W W' ∧ (∀ c T, Typ W c T → T ≠ 3 → T ≠ 4 → T ≠ 103 → T ≠ 21 → ¬ S c) ∧ (∀ c, B0 ≤ c → Typ W c 3 → ¬ S c) := by
  obtain ⟨S, o, h⟩ := h
  refine ⟨S, o, fun c T hT n1 n2 n3 n4 hs => ?_, fun c hc hT hs => ?_⟩
  · rcases h c hs with ⟨_, g | g | g⟩ | g | ⟨r, hr⟩
    · exact n1 (hT.one g)
    · exact n2 (hT.one g)
    · exact n3 (hT.one g)
    · exact n4 (hT.one g)
    · obtain ⟨cur, fz, e⟩ := hT
      rw [hr] at e
      cases e
  · rcases h c hs with ⟨g, _⟩ | g | ⟨r, hr⟩
    · omega
    · exact absurd (hT.one g) (by decide)
    · obtain ⟨cur, fz, e⟩ := hT
      rw [hr] at e
      cases e
def leftV (n : Nat) : Value → Value → Nat
  | .int _ e, .int _ a => Adz.left n e a
  | _, _ => 0

/-- The looking and all that it reads lie in memory. -/
structure Look (W : World) (sb ab base : Nat) (iv : Value) (ra : Option Addr) (rc : Nat) (sp : List Int) (xs : List Adz.Item) : Prop where
  srch : Srch W sb iv (.slice ra sp.length rc) (.slice (some ⟨ab, 0, none⟩) (xs.length + 1) (xs.length + 1))
  mat : Mat W ab base (xs.length + 1) sp.length (Adz.fin sp xs)
  items : ItemsAt W iv xs
theorem Look.step {W W' : World} {sb ab base : Nat} {iv : Value} {ra : Option Addr} {rc : Nat} {sp : List Int} {xs : List Adz.Item} (h : Look W sb ab base iv ra rc sp xs) (o : Only (· = sb) W W') (s : Srch W' sb iv (.slice ra sp.length rc) (.slice (some ⟨ab, 0, none⟩) (xs.length + 1) (xs.length + 1))) : Look W' sb ab base iv ra rc sp xs := by
  have ty : ∀ {T : TypeId} {c : Nat}, Typ W c T → T ≠ 258 → ¬ c = sb := fun hc hT e => by subst e; exact hT (hc.one h.srch.typ)
  exact ⟨s, h.mat.keeps o (fun c hc => ty hc (by decide)) (fun c hc => ty hc (by decide)), h.items.keeps o (fun c hc => ty hc (by decide)) (fun c hc => ty hc (by decide))⟩
theorem Look.quiet {W W' : World} {sb ab base : Nat} {iv : Value} {ra : Option Addr} {rc : Nat} {sp : List Int} {xs : List Adz.Item} (h : Look W sb ab base iv ra rc sp xs) (o : Only (fun _ => False) W W') : Look W' sb ab base iv ra rc sp xs :=
  ⟨h.srch.keeps o id, h.mat.keeps o (fun _ _ => id) (fun _ _ => id), h.items.keeps o (fun _ _ => id) (fun _ _ => id)⟩
theorem Look.round {W W' : World} {B0 sb ab base : Nat} {iv : Value} {ra : Option Addr} {rc : Nat} {sp : List Int} {xs : List Adz.Item} (h : Look W sb ab base iv ra rc sp xs) (hb : B0 ≤ base) (k : KpB B0 W W') : Look W' sb ab base iv ra rc sp xs := by
  obtain ⟨S, o, g1, g2⟩ := k.only
  refine ⟨h.srch.keeps o (g1 _ _ h.srch.typ (by decide) (by decide) (by decide) (by decide)), ?_, h.items.keeps o (fun c hc => g1 c _ hc (by decide) (by decide) (by decide) (by decide)) (fun c hc => g1 c _ hc (by decide) (by decide) (by decide) (by decide))⟩
  have m := h.mat
  refine ⟨m.typ.keeps o (g1 _ _ m.typ (by decide) (by decide) (by decide) (by decide)), fun j hj => o.keeps (m.cell j hj) (g1 _ _ m.typ (by decide) (by decide) (by decide) (by decide)), fun j hj => (m.rows j hj).keeps o (g2 _ (by omega) (m.rows j hj)), fun j t hj ht => ?_⟩
  have n := g2 (base + j) (by omega) (m.rows j hj)
  exact ⟨o.keeps (m.place j t hj ht).1 n, o.keepsFrozen (m.place j t hj ht).1 (m.place j t hj ht).2 n⟩

set_option maxRecDepth 100000 in
set_option maxHeartbeats 3200000 in
theorem eachMatch_in (xs : List Adz.Item) (sp : List Int) (sb ab base : Nat) (iv : Value) (ra : Option Addr) (rc B0 : Nat) (hk : xs.length ≤ 1000) (hf : ∀ x ∈ xs, x.spans.length ≤ 1000) (hn : sp.length ≤ 1000000) (hg : ∀ x ∈ xs, 1 ≤ x.group ∧ x.group ≤ 9 ∨ (x.kind ≠ 2 ∧ x.kind ≠ 3))
    (l : Nat) (J Jx : List (List Int) → World → Prop) (hJ : LetsT 258 B0 J) (hJx : LetsT 258 B0 Jx)
    (hY : ∀ pre x W1, J pre W1 → (pre ++ [x]) <+: Adz.matches_ sp xs → YieldAt Fence.wide 0 Tryz.prog l #[.agg (x.map (.int .i64)).toArray] W1 fun e W' => (e = .returned (.bool true) ∧ J (pre ++ [x]) W' ∧ KpB B0 W1 W') ∨ (e = .returned (.bool false) ∧ Jx (pre ++ [x]) W'))
    (W : World) (hL : Look W sb ab base iv ra rc sp xs) (hb1 : B0 ≤ base) (hsb : B0 ≤ sb) (h0 : J [] W) :
    CallsIn Fence.wide 0 Tryz.prog 191 #[.pointer (some ⟨sb, 0, none⟩), .func (.yield l) #[] #[]] W fun e W' => (∃ v, e = .returned v) ∧
      ((∃ ys, ys = Adz.matches_ sp xs ∧ J ys W') ∨ (∃ pre, (pre <+: Adz.matches_ sp xs ∧ pre ≠ []) ∧ Jx pre W')) := by
  refine callsIn_of_wp Tryz.func191 rfl trivial ?_ rfl
  simp only [Tryz.ntmps191, List.size_toArray, List.length_cons, List.length_nil, Nat.reduceAdd, Nat.reduceSub, Array.replicate_succ, Array.replicate_zero, List.push_toArray, List.append_toArray, List.nil_append, List.cons_append]
  have c0 := firstFrom_calls sb ab base xs.length sp.length iv ra rc (Adz.fin sp xs) W hL.srch hL.mat (Adz.row0 sp xs) (Adz.row0_len sp xs) (fun t _ => Adz.row0_get sp xs t) hn 0 (by omega)
  gi_wp2
  refine ⟨trivial, rfl, (callsIn_wide.2 c0).mono ?_⟩
  clear c0
  rintro e w1 ⟨rfl, ho1, hs1⟩
  have hi219 : (Tryz.prog.info? 219).map (·.size) = some 20 := by kernel_rfl
  have hI : Hid ((Tryz.prog.info? 219).map (·.size) = some 20) := hi219
  clear hi219
  have hM1 : Hid (Adz.matches_ sp xs = [] ++ Adz.eachGo (Adz.row0 sp xs) (Adz.matchAt (Adz.allEnds sp xs) xs) (2 * sp.length + 3) (Adz.firstFrom (Adz.row0 sp xs) 0) (-1)) := by show _ = _; rfl
  have hA1 : Hid (Adz.firstFrom (Adz.row0 sp xs) 0 = -1 ∨ ∃ k : Nat, Adz.firstFrom (Adz.row0 sp xs) 0 = k ∧ k ≤ sp.length ∧ Adz.fin sp xs 0 k ≠ -1) := by
    rcases Adz.first_cases sp xs 0 (by omega) with h | ⟨k, h1, _, h3, h4⟩
    · exact Or.inl h
    · exact Or.inr ⟨k, h1, h3, h4⟩
  have hF1 : Hid (Adz.left sp.length (-1) (Adz.firstFrom (Adz.row0 sp xs) 0) ≤ 2 * sp.length + 3) := by
    show _ ≤ _
    rcases hA1.out with h | ⟨k, h, _, _⟩
    · rw [h, Adz.left_none]; omega
    · rw [h, Adz.left_nat]; split <;> omega
  have hL1 := hL.step ho1 hs1
  have hJ1 : J [] w1 := hJ _ _ _ h0 (ho1.mono (fun c _ e => by subst e; exact ⟨hL.srch.typ, hsb⟩))
  clear ho1 hs1 hL h0
  generalize Adz.firstFrom (Adz.row0 sp xs) 0 = a0 at *
  gi_wp2
  gi_loopw [4, 5] (fun v u wr => ∃ (pre : List (List Int)) (k : Nat) (ended at_ : Int), v = .int .i64 ended ∧ u = .int .i64 at_ ∧ Hid (Adz.matches_ sp xs = pre ++ Adz.eachGo (Adz.row0 sp xs) (Adz.matchAt (Adz.allEnds sp xs) xs) k at_ ended) ∧ Hid (Adz.left sp.length ended at_ ≤ k) ∧ Hid (at_ = -1 ∨ ∃ k : Nat, at_ = k ∧ k ≤ sp.length ∧ Adz.fin sp xs 0 k ≠ -1) ∧ Hid (Look wr sb ab base iv ra rc sp xs) ∧ Hid (J pre wr)) (fun v u wr => leftV sp.length v u)
  case atStart => exact ⟨[], _, -1, a0, rfl, rfl, hM1, hF1, hA1, hL1, hJ1⟩
  case round =>
    clear hM1 hF1 hA1 hL1 hJ1
    obtain ⟨pre, k, ended, at_, rfl, rfl, hM, hF, hA, h1, h2⟩ := hrel
    have hL : Look wr sb ab base iv ra rc sp xs := h1
    have hJr : J pre wr := h2
    clear h1 h2
    rcases hA.out with rfl | ⟨a, rfl, ha, hfa⟩
    · have hfin : Hid (Adz.matches_ sp xs = pre) := by
        show _ = _
        rw [hM.out]
        cases k <;> simp [Adz.eachGo]
      clear hM hF hA
      gi_wp2
      go_end0
      exact ⟨⟨_, rfl⟩, .inl ⟨pre, hfin.out.symm, hJr⟩⟩
    · have d1 : ((a : Int) != -1) = true := by simp
      have d2 : decide ((a : Int) = -1) = false := by simp
      have c1 := matchAt_calls xs sb ab base wr iv ra rc sp.length hL.srch hL.items hk hf sp rfl hn hg hL.mat a ha hfa
      have hlen := Adz.matchAt_len (Adz.allEnds sp xs) xs a
      have hfrom := Adz.matchAt_from (Adz.allEnds sp xs) xs a
      obtain ⟨to_, hto, ht1, ht2⟩ := Adz.matchAt_to sp xs a ha hfa
      have hskip := Adz.each_skip sp xs k a ended ha hF.out
      have hyield := Adz.each_yield sp xs k a ended ha hF.out to_ hto ht1 ht2
      have HSK : Hid _ := hskip
      have HYI : Hid _ := hyield
      clear hskip hyield hA
      generalize hm : Adz.matchAt (Adz.allEnds sp xs) xs a = m at *
      gi_wp2
      refine ⟨trivial, rfl, (callsIn_wide.2 c1).mono ?_⟩
      clear c1
      rintro e w2 ⟨rfl, ho2, hs2⟩
      have hL2 := hL.step ho2 hs2
      have hJ2 : J pre w2 := hJ _ _ _ hJr (ho2.mono (fun c _ e => by subst e; exact ⟨hL.srch.typ, hsb⟩))
      clear ho2 hs2 hL hJr
      have hi2 : (Tryz.prog.info? 219).map (·.size) = some (m.map (Value.int .i64)).toArray.size := by rw [List.size_toArray, List.length_map, hlen]; exact hI.out
      have hz2 : ((m.map (Value.int .i64)).toArray.all (·.oneCell')) = true := all_oneCell_toArray (by intro v hv; simp at hv; obtain ⟨a, _, rfl⟩ := hv; rfl)
      have hMn := MatchAt.new w2
      have hth := hMn.there
      rw [show (20 : Nat) = (m.map (Value.int .i64)).toArray.size by rw [List.size_toArray, List.length_map, hlen]] at hth
      have HI2 : Hid _ := hi2
      have HTH : Hid _ := hth
      clear hi2 hth
      gi_wp2_with (refine wpListIn_store_mid rfl (by rfl) 219 _ _ (by rfl) w2.heap.size 0 (m.map (Value.int .i64)).toArray (by rfl) (by rfl) HTH.out HI2.out hz2 ?_)
      have hM3 := hMn.store m hlen
      have o3 : Only (fun _ => False) w2 ((w2.alloc (.cells zeros20 219)).setCells w2.heap.size 0 (m.map (.int .i64))) := by
        refine ((Only.refl _ w2).alloc _).trans (setCells_only w2.heap.size _ _ 0) (fun _ e => e) (fun b hb e => by omega)
      unfold zeros20 at hM3 o3
      generalize ((w2.alloc (.cells _ 219)).setCells w2.heap.size 0 (m.map (.int .i64))) = w3 at *
      have hL3 := hL2.quiet o3
      have hJ3 : J pre w3 := hJ _ _ _ hJ2 (o3.mono (fun _ _ e => e.elim))
      have m0 : w3.cell? ⟨w2.heap.size, 0, none⟩ = some (.int .i64 a) := by
        have := hM3.cells 0 (.int .i64 a) (by rw [List.getElem?_map, ← hfrom, List.getD_eq_getElem?_getD, List.getElem?_eq_getElem (by omega)]; rfl)
        rwa [Nat.zero_add] at this
      have m1 : w3.cell? ⟨w2.heap.size, 1, none⟩ = some (.int .i64 to_) := by
        have := hM3.cells 1 (.int .i64 to_) (by rw [List.getElem?_map, ← hto, List.getD_eq_getElem?_getD, List.getElem?_eq_getElem (by omega)]; rfl)
        rwa [Nat.zero_add] at this
      have hmt := hM3.typ
      clear hMn o3 HTH HI2 hz2 hL2 hJ2
      have c2 := empty_calls w2.heap.size a to_ w3 m0 m1
      refine ⟨trivial, rfl, (callsIn_wide.2 c2).mono ?_⟩
      clear c2
      rintro e w4 ⟨rfl, ho4⟩
      have hL4 := hL3.quiet ho4
      have hJ4 : J pre w4 := hJ _ _ _ hJ3 (ho4.mono (fun _ _ e => e.elim))
      have hM4 := hM3.keeps ho4 id
      have m14 := ho4.keeps m1 id
      clear hL3 hJ3 hM3 m0 m1 ho4
      by_cases hemp : (a : Int) = to_ ∧ (a : Int) = ended
      · obtain ⟨e1, e2⟩ := hemp
        have b1 : ((a : Int) == to_) = true := by simp [e1]
        have b2 : ((a : Int) == ended) = true := by simp [e2]
        obtain ⟨k', g1, g2, g3⟩ := HSK.out (by rw [hfrom, hto, e1]) e2
        rw [b1]
        have hd2 : decide ((a : Int) = ended) = true := by simp [e2]
        have hw : IntKind.i64.wrap ((a : Int) + 1) = (a : Int) + 1 := by rw [IntKind.wrap_i64]; omega
        have c5 := firstFrom_calls sb ab base xs.length sp.length iv ra rc (Adz.fin sp xs) w4 hL4.srch hL4.mat (Adz.row0 sp xs) (Adz.row0_len sp xs) (fun t _ => Adz.row0_get sp xs t) hn (a + 1) (by omega)
        rw [show (((a + 1 : Nat)) : Int) = (a : Int) + 1 by omega] at c5
        have hA5 : Hid (Adz.firstFrom (Adz.row0 sp xs) (a + 1) = -1 ∨ ∃ k : Nat, Adz.firstFrom (Adz.row0 sp xs) (a + 1) = k ∧ k ≤ sp.length ∧ Adz.fin sp xs 0 k ≠ -1) := by
          rcases Adz.first_cases sp xs (a + 1) (by omega) with h | ⟨k, h1, _, h3, h4⟩
          · exact Or.inl h
          · exact Or.inr ⟨k, h1, h3, h4⟩
        have G1 : Hid _ := g1
        have G2 : Hid _ := g2
        have G3 : Hid _ := g3
        have E2 : Hid _ := e2
        clear g1 g2 g3 e1 e2 HSK HYI
        generalize Adz.firstFrom (Adz.row0 sp xs) (a + 1) = a5 at *
        gi_wp2
        refine ⟨trivial, rfl, (callsIn_wide.2 c5).mono ?_⟩
        clear c5
        rintro e w5 ⟨rfl, ho5, hs5⟩
        have hL5 := hL4.step ho5 hs5
        have hJ5 : J pre w5 := hJ _ _ _ hJ4 (ho5.mono (fun c _ e => by subst e; exact ⟨hL4.srch.typ, hsb⟩))
        clear ho5 hs5 hL4 hJ4
        gi_wp2
        go_roundw
        case rel => exact ⟨pre, k', ended, a5, rfl, rfl, by show _ = _; rw [hM.out, G1.out], G2, hA5, hL5, hJ5⟩
        case measure => exact G3.out
      · obtain ⟨k', g1, g2, g3⟩ := HYI.out hemp
        have hx : (pre ++ [m]) <+: Adz.matches_ sp xs := ⟨Adz.eachGo (Adz.row0 sp xs) (Adz.matchAt (Adz.allEnds sp xs) xs) k' (Adz.firstFrom (Adz.row0 sp xs) to_) to_, by rw [hM.out, g1]; simp⟩
        have hYr := hY pre m w4 hJ4 hx
        obtain ⟨fn, tmps, assign, body, hy, hR⟩ := hYr
        have hbb : (((a : Int) == to_) = true ∧ ((a : Int) == ended) = false) ∨ ((a : Int) == to_) = false := by
          by_cases e1 : (a : Int) = to_
          · exact Or.inl ⟨by simp [e1], by simp; exact fun e2 => hemp ⟨e1, e2⟩⟩
          · exact Or.inr (by simp [e1])
        have c5 := fun (w5 : World) (hL5 : Look w5 sb ab base iv ra rc sp xs) => firstFrom_calls sb ab base xs.length sp.length iv ra rc (Adz.fin sp xs) w5 hL5.srch hL5.mat (Adz.row0 sp xs) (Adz.row0_len sp xs) (fun t _ => Adz.row0_get sp xs t) hn to_ (by omega)
        have hA5 : Hid (Adz.firstFrom (Adz.row0 sp xs) to_ = -1 ∨ ∃ k : Nat, Adz.firstFrom (Adz.row0 sp xs) to_ = k ∧ k ≤ sp.length ∧ Adz.fin sp xs 0 k ≠ -1) := by
          rcases Adz.first_cases sp xs to_ (by omega) with h | ⟨k, h1, _, h3, h4⟩
          · exact Or.inl h
          · exact Or.inr ⟨k, h1, h3, h4⟩
        have hi1 : (Tryz.prog.info? 219).map (·.size) = some (m.map (Value.int .i64)).length := by rw [List.length_map, hlen]; exact hI.out
        have HI1 : Hid _ := hi1
        have hmc := hM4.cells
        have G1 : Hid _ := g1
        have G2 : Hid _ := g2
        have G3 : Hid _ := g3
        have HX : Hid _ := hx
        clear g1 g2 g3 HSK HYI hi1 hx hemp
        rcases hbb with ⟨b1, b2⟩ | b1
        · rw [b1]
          have hd2 : decide ((a : Int) = ended) = false := by simpa using b2
          gi_wp2_with (refine wpListIn_load_mid rfl (by rfl) 219 _ (by rfl) w2.heap.size 0 (by rfl) (m.map (Value.int .i64)) _ hmc Tryz.underlying219 (by rfl) HI1.out ?_)
          refine ⟨rfl, hR.mono ?_⟩
          clear hR hy
          rintro e w5 (⟨rfl, hJ5, hk5⟩ | ⟨rfl, hJx5⟩)
          · have hL5 := hL4.round hb1 hk5
            obtain ⟨S, o5, g5, _⟩ := hk5.only
            have m15 := o5.keeps m14 (g5 _ _ hM4.typ (by decide) (by decide) (by decide) (by decide))
            clear o5 g5 hk5 hL4 hJ4 hM4 m14 hmc
            have c6 := c5 w5 hL5
            clear c5
            generalize Adz.firstFrom (Adz.row0 sp xs) to_ = a5 at *
            gi_wp2
            refine ⟨trivial, rfl, (callsIn_wide.2 c6).mono ?_⟩
            clear c6
            rintro e w6 ⟨rfl, ho6, hs6⟩
            have hL6 := hL5.step ho6 hs6
            have hJ6 : J (pre ++ [m]) w6 := hJ _ _ _ hJ5 (ho6.mono (fun c _ e => by subst e; exact ⟨hL5.srch.typ, hsb⟩))
            clear ho6 hs6 hL5 hJ5
            gi_wp2
            go_roundw
            case rel => exact ⟨pre ++ [m], k', to_, a5, rfl, rfl, by show _ = _; rw [hM.out, G1.out]; simp, G2, hA5, hL6, hJ6⟩
            case measure => exact G3.out
          · gi_wp2
            refine bodyPost_ret (results_none rfl _ _ _) rfl ?_
            exact ⟨⟨_, rfl⟩, .inr ⟨pre ++ [m], ⟨HX.out, by simp⟩, hJx5⟩⟩
        · rw [b1]
          gi_wp2_with (refine wpListIn_load_mid rfl (by rfl) 219 _ (by rfl) w2.heap.size 0 (by rfl) (m.map (Value.int .i64)) _ hmc Tryz.underlying219 (by rfl) HI1.out ?_)
          refine ⟨rfl, hR.mono ?_⟩
          clear hR hy
          rintro e w5 (⟨rfl, hJ5, hk5⟩ | ⟨rfl, hJx5⟩)
          · have hL5 := hL4.round hb1 hk5
            obtain ⟨S, o5, g5, _⟩ := hk5.only
            have m15 := o5.keeps m14 (g5 _ _ hM4.typ (by decide) (by decide) (by decide) (by decide))
            clear o5 g5 hk5 hL4 hJ4 hM4 m14 hmc
            have c6 := c5 w5 hL5
            clear c5
            generalize Adz.firstFrom (Adz.row0 sp xs) to_ = a5 at *
            gi_wp2
            refine ⟨trivial, rfl, (callsIn_wide.2 c6).mono ?_⟩
            clear c6
            rintro e w6 ⟨rfl, ho6, hs6⟩
            have hL6 := hL5.step ho6 hs6
            have hJ6 : J (pre ++ [m]) w6 := hJ _ _ _ hJ5 (ho6.mono (fun c _ e => by subst e; exact ⟨hL5.srch.typ, hsb⟩))
            clear ho6 hs6 hL5 hJ5
            gi_wp2
            go_roundw
            case rel => exact ⟨pre ++ [m], k', to_, a5, rfl, rfl, by show _ = _; rw [hM.out, G1.out]; simp, G2, hA5, hL6, hJ6⟩
            case measure => exact G3.out
          · gi_wp2
            refine bodyPost_ret (results_none rfl _ _ _) rfl ?_
            exact ⟨⟨_, rfl⟩, .inr ⟨pre ++ [m], ⟨HX.out, by simp⟩, hJx5⟩⟩

set_option maxHeartbeats 1600000 in
theorem matches1_in (xs : List Adz.Item) (sp : List Int) (pb po : Nat) (iv : Value) (ra : Option Addr) (rc : Nat) (hk : xs.length ≤ 1000) (hf : ∀ x ∈ xs, x.spans.length ≤ 1000) (hn : sp.length ≤ 1000000) (hg : ∀ x ∈ xs, 1 ≤ x.group ∧ x.group ≤ 9 ∨ (x.kind ≠ 2 ∧ x.kind ≠ 3)) (b1 b2 : Nat)
    (l : Nat) (J Jx : List (List Int) → World → Prop) (B0 : Nat) (hJ : LetsT 258 B0 J) (hJx : LetsT 258 B0 Jx)
    (hY : ∀ pre x W1, J pre W1 → (pre ++ [x]) <+: Adz.matches_ sp xs → YieldAt Fence.wide 0 Tryz.prog l #[.agg (x.map (.int .i64)).toArray] W1 fun e W' => (e = .returned (.bool true) ∧ J (pre ++ [x]) W' ∧ KpB B0 W1 W') ∨ (e = .returned (.bool false) ∧ Jx (pre ++ [x]) W'))
    (W : World) (hB : B0 ≤ W.heap.size) (h1 : W.cell? ⟨b1, 0, none⟩ = some (.pointer (some ⟨pb, po, none⟩))) (h2 : W.cell? ⟨b2, 0, none⟩ = some (.slice ra sp.length rc)) (hp : W.cell? ⟨pb, po, none⟩ = some iv) (hi : ItemsAt W iv xs) (hr : SpaceAt W ra sp) (h0 : J [] W) :
    CallsIn Fence.wide 0 Tryz.prog 190 (#[.func (.yield l) #[] #[]] ++ #[.pointer (some ⟨b1, 0, none⟩), .pointer (some ⟨b2, 0, none⟩)]) W fun e W' => (∃ v, e = .returned v) ∧
      ((∃ ys, ys = Adz.matches_ sp xs ∧ J ys W') ∨ (∃ pre, (pre <+: Adz.matches_ sp xs ∧ pre ≠ []) ∧ Jx pre W')) := by
  have c0 := lookIn_calls xs pb po W iv hp hi hk hf ra rc sp hr hn
  refine callsIn_of_wp Tryz.func190 rfl trivial ?_ rfl
  simp only [Tryz.ntmps190, List.size_toArray, List.length_cons, List.length_nil, Nat.reduceAdd, Nat.reduceSub, Array.replicate_succ, Array.replicate_zero, List.push_toArray, List.append_toArray, List.nil_append, List.cons_append]
  gi_wp2
  refine ⟨trivial, rfl, (callsIn_wide.2 c0).mono ?_⟩
  clear c0
  rintro e w1 ⟨sb, ab, base, rfl, hs, hM, ho, hb, hb2⟩
  have hL : Look w1 sb ab base iv ra rc sp xs := ⟨hs, hM, hi.keeps ho (fun _ _ => id) (fun _ _ => id)⟩
  have hJ1 : J [] w1 := hJ _ _ _ h0 (ho.mono (fun _ _ e => e.elim))
  have c1 := eachMatch_in xs sp sb ab base iv ra rc B0 hk hf hn hg l J Jx hJ hJx hY w1 hL (by omega) (by omega) hJ1
  gi_wp2
  refine ⟨trivial, rfl, c1.mono ?_⟩
  clear c1
  rintro e w2 ⟨⟨v, rfl⟩, h⟩
  gi_wp2
  go_end0
  exact ⟨⟨_, rfl⟩, h⟩

set_option maxHeartbeats 800000 in
theorem matches_calls (pb po : Nat) (ra : Option Addr) (n rc : Nat) (w : World) :
    Calls Tryz.prog 164 #[.pointer (some ⟨pb, po, none⟩), .slice ra n rc] w fun e w' => ∃ b1 b2, e = .returned (.func (.func 190) #[] #[.pointer (some ⟨b1, 0, none⟩), .pointer (some ⟨b2, 0, none⟩)]) ∧
      w'.cell? ⟨b1, 0, none⟩ = some (.pointer (some ⟨pb, po, none⟩)) ∧ w'.cell? ⟨b2, 0, none⟩ = some (.slice ra n rc) ∧ w.heap.size ≤ b1 ∧ w.heap.size ≤ b2 ∧ Only (fun _ => False) w w' := by
  go_enter Tryz.func164, Tryz.ntmps164
  go_wp2
  go_ret
  refine ⟨_, _, rfl, by simp [go_sem], by simp [go_sem], by simp, by simp, ((Only.refl _ w).alloc _).alloc _⟩
end Go.Proofs.YtbiobhghnldckaaGreatDoor

/- Proved: what the editor puts out is laid behind what it has put out. Conditions: the editor lies in memory as 'Ed' says. -/
namespace Go.Proofs.YtbiobhghnldckaaGreatDoor
open Go.RowKit
set_option linter.unusedVariables false

/-- The editor lies in memory: its cells, but for its builder's two; what it has put out. -/
structure Ed (w : World) (eb : Nat) (l : List Value) (out : List UInt8) : Prop where
  cells : ∃ p a c, Cells w eb ((l.set 13 p).set 14 (.slice a out.length c)) ∧ (p = .pointer none ∨ p = .pointer (some ⟨eb, 13, none⟩)) ∧ w.ownsRow eb 5 1 (.slice a out.length c) out.length (Lib.byteCells out)
  shape : w.shape? eb = some (108, 16)
  typ : Typ w eb 108
  len : l.length = 16
theorem Ed.get {w : World} {eb : Nat} {l : List Value} {out : List UInt8} (h : Ed w eb l out) (j : Nat) (hj : j ≠ 13 ∧ j ≠ 14) (v : Value) (hv : l[j]? = some v) : w.cell? ⟨eb, j, none⟩ = some v ∧ w.frozen? ⟨eb, j, none⟩ = false := by
  obtain ⟨p, a, c, h1, _⟩ := h.cells
  exact h1 j v (by rw [List.getElem?_set_ne (by omega), List.getElem?_set_ne (by omega)]; exact hv)
theorem Ed.keeps {S : Nat → Prop} {w w' : World} {eb : Nat} {l : List Value} {out : List UInt8} (h : Ed w eb l out) (o : Only S w w') (h1 : ¬ S eb) (h2 : ∀ b, Typ w b 5 → ¬ S b) : Ed w' eb l out := by
  obtain ⟨p, a, c, g1, g2, g3⟩ := h.cells
  exact ⟨⟨p, a, c, g1.keeps o h1, g2, row_keeps g3 o (fun b hb => h2 b (Typ.of_row g3 hb))⟩, (shape_only o h.typ.lt h1).trans h.shape, h.typ.keeps o h1, h.len⟩
theorem Ed.set {w : World} {eb : Nat} {l : List Value} {out : List UInt8} (h : Ed w eb l out) (j : Nat) (hj : j ≠ 13 ∧ j ≠ 14) (v : Value) : Ed (w.setCell ⟨eb, j, none⟩ v) eb (l.set j v) out := by
  obtain ⟨p, a, c, g1, g2, g3⟩ := h.cells
  refine ⟨⟨p, a, c, ?_, g2, row_keeps g3 (only_set w eb j v) (fun b hb e => by subst e; exact absurd ((Typ.of_row g3 hb).one h.typ) (by decide))⟩, shape_set.trans h.shape, h.typ.setCell _ _, by rw [List.length_set]; exact h.len⟩
  have := g1.set j v
  rwa [List.set_comm _ _ (by omega : 14 ≠ j), List.set_comm _ _ (by omega : 13 ≠ j)] at this

set_option maxRecDepth 100000 in
set_option maxHeartbeats 1600000 in
theorem copyCheck_calls (eb : Nat) (w : World) (l : List Value) (out : List UInt8) (h : Ed w eb l out) :
    Calls Tryz.prog 166 #[.pointer (some ⟨eb, 13, none⟩)] w fun e w' => e = .returned (.tuple #[]) ∧ (∃ a c, Cells w' eb ((l.set 13 (.pointer (some ⟨eb, 13, none⟩))).set 14 (.slice a out.length c)) ∧ w'.ownsRow eb 5 1 (.slice a out.length c) out.length (Lib.byteCells out)) ∧ Only (· = eb) w w' ∧ w'.shape? eb = some (108, 16) ∧ Typ w' eb 108 := by
  obtain ⟨p, a, c, g1, g2, g3⟩ := h.cells
  have hl := h.len
  have c13 := g1 13 p (by rw [List.getElem?_set_ne (by omega), List.getElem?_set_self (by omega)])
  have hj : (Tryz.prog.info? 106).map (·.size) = some 2 := by kernel_rfl
  obtain ⟨j, hj1, hj2⟩ := Option.map_eq_some_iff.1 hj
  clear hj
  rcases g2 with rfl | rfl
  · have c0 := c13.1
    have f0 := c13.2
    have hto := Lib.run_to_unsafe (P := Tryz.prog) w ⟨eb, 13, none⟩ Tryz.underlying104 Tryz.underlying241 hj1 (by omega) h.shape (by show 13 < 16; omega)
    have hfrom := Lib.run_from_unsafe (P := Tryz.prog) w ⟨eb, 13, none⟩ Tryz.underlying241 Tryz.underlying104 hj1 h.shape (by kernel_rfl)
    have hex := fun x : Value => run_callFunc_extern (P := Tryz.prog) (w := w) (args := #[x]) Tryz.func192 (by kernel_rfl) (by kernel_rfl) (by kernel_rfl) (e := Extern.AbiNoEscape.same) (by kernel_rfl)
    have hne : ∀ x : Value, (Extern.AbiNoEscape.same #[x]).run Tryz.prog w = .ok x w := fun x => Lib.run_noEscape w x
    have hs := g1.set 13 (.pointer (some ⟨eb, 13, none⟩))
    rw [List.set_comm _ _ (by omega : 14 ≠ 13), List.set_set] at hs
    go_enter Tryz.func166, Tryz.ntmps166
    go_wp2
    go_end0
    exact ⟨rfl, ⟨a, c, hs, row_keeps g3 (only_set w eb 13 _) (fun b hb e => by subst e; exact absurd ((Typ.of_row g3 hb).one h.typ) (by decide))⟩, only_set w eb 13 _, shape_set.trans h.shape, h.typ.setCell _ _⟩
  · have c0 := c13.1
    go_enter Tryz.func166, Tryz.ntmps166
    go_wp2
    rw [Lib.run_neq_ptr_same w _ Tryz.underlying104 hj1]
    go_wp2
    go_end0
    exact ⟨rfl, ⟨a, c, g1, g3⟩, Only.refl _ _, h.shape, h.typ⟩

theorem infoByte : (Tryz.prog.info? 5).map (fun i => (i.zero, i.size, i.bytes)) = some (some (.int .u8 0), 1, 1) := by kernel_rfl

set_option maxRecDepth 100000 in
set_option maxHeartbeats 1600000 in
theorem writeString_calls (eb : Nat) (w : World) (l : List Value) (out : List UInt8) (h : Ed w eb l out) (s : ByteArray) (hlen : out.length + s.size ≤ 1000000) :
    Calls Tryz.prog 138 #[.pointer (some ⟨eb, 13, none⟩), .string s] w fun e w' => (∃ v, e = .returned v) ∧ Ed w' eb l (out ++ s.data.toList) ∧ Only (fun b => b = eb ∨ (Typ w b 5 ∧ eb ≤ b)) w w' := by
  obtain ⟨i0, hi, hz0, hz1, hz2⟩ := info_parts infoByte
  have hl := h.len
  go_enter Tryz.func138, Tryz.ntmps138
  go_wp2_with fail
  refine (copyCheck_calls eb w l out h).mono ?_
  rintro e w1 ⟨rfl, ⟨a, c, g1, g2⟩, o1, s1, t1⟩
  have c14 := g1 14 (.slice a out.length c) (by rw [List.getElem?_set_self (by rw [List.length_set]; omega)])
  have q1 := c14.1
  have q2 := c14.2
  go_wp2_with (at_builtin; refine Lib.wpList_append_own_string _ rfl _ _ 64 9 rfl eb 5 i0 Tryz.underlying64 Tryz.underlying9 hi hz0 hz1 hz2 _ _ _ rfl g2 s rfl ?c3 ?c4 ?c5 ?_)
  case c3 => unfold maxLen; omega
  case c4 => have := t1.lt; omega
  case c5 => have := t1.lt; omega
  intro v' w2 hown' hgrow _
  have ho2 := Only.of_grown hgrow
  have nb : ¬ (Value.slice a out.length c).ownBlock = some eb := fun e => absurd ((Typ.of_row g2 e).one t1) (by decide)
  obtain ⟨a2, c2, rfl⟩ := row_shape hown'
  have k1 := ho2.keeps q1 nb
  have k2 := ho2.keepsFrozen q1 q2 nb
  have g3 := (g1.keeps ho2 nb).set 14 (.slice a2 (out.length + s.size) c2)
  rw [List.set_set] at g3
  have nb2 : ∀ b, (Value.slice a2 (out.length + s.size) c2).ownBlock = some b → ¬ b = eb := fun b e e2 => by subst e2; exact absurd ((Typ.of_row hown' e).one (t1.keeps ho2 nb)) (by decide)
  have hown3 := row_keeps hown' (only_set w2 eb 14 (.slice a2 (out.length + s.size) c2)) nb2
  have e1 : out.length + s.size = (out ++ s.data.toList).length := by rw [List.length_append, Array.length_toList]; rfl
  have e2 : Lib.byteCells out ++ Lib.strCells s = Lib.byteCells (out ++ s.data.toList) := by rw [Lib.strCells_eq, Lib.byteCells_append]
  have HED : Hid (Ed (w2.setCell ⟨eb, 14, none⟩ (.slice a2 (out.length + s.size) c2)) eb l (out ++ s.data.toList)) := by
    rw [e1, e2] at hown3
    rw [e1] at g3
    rw [e1]
    exact ⟨⟨_, a2, c2, g3, Or.inr rfl, hown3⟩, shape_set.trans ((shape_only ho2 t1.lt nb).trans s1), (t1.keeps ho2 nb).setCell _ _, hl⟩
  have HON : Hid (Only (fun b => b = eb ∨ (Typ w b 5 ∧ eb ≤ b)) w (w2.setCell ⟨eb, 14, none⟩ (.slice a2 (out.length + s.size) c2))) := by
    refine Only.setCell (p := ⟨eb, 14, none⟩) (o1.trans ho2 (fun _ e => Or.inl e) (fun b hb e => ?_)) (fun _ => Or.inl rfl) _
    by_cases hbe : b = eb
    · exact Or.inl hbe
    · obtain ⟨cur, fz, hh⟩ := Typ.of_row g2 e
      exact Or.inr ⟨⟨cur, fz, (o1.block b hb hbe).symm.trans hh⟩, (g2.lt b e).1⟩
  clear e1 e2 g3 hown3 hown' hgrow ho2
  go_wp2
  go_ret2
  exact ⟨⟨_, rfl⟩, HED, HON⟩

set_option maxRecDepth 100000 in
set_option maxHeartbeats 1600000 in
theorem appendRune10 (eb : Nat) (w : World) (hB : eb ≤ w.heap.size) (a : Option Addr) (c : Nat) (out : List UInt8) (g : w.ownsRow eb 5 1 (.slice a out.length c) out.length (Lib.byteCells out)) (hlen : out.length ≤ 1000000) :
    Calls Tryz.prog 167 #[.slice a out.length c, .int .i32 10] w fun e w' => ∃ a2 c2, e = .returned (.slice a2 (out.length + 1) c2) ∧ w'.ownsRow eb 5 1 (.slice a2 (out.length + 1) c2) (out.length + 1) (Lib.byteCells (out ++ [10])) ∧ Only (fun b => (Value.slice a out.length c).ownBlock = some b) w w' := by
  obtain ⟨i0, hi, hz0, hz1, hz2⟩ := info_parts infoByte
  have oa : Only (fun _ => False) w (w.alloc (.cells #[.int .u8 10] 5)) := (Only.refl _ w).alloc _
  have ga := row_keeps g oa (fun _ _ => id)
  have hblk := heap_alloc_new w (.cells #[.int .u8 10] 5)
  go_enter Tryz.func167, Tryz.ntmps167
  go_wp2_with (at_builtin; refine wpList_append_lies _ (by rfl) _ _ _ (by rfl) eb 5 i0 _ 1 1 Tryz.underlying64 hi hz0 hz1 hz2 rfl (by omega) (.slice a out.length c) out.length (Lib.byteCells out) (by rfl) ga ⟨w.heap.size, 0, none⟩ 1 1 [.int .u8 10] (by rfl) (by rfl) (World.news_of_block (cs := #[.int .u8 10]) (t := 5) (fr := (0, 0)) hblk) (by simp [Value.oneCell']) (by omega) (by unfold maxLen; omega) (by omega) (by simp only [World.size_alloc]; omega) (w.heap.size + 1) (by simp) ?_; intro g1 cap w2 hown1 hgrow hat hlt1)
  go_ret
  exact ⟨_, _, rfl, by rw [Lib.byteCells_append]; exact hown1, oa.trans (Only.of_grown hgrow) (fun _ e => e.elim) (fun _ _ e => e)⟩

set_option maxRecDepth 100000 in
set_option maxHeartbeats 1600000 in
theorem writeRune10 (eb : Nat) (w : World) (l : List Value) (out : List UInt8) (h : Ed w eb l out) (hlen : out.length ≤ 1000000) :
    Calls Tryz.prog 139 #[.pointer (some ⟨eb, 13, none⟩), .int .i32 10] w fun e w' => (∃ v, e = .returned v) ∧ Ed w' eb l (out ++ [10]) ∧ Only (fun b => b = eb ∨ (Typ w b 5 ∧ eb ≤ b)) w w' := by
  have hl := h.len
  go_enter Tryz.func139, Tryz.ntmps139
  go_wp2_with fail
  refine (copyCheck_calls eb w l out h).mono ?_
  rintro e w1 ⟨rfl, ⟨a, c, g1, g2⟩, o1, s1, t1⟩
  have c14 := g1 14 (.slice a out.length c) (by rw [List.getElem?_set_self (by rw [List.length_set]; omega)])
  have q1 := c14.1
  have q2 := c14.2
  go_wp2_with fail
  refine (appendRune10 eb w1 (Nat.le_of_lt t1.lt) a c out g2 hlen).mono ?_
  rintro e w2 ⟨a2, c2, rfl, hown', ho2⟩
  have nb : ¬ (Value.slice a out.length c).ownBlock = some eb := fun e => absurd ((Typ.of_row g2 e).one t1) (by decide)
  have k1 := ho2.keeps q1 nb
  have k2 := ho2.keepsFrozen q1 q2 nb
  have g3 := (g1.keeps ho2 nb).set 14 (.slice a2 (out.length + 1) c2)
  rw [List.set_set] at g3
  have nb2 : ∀ b, (Value.slice a2 (out.length + 1) c2).ownBlock = some b → ¬ b = eb := fun b e e2 => by subst e2; exact absurd ((Typ.of_row hown' e).one (t1.keeps ho2 nb)) (by decide)
  have hown3 := row_keeps hown' (only_set w2 eb 14 (.slice a2 (out.length + 1) c2)) nb2
  have e1 : out.length + 1 = (out ++ [(10 : UInt8)]).length := by simp
  have HED : Hid (Ed (w2.setCell ⟨eb, 14, none⟩ (.slice a2 (out.length + 1) c2)) eb l (out ++ [10])) := by
    rw [e1] at hown3 g3
    rw [e1]
    exact ⟨⟨_, a2, c2, g3, Or.inr rfl, hown3⟩, shape_set.trans ((shape_only ho2 t1.lt nb).trans s1), (t1.keeps ho2 nb).setCell _ _, hl⟩
  have HON : Hid (Only (fun b => b = eb ∨ (Typ w b 5 ∧ eb ≤ b)) w (w2.setCell ⟨eb, 14, none⟩ (.slice a2 (out.length + 1) c2))) := by
    refine Only.setCell (p := ⟨eb, 14, none⟩) (o1.trans ho2 (fun _ e => Or.inl e) (fun b hb e => ?_)) (fun _ => Or.inl rfl) _
    by_cases hbe : b = eb
    · exact Or.inl hbe
    · obtain ⟨cur, fz, hh⟩ := Typ.of_row g2 e
      exact Or.inr ⟨⟨cur, fz, (o1.block b hb hbe).symm.trans hh⟩, (g2.lt b e).1⟩
  clear e1 g3 hown3 hown' ho2
  go_wp2
  go_ret2
  exact ⟨⟨_, rfl⟩, HED, HON⟩

theorem u8_only {w w' : World} {eb : Nat} (he : Typ w eb 108) (o : Only (fun b => b = eb ∨ (Typ w b 5 ∧ eb ≤ b)) w w') {w2 : World} (o2 : Only (fun b => b = eb ∨ (Typ w' b 5 ∧ eb ≤ b)) w' w2) : Only (fun b => b = eb ∨ (Typ w b 5 ∧ eb ≤ b)) w w2 := by
  refine o.trans o2 (fun _ e => e) (fun b hb e => ?_)
  rcases e with e | ⟨⟨cur, fz, e⟩, e2⟩
  · exact Or.inl e
  · by_cases h : b = eb ∨ (Typ w b 5 ∧ eb ≤ b)
    · exact h
    · exact absurd (Or.inr ⟨⟨cur, fz, (o.block b hb h).symm.trans e⟩, e2⟩) h

set_option maxRecDepth 100000 in
set_option maxHeartbeats 800000 in
theorem goesOn_calls (eb : Nat) (w : World) (e15 : Int) (h : w.cell? ⟨eb, 15, none⟩ = some (.int .i64 e15)) :
    Calls Tryz.prog 44 #[.pointer (some ⟨eb, 0, none⟩)] w fun e w' => e = .returned (.bool (e15 == 0)) ∧ w' = w := by
  go_enter Tryz.func44, Tryz.ntmps44
  go_wp2
  go_ret
  exact ⟨rfl, rfl⟩

set_option maxRecDepth 100000 in
set_option maxHeartbeats 800000 in
theorem builderLen_calls (eb n c : Nat) (a : Option Addr) (w : World) (h : w.cell? ⟨eb, 14, none⟩ = some (.slice a n c)) :
    Calls Tryz.prog 140 #[.pointer (some ⟨eb, 13, none⟩)] w fun e w' => e = .returned (.int .i64 n) ∧ w' = w := by
  go_enter Tryz.func140, Tryz.ntmps140
  go_wp2
  go_ret
  exact ⟨rfl, rfl⟩

set_option maxRecDepth 100000 in
set_option maxHeartbeats 1600000 in
theorem print_ok (eb : Nat) (w : World) (l : List Value) (out : List UInt8) (h : Ed w eb l out) (h15 : l[15]? = some (.int .i64 0)) (s : ByteArray) (hlen : out.length + s.size + 1 ≤ 8000) :
    Calls Tryz.prog 97 #[.pointer (some ⟨eb, 0, none⟩), .string s] w fun e w' => (∃ v, e = .returned v) ∧ Ed w' eb l ((out ++ s.data.toList) ++ [10]) ∧ Only (fun b => b = eb ∨ (Typ w b 5 ∧ eb ≤ b)) w w' := by
  have c15 := (h.get 15 (by omega) _ h15).1
  go_enter Tryz.func97, Tryz.ntmps97
  go_wp2_with fail
  refine (goesOn_calls eb w 0 c15).mono ?_
  rintro e w0 ⟨rfl, rfl⟩
  go_wp2_with fail
  refine (writeString_calls eb w0 l out h s (by omega)).mono ?_
  rintro e w1 ⟨⟨v1, rfl⟩, h1, o1⟩
  go_wp2_with fail
  have el : (out ++ s.data.toList).length = out.length + s.size := by rw [List.length_append, Array.length_toList]; rfl
  have HEL : Hid _ := el
  clear el
  refine (writeRune10 eb w1 l _ h1 (by rw [HEL.out]; omega)).mono ?_
  rintro e w2 ⟨⟨v2, rfl⟩, h2, o2⟩
  obtain ⟨p, a, c, g1, g2, g3⟩ := h2.cells
  have c14 := (g1 14 _ (by rw [List.getElem?_set_self (by rw [List.length_set, h2.len]; omega)])).1
  have elen : ((out ++ s.data.toList) ++ [(10 : UInt8)]).length = out.length + s.size + 1 := by rw [List.length_append, HEL.out]; rfl
  rw [elen] at c14
  have hn : ¬ ((8000 : Int) < ((out.length + s.size + 1 : Nat) : Int)) := by omega
  generalize out.length + s.size + 1 = n at *
  have hd : decide ((8000 : Int) < (n : Int)) = false := by simp; omega
  go_wp2_with fail
  refine (builderLen_calls eb n c a w2 c14).mono ?_
  rintro e w3 ⟨rfl, rfl⟩
  clear g1 g2 g3 elen c14
  go_wp2
  go_end0
  exact ⟨⟨_, rfl⟩, h2, u8_only h.typ o1 o2⟩
end Go.Proofs.YtbiobhghnldckaaGreatDoor
