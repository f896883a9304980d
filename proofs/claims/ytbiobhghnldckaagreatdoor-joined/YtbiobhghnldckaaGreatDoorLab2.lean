/- Proved: a label's name of one letter is read; a label is set, and asked for, where it is the only one. Conditions: the parser lies in memory as 'Par' says. -/
import Derived.Test.YtbiobhghnldckaaGreatDoorLab1
import Derived.Test.YtbiobhghnldckaaGreatDoorK15
import Derived.Test.YtbiobhghnldckaaGreatDoorK8
namespace Go.Proofs.YtbiobhghnldckaaGreatDoor
open Go.RowKit
set_option linter.unusedVariables false
attribute [local go_sem ↓] Go.wp_at_zero Go.wp_at_succ

set_option maxRecDepth 100000 in
set_option maxHeartbeats 1600000 in
theorem name_one (g : CG) (pp cb : Nat) (w : World) (i : Nat) (h : Cur g w i) (hp : Lead g pp w) (c : Adz.Cmd) (hc : CmdAt w cb c) (a : Int) (ha : Adz.peek g.L i = a) (hl : Adz.isLetter a = true) (hl2 : Adz.isLetter (Adz.peek g.L (i + 1)) = false) :
    Calls Tryz.prog 172 #[.pointer (some ⟨pp, 0, none⟩), .pointer (some ⟨cb, 0, none⟩)] w fun e w' => e = .returned (.pointer none) ∧ CmdAt w' cb { c with name := Adz.enc [a] } ∧ Cur g w' (i + 1) ∧ Only (fun b => b = g.c ∨ b = cb) w w' := by
  have hlt : i < g.L.length := Adz.lt_of_letter (by rw [ha]; exact hl)
  have q0 := hp.at0
  have ncb : cb ≠ g.c := hc.typ.ne h.tc (by decide)
  have hcl := h.lt
  have hclt := hc.typ.lt
  have hs1 := h.small
  have HL : Hid (Adz.isLetter a = true) := hl
  have HL2 : Hid (Adz.isLetter (Adz.peek g.L (i + 1)) = false) := hl2
  have HA : Hid (Adz.peek g.L i = a) := ha
  clear hl hl2 ha
  go_enter Tryz.func172, Tryz.ntmps172
  go_wp2_with fail
  refine (place_calls g w i h).mono ?_
  rintro e w1 ⟨rfl, n1, rfl⟩
  go_wp2_with fail
  go_loopg [6] 1 (fun k v wr => ∃ j qs ra rc, v = .slice ra qs.length rc ∧ ((k = 1 ∧ j = i ∧ qs = []) ∨ (k = 0 ∧ j = i + 1 ∧ qs = [a])) ∧ Hid (Cur g wr j) ∧ Hid (Lead g pp wr) ∧ Hid (wr.ownsRow w.heap.size 21 1 (.slice ra qs.length rc) qs.length (qs.map (.int .i32))) ∧ Hid (Only (fun b => b = g.c ∨ w.heap.size ≤ b) w wr))
  case atStart => exact ⟨i, [], none, 0, rfl, Or.inl ⟨rfl, rfl, rfl⟩, h.drewN n1, hp.drewN n1, World.ownsRow_nil _ _ _ _, (Only.refl _ w).drewN n1⟩
  case round =>
    obtain ⟨j, qs, ra, rc, rfl, hj, hC, hLd, hw, hO⟩ := hrel
    have hc' : Cur g wr j := hC
    have hl' : Lead g pp wr := hLd
    have hO' : Only (fun b => b = g.c ∨ w.heap.size ≤ b) w wr := hO
    have q1 := hl'.at0
    clear hC hLd hO
    rcases hj with ⟨rfl, rfl, rfl⟩ | ⟨rfl, rfl, rfl⟩
    · have hsz : w.heap.size ≤ wr.heap.size := hO'.size
      go_wp2_with fail
      refine (peek_calls g wr _ hc').mono ?_
      rintro e w2 ⟨rfl, n2, rfl⟩
      rw [HA.out]
      go_wp2_with fail
      refine (isLetter_calls _ _).mono ?_
      rintro e w2 ⟨rfl, rfl⟩
      rw [HL.out]
      go_wp2_with fail
      refine (next_calls g _ _ (hc'.drewN n2) hlt).mono ?_
      rintro e w2 ⟨rfl, hc2, ho2⟩
      rw [HA.out]
      have o2 : Only (· = g.c) wr w2 := ((Only.refl (· = g.c) wr).drewN n2).trans ho2 (fun _ e => e) (fun _ _ e => e)
      have hw2 := row_keeps (Hid.out hw) o2 (fun b hb e => (Typ.of_row (Hid.out hw) hb).ne hc'.tc (by decide) e)
      have hsz2 : w.heap.size ≤ w2.heap.size := Nat.le_trans hO'.size o2.size
      have oa : Only (fun _ => False) w2 (w2.alloc (.cells #[.int .i32 a] 21)) := (Only.refl _ w2).alloc _
      have ga := row_keeps hw2 oa (fun _ _ => id)
      have hsp : SpaceAt (w2.alloc (.cells #[.int .i32 a] 21)) (some ⟨w2.heap.size, 0, none⟩) [a] := fun _ => ⟨w2.heap.size, 0, rfl, Typ.new _ _ _ _, fun j hj => by
        have : j = 0 := by simp at hj; omega
        subst this
        exact (Cells.new w2 #[.int .i32 a] 21 0 _ rfl).1⟩
      have hszA : (w2.alloc (.cells #[.int .i32 a] 21)).heap.size = w2.heap.size + 1 := by simp
      go_wp2_with (at_builtin; refine wpList_append_runes _ (by rfl) _ _ (by rfl) w.heap.size (.slice ra 0 rc) 0 [] (by rfl) ga (some ⟨w2.heap.size, 0, none⟩) 1 [a] 1 (by rfl) rfl hsp (by omega) (by rw [hszA]; omega) ?_; intro a1 c1 w3 hown1 o1 hat1)
      go_roundg 0
      case measure => omega
      case rel =>
        have o3 : Only (fun b => (Value.slice ra 0 rc).ownBlock = some b) w2 w3 := oa.trans o1 (fun _ e => e.elim) (fun _ _ e => e)
        refine ⟨_, [a], a1, c1, rfl, Or.inr ⟨rfl, rfl, rfl⟩, ?_, ?_, hown1, ?_⟩
        · exact hc2.keeps o3 (row_ne hw2 hc2.tc (by decide)) (fun hn e => by
            have t1 := hc2.tr hn
            have t2 := hw2.lt _ e
            have t3 := h.tr hn
            have := t3.lt
            omega) (row_ne hw2 hc2.tp (by decide))
        · have hl2 : Lead g pp w2 := hl'.moved o2
          exact hl2.keeps o3 (row_ne hw2 hl2.typ (by decide))
        · exact (hO'.trans o2 (fun _ e => e) (fun _ _ e => Or.inl e) : Only (fun b => b = g.c ∨ w.heap.size ≤ b) w w2).trans o3 (fun _ e => e) (fun b hb e => Or.inr (hw2.lt b e).1)
    · have hcv := fun m => run_string_runes (wr.drewN m) ra rc [a] ((Sl.of_row (row_keeps (Hid.out hw) ((Only.refl (fun _ => False) wr).drewN m) (fun _ _ => id))).1)
      have o3 : Only (· = g.c) w wr := hO'.mono (fun b hb e => by rcases e with e | e; exact e; omega)
      have m3 := hc.keeps o3 h.spares ncb
      go_wp2_with fail
      refine (peek_calls g wr _ hc').mono ?_
      rintro e w2 ⟨rfl, n2, rfl⟩
      go_wp2_with fail
      refine (isLetter_calls _ _).mono ?_
      rintro e w2 ⟨rfl, rfl⟩
      rw [HL2.out]
      have m3 := m3.keeps ((Only.refl (· = g.c) wr).drewN n2) hc'.spares ncb
      obtain ⟨av, iv, rv, fv, tv, kk, dd⟩ := m3.deep
      have k4 := (kk 4 _ rfl).1
      have f4 := (kk 4 _ rfl).2
      have o4 := only_set (wr.drewN n2) cb 4 (.string (runesBytes [a]))
      have hcells : Cells ((wr.drewN n2).setCell ⟨cb, 4, none⟩ (.string (runesBytes [a]))) cb (cmdCells { c with name := Adz.enc [a] } av iv rv fv tv) := by
        have := kk.set 4 (.string (runesBytes [a]))
        rw [← enc_runes] at this ⊢
        exact this
      have d4 := dd.keeps o4 (spares_one m3.typ (by decide))
      have HC : Hid _ := hcells
      clear hcells kk
      have hcv2 : (convert 103 9 (.slice ra 1 rc)).run Tryz.prog (wr.drewN n2) = .ok (.string (runesBytes [a])) (wr.drewN n2) := hcv n2
      clear hcv
      generalize runesBytes [a] = T at *
      go_wp2
      go_ret
      exact ⟨rfl, ⟨m3.typ.set, av, iv, rv, fv, tv, HC.out, ⟨d4.a, d4.i, d4.r, d4.f, d4.t⟩⟩, (hc'.drewN n2).aside o4 m3.typ, (o3.drewN n2).trans o4 (fun _ e => Or.inl e) (fun _ _ e => Or.inr e)⟩
end Go.Proofs.YtbiobhghnldckaaGreatDoor
