/- Proved: where an item of a pattern ends. Conditions: the item, the space and the rows of ends lie in memory as told. -/
import Derived.Test.YtbiobhghnldckaaGreatDoorMSpecJ
namespace Go.Proofs.YtbiobhghnldckaaGreatDoor
open Go.RowKit
set_option linter.unusedVariables false

/-- The looking for a pattern lies in memory: its items, its space, its rows of ends; its count may be written. -/
structure Srch (w : World) (sb : Nat) (iv sv ev : Value) : Prop where
  typ : Typ w sb 258
  items : w.cell? ⟨sb, 0, none⟩ = some iv
  space : w.cell? ⟨sb, 1, none⟩ = some sv
  ends : w.cell? ⟨sb, 2, none⟩ = some ev
  steps : ∃ st, w.cell? ⟨sb, 3, none⟩ = some (.int .i64 st)
  free : w.frozen? ⟨sb, 3, none⟩ = false
theorem Srch.keeps {S : Nat → Prop} {w w' : World} {sb : Nat} {iv sv ev : Value} (h : Srch w sb iv sv ev) (o : Only S w w') (hs : ¬ S sb) : Srch w' sb iv sv ev := by
  obtain ⟨st, hst⟩ := h.steps
  exact ⟨h.typ.keeps o hs, o.keeps h.items hs, o.keeps h.space hs, o.keeps h.ends hs, ⟨st, o.keeps hst hs⟩, o.keepsFrozen hst h.free hs⟩
theorem Srch.step {w : World} {sb : Nat} {iv sv ev : Value} (h : Srch w sb iv sv ev) (v : Int) : Srch (w.setCell ⟨sb, 3, none⟩ (.int .i64 v)) sb iv sv ev := by
  obtain ⟨st, hst⟩ := h.steps
  have hc : ∀ o, o ≠ 3 → (w.setCell ⟨sb, 3, none⟩ (.int .i64 v)).cell? ⟨sb, o, none⟩ = w.cell? ⟨sb, o, none⟩ := fun o ho => World.cell?_setCell_other w ⟨sb, 3, none⟩ ⟨sb, o, none⟩ _ (by intro h; injection h; omega)
  exact ⟨h.typ.setCell _ _, (hc 0 (by omega)).trans h.items, (hc 1 (by omega)).trans h.space, (hc 2 (by omega)).trans h.ends, ⟨v, World.cell?_setCell_same _ _ _ hst⟩, by rw [World.frozen?_setCell]; exact h.free⟩
theorem srch_only {w : World} (sb : Nat) (v : Int) : Only (· = sb) w (w.setCell ⟨sb, 3, none⟩ (.int .i64 v)) := Only.setCell (S := (· = sb)) (p := ⟨sb, 3, none⟩) (Only.refl _ w) (fun _ => rfl) _

set_option maxHeartbeats 3200000 in
theorem end_lt (x : Adz.Item) (ib i K : Nat) (ic : Nat) (w : World) (sb ab : Nat) (rb ro rc n j : Nat) (hs : Srch w sb (.slice (some ⟨ib, 0, none⟩) K ic) (.slice (some ⟨rb, ro, none⟩) n rc) (.slice (some ⟨ab, 0, none⟩) (K + 1) (K + 1))) (hi : i < K) (hK : K ≤ 1000) (hx : ItemAt w ib (i * 4) x) (hit : Typ w ib 270) (hrt : Typ w rb 21) (hat : Typ w ab 35)
    (hj : j < n) (hn : n ≤ 1000000) (r : Int) (hr : w.cell? ⟨rb, ro + j, none⟩ = some (.int .i32 r)) (eb bb : Nat) (hae : w.cell? ⟨ab, i, none⟩ = some (.slice (some ⟨eb, 0, none⟩) (n + 1) (n + 1))) (hab : w.cell? ⟨ab, i + 1, none⟩ = some (.slice (some ⟨bb, 0, none⟩) (n + 1) (n + 1))) (het : Typ w eb 3) (hbt : Typ w bb 3) (e1 : Int) (he : w.cell? ⟨eb, j + 1, none⟩ = some (.int .i64 e1)) (b0 b1 : Int) (hb0 : w.cell? ⟨bb, j, none⟩ = some (.int .i64 b0)) (hb1 : w.cell? ⟨bb, j + 1, none⟩ = some (.int .i64 b1)) :
    Calls Tryz.prog 201 #[.pointer (some ⟨sb, 0, none⟩), .int .i64 i, .int .i64 j] w fun e w' => e = .returned (.int .i64 (Adz.endAt x (some r) j n e1 b1 b0)) ∧ Only (· = sb) w w' ∧ Srch w' sb (.slice (some ⟨ib, 0, none⟩) K ic) (.slice (some ⟨rb, ro, none⟩) n rc) (.slice (some ⟨ab, 0, none⟩) (K + 1) (K + 1)) := by
  have dj : decide ((j : Int) < n) = true := by simp; omega
  have hw : IntKind.i64.wrap ((j : Int) + 1) = (j : Int) + 1 := by rw [IntKind.wrap_i64]; omega
  have hwi : IntKind.i64.wrap ((i : Int) + 1) = (i : Int) + 1 := by rw [IntKind.wrap_i64]; omega
  have hi1 : (i : Int) < K := by omega
  have hi2 : (i : Int) < (K : Int) + 1 := by omega
  have hi3 : (i : Int) + 1 < (K : Int) + 1 := by omega
  obtain ⟨st, hst⟩ := hs.steps
  have n1 : ib ≠ sb := hit.ne hs.typ (by decide)
  have n2 : rb ≠ sb := hrt.ne hs.typ (by decide)
  have n3 : ab ≠ sb := hat.ne hs.typ (by decide)
  have n4 : eb ≠ sb := het.ne hs.typ (by decide)
  have n5 : bb ≠ sb := hbt.ne hs.typ (by decide)
  have q0 := hs.items
  have q1 := hs.space
  have q2 := hs.ends
  have q3 := hs.free
  have o0 := srch_only (w := w) sb (wrap64 (st + 1))
  have s0 := hs.step (wrap64 (st + 1))
  have x0 := hx.keeps o0 n1 (fun b hb e => by subst e; exact absurd (hb.one hs.typ) (by decide))
  have r0 := o0.keeps hr n2
  have he0 := o0.keeps he n4
  have hb00 := o0.keeps hb0 n5
  have hb10 := o0.keeps hb1 n5
  have ae0 := o0.keeps hae n3
  have ab0 := o0.keeps hab n3
  have p0 := s0.items
  have p1 := s0.space
  have p2 := s0.ends
  go_enter Tryz.func201, Tryz.ntmps201
  go_wp2_with fail
  generalize w.setCell ⟨sb, 3, none⟩ (.int .i64 (wrap64 (st + 1))) = w0 at *
  clear hst q0 q1 q2 q3 hr he hb0 hb1 hae hab hx
  have fin : ∀ u, Only (fun _ => False) w0 u → Only (· = sb) w u ∧ Srch u sb (.slice (some ⟨ib, 0, none⟩) K ic) (.slice (some ⟨rb, ro, none⟩) n rc) (.slice (some ⟨ab, 0, none⟩) (K + 1) (K + 1)) := fun u hu => ⟨o0.trans hu (fun _ e => e) (fun _ _ e => e.elim), s0.keeps hu id⟩
  go_quiet (fail)
  go_wp2_with fail
  refine (takes_calls x ib (i * 4) r _ (x0.quiet ((Only.refl _ w0).drewN _))).mono ?_
  rintro e w1 ⟨rfl, ho0⟩
  have ho1 : Only (fun _ => False) w0 w1 := ((Only.refl (fun _ => False) w0).drewN _).trans ho0 (fun _ e => e) (fun _ _ e => e)
  clear ho0
  have he1 := ho1.keeps he0 id
  have p11 := ho1.keeps p1 id
  have hb11 := ho1.keeps hb10 id
  rcases hK : Adz.takes x r with _ | _
  · have HK : Hid (Adz.takes x r = false) := hK
    clear hK
    go_wp2_with fail
    refine (takesNone_calls x ib (i * 4) _ _ _ (x0.quiet ho1)).mono ?_
    rintro e w9 ⟨rfl, ho9⟩
    have hoX := ho1.trans ho9 (fun _ e => e) (fun _ _ e => e)
    have hb9 := hoX.keeps hb00 id
    rcases hT : Adz.takesNone x j n with _ | _
    · have HT : Hid (Adz.takesNone x j n = false) := hT
      clear hT
      go_wp2
      go_ret
      exact ⟨by simp [Adz.endAt, HK.out, HT.out], fin _ hoX⟩
    · have HT : Hid (Adz.takesNone x j n = true) := hT
      clear hT
      by_cases hz : b0 = -1
      · subst hz
        go_wp2
        go_ret
        exact ⟨by simp [Adz.endAt, HK.out, HT.out], fin _ hoX⟩
      · have dz : (b0 == -1) = false := by simp [hz]
        have dz' : (b0 != -1) = true := by simp [hz]
        have dz2 : decide (b0 = -1) = false := by simp [hz]
        have HZ : Hid (¬ b0 = -1) := hz
        clear hz
        go_wp2
        go_ret
        exact ⟨by simp [Adz.endAt, HK.out, HT.out, HZ.out], fin _ hoX⟩
  · have HK : Hid (Adz.takes x r = true) := hK
    clear hK
    go_wp2_with fail
    refine (takesMany_calls x ib (i * 4) w1 (x0.quiet ho1)).mono ?_
    rintro e w2 ⟨rfl, ho2⟩
    have ho12 := ho1.trans ho2 (fun _ e => e) (fun _ _ e => e)
    have he2 := ho12.keeps he0 id
    have p12 := ho12.keeps p1 id
    have hb12 := ho12.keeps hb10 id
    have hor : (Adz.takesMany x = true ∧ ¬ e1 = -1) ∨ (Adz.takesMany x = true ∧ e1 = -1) ∨ Adz.takesMany x = false := by
      rcases Adz.takesMany x with _ | _ <;> by_cases h : e1 = -1 <;> simp [h]
    by_cases hz1 : b1 = -1
    · rcases hor with ⟨hM, hE⟩ | ⟨hM, hE⟩ | hM
      · have HM : Hid (Adz.takesMany x = true) := hM
        clear hM
        rw [HM.out]
        have HE : Hid (¬ e1 = -1) := hE
        clear hE
        have de1 : (e1 == -1) = false := by simp [HE.out]
        have de1' : (e1 != -1) = true := by simp [HE.out]
        have de12 : decide (e1 = -1) = false := by simp [HE.out]
        go_wp2
        go_ret
        exact ⟨by simp [Adz.endAt, HK.out, HM.out, HE.out], fin _ ho12⟩
      · have HM : Hid (Adz.takesMany x = true) := hM
        clear hM
        rw [HM.out]
        have HE : Hid (e1 = -1) := hE
        clear hE
        have de1 : (e1 == -1) = true := by simp [HE.out]
        have de1' : (e1 != -1) = false := by simp [HE.out]
        have de12 : decide (e1 = -1) = true := by simp [HE.out]
        have HZ1 : Hid (b1 = -1) := hz1
        clear hz1
        have dz1 : (b1 == -1) = true := by simp [HZ1.out]
        have dz1' : (b1 != -1) = false := by simp [HZ1.out]
        have dz12 : decide (b1 = -1) = true := by simp [HZ1.out]
        go_wp2_with fail
        refine (takesNone_calls x ib (i * 4) _ _ _ (x0.quiet ho12)).mono ?_
        rintro e w9 ⟨rfl, ho9⟩
        have hoX := ho12.trans ho9 (fun _ e => e) (fun _ _ e => e)
        have hb9 := hoX.keeps hb00 id
        rcases hT : Adz.takesNone x j n with _ | _
        · have HT : Hid (Adz.takesNone x j n = false) := hT
          clear hT
          go_wp2
          go_ret
          exact ⟨by simp [Adz.endAt, HK.out, HM.out, HZ1.out, HE.out, HT.out], fin _ hoX⟩
        · have HT : Hid (Adz.takesNone x j n = true) := hT
          clear hT
          by_cases hz : b0 = -1
          · subst hz
            go_wp2
            go_ret
            exact ⟨by simp [Adz.endAt, HK.out, HM.out, HZ1.out, HE.out, HT.out], fin _ hoX⟩
          · have dz : (b0 == -1) = false := by simp [hz]
            have dz' : (b0 != -1) = true := by simp [hz]
            have dz2 : decide (b0 = -1) = false := by simp [hz]
            have HZ : Hid (¬ b0 = -1) := hz
            clear hz
            go_wp2
            go_ret
            exact ⟨by simp [Adz.endAt, HK.out, HM.out, HZ1.out, HE.out, HT.out, HZ.out], fin _ hoX⟩
      · have HM : Hid (Adz.takesMany x = false) := hM
        clear hM
        rw [HM.out]
        have HZ1 : Hid (b1 = -1) := hz1
        clear hz1
        have dz1 : (b1 == -1) = true := by simp [HZ1.out]
        have dz1' : (b1 != -1) = false := by simp [HZ1.out]
        have dz12 : decide (b1 = -1) = true := by simp [HZ1.out]
        go_wp2_with fail
        refine (takesNone_calls x ib (i * 4) _ _ _ (x0.quiet ho12)).mono ?_
        rintro e w9 ⟨rfl, ho9⟩
        have hoX := ho12.trans ho9 (fun _ e => e) (fun _ _ e => e)
        have hb9 := hoX.keeps hb00 id
        rcases hT : Adz.takesNone x j n with _ | _
        · have HT : Hid (Adz.takesNone x j n = false) := hT
          clear hT
          go_wp2
          go_ret
          exact ⟨by simp [Adz.endAt, HK.out, HM.out, HZ1.out, HT.out], fin _ hoX⟩
        · have HT : Hid (Adz.takesNone x j n = true) := hT
          clear hT
          by_cases hz : b0 = -1
          · subst hz
            go_wp2
            go_ret
            exact ⟨by simp [Adz.endAt, HK.out, HM.out, HZ1.out, HT.out], fin _ hoX⟩
          · have dz : (b0 == -1) = false := by simp [hz]
            have dz' : (b0 != -1) = true := by simp [hz]
            have dz2 : decide (b0 = -1) = false := by simp [hz]
            have HZ : Hid (¬ b0 = -1) := hz
            clear hz
            go_wp2
            go_ret
            exact ⟨by simp [Adz.endAt, HK.out, HM.out, HZ1.out, HT.out, HZ.out], fin _ hoX⟩
    · rcases hor with ⟨hM, hE⟩ | ⟨hM, hE⟩ | hM
      · have HM : Hid (Adz.takesMany x = true) := hM
        clear hM
        rw [HM.out]
        have HE : Hid (¬ e1 = -1) := hE
        clear hE
        have de1 : (e1 == -1) = false := by simp [HE.out]
        have de1' : (e1 != -1) = true := by simp [HE.out]
        have de12 : decide (e1 = -1) = false := by simp [HE.out]
        go_wp2
        go_ret
        exact ⟨by simp [Adz.endAt, HK.out, HM.out, HE.out], fin _ ho12⟩
      · have HM : Hid (Adz.takesMany x = true) := hM
        clear hM
        rw [HM.out]
        have HE : Hid (e1 = -1) := hE
        clear hE
        have de1 : (e1 == -1) = true := by simp [HE.out]
        have de1' : (e1 != -1) = false := by simp [HE.out]
        have de12 : decide (e1 = -1) = true := by simp [HE.out]
        have HZ1 : Hid (¬ b1 = -1) := hz1
        clear hz1
        have dz1 : (b1 == -1) = false := by simp [HZ1.out]
        have dz1' : (b1 != -1) = true := by simp [HZ1.out]
        have dz12 : decide (b1 = -1) = false := by simp [HZ1.out]
        go_wp2
        go_ret
        exact ⟨by simp [Adz.endAt, HK.out, HM.out, HZ1.out, HE.out], fin _ ho12⟩
      · have HM : Hid (Adz.takesMany x = false) := hM
        clear hM
        rw [HM.out]
        have HZ1 : Hid (¬ b1 = -1) := hz1
        clear hz1
        have dz1 : (b1 == -1) = false := by simp [HZ1.out]
        have dz1' : (b1 != -1) = true := by simp [HZ1.out]
        have dz12 : decide (b1 = -1) = false := by simp [HZ1.out]
        go_wp2
        go_ret
        exact ⟨by simp [Adz.endAt, HK.out, HM.out, HZ1.out], fin _ ho12⟩

set_option maxHeartbeats 1600000 in
theorem end_eq (x : Adz.Item) (ib i K : Nat) (ic : Nat) (w : World) (sb ab : Nat) (ra : Option Addr) (rc j : Nat) (hs : Srch w sb (.slice (some ⟨ib, 0, none⟩) K ic) (.slice ra j rc) (.slice (some ⟨ab, 0, none⟩) (K + 1) (K + 1))) (hi : i < K) (hK : K ≤ 1000) (hx : ItemAt w ib (i * 4) x) (hit : Typ w ib 270) (hat : Typ w ab 35)
    (hn : j ≤ 1000000) (eb bb : Nat) (hae : w.cell? ⟨ab, i, none⟩ = some (.slice (some ⟨eb, 0, none⟩) (j + 1) (j + 1))) (hab : w.cell? ⟨ab, i + 1, none⟩ = some (.slice (some ⟨bb, 0, none⟩) (j + 1) (j + 1))) (hbt : Typ w bb 3) (e1 b1 : Int) (b0 : Int) (hb0 : w.cell? ⟨bb, j, none⟩ = some (.int .i64 b0)) :
    Calls Tryz.prog 201 #[.pointer (some ⟨sb, 0, none⟩), .int .i64 i, .int .i64 j] w fun e w' => e = .returned (.int .i64 (Adz.endAt x none j j e1 b1 b0)) ∧ Only (· = sb) w w' ∧ Srch w' sb (.slice (some ⟨ib, 0, none⟩) K ic) (.slice ra j rc) (.slice (some ⟨ab, 0, none⟩) (K + 1) (K + 1)) := by
  have dj : decide ((j : Int) < j) = false := by simp
  have hwi : IntKind.i64.wrap ((i : Int) + 1) = (i : Int) + 1 := by rw [IntKind.wrap_i64]; omega
  have hi1 : (i : Int) < K := by omega
  have hi2 : (i : Int) < (K : Int) + 1 := by omega
  have hi3 : (i : Int) + 1 < (K : Int) + 1 := by omega
  obtain ⟨st, hst⟩ := hs.steps
  have n1 : ib ≠ sb := hit.ne hs.typ (by decide)
  have n3 : ab ≠ sb := hat.ne hs.typ (by decide)
  have n5 : bb ≠ sb := hbt.ne hs.typ (by decide)
  have q0 := hs.items
  have q1 := hs.space
  have q2 := hs.ends
  have q3 := hs.free
  have o0 := srch_only (w := w) sb (wrap64 (st + 1))
  have s0 := hs.step (wrap64 (st + 1))
  have x0 := hx.keeps o0 n1 (fun b hb e => by subst e; exact absurd (hb.one hs.typ) (by decide))
  have hb00 := o0.keeps hb0 n5
  have ae0 := o0.keeps hae n3
  have ab0 := o0.keeps hab n3
  have p0 := s0.items
  have p1 := s0.space
  have p2 := s0.ends
  go_enter Tryz.func201, Tryz.ntmps201
  go_wp2_with fail
  generalize w.setCell ⟨sb, 3, none⟩ (.int .i64 (wrap64 (st + 1))) = w0 at *
  clear hst q0 q1 q2 q3 hb0 hae hab hx
  have fin : ∀ u, Only (fun _ => False) w0 u → Only (· = sb) w u ∧ Srch u sb (.slice (some ⟨ib, 0, none⟩) K ic) (.slice ra j rc) (.slice (some ⟨ab, 0, none⟩) (K + 1) (K + 1)) := fun u hu => ⟨o0.trans hu (fun _ e => e) (fun _ _ e => e.elim), s0.keeps hu id⟩
  go_quiet (fail)
  go_wp2_with fail
  refine (takesNone_calls x ib (i * 4) _ _ _ (x0.quiet ((Only.refl _ w0).drewN _))).mono ?_
  rintro e w9 ⟨rfl, ho9⟩
  have hoX : Only (fun _ => False) w0 w9 := ((Only.refl (fun _ => False) w0).drewN _).trans ho9 (fun _ e => e) (fun _ _ e => e)
  clear ho9
  have hb9 := hoX.keeps hb00 id
  rcases hT : Adz.takesNone x j j with _ | _
  · have HT : Hid (Adz.takesNone x j j = false) := hT
    clear hT
    go_wp2
    go_ret
    exact ⟨by simp [Adz.endAt, HT.out], fin _ hoX⟩
  · have HT : Hid (Adz.takesNone x j j = true) := hT
    clear hT
    by_cases hz : b0 = -1
    · subst hz
      go_wp2
      go_ret
      exact ⟨by simp [Adz.endAt, HT.out], fin _ hoX⟩
    · have dz : (b0 == -1) = false := by simp [hz]
      have dz' : (b0 != -1) = true := by simp [hz]
      have dz2 : decide (b0 = -1) = false := by simp [hz]
      have HZ : Hid (¬ b0 = -1) := hz
      clear hz
      go_wp2
      go_ret
      exact ⟨by simp [Adz.endAt, HT.out, HZ.out], fin _ hoX⟩
end Go.Proofs.YtbiobhghnldckaaGreatDoor
