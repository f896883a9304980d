/- Proved: what the commands of adzekeep.Joined's script do: a label and a block's beginning nothing, b goes on at its goal, N joins the next line. Conditions: the editor lies in memory as 'EM' says. -/
import Derived.Test.YtbiobhghnldckaaGreatDoorK18
namespace Go.Proofs.YtbiobhghnldckaaGreatDoor
open Go.RowKit
set_option linter.unusedVariables false
attribute [local go_sem ↓] Go.wp_at_zero Go.wp_at_succ

set_option maxRecDepth 100000 in
set_option maxHeartbeats 1600000 in
theorem do_nop (w : World) (eb : Nat) (g o : Nat) (r : Int) (hr : r = 58 ∨ r = 123) (hC : w.cell? ⟨g, o, none⟩ = some (.int .i32 r)) :
    Calls Tryz.prog 96 #[.pointer (some ⟨eb, 0, none⟩), .pointer (some ⟨g, o, none⟩)] w fun e w' => (∃ v, e = .returned v) ∧ Only (fun _ => False) w w' := by
  rcases hr with rfl | rfl
  all_goals
    go_enter Tryz.func96, Tryz.ntmps96
    go_wp2
    go_end0
    exact ⟨⟨_, rfl⟩, Only.refl _ _⟩

set_option maxRecDepth 100000 in
set_option maxHeartbeats 1600000 in
theorem do_b (w : World) (eb : Nat) (X : Adz.Fx) (E : Adz.Es) (sa ha qa : Option Addr) (sc hc qc : Nat) (h : EM w eb X E sa sc ha hc qa qc) (g o k : Nat) (hC : w.cell? ⟨g, o, none⟩ = some (.int .i32 98)) (hG : w.cell? ⟨g, o + 5, none⟩ = some (.int .i64 (k : Int))) :
    Calls Tryz.prog 96 #[.pointer (some ⟨eb, 0, none⟩), .pointer (some ⟨g, o, none⟩)] w fun e w' => (∃ v, e = .returned v) ∧ EM w' eb X { E with next := k } sa sc ha hc qa qc ∧ Only (· = eb) w w' := by
  have q9 := (h.ed.get 9 (by omega) _ rfl).1
  have f9 := (h.ed.get 9 (by omega) _ rfl).2
  have hE2 := h.ed.set 9 (by omega) (.int .i64 (k : Int))
  have o2 : Only (· = eb) w _ := only_set w eb 9 (.int .i64 (k : Int))
  have hM : EM (w.setCell ⟨eb, 9, none⟩ (.int .i64 (k : Int))) eb X { E with next := k } sa sc ha hc qa qc := h.cells o2 hE2 rfl rfl rfl
  have HM : Hid _ := hM
  have HO : Hid _ := o2
  clear hM o2 hE2 h
  go_enter Tryz.func96, Tryz.ntmps96
  go_wp2
  go_end0
  exact ⟨⟨_, rfl⟩, HM.out, HO.out⟩

theorem es_told (E : Adz.Es) (h : E.queue = []) (l : Nat) (sp : List Int) : ({ E with line := l, r8 := false, sp := sp, queue := [], out := Adz.outs E.out E.queue } : Adz.Es) = { E with line := l, r8 := false, sp := sp } := by
  cases E
  simp only at h
  subst h
  rfl

set_option maxRecDepth 100000 in
set_option maxHeartbeats 3200000 in
theorem joinNextM (w : World) (eb : Nat) (X : Adz.Fx) (E : Adz.Es) (sa ha qa : Option Addr) (sc hc qc : Nat) (h : EM w eb X E sa sc ha hc qa qc) (hk : E.line < X.lines.length) (hl : X.lines.length ≤ 4000) (hs : X.lines[E.line].size ≤ 3000) (hsp : E.sp.length ≤ 400) (hqu : E.queue = []) (hout : E.out.length ≤ 8000) :
    Calls Tryz.prog 132 #[.pointer (some ⟨eb, 0, none⟩)] w fun e w' => (∃ v, e = .returned v) ∧ EMx w' eb X { E with line := E.line + 1, r8 := false, sp := E.sp ++ 10 :: Adz.runes X.lines[E.line] } ∧ Only (fun b => b = eb ∨ eb ≤ b) w w' := by
  have d1 : decide ((E.line : Int) < X.lines.length) = true := by simp; omega
  have hnx := hasNextM w eb X E sa ha qa sc hc qc h
  rw [d1] at hnx
  have hrl := Adz.runes_len X.lines[E.line]
  have hrd0 := fun (u : World) (hM : EM u eb X E sa sc ha hc qa qc) => readM u eb X E sa ha qa sc hc qc hM hk hl hs
  generalize X.lines[E.line] = ln at *
  go_enter Tryz.func132, Tryz.ntmps132
  go_wp2_with fail
  refine hnx.mono ?_
  clear hnx
  rintro e w1 ⟨rfl, o1⟩
  have h1 := h.quiet o1
  have q4 := (h1.ed.get 4 (by omega) _ rfl).1
  have f4 := (h1.ed.get 4 (by omega) _ rfl).2
  have od : Only (fun _ => False) w1 w1.drew := (Only.refl _ w1).drew
  have hrd := hrd0 w1.drew (h1.quiet od)
  clear hrd0
  have hne0 : (Value.slice sa E.sp.length sc).ownBlock ≠ some eb := row_ne h1.sp h1.ed.typ (by decide)
  go_wp2_with fail
  go_region_with (first
    | (go_at_call 70; refine hrd.mono ?_; rintro e w2 ⟨b, rc, rfl, hown, hM2, o2⟩; have r4 := (hM2.ed.get 4 (by omega) _ rfl).1; have rf4 := (hM2.ed.get 4 (by omega) _ rfl).2; have hlt2 := hM2.ed.typ.lt; have hj := joinM w2 (eb + 1) hlt2 sa sc E.sp hM2.sp (some ⟨b, 0, none⟩) rc (Adz.runes ln) ((Sl.of_row hown).1.space) (fun _ b' hb' e => by (have k1 := (h1.sp.lt b' hb').2); (have k2 := (hown.lt b rfl).1); (have k3 : b = b' := by simpa [Value.ownBlock] using e); (have k4 : w1.drew.heap.size = w1.heap.size := rfl); omega) (by omega) (by omega))
    | (go_at_call 130; refine hj.mono ?_; rintro e w3 ⟨a1, c1, rfl, hown3, o3, hat3⟩; have k4 := o3.keeps r4 hne0; have kf4 := o3.keepsFrozen r4 rf4 hne0))
  all_goals
    have oo1 : Only (fun b => (Value.slice sa E.sp.length sc).ownBlock = some b) w2 w3 := o3
    have e4 := (hM2.ed.keeps oo1 hne0 (fun b hb => row_ne hM2.sp hb (by decide))).set 4 (by omega) (.slice a1 (E.sp ++ 10 :: Adz.runes ln).length c1)
    have oS := only_set w3 eb 4 (.slice a1 (E.sp ++ 10 :: Adz.runes ln).length c1)
    have oo2 : Only (fun b => b = eb ∨ (Value.slice sa E.sp.length sc).ownBlock = some b) w2 (w3.setCell ⟨eb, 4, none⟩ (.slice a1 (E.sp ++ 10 :: Adz.runes ln).length c1)) := oo1.trans oS (fun _ e => Or.inr e) (fun _ _ e => Or.inl e)
    have hX : EM (w3.setCell ⟨eb, 4, none⟩ (.slice a1 (E.sp ++ 10 :: Adz.runes ln).length c1)) eb X { E with line := E.line + 1, r8 := false, sp := E.sp ++ 10 :: Adz.runes ln } a1 c1 ha hc qa qc := hM2.joined oo2 e4 (row_keeps hown3 oS (fun b hb e => by subst e; exact absurd ((Typ.of_row hown3 hb).one (hM2.ed.typ.keeps oo1 hne0)) (by decide))) (fun b hb => by
      rcases hat3 with k | ⟨b', k, hb'⟩
      · exact hM2.apart b (k ▸ hb)
      · rw [k] at hb
        injection hb with hb
        subst hb
        exact hM2.holdLt hb')
    have oo3 : Only (fun b => b = eb ∨ eb ≤ b) w (w3.setCell ⟨eb, 4, none⟩ (.slice a1 (E.sp ++ 10 :: Adz.runes ln).length c1)) := ((o1.trans od (fun _ e => e) (fun _ _ e => e)).trans o2 (fun _ e => e.elim) (fun _ _ e => Or.inl e) : Only (fun b => b = eb ∨ eb ≤ b) w w2).trans oo2 (fun _ e => e) (fun b hb e => by
      rcases e with e | e
      · exact Or.inl e
      · have := (hM2.sp.lt b e).1
        exact Or.inr (by omega))
    have el : (E.sp ++ 10 :: Adz.runes ln).length = E.sp.length + ((Adz.runes ln).length + 1) := by simp
    have ht := tell_ok _ eb X { E with line := E.line + 1, r8 := false, sp := E.sp ++ 10 :: Adz.runes ln } a1 ha qa c1 hc qc hX (by show (Adz.outs E.out E.queue).length ≤ 8000; rw [hqu]; exact hout) (by show E.queue.length ≤ 100000; rw [hqu]; simp)
    rw [el] at ht
    have HO : Hid _ := oo3
    rw [el] at HO
    clear hX oo1 oo2 oo3 e4 oS hown3 o3 hat3 k4 kf4 hj hrd hown hM2 o2 r4 rf4
    go_wp2_with fail
    refine ht.mono ?_
    clear ht
    rintro e w5 ⟨⟨v, rfl⟩, hM5, o5⟩
    have o6 := HO.out.trans o5 (fun _ e => e) (fun b hb e => by
      rcases e with e | e
      · exact Or.inl e
      · exact Or.inr e.2)
    have HM5 : Hid _ := hM5
    clear hM5 o5
    go_wp2
    go_end0
    refine ⟨⟨_, rfl⟩, ⟨a1, c1, ha, hc, none, 0, ?_⟩, o6⟩
    have hM6 := HM5.out
    have hE := es_told E hqu (E.line + 1) (E.sp ++ 10 :: Adz.runes ln)
    rw [← hE]
    exact hM6

set_option maxRecDepth 100000 in
set_option maxHeartbeats 1600000 in
theorem do_N (w : World) (eb : Nat) (X : Adz.Fx) (E : Adz.Es) (sa ha qa : Option Addr) (sc hc qc : Nat) (h : EM w eb X E sa sc ha hc qa qc) (g o : Nat) (hC : w.cell? ⟨g, o, none⟩ = some (.int .i32 78)) (hk : E.line < X.lines.length) (hl : X.lines.length ≤ 4000) (hs : X.lines[E.line].size ≤ 3000) (hsp : E.sp.length ≤ 400) (hqu : E.queue = []) (hout : E.out.length ≤ 8000) :
    Calls Tryz.prog 96 #[.pointer (some ⟨eb, 0, none⟩), .pointer (some ⟨g, o, none⟩)] w fun e w' => (∃ v, e = .returned v) ∧ EMx w' eb X { E with line := E.line + 1, r8 := false, sp := E.sp ++ 10 :: Adz.runes X.lines[E.line] } ∧ Only (fun b => b = eb ∨ eb ≤ b) w w' := by
  have hcall := joinNextM w eb X E sa ha qa sc hc qc h hk hl hs hsp hqu hout
  clear hout hs hsp hqu hl
  go_enter Tryz.func96, Tryz.ntmps96
  go_wp2_with fail
  refine hcall.mono ?_
  rintro e w1 ⟨⟨v, rfl⟩, hh⟩
  go_wp2
  go_end0
  exact ⟨⟨_, rfl⟩, hh⟩

theorem doOk_nop {w0 : World} {eb : Nat} {X : Adz.Fx} {n g : Nat} {E : Adz.Es} {c : Adz.Cmd} (h : AtCmd w0 eb X n g E c) (hw : c.what = 58 ∨ c.what = 123) (E1 : Adz.Es) : DoOk w0 eb X g (E.next * 14) E1 E1 := fun w hO ⟨sa, sc, ha, hc, qa, qc, hM⟩ => by
  have hX := h.cmd.keeps hO
  refine (do_nop w eb g _ c.what hw hX.what).mono ?_
  rintro e w' ⟨hv, o'⟩
  exact ⟨hv, ⟨_, _, _, _, _, _, hM.quiet o'⟩, hO.trans o' (fun _ e => e) (fun _ _ e => e)⟩
theorem doOk_b {w0 : World} {eb : Nat} {X : Adz.Fx} {n g : Nat} {E : Adz.Es} {c : Adz.Cmd} (h : AtCmd w0 eb X n g E c) (hw : c.what = 98) (k : Nat) (hg : c.goal = (k : Int)) (E1 : Adz.Es) : DoOk w0 eb X g (E.next * 14) E1 { E1 with next := k } := fun w hO ⟨sa, sc, ha, hc, qa, qc, hM⟩ => by
  have hX := h.cmd.keeps hO
  have hwh := hX.what
  rw [hw] at hwh
  have hgo := hX.goal
  rw [hg] at hgo
  refine (do_b w eb X E1 sa ha qa sc hc qc hM g _ k hwh hgo).mono ?_
  rintro e w' ⟨hv, hM', o'⟩
  exact ⟨hv, ⟨_, _, _, _, _, _, hM'⟩, only_new hO o' h.eb (fun b e => by omega)⟩
theorem doOk_N {w0 : World} {eb : Nat} {X : Adz.Fx} {n g : Nat} {E : Adz.Es} {c : Adz.Cmd} (h : AtCmd w0 eb X n g E c) (hw : c.what = 78) (E1 : Adz.Es) (hk : E1.line < X.lines.length) (hl : X.lines.length ≤ 4000) (hs : X.lines[E1.line].size ≤ 3000) (hsp : E1.sp.length ≤ 400) (hqu : E1.queue = []) (hout : E1.out.length ≤ 8000) : DoOk w0 eb X g (E.next * 14) E1 { E1 with line := E1.line + 1, r8 := false, sp := E1.sp ++ 10 :: Adz.runes X.lines[E1.line] } := fun w hO ⟨sa, sc, ha, hc, qa, qc, hM⟩ => by
  have hX := h.cmd.keeps hO
  have hwh := hX.what
  rw [hw] at hwh
  refine (do_N w eb X E1 sa ha qa sc hc qc hM g _ hwh hk hl hs hsp hqu hout).mono ?_
  rintro e w' ⟨hv, hM', o'⟩
  exact ⟨hv, hM', only_new hO o' h.eb (fun b e => by omega)⟩
end Go.Proofs.YtbiobhghnldckaaGreatDoor
