/- Proved: a step to a command that has at most one address, a number or '$'. Conditions: the editor lies in memory as 'EM' says, and the commands. -/
import Derived.Test.YtbiobhghnldckaaGreatDoorK12
import Derived.Deep.RegionWith
import Derived.Test.YtbiobhghnldckaaGreatDoorK13
namespace Go.Proofs.YtbiobhghnldckaaGreatDoor
open Go.RowKit
set_option linter.unusedVariables false

/-- A command lies in the commands' row, with all that it leads to. -/
structure CmdX (w : World) (g o : Nat) (c : Adz.Cmd) : Prop where
  lt : g < w.heap.size
  deep : ∃ av iv rv fv tv, (∀ j v, (cmdCells c av iv rv fv tv)[j]? = some v → w.cell? ⟨g, o + j, none⟩ = some v) ∧ Deep w c av iv rv fv tv
theorem CmdX.keeps {w w' : World} {g o : Nat} {c : Adz.Cmd} (h : CmdX w g o c) (u : Only (fun _ => False) w w') : CmdX w' g o c := by
  obtain ⟨av, iv, rv, fv, tv, h1, h2⟩ := h.deep
  exact ⟨Nat.lt_of_lt_of_le h.lt u.size, av, iv, rv, fv, tv, fun j v hv => u.keeps (h1 j v hv) id, h2.keeps u ⟨fun _ _ => id, fun _ _ => id, fun _ _ => id, fun _ _ => id, fun _ _ => id⟩⟩
theorem CmdX.what {w : World} {g o : Nat} {c : Adz.Cmd} (h : CmdX w g o c) : w.cell? ⟨g, o, none⟩ = some (.int .i32 c.what) := by
  obtain ⟨av, iv, rv, fv, tv, h1, h2⟩ := h.deep
  exact h1 0 _ rfl
theorem CmdX.neg {w : World} {g o : Nat} {c : Adz.Cmd} (h : CmdX w g o c) : w.cell? ⟨g, o + 2, none⟩ = some (.bool c.neg) := by
  obtain ⟨av, iv, rv, fv, tv, h1, h2⟩ := h.deep
  exact h1 2 _ rfl
theorem CmdX.text {w : World} {g o : Nat} {c : Adz.Cmd} (h : CmdX w g o c) : w.cell? ⟨g, o + 3, none⟩ = some (.string ⟨c.text.toArray⟩) := by
  obtain ⟨av, iv, rv, fv, tv, h1, h2⟩ := h.deep
  exact h1 3 _ rfl
theorem CmdX.goal {w : World} {g o : Nat} {c : Adz.Cmd} (h : CmdX w g o c) : w.cell? ⟨g, o + 5, none⟩ = some (.int .i64 c.goal) := by
  obtain ⟨av, iv, rv, fv, tv, h1, h2⟩ := h.deep
  exact h1 5 _ rfl
theorem CmdX.m {w : World} {g o : Nat} {c : Adz.Cmd} (h : CmdX w g o c) : CmdM w g o c := by
  obtain ⟨av, iv, rv, fv, tv, h1, h2⟩ := h.deep
  obtain ⟨ivs, a1, _⟩ := h2.a
  obtain ⟨aa, ac, rfl⟩ := row_shape a1
  exact ⟨h1 0 _ rfl, ⟨aa, ac, h1 1 _ rfl⟩, h1 2 _ rfl, h1 3 _ rfl⟩
theorem cmdX_of {w : World} {g cap : Nat} {cs : List Adz.Cmd} {xs : List Value} (hown : w.ownsRow 0 167 14 (.slice (some ⟨g, 0, none⟩) cs.length cap) cs.length xs) (hin : CmdsIn w cs xs) (j : Nat) (hj : j < cs.length) : CmdX w g (j * 14) cs[j] := by
  obtain ⟨av, iv, rv, fv, tv, d, hget⟩ := cmdsIn_get hin j hj
  rcases hown.2 with ⟨e, _⟩ | ⟨g', cap', cur, hv, _, hg, _, _, hsz, htake⟩
  · cases e
  · injection hv with e1 e2 e3
    injection e1 with e1
    injection e1 with e1
    subst e1
    refine ⟨(Array.getElem?_eq_some_iff.1 hg).1, av, iv, rv, fv, tv, fun o u hu => ?_, d⟩
    have ho : o < 14 := by
      have := (List.getElem?_eq_some_iff.1 hu).1
      simpa [cmdCells] using this
    rw [cell_of_row _ g (j * 14 + o) cur _ (0, 0) hg]
    rw [← hget o ho, ← htake, List.getElem?_take] at hu
    split at hu
    · rw [Array.getElem?_toList] at hu; exact hu
    · cases hu
/-- Its first address. -/
theorem CmdX.ad {w : World} {g o : Nat} {c : Adz.Cmd} (h : CmdX w g o c) {a : Adz.Ad} {as' : List Adz.Ad} (ha : c.addrs = a :: as') : ∃ ab ac, w.cell? ⟨g, o + 1, none⟩ = some (.slice (some ⟨ab, 0, none⟩) c.addrs.length ac) ∧ w.cell? ⟨ab, 0, none⟩ = some (.int .i64 a.kind) ∧ w.cell? ⟨ab, 1, none⟩ = some (.int .i64 a.number) := by
  obtain ⟨av, iv, rv, fv, tv, h1, h2⟩ := h.deep
  obtain ⟨ivs, a1, a2⟩ := h2.a
  have hc := h1 1 _ rfl
  rw [ha] at a1 a2 ⊢
  rcases a1.2 with ⟨_, e⟩ | ⟨ab, ac, cur, rfl, _, hg, _, _, hsz, htake⟩
  · simp at e
  · match ivs, a2 with
    | i0 :: ivs, a2 =>
      refine ⟨ab, ac, hc, ?_, ?_⟩
      · rw [cell_of_row _ ab 0 cur _ (0, 0) hg]
        have := congrArg (·[0]?) htake
        simp only [List.getElem?_take, Array.getElem?_toList] at this
        simpa [adsCells, adCells] using this
      · rw [cell_of_row _ ab 1 cur _ (0, 0) hg]
        have := congrArg (·[1]?) htake
        simp only [List.getElem?_take, Array.getElem?_toList] at this
        rw [if_pos (by simp only [List.length_cons]; omega)] at this
        rw [this]
        rfl

/-- Does its one address mean the line? -/
def meant1 (X : Adz.Fx) (E : Adz.Es) (a : Adz.Ad) : Bool := if a.kind = 0 then decide ((E.line : Int) = a.number) else decide (X.lines.length ≤ E.line)

set_option maxRecDepth 100000 in
set_option maxHeartbeats 800000 in
theorem isMeantM (w : World) (eb : Nat) (X : Adz.Fx) (E : Adz.Es) (sa ha qa : Option Addr) (sc hc qc : Nat) (h : EM w eb X E sa sc ha hc qa qc) (ab ao : Nat) (a : Adz.Ad) (hk : a.kind = 0 ∨ a.kind = 1) (h0 : w.cell? ⟨ab, ao, none⟩ = some (.int .i64 a.kind)) (h1 : w.cell? ⟨ab, ao + 1, none⟩ = some (.int .i64 a.number)) :
    Calls Tryz.prog 123 #[.pointer (some ⟨eb, 0, none⟩), .pointer (some ⟨ab, ao, none⟩)] w fun e w' => e = .returned (.bool (meant1 X E a)) ∧ ∃ n, w' = w.drewN n := by
  have q3 := (h.ed.get 3 (by omega) _ rfl).1
  rcases hk with hk | hk
  · have hm : meant1 X E a = ((E.line : Int) == a.number) := by
      unfold meant1
      rw [if_pos hk]
      rw [Bool.eq_iff_iff]
      simp
    rw [hm]
    rw [hk] at h0
    clear h hm hk
    go_enter Tryz.func123, Tryz.ntmps123
    go_wp2_with fail
    go_quiet (fail)
    go_wp2
    go_ret
    exact ⟨rfl, _, rfl⟩
  · have hm : meant1 X E a = !decide ((E.line : Int) < X.lines.length) := by
      unfold meant1
      rw [if_neg (by omega), Bool.eq_iff_iff]
      simp
    have q2 := (h.ed.get 2 (by omega) _ rfl).1
    rw [hm]
    rw [hk] at h0
    have hnx : Calls Tryz.prog 45 #[.pointer (some ⟨eb, 0, none⟩)] w fun e w' => e = .returned (.bool (decide ((E.line : Int) < X.lines.length))) ∧ ∃ n, w' = w.drewN n := by
      clear h hm hk
      generalize X.lines.length = n at *
      go_enter Tryz.func45, Tryz.ntmps45
      go_wp2_with fail
      go_quiet (fail)
      go_wp2
      go_ret
      exact ⟨by first | rfl | simp, _, rfl⟩
    clear h hm hk
    generalize decide ((E.line : Int) < X.lines.length) = b at *
    go_enter Tryz.func123, Tryz.ntmps123
    go_wp2_with fail
    refine hnx.mono ?_
    rintro e w1 ⟨rfl, n1, rfl⟩
    go_wp2
    go_ret
    exact ⟨rfl, _, rfl⟩

/-- Is a command with at most one address to be done? -/
def means1 (X : Adz.Fx) (E : Adz.Es) (c : Adz.Cmd) : Bool := match c.addrs with
  | [] => true
  | a :: _ => meant1 X E a

set_option maxRecDepth 100000 in
set_option maxHeartbeats 800000 in
theorem means1M (w : World) (eb : Nat) (X : Adz.Fx) (E : Adz.Es) (sa ha qa : Option Addr) (sc hc qc : Nat) (h : EM w eb X E sa sc ha hc qa qc) (g n cap at_ : Nat) (hcv : X.cv = .slice (some ⟨g, 0, none⟩) n cap) (hat : at_ < n) (hn : n ≤ 500) (c : Adz.Cmd) (hC : CmdX w g (at_ * 14) c) (h1 : c.addrs.length ≤ 1) (hk : ∀ a ∈ c.addrs, a.kind = 0 ∨ a.kind = 1) :
    Calls Tryz.prog 95 #[.pointer (some ⟨eb, 0, none⟩), .int .i64 at_] w fun e w' => e = .returned (.bool (means1 X E c)) ∧ ∃ n, w' = w.drewN n := by
  have hat1 : (at_ : Int) < n := by omega
  have q0 := (h.ed.get 0 (by omega) _ rfl).1
  rw [hcv] at q0
  match hc1 : c.addrs, h1, hk with
  | [], _, _ =>
    obtain ⟨aa, ac, haa⟩ := hC.m.addrs
    rw [hc1] at haa
    have hm : means1 X E c = true := by unfold means1; rw [hc1]
    rw [hm]
    exact (meansM eb g n cap at_ w q0 hat hn aa ac haa).mono (fun e w' ⟨he, hw⟩ => ⟨he, 0, hw⟩)
  | [a], _, hk =>
    obtain ⟨ab, ac, ha1, ha2, ha3⟩ := hC.ad hc1
    rw [hc1] at ha1
    have hm : means1 X E c = meant1 X E a := by unfold means1; rw [hc1]
    rw [hm]
    have hcall := isMeantM w eb X E sa ha qa sc hc qc h ab 0 a (hk a (by simp)) ha2 ha3
    clear hm hC h hcv
    generalize meant1 X E a = b at *
    go_enter Tryz.func95, Tryz.ntmps95
    go_wp2_with fail
    refine hcall.mono ?_
    rintro e w1 ⟨rfl, n1, rfl⟩
    go_wp2
    go_ret
    exact ⟨rfl, _, rfl⟩
end Go.Proofs.YtbiobhghnldckaaGreatDoor

/- Proved: a step to any command, by whether it is to be done. Conditions: the editor lies in memory as 'EM' says, and the commands; a contract of its addresses. -/
namespace Go.Proofs.YtbiobhghnldckaaGreatDoor
open Go.RowKit
set_option linter.unusedVariables false

set_option maxRecDepth 100000 in
set_option maxHeartbeats 1600000 in
/-- One step: what is the same for all, up to the question whether the command is to be done. -/
theorem stepG (w : World) (eb : Nat) (X : Adz.Fx) (E : Adz.Es) (sa ha qa : Option Addr) (sc hc qc : Nat) (h : EM w eb X E sa sc ha hc qa qc) (hn : E.sp.length ≤ 400) (hm : E.hold.length ≤ 400) (g n cap : Nat) (hcv : X.cv = .slice (some ⟨g, 0, none⟩) n cap) (hnx : E.next < n) (hn5 : n ≤ 500) (hst : E.steps < 5000)
    (c : Adz.Cmd) (hC : CmdM w g (E.next * 14) c) (hG : w.cell? ⟨g, E.next * 14 + 5, none⟩ = some (.int .i64 c.goal)) (hg : g < eb) (b : Bool) (Q : World → Prop)
    (hme : ∀ u, Only (· = eb) w u → EM u eb X { E with steps := E.steps + 1, next := E.next + 1 } sa sc ha hc qa qc → Calls Tryz.prog 95 #[.pointer (some ⟨eb, 0, none⟩), .int .i64 E.next] u fun e w' => e = .returned (.bool b) ∧ ∃ m, w' = u.drewN m)
    (hdo : (b != c.neg) = true → ∀ u, Only (· = eb) w u → EM u eb X { E with steps := E.steps + 1, next := E.next + 1 } sa sc ha hc qa qc → Calls Tryz.prog 96 #[.pointer (some ⟨eb, 0, none⟩), .pointer (some ⟨g, E.next * 14, none⟩)] u fun e w' => (∃ v, e = .returned v) ∧ Q w')
    (hno : (b != c.neg) = false → c.what ≠ 123 → ∀ u, Only (· = eb) w u → EM u eb X { E with steps := E.steps + 1, next := E.next + 1 } sa sc ha hc qa qc → Q u)
    (hskip : (b != c.neg) = false → c.what = 123 → ∀ u, Only (· = eb) w u → (∀ k : Nat, c.goal = k → EM u eb X { E with steps := E.steps + 1, next := k } sa sc ha hc qa qc) → Q u) :
    Calls Tryz.prog 71 #[.pointer (some ⟨eb, 0, none⟩)] w fun e w' => (∃ v, e = .returned v) ∧ Q w' := by
  go_enter Tryz.func71, Tryz.ntmps71
  go_wp2_with fail
  refine (checkSpace_ok eb w _ _ h.ed rfl sa ha E.sp.length E.hold.length sc hc rfl rfl hn hm).mono ?_
  rintro e w1 ⟨⟨v1, rfl⟩, o1⟩
  have hM1 := h.quiet o1
  go_wp2_with fail
  refine (countStep_ok eb w1 _ _ hM1.ed rfl E.steps rfl hst).mono ?_
  rintro e w2 ⟨⟨v2, rfl⟩, hE2, o2⟩
  have hM2 : EM w2 eb X { E with steps := E.steps + 1 } sa sc ha hc qa qc := hM1.cells o2 hE2 rfl rfl rfl
  have c15 := (hM2.ed.get 15 (by omega) _ rfl).1
  have q9 := (hM2.ed.get 9 (by omega) _ rfl).1
  have f9 := (hM2.ed.get 9 (by omega) _ rfl).2
  have c0 := (hM2.ed.get 0 (by omega) _ rfl).1
  rw [hcv] at c0
  have hE3 := hM2.ed.set 9 (by omega) (.int .i64 ((E.next : Int) + 1))
  have hw9 : IntKind.i64.wrap ((E.next : Int) + 1) = (E.next : Int) + 1 := by rw [IntKind.wrap_i64]; omega
  have hnx1 : (E.next : Int) < n := by omega
  have o3 := only_set w2 eb 9 (.int .i64 ((E.next : Int) + 1))
  have hM3 : EM (w2.setCell ⟨eb, 9, none⟩ (.int .i64 ((E.next : Int) + 1))) eb X { E with steps := E.steps + 1, next := E.next + 1 } sa sc ha hc qa qc := hM2.cells o3 hE3 rfl rfl rfl
  have o13 : Only (· = eb) w (w2.setCell ⟨eb, 9, none⟩ (.int .i64 ((E.next : Int) + 1))) := o1.trans (only2 o2 o3) (fun _ e => e.elim) (fun _ _ e => e)
  have hC3 := hC.keeps o13 (by omega)
  have hG3 := o13.keeps hG (by show ¬ g = eb; omega)
  clear hE2 hE3 hC hG
  go_wp2_with fail
  refine (goesOn_calls eb _ 0 c15).mono ?_
  rintro e w3 ⟨rfl, rfl⟩
  go_wp2_with fail
  generalize w3.setCell ⟨eb, 9, none⟩ (.int .i64 ((E.next : Int) + 1)) = u at *
  have hmm : ∀ k, Calls Tryz.prog 95 #[.pointer (some ⟨eb, 0, none⟩), .int .i64 E.next] (u.drewN k) fun e w' => e = .returned (.bool b) ∧ ∃ m, w' = (u.drewN k).drewN m := fun k => hme (u.drewN k) (o13.drewN k) (hM3.quiet ((Only.refl _ u).drewN k))
  have hn2 := hC3.neg
  have hwh := hC3.what
  go_quiet ((go_at_call 95; exact Calls.quiet_of (hmm _)))
  have oq : Only (fun _ => False) u (u.drewN nq) := (Only.refl _ u).drewN nq
  have hMq := hM3.quiet oq
  have o14 : Only (· = eb) w (u.drewN nq) := o13.drewN nq
  have hw4 := oq.keeps hwh id
  have hg4 := oq.keeps hG3 id
  generalize u.drewN nq = u4 at *
  clear hmm hn2 c0 q9 f9 c15 hwh hG3 oq
  obtain ⟨bb, hbb⟩ : ∃ bb : Bool, (!(b == c.neg)) = bb := ⟨_, rfl⟩
  rw [hbb]
  by_cases hb : (b != c.neg) = true
  · have hcall := hdo hb u4 o14 hMq
    have hb2 : bb = true := hbb.symm.trans hb
    subst hb2
    clear hdo hno hskip hb hbb
    go_wp2_with fail
    refine hcall.mono ?_
    rintro e w5 ⟨⟨v5, rfl⟩, hQ⟩
    go_wp2
    go_end0
    exact ⟨⟨_, rfl⟩, hQ⟩
  · have hb' : (b != c.neg) = false := by simpa using hb
    by_cases hw : c.what = 123
    · have hq9 := (hMq.ed.get 9 (by omega) _ rfl).1
      have hf9 := (hMq.ed.get 9 (by omega) _ rfl).2
      have oS := only_set u4 eb 9 (.int .i64 c.goal)
      have hQ : Q (u4.setCell ⟨eb, 9, none⟩ (.int .i64 c.goal)) := hskip hb' hw _ (only2 o14 oS) (fun k hk => by
        rw [hk]
        have hE9 := hMq.ed.set 9 (by omega) (.int .i64 (k : Int))
        exact hMq.cells (only_set u4 eb 9 (.int .i64 (k : Int))) hE9 rfl rfl rfl)
      have HQ : Hid _ := hQ
      rw [hw] at hw4
      have hb2 : bb = false := hbb.symm.trans hb'
      subst hb2
      clear hdo hno hskip hQ hb hb' hbb
      go_wp2
      go_end0
      exact ⟨⟨_, rfl⟩, HQ.out⟩
    · have hQ := hno hb' hw u4 o14 hMq
      have HQ : Hid _ := hQ
      have hwb : (c.what == 123) = false := by simpa using hw
      have hb2 : bb = false := hbb.symm.trans hb'
      subst hb2
      clear hdo hno hskip hQ hb hw hb' hbb
      generalize c.what = wh at *
      go_wp2
      go_end0
      exact ⟨⟨_, rfl⟩, HQ.out⟩

/-- A command is done: it leads from a state to another. -/
def DoOk (w0 : World) (eb : Nat) (X : Adz.Fx) (g o : Nat) (E E' : Adz.Es) : Prop :=
  ∀ w, Only (fun _ => False) w0 w → EMx w eb X E → Calls Tryz.prog 96 #[.pointer (some ⟨eb, 0, none⟩), .pointer (some ⟨g, o, none⟩)] w fun e w' => (∃ v, e = .returned v) ∧ EMx w' eb X E' ∧ Only (fun _ => False) w0 w'

/-- What a step asks of the editor and of the command. -/
structure AtCmd (w0 : World) (eb : Nat) (X : Adz.Fx) (n g : Nat) (E : Adz.Es) (c : Adz.Cmd) : Prop where
  eb : w0.heap.size ≤ eb
  cv : ∃ cap, X.cv = .slice (some ⟨g, 0, none⟩) n cap
  nx : E.next < n
  n5 : n ≤ 500
  st : E.steps < 5000
  sp : E.sp.length ≤ 400
  ho : E.hold.length ≤ 400
  cmd : CmdX w0 g (E.next * 14) c
theorem stepOk_g {w0 : World} {eb : Nat} {X : Adz.Fx} {n g : Nat} {E : Adz.Es} {c : Adz.Cmd} (h : AtCmd w0 eb X n g E c) (h1 : c.addrs.length ≤ 1) (hk : ∀ a ∈ c.addrs, a.kind = 0 ∨ a.kind = 1) (E' : Adz.Es)
    (hdo : (means1 X E c != c.neg) = true → DoOk w0 eb X g (E.next * 14) { E with steps := E.steps + 1, next := E.next + 1 } E')
    (hno : (means1 X E c != c.neg) = false → c.what ≠ 123 → E' = { E with steps := E.steps + 1, next := E.next + 1 })
    (hskip : (means1 X E c != c.neg) = false → c.what = 123 → ∃ k : Nat, c.goal = k ∧ E' = { E with steps := E.steps + 1, next := k }) : StepOk w0 eb X n E E' := by
  obtain ⟨cap, hcv⟩ := h.cv
  refine ⟨h.nx, fun w hO ⟨sa, sc, ha, hc, qa, qc, hM⟩ => ?_⟩
  have hX := h.cmd.keeps hO
  have hEb := h.eb
  have hgl := h.cmd.lt
  refine stepG w eb X E sa ha qa sc hc qc hM h.sp h.ho g n cap hcv h.nx h.n5 h.st c hX.m hX.goal (by omega) (means1 X E c) (fun w' => EMx w' eb X E' ∧ Only (fun _ => False) w0 w') ?_ ?_ ?_ ?_
  · intro u ou hMu
    have hu0 := only_new hO ou hEb (fun b e => by omega)
    exact means1M u eb X _ sa ha qa sc hc qc hMu g n cap E.next hcv h.nx h.n5 c (h.cmd.keeps hu0) h1 hk
  · intro hb u ou hMu
    exact hdo hb u (only_new hO ou hEb (fun b e => by omega)) ⟨_, _, _, _, _, _, hMu⟩
  · intro hb hw u ou hMu
    rw [hno hb hw]
    exact ⟨⟨_, _, _, _, _, _, hMu⟩, only_new hO ou hEb (fun b e => by omega)⟩
  · intro hb hw u ou hMu
    obtain ⟨k, hk1, hk2⟩ := hskip hb hw
    rw [hk2]
    exact ⟨⟨_, _, _, _, _, _, hMu k hk1⟩, only_new hO ou hEb (fun b e => by omega)⟩
theorem stepOk_do {w0 : World} {eb : Nat} {X : Adz.Fx} {n g : Nat} {E : Adz.Es} {c : Adz.Cmd} (h : AtCmd w0 eb X n g E c) (h1 : c.addrs.length ≤ 1) (hk : ∀ a ∈ c.addrs, a.kind = 0 ∨ a.kind = 1) (hm : means1 X E c ≠ c.neg) (E' : Adz.Es) (hdo : DoOk w0 eb X g (E.next * 14) { E with steps := E.steps + 1, next := E.next + 1 } E') : StepOk w0 eb X n E E' :=
  stepOk_g h h1 hk E' (fun _ => hdo) (fun e => by simp at e; exact absurd e hm) (fun e => by simp at e; exact absurd e hm)
theorem stepOk_not {w0 : World} {eb : Nat} {X : Adz.Fx} {n g : Nat} {E : Adz.Es} {c : Adz.Cmd} (h : AtCmd w0 eb X n g E c) (h1 : c.addrs.length ≤ 1) (hk : ∀ a ∈ c.addrs, a.kind = 0 ∨ a.kind = 1) (hm : means1 X E c = c.neg) (hw : c.what ≠ 123) : StepOk w0 eb X n E { E with steps := E.steps + 1, next := E.next + 1 } :=
  stepOk_g h h1 hk _ (fun e => by simp [hm] at e) (fun _ _ => rfl) (fun _ e => absurd e hw)
theorem stepOk_skip {w0 : World} {eb : Nat} {X : Adz.Fx} {n g : Nat} {E : Adz.Es} {c : Adz.Cmd} (h : AtCmd w0 eb X n g E c) (h1 : c.addrs.length ≤ 1) (hk : ∀ a ∈ c.addrs, a.kind = 0 ∨ a.kind = 1) (hm : means1 X E c = c.neg) (hw : c.what = 123) (k : Nat) (hg : c.goal = k) : StepOk w0 eb X n E { E with steps := E.steps + 1, next := k } :=
  stepOk_g h h1 hk _ (fun e => by simp [hm] at e) (fun _ e => absurd hw e) (fun _ _ => ⟨k, hg, rfl⟩)
end Go.Proofs.YtbiobhghnldckaaGreatDoor

/- Proved: the commands a, i, d, c, q, p are done. Conditions: the editor lies in memory as 'EM' says, and the command. -/
namespace Go.Proofs.YtbiobhghnldckaaGreatDoor
open Go.RowKit
set_option linter.unusedVariables false
attribute [local go_sem ↓] Go.wp_at_zero Go.wp_at_succ

/-- .. over what makes new memory and turns the queue's row and the editor. -/
theorem EM.queued {w w' : World} {eb : Nat} {X : Adz.Fx} {E E' : Adz.Es} {sa ha qa qa' : Option Addr} {sc hc qc qc' : Nat} (h : EM w eb X E sa sc ha hc qa qc) (o : Only (fun b => b = eb ∨ (Typ w b 9 ∧ eb < b)) w w')
    (he : Ed w' eb (edCells X E' (.slice sa E'.sp.length sc) (.slice ha E'.hold.length hc) (.slice qa' E'.queue.length qc')) E'.out) (hq : w'.ownsRow (eb + 1) 9 1 (.slice qa' E'.queue.length qc') E'.queue.length (E'.queue.map .string)) (h1 : E'.sp = E.sp) (h2 : E'.hold = E.hold) (h4 : E'.opens = E.opens := by rfl) : EM w' eb X E' sa sc ha hc qa' qc' := by
  have n : ∀ {b : Nat} {T : TypeId}, Typ w b T → T ≠ 9 → T ≠ 108 → ¬ (b = eb ∨ (Typ w b 9 ∧ eb < b)) := fun ht n1 n2 e => by
    rcases e with e | e
    · subst e; exact n2 (ht.one h.ed.typ)
    · exact n1 (ht.one e.1)
  refine ⟨he, ?_, ?_, hq, ?_, h.lines.keeps o (fun b hb e => by rcases e with e | e <;> omega), by rw [h4]; exact h.opens.keeps o (fun b hb e => by rcases e with e | e <;> omega)⟩
  · rw [h1]; exact row_keeps h.sp o (fun b hb => n (Typ.of_row h.sp hb) (by decide) (by decide))
  · rw [h2]; exact h.hold.keeps o (fun b hb => n hb (by decide) (by decide))
  · rw [h1, h2]; exact h.apart

set_option maxRecDepth 100000 in
set_option maxHeartbeats 1600000 in
theorem do_a (w : World) (eb : Nat) (X : Adz.Fx) (E : Adz.Es) (sa ha qa : Option Addr) (sc hc qc : Nat) (h : EM w eb X E sa sc ha hc qa qc) (g o : Nat) (hC : w.cell? ⟨g, o, none⟩ = some (.int .i32 97)) (t : ByteArray) (hT : w.cell? ⟨g, o + 3, none⟩ = some (.string t)) (hq : E.queue.length ≤ 100000) :
    Calls Tryz.prog 96 #[.pointer (some ⟨eb, 0, none⟩), .pointer (some ⟨g, o, none⟩)] w fun e w' => (∃ v, e = .returned v) ∧ EMx w' eb X { E with queue := E.queue ++ [t] } ∧ Only (fun b => b = eb ∨ (Typ w b 9 ∧ eb < b)) w w' := by
  obtain ⟨i0, hi0, hz0, hz1, hz2⟩ := info_parts infoStr
  have q6 := (h.ed.get 6 (by omega) _ rfl).1
  have f6 := (h.ed.get 6 (by omega) _ rfl).2
  have lr : eb < w.heap.size := h.ed.typ.lt
  have hne : (Value.slice qa E.queue.length qc).ownBlock ≠ some eb := row_ne h.queue h.ed.typ (by decide)
  have h1b : ∀ o : Obj, (w.alloc o).cell? ⟨eb, 6, none⟩ = some (.slice qa E.queue.length qc) := fun o => by rw [World.cell?_alloc_past _ _ _ lr]; exact q6
  have f1b : ∀ o : Obj, (w.alloc o).frozen? ⟨eb, 6, none⟩ = false := fun o => by rw [World.frozen?_alloc_past _ _ _ lr]; exact f6
  have hrow := h.queue
  have hgl := World.block_lt_of_cell? w _ hC
  simp only at hgl
  have c1 : ∀ o' : Obj, (w.alloc o').cell? ⟨g, o + 3, none⟩ = some (.string t) := fun o' => by rw [World.cell?_alloc_past _ _ _ hgl]; exact hT
  have HM : Hid _ := h
  clear h
  go_enter Tryz.func96, Tryz.ntmps96
  go_wp2_with fail
  go_region_law
    ((refine step_append_lies _ (by rfl) _ _ _ (by rfl) (eb + 1) 9 i0 _ 1 16 Tryz.underlying37 hi0 hz0 hz1 hz2 rfl (by omega) (.slice qa E.queue.length qc) E.queue.length (E.queue.map .string) (by rfl) ((hrow.alloc _).drew)
        ⟨w.heap.size, 0, none⟩ 1 1 [.string t] (by rfl) (by rfl) (World.news_of_block (cs := #[.string t]) (t := 9) (fr := (0, 0)) (heap_alloc_new w _)) (by simp [Value.oneCell'])
        (by omega) (by unfold maxLen; omega) (by omega) (by simp; omega) (w.heap.size + 1) (by simp) ?_; intro g1 cap w6 hown1 hgrow hat hlt1; have kc := (hgrow.cell_far ⟨eb, 6, none⟩ (by simp; omega) (Ne.symm hne)).trans (h1b _); have kf := (hgrow.frozen_far ⟨eb, 6, none⟩ (by simp; omega) (Ne.symm hne)).trans (f1b _)))
  all_goals
    have hv : (Value.slice (some ⟨g1, 0, none⟩) (E.queue.length + 1) cap).ownBlock ≠ some eb := by
      rcases hat with h | h
      · intro e
        simp [Value.ownBlock] at e
        exact hne (by rw [h, e])
      · intro e
        simp [Value.ownBlock] at e
        omega
    obtain ⟨u1, u2, u3, u4⟩ := field_end (((Only.refl _ w).alloc _).drew) hgrow kc hown1 hv lr hne
    have oo : Only (fun b => b = eb ∨ (Typ w b 9 ∧ eb < b)) w (w6.setCell ⟨eb, 6, none⟩ (.slice (some ⟨g1, 0, none⟩) (E.queue.length + 1) cap)) := u3.mono (fun b hb e => by
      rcases e with e | e
      · exact Or.inl e
      · exact Or.inr ⟨Typ.of_row hrow e, by have := (hrow.lt b e).1; omega⟩)
    have hE6 : Ed (w6.setCell ⟨eb, 6, none⟩ (.slice (some ⟨g1, 0, none⟩) (E.queue.length + 1) cap)) eb (edCells X { E with queue := E.queue ++ [t] } (.slice sa E.sp.length sc) (.slice ha E.hold.length hc) (.slice (some ⟨g1, 0, none⟩) (E.queue ++ [t]).length cap)) E.out := by
      have o6 : Only (fun b => (Value.slice qa E.queue.length qc).ownBlock = some b) w w6 := Only.trans (((Only.refl (fun _ => False) w).alloc _).drew) (Only.of_grown hgrow) (fun _ e => e.elim) (fun _ _ e => e)
      have e := (HM.out.ed.keeps o6 hne (fun b hb => row_ne hrow hb (by decide))).set 6 (by omega) (.slice (some ⟨g1, 0, none⟩) (E.queue.length + 1) cap)
      rw [List.length_append]
      exact e
    have hX : EMx (w6.setCell ⟨eb, 6, none⟩ (.slice (some ⟨g1, 0, none⟩) (E.queue.length + 1) cap)) eb X { E with queue := E.queue ++ [t] } := ⟨_, _, _, _, _, _, HM.out.queued oo hE6 (by
      rw [List.length_append, List.map_append]; exact u2) rfl rfl⟩
    have HX : Hid _ := hX
    have HO : Hid _ := oo
    clear hX oo hE6 u1 u2 u3 u4 kc kf
    go_wp2
    go_end0
    exact ⟨⟨_, rfl⟩, HX.out, HO.out⟩
end Go.Proofs.YtbiobhghnldckaaGreatDoor

/- Proved: the commands a, i, d, c, q, p as relations between states. Conditions: the commands lie in memory ahead of the editor. -/
namespace Go.Proofs.YtbiobhghnldckaaGreatDoor
open Go.RowKit
set_option linter.unusedVariables false

set_option maxRecDepth 100000 in
set_option maxHeartbeats 1600000 in
theorem do_i (w : World) (eb : Nat) (X : Adz.Fx) (E : Adz.Es) (sa ha qa : Option Addr) (sc hc qc : Nat) (h : EM w eb X E sa sc ha hc qa qc) (g o : Nat) (hC : w.cell? ⟨g, o, none⟩ = some (.int .i32 105)) (t : ByteArray) (hT : w.cell? ⟨g, o + 3, none⟩ = some (.string t)) (hlen : (Adz.outs E.out [t]).length ≤ 8000) :
    Calls Tryz.prog 96 #[.pointer (some ⟨eb, 0, none⟩), .pointer (some ⟨g, o, none⟩)] w fun e w' => (∃ v, e = .returned v) ∧ EM w' eb X { E with out := Adz.outs E.out [t] } sa sc ha hc qa qc ∧ Only (fun b => b = eb ∨ (Typ w b 5 ∧ eb ≤ b)) w w' := by
  have hb2 : E.out.length + t.size + 1 ≤ 8000 := by
    have hlen' : ((E.out ++ t.data.toList) ++ [(10 : UInt8)]).length ≤ 8000 := hlen
    simp only [List.length_append, List.length_singleton, Array.length_toList] at hlen'
    have : t.size = t.data.size := rfl
    omega
  go_enter Tryz.func96, Tryz.ntmps96
  go_wp2_with fail
  refine (print_ok eb w _ _ h.ed rfl t hb2).mono ?_
  rintro e w2 ⟨⟨v2, rfl⟩, hE2, o2⟩
  have hM2 : EM w2 eb X { E with out := Adz.outs E.out [t] } sa sc ha hc qa qc := h.turned o2 hE2 rfl rfl rfl
  go_wp2
  go_end0
  exact ⟨⟨_, rfl⟩, hM2, o2⟩

set_option maxRecDepth 100000 in
set_option maxHeartbeats 1600000 in
theorem dropM (w : World) (eb : Nat) (X : Adz.Fx) (E : Adz.Es) (sa ha qa : Option Addr) (sc hc qc : Nat) (h : EM w eb X E sa sc ha hc qa qc) (ca : Option Addr) (n cc : Nat) (hcv : X.cv = .slice ca n cc) (hlen : (Adz.outs E.out E.queue).length ≤ 8000) (hq : E.queue.length ≤ 100000) :
    Calls Tryz.prog 127 #[.pointer (some ⟨eb, 0, none⟩)] w fun e w' => (∃ v, e = .returned v) ∧ EM w' eb X { E with queue := [], out := Adz.outs E.out E.queue, drop := true, next := n } sa sc ha hc none 0 ∧ Only (fun b => b = eb ∨ (Typ w b 5 ∧ eb ≤ b)) w w' := by
  go_enter Tryz.func127, Tryz.ntmps127
  go_wp2_with fail
  refine (tell_ok w eb X E sa ha qa sc hc qc h hlen hq).mono ?_
  rintro e w1 ⟨⟨v1, rfl⟩, hM1, o1⟩
  have q10 := (hM1.ed.get 10 (by omega) _ rfl).1
  have f10 := (hM1.ed.get 10 (by omega) _ rfl).2
  have hE1 := hM1.ed.set 10 (by omega) (.bool true)
  have q0 := (hE1.get 0 (by omega) _ rfl).1
  rw [hcv] at q0
  have q9 := (hE1.get 9 (by omega) _ rfl).1
  have f9 := (hE1.get 9 (by omega) _ rfl).2
  have hE2 := hE1.set 9 (by omega) (.int .i64 (n : Int))
  have o2 : Only (· = eb) w1 _ := only2 (only_set w1 eb 10 (.bool true)) (only_set _ eb 9 (.int .i64 (n : Int)))
  have hM : EM ((w1.setCell ⟨eb, 10, none⟩ (.bool true)).setCell ⟨eb, 9, none⟩ (.int .i64 (n : Int))) eb X { E with queue := [], out := Adz.outs E.out E.queue, drop := true, next := n } sa sc ha hc none 0 := hM1.cells o2 hE2 rfl rfl rfl
  have HM : Hid _ := hM
  have HO : Hid (Only (fun b => b = eb ∨ (Typ w b 5 ∧ eb ≤ b)) w ((w1.setCell ⟨eb, 10, none⟩ (.bool true)).setCell ⟨eb, 9, none⟩ (.int .i64 (n : Int)))) := o1.trans o2 (fun _ e => e) (fun _ _ e => Or.inl e)
  clear hM o2 hE2 hE1
  go_wp2
  go_end0
  exact ⟨⟨_, rfl⟩, HM.out, HO.out⟩

set_option maxRecDepth 100000 in
set_option maxHeartbeats 1600000 in
theorem do_d (w : World) (eb : Nat) (X : Adz.Fx) (E : Adz.Es) (sa ha qa : Option Addr) (sc hc qc : Nat) (h : EM w eb X E sa sc ha hc qa qc) (ca : Option Addr) (n cc : Nat) (hcv : X.cv = .slice ca n cc) (g o : Nat) (hC : w.cell? ⟨g, o, none⟩ = some (.int .i32 100)) (hlen : (Adz.outs E.out E.queue).length ≤ 8000) (hq : E.queue.length ≤ 100000) :
    Calls Tryz.prog 96 #[.pointer (some ⟨eb, 0, none⟩), .pointer (some ⟨g, o, none⟩)] w fun e w' => (∃ v, e = .returned v) ∧ EM w' eb X { E with queue := [], out := Adz.outs E.out E.queue, drop := true, next := n } sa sc ha hc none 0 ∧ Only (fun b => b = eb ∨ (Typ w b 5 ∧ eb ≤ b)) w w' := by
  go_enter Tryz.func96, Tryz.ntmps96
  go_wp2_with fail
  refine (dropM w eb X E sa ha qa sc hc qc h ca n cc hcv hlen hq).mono ?_
  rintro e w2 ⟨⟨v2, rfl⟩, hM2, o2⟩
  go_wp2
  go_end0
  exact ⟨⟨_, rfl⟩, hM2, o2⟩

set_option maxRecDepth 100000 in
set_option maxHeartbeats 1600000 in
theorem do_c (w : World) (eb : Nat) (X : Adz.Fx) (E : Adz.Es) (sa ha qa : Option Addr) (sc hc qc : Nat) (h : EM w eb X E sa sc ha hc qa qc) (ca : Option Addr) (n cc : Nat) (hcv : X.cv = .slice ca n cc) (g o : Nat) (hC : w.cell? ⟨g, o, none⟩ = some (.int .i32 99)) (t : ByteArray) (hT : w.cell? ⟨g, o + 3, none⟩ = some (.string t)) (hlen : (Adz.outs (Adz.outs E.out [t]) E.queue).length ≤ 8000) (hq : E.queue.length ≤ 100000) :
    Calls Tryz.prog 96 #[.pointer (some ⟨eb, 0, none⟩), .pointer (some ⟨g, o, none⟩)] w fun e w' => (∃ v, e = .returned v) ∧ EM w' eb X { E with queue := [], out := Adz.outs (Adz.outs E.out [t]) E.queue, drop := true, next := n } sa sc ha hc none 0 ∧ Only (fun b => b = eb ∨ (Typ w b 5 ∧ eb ≤ b)) w w' := by
  have hb2 : E.out.length + t.size + 1 ≤ 8000 := by
    have h1 := Adz.outs_len E.queue (Adz.outs E.out [t])
    have e1 : Adz.outs E.out [t] = (E.out ++ t.data.toList) ++ [(10 : UInt8)] := rfl
    rw [e1] at h1 hlen
    simp only [List.length_append, List.length_singleton, Array.length_toList] at h1
    have : t.size = t.data.size := rfl
    omega
  go_enter Tryz.func96, Tryz.ntmps96
  go_wp2_with fail
  refine (print_ok eb w _ _ h.ed rfl t hb2).mono ?_
  rintro e w2 ⟨⟨v2, rfl⟩, hE2, o2⟩
  have hM2 : EM w2 eb X { E with out := Adz.outs E.out [t] } sa sc ha hc qa qc := h.turned o2 hE2 rfl rfl rfl
  go_wp2_with fail
  refine (dropM w2 eb X _ sa ha qa sc hc qc hM2 ca n cc hcv hlen hq).mono ?_
  rintro e w3 ⟨⟨v3, rfl⟩, hM3, o3⟩
  go_wp2
  go_end0
  exact ⟨⟨_, rfl⟩, hM3, u8_only h.ed.typ o2 o3⟩

set_option maxRecDepth 100000 in
set_option maxHeartbeats 1600000 in
theorem do_q (w : World) (eb : Nat) (X : Adz.Fx) (E : Adz.Es) (sa ha qa : Option Addr) (sc hc qc : Nat) (h : EM w eb X E sa sc ha hc qa qc) (ca : Option Addr) (n cc : Nat) (hcv : X.cv = .slice ca n cc) (g o : Nat) (hC : w.cell? ⟨g, o, none⟩ = some (.int .i32 113)) :
    Calls Tryz.prog 96 #[.pointer (some ⟨eb, 0, none⟩), .pointer (some ⟨g, o, none⟩)] w fun e w' => (∃ v, e = .returned v) ∧ EM w' eb X { E with over := true, next := n } sa sc ha hc qa qc ∧ Only (· = eb) w w' := by
  go_enter Tryz.func96, Tryz.ntmps96
  go_wp2_with fail
  refine (quitM w eb X E sa ha qa sc hc qc h ca n cc hcv).mono ?_
  rintro e w2 ⟨⟨v2, rfl⟩, hM2, o2⟩
  go_wp2
  go_end0
  exact ⟨⟨_, rfl⟩, hM2, o2⟩

theorem doOk_a {w0 : World} {eb : Nat} {X : Adz.Fx} {n g : Nat} {E : Adz.Es} {c : Adz.Cmd} (h : AtCmd w0 eb X n g E c) (hw : c.what = 97) (E1 : Adz.Es) (hq : E1.queue.length ≤ 100000) : DoOk w0 eb X g (E.next * 14) E1 { E1 with queue := E1.queue ++ [⟨c.text.toArray⟩] } := fun w hO ⟨sa, sc, ha, hc, qa, qc, hM⟩ => by
  have hX := h.cmd.keeps hO
  have hwh := hX.what
  rw [hw] at hwh
  refine (do_a w eb X E1 sa ha qa sc hc qc hM g _ hwh _ hX.text hq).mono ?_
  rintro e w' ⟨hv, hM', o'⟩
  exact ⟨hv, hM', only_new hO o' h.eb (fun b e => by rcases e with e | e <;> omega)⟩
theorem doOk_i {w0 : World} {eb : Nat} {X : Adz.Fx} {n g : Nat} {E : Adz.Es} {c : Adz.Cmd} (h : AtCmd w0 eb X n g E c) (hw : c.what = 105) (E1 : Adz.Es) (hlen : (Adz.outs E1.out [⟨c.text.toArray⟩]).length ≤ 8000) : DoOk w0 eb X g (E.next * 14) E1 { E1 with out := Adz.outs E1.out [⟨c.text.toArray⟩] } := fun w hO ⟨sa, sc, ha, hc, qa, qc, hM⟩ => by
  have hX := h.cmd.keeps hO
  have hwh := hX.what
  rw [hw] at hwh
  refine (do_i w eb X E1 sa ha qa sc hc qc hM g _ hwh _ hX.text hlen).mono ?_
  rintro e w' ⟨hv, hM', o'⟩
  exact ⟨hv, ⟨_, _, _, _, _, _, hM'⟩, only_new hO o' h.eb (fun b e => by rcases e with e | e <;> omega)⟩
theorem doOk_d {w0 : World} {eb : Nat} {X : Adz.Fx} {n g : Nat} {E : Adz.Es} {c : Adz.Cmd} (h : AtCmd w0 eb X n g E c) (hw : c.what = 100) (E1 : Adz.Es) (hlen : (Adz.outs E1.out E1.queue).length ≤ 8000) (hq : E1.queue.length ≤ 100000) : DoOk w0 eb X g (E.next * 14) E1 { E1 with queue := [], out := Adz.outs E1.out E1.queue, drop := true, next := n } := fun w hO ⟨sa, sc, ha, hc, qa, qc, hM⟩ => by
  obtain ⟨cap, hcv⟩ := h.cv
  have hX := h.cmd.keeps hO
  have hwh := hX.what
  rw [hw] at hwh
  refine (do_d w eb X E1 sa ha qa sc hc qc hM _ n cap hcv g _ hwh hlen hq).mono ?_
  rintro e w' ⟨hv, hM', o'⟩
  exact ⟨hv, ⟨_, _, _, _, _, _, hM'⟩, only_new hO o' h.eb (fun b e => by rcases e with e | e <;> omega)⟩
theorem doOk_c {w0 : World} {eb : Nat} {X : Adz.Fx} {n g : Nat} {E : Adz.Es} {c : Adz.Cmd} (h : AtCmd w0 eb X n g E c) (hw : c.what = 99) (E1 : Adz.Es) (hlen : (Adz.outs (Adz.outs E1.out [⟨c.text.toArray⟩]) E1.queue).length ≤ 8000) (hq : E1.queue.length ≤ 100000) : DoOk w0 eb X g (E.next * 14) E1 { E1 with queue := [], out := Adz.outs (Adz.outs E1.out [⟨c.text.toArray⟩]) E1.queue, drop := true, next := n } := fun w hO ⟨sa, sc, ha, hc, qa, qc, hM⟩ => by
  obtain ⟨cap, hcv⟩ := h.cv
  have hX := h.cmd.keeps hO
  have hwh := hX.what
  rw [hw] at hwh
  refine (do_c w eb X E1 sa ha qa sc hc qc hM _ n cap hcv g _ hwh _ hX.text hlen hq).mono ?_
  rintro e w' ⟨hv, hM', o'⟩
  exact ⟨hv, ⟨_, _, _, _, _, _, hM'⟩, only_new hO o' h.eb (fun b e => by rcases e with e | e <;> omega)⟩
theorem doOk_q {w0 : World} {eb : Nat} {X : Adz.Fx} {n g : Nat} {E : Adz.Es} {c : Adz.Cmd} (h : AtCmd w0 eb X n g E c) (hw : c.what = 113) (E1 : Adz.Es) : DoOk w0 eb X g (E.next * 14) E1 { E1 with over := true, next := n } := fun w hO ⟨sa, sc, ha, hc, qa, qc, hM⟩ => by
  obtain ⟨cap, hcv⟩ := h.cv
  have hX := h.cmd.keeps hO
  have hwh := hX.what
  rw [hw] at hwh
  refine (do_q w eb X E1 sa ha qa sc hc qc hM _ n cap hcv g _ hwh).mono ?_
  rintro e w' ⟨hv, hM', o'⟩
  exact ⟨hv, ⟨_, _, _, _, _, _, hM'⟩, only_new hO o' h.eb (fun b e => by omega)⟩
theorem doOk_p {w0 : World} {eb : Nat} {X : Adz.Fx} {n g : Nat} {E : Adz.Es} {c : Adz.Cmd} (h : AtCmd w0 eb X n g E c) (hw : c.what = 112) (E1 : Adz.Es) (hlen : (Adz.told false E1.out E1.sp).length ≤ 8000) : DoOk w0 eb X g (E.next * 14) E1 { E1 with out := Adz.told false E1.out E1.sp } := fun w hO ⟨sa, sc, ha, hc, qa, qc, hM⟩ => by
  have hX := h.cmd.keeps hO
  have hwh := hX.what
  rw [hw] at hwh
  refine (do_p w eb X E1 sa ha qa sc hc qc hM g _ hwh hlen).mono ?_
  rintro e w' ⟨hv, hM', o'⟩
  exact ⟨hv, ⟨_, _, _, _, _, _, hM'⟩, only_new hO o' h.eb (fun b e => by rcases e with e | e <;> omega)⟩
end Go.Proofs.YtbiobhghnldckaaGreatDoor

/- Proved: a script is read and run, by what each cycle makes; the program in memory. Conditions: as told in each theorem. -/
namespace Go.Proofs.YtbiobhghnldckaaGreatDoor
open Go.RowKit
set_option linter.unusedVariables false

/-- A program lies in memory, ahead of the editor. -/
structure ProgOk (w0 : World) (eb : Nat) (X : Adz.Fx) (g : Nat) (cs : List Adz.Cmd) : Prop where
  eb : w0.heap.size ≤ eb
  cv : ∃ cap, X.cv = .slice (some ⟨g, 0, none⟩) cs.length cap
  n5 : cs.length ≤ 500
  cmd : ∀ j (hj : j < cs.length), CmdX w0 g (j * 14) cs[j]
theorem ProgOk.at {w0 : World} {eb : Nat} {X : Adz.Fx} {g : Nat} {cs : List Adz.Cmd} (h : ProgOk w0 eb X g cs) (E : Adz.Es) (j : Nat) (c : Adz.Cmd) (hc : cs[j]? = some c) (hn : E.next = j) (hst : E.steps < 5000) (hsp : E.sp.length ≤ 400) (hho : E.hold.length ≤ 400) : AtCmd w0 eb X cs.length g E c := by
  obtain ⟨hj, rfl⟩ := List.getElem?_eq_some_iff.1 hc
  subst hn
  exact ⟨h.eb, h.cv, hj, h.n5, hst, hsp, hho, h.cmd E.next hj⟩

theorem editP (sc : ByteArray) (L pl : List Int) (hd : Dec sc L pl) (N : Nat) (sf : Adz.Ps) (hwk : Walks L pl N ⟨0, [], [], []⟩ sf) (hend : Adz.peek L sf.i = -1) (hop : sf.opens = []) (hkd : ∀ c ∈ sf.cmds, (Adz.behindKind c.what).getD 0 ≠ 4) (hn : sf.cmds.length ≤ 500) (hne : sf.cmds ≠ [])
    (w : World) (s : ByteArray) (q : Bool) (ls : List ByteArray) (ht : TextOk w s ls) (out : List UInt8)
    (hcy : ∀ (u : World) eb X g, ProgOk u eb X g sf.cmds → X.q = q → X.lines = ls → u.heap.size ≤ X.lo → ∃ k E', CyclesOk u eb X k { opens := List.replicate sf.cmds.length false } E' ∧ E'.out = out) (hlab : sf.labs = [] := by rfl) :
    Calls Tryz.prog 20 #[.string sc, .string s, .bool q] w fun e w' => e = .returned (.tuple #[.string ⟨out.toArray⟩, .bool true]) ∧ Only (fun _ => False) w w' := by
  refine editM sc L pl hd N sf hwk hend hop (fun j hj => hkd _ (List.getElem_mem hj)) hn w s q ls ht out ?_ hlab
  intro u qv xs h1 h2 eb X hEb hcv hq hlines hlo
  obtain ⟨ca, cc, rfl⟩ := row_shape h1
  obtain ⟨g, rfl⟩ : ∃ g, ca = some ⟨g, 0, none⟩ := by
    rcases h1.2 with ⟨_, e⟩ | ⟨g, cap, cur, e, _⟩
    · exact absurd (List.eq_nil_of_length_eq_zero e) hne
    · injection e with e1; exact ⟨g, e1⟩
  exact hcy u eb X g ⟨hEb, ⟨cc, hcv⟩, hn, fun j hj => cmdX_of h1 h2 j hj⟩ hq hlines hlo

/-- Cycles, line by line. -/
theorem cycles_by (w0 : World) (eb : Nat) (X : Adz.Fx) (n : Nat) (P : Nat → Adz.Es → Prop) (hstep : ∀ j E, j < n → P j E → ∃ E', CycleOk w0 eb X E E' ∧ P (j + 1) E') (hend : ∀ E, P n E → E.over = true ∨ X.lines.length ≤ E.line) :
    ∀ (m j : Nat) (E : Adz.Es), j + m = n → P j E → ∃ E', CyclesOk w0 eb X m E E' ∧ P n E'
  | 0, j, E, hm, hP => by
    obtain rfl : j = n := by omega
    exact ⟨E, ⟨rfl, hend E hP⟩, hP⟩
  | m + 1, j, E, hm, hP => by
    obtain ⟨E1, h1, h2⟩ := hstep j E (by omega) hP
    obtain ⟨E', h3, h4⟩ := cycles_by w0 eb X n P hstep hend m (j + 1) E1 (by omega) h2
    exact ⟨E', ⟨E1, h1, h3⟩, h4⟩
/-- The state in which a line's commands begin. -/
def lineStart (E : Adz.Es) (l : ByteArray) : Adz.Es := { E with line := E.line + 1, r8 := false, sp := Adz.runes l, next := 0, drop := false }
theorem cycleOk_prog {w0 : World} {eb : Nat} {X : Adz.Fx} {g : Nat} {cs : List Adz.Cmd} (h : ProgOk w0 eb X g cs) (E : Adz.Es) (hov : E.over = false) (hk : E.line < X.lines.length) (hl : X.lines.length ≤ 4000) (hs : X.lines[E.line].size ≤ 3000) (k : Nat) (E2 E3 : Adz.Es) (hst : StepsOk w0 eb X cs.length k (lineStart E X.lines[E.line]) E2) (hend : EndsIn X E2 E3) : CycleOk w0 eb X E E3 := by
  obtain ⟨cap, hcv⟩ := h.cv
  exact cycleOk_of w0 eb h.eb X E hov hk hl hs _ cs.length cap hcv h.n5 k E2 E3 hst hend
theorem outs_app (out : List UInt8) (a b : List ByteArray) : Adz.outs out (a ++ b) = Adz.outs (Adz.outs out a) b := Adz.outs_append a b out
end Go.Proofs.YtbiobhghnldckaaGreatDoor
