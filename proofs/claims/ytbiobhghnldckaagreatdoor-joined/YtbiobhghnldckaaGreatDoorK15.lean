/- Proved: a text behind a, c, i is read. Conditions: the cursor lies in memory as 'Cur' says, the parser leads to it, the command lies in a block of its own. -/
import Derived.Test.YtbiobhghnldckaaGreatDoorK10
import Derived.Test.YtbiobhghnldckaaGreatDoorK8
namespace Go.Proofs.YtbiobhghnldckaaGreatDoor
open Go.RowKit
set_option linter.unusedVariables false

namespace Adz
theorem line_step {L : List Int} {j : Nat} (hj : j < L.length) (h : peek L j ≠ 10) : lineOf L j = peek L j :: lineOf L (j + 1) := by
  unfold lineOf
  have e : L.drop j = L[j] :: L.drop (j + 1) := List.drop_eq_getElem_cons hj
  have hp : peek L j = L[j] := by simp [peek, List.getElem?_eq_getElem hj]
  rw [hp] at h ⊢
  rw [e, List.takeWhile_cons, if_pos (by simpa using h)]
theorem line_stop {L : List Int} {j : Nat} (h : peek L j = 10 ∨ L.length ≤ j) : lineOf L j = [] := by
  unfold lineOf
  by_cases hj : j < L.length
  · have e : L.drop j = L[j] :: L.drop (j + 1) := List.drop_eq_getElem_cons hj
    have hp : peek L j = L[j] := by simp [peek, List.getElem?_eq_getElem hj]
    rcases h with h | h
    · rw [hp] at h
      rw [e, List.takeWhile_cons, if_neg (by simp [h])]
    · omega
  · rw [List.drop_eq_nil_of_le (by omega)]; rfl
theorem line_take (L : List Int) (i : Nat) : lineOf L i = (L.drop i).take (lineOf L i).length := by
  unfold lineOf
  exact (List.prefix_iff_eq_take.1 (List.takeWhile_prefix _))
theorem line_len (L : List Int) (i : Nat) (hi : i ≤ L.length) : i + (lineOf L i).length ≤ L.length := by
  have h := congrArg List.length (line_take L i)
  rw [List.length_take, List.length_drop] at h
  omega
end Adz

/-- A piece of the cursor's runes, as a text. -/
theorem run_piece {g : CG} {w : World} {i : Nat} (h : Cur g w i) (h0 : g.L.length ≠ 0) (f n : Nat) (hn : f + n ≤ g.L.length) (c : Nat) :
    (convert 103 9 (.slice (some ⟨g.rb, f, none⟩) n c)).run Tryz.prog w = .ok (.string (runesBytes ((g.L.drop f).take n))) w := by
  have hl : ((g.L.drop f).take n).length = n := by rw [List.length_take, List.length_drop]; omega
  have key : Sl w (some ⟨g.rb, f, none⟩) ((g.L.drop f).take n) := by
    refine Or.inr ⟨g.rb, f, rfl, h.tr h0, fun j hj => ?_⟩
    rw [h.rs (f + j) (by omega)]
    congr 2
    rw [hl] at hj
    simp [Adz.peek, hj]
    rw [List.getElem?_eq_getElem (by omega)]
    rfl
  have := run_string_runes w (some ⟨g.rb, f, none⟩) c _ key
  rw [hl] at this
  exact this

set_option maxRecDepth 100000 in
set_option maxHeartbeats 1600000 in
theorem line_ok (g : CG) (w : World) (i : Nat) (h : Cur g w i) (h0 : g.L.length ≠ 0) (hcap : g.L.length ≤ g.rcap) :
    Calls Tryz.prog 170 #[.pointer (some ⟨g.c, 0, none⟩)] w fun e w' => e = .returned (.string (runesBytes (Adz.lineOf g.L i))) ∧ Cur g w' (i + (Adz.lineOf g.L i).length) ∧ Only (· = g.c) w w' := by
  have c2 := h.c2
  have hle := h.le
  have hsm := h.small
  have hlen := Adz.line_len g.L i hle
  go_enter Tryz.func170, Tryz.ntmps170
  go_wp2_with fail
  go_loopg [] (g.L.length - i) (fun k wr => ∃ j, Hid (Cur g wr j) ∧ Hid (j + k = g.L.length ∧ i ≤ j ∧ i + (Adz.lineOf g.L i).length = j + (Adz.lineOf g.L j).length) ∧ Hid (Only (· = g.c) w wr))
  case atStart => exact ⟨i, h, ⟨by omega, Nat.le_refl _, rfl⟩, Only.refl _ _⟩
  case round =>
    obtain ⟨j, hc, hk, ho⟩ := hrel
    have hc' : Cur g wr j := hc
    have hpk := fun u : World => fun n => peek_calls g (wr.drewN n) j (hc'.drewN n)
    by_cases hgo : j < g.L.length ∧ Adz.peek g.L j ≠ 10
    · obtain ⟨hj, h10⟩ := hgo
      have hm1 := (hc'.runes j hj).1
      have b1 : (Adz.peek g.L j != -1) = true := by simp; omega
      have b2 : (Adz.peek g.L j != 10) = true := by simpa using h10
      have HS : Hid _ := Adz.line_step hj h10
      go_wp2_with fail
      refine (peek_calls g wr j hc').mono ?_
      rintro e w1 ⟨rfl, n1, rfl⟩
      go_wp2_with fail
      refine (peek_calls g _ j (hc'.drewN n1)).mono ?_
      rintro e w2 ⟨rfl, n2, rfl⟩
      go_wp2_with fail
      refine (next_calls g _ j (hc'.drewN _) hj).mono ?_
      rintro e w3 ⟨rfl, hc3, ho3⟩
      go_wp2
      go_roundg (gk - 1)
      case measure => have := hk.out.1; omega
      case rel => exact ⟨j + 1, hc3, ⟨by have := hk.out.1; omega, by have := hk.out.2.1; omega, by rw [hk.out.2.2, HS.out]; simp; omega⟩, (ho.out.drewN _).trans ho3 (fun _ e => e) (fun _ _ e => e)⟩
    · have hstop := Adz.line_stop (L := g.L) (j := j) (by
        by_cases hj : j < g.L.length
        · exact Or.inl (Classical.byContradiction fun e => hgo ⟨hj, e⟩)
        · exact Or.inr (by omega))
      have hn : i + (Adz.lineOf g.L i).length = j := by rw [hk.out.2.2, hstop]; rfl
      have hcut : (g.L.drop i).take (j - i) = Adz.lineOf g.L i := by
        have e := Adz.line_take g.L i
        rw [show j - i = (Adz.lineOf g.L i).length by omega]
        exact e.symm
      have hij := hk.out.2.1
      have hcc : ∀ m, (convert 103 9 (.slice (some ⟨g.rb, i, none⟩) (j - i) (g.rcap - i))).run Tryz.prog (wr.drewN m) = .ok (.string (runesBytes (Adz.lineOf g.L i))) (wr.drewN m) := fun m => by
        rw [← hcut]
        exact run_piece (hc'.drewN m) h0 i (j - i) (by have := hc'.le; omega) _
      have hcz : g.rcap = i → ∀ m, (convert 103 9 (.slice (some ⟨g.rb, 0, none⟩) 0 0)).run Tryz.prog (wr.drewN m) = .ok (.string (runesBytes (Adz.lineOf g.L i))) (wr.drewN m) := fun e m => by
        have hle3 := hc'.le
        have e2 : j - i = 0 := by omega
        rw [← hcut, e2]
        have := run_piece (hc'.drewN m) h0 0 0 (by omega) 0
        simpa using this
      have d2 := hc'.c2
      obtain ⟨a, d0, ha⟩ := hc'.c0
      obtain rfl := ha h0
      have hle2 := hc'.le
      have HN : Hid _ := hn
      clear hcut hn hstop
      generalize hT : runesBytes (Adz.lineOf g.L i) = T at *
      have HT : Hid _ := hT
      clear hT
      by_cases hj : j < g.L.length
      · have h10 : Adz.peek g.L j = 10 := Classical.byContradiction fun e => hgo ⟨hj, e⟩
        go_wp2_with fail
        refine (peek_calls g wr j hc').mono ?_
        rintro e w1 ⟨rfl, n1, rfl⟩
        rw [h10]
        go_wp2_with fail
        refine (peek_calls g _ j (hc'.drewN n1)).mono ?_
        rintro e w2 ⟨rfl, n2, rfl⟩
        rw [h10]
        go_wp2_with fail
        go_quiet (fail)
        go_wp2
        go_ret
        rw [HN.out]
        exact ⟨by rw [HT.out]; rfl, (hc'.drewN _).drewN _, (ho.out.drewN _).drewN _⟩
      · have hend := (peek_end hc').2 (by omega)
        have hjr : j ≤ g.rcap := by omega
        clear hj hgo
        by_cases hri : g.rcap = i
        · have hcz' := hcz hri
          clear hcz hcc
          have hji : j = i := by omega
          subst hji
          go_wp2_with fail
          refine (peek_calls g wr j hc').mono ?_
          rintro e w1 ⟨rfl, n1, rfl⟩
          rw [hend]
          go_wp2_with fail
          go_quiet (fail)
          go_wp2
          go_ret
          rw [HN.out]
          exact ⟨by rw [HT.out]; rfl, (hc'.drewN _).drewN _, (ho.out.drewN _).drewN _⟩
        · clear hcz
          go_wp2_with fail
          refine (peek_calls g wr j hc').mono ?_
          rintro e w1 ⟨rfl, n1, rfl⟩
          rw [hend]
          go_wp2_with fail
          go_quiet (fail)
          go_wp2
          go_ret
          rw [HN.out]
          exact ⟨by rw [HT.out]; rfl, (hc'.drewN _).drewN _, (ho.out.drewN _).drewN _⟩

theorem enc_runes (l : List Int) : (⟨(Adz.enc l).toArray⟩ : ByteArray) = runesBytes l := by
  have key : ∀ (l : List Int) (a : ByteArray), (l.foldl (fun r n => r ++ Utf8.encode n) a).data.toList = a.data.toList ++ Adz.enc l := by
    intro l
    induction l with
    | nil => intro a; simp [Adz.enc]
    | cons r l ih =>
      intro a
      rw [List.foldl_cons, ih, ByteArray.data_append, Array.toList_append]
      simp [Adz.enc, Adz.utf8]
  have h := key l ByteArray.empty
  have e : (runesBytes l).data.toList = Adz.enc l := by
    unfold runesBytes
    rw [h]
    rfl
  rw [← e]

set_option maxRecDepth 100000 in
set_option maxHeartbeats 1600000 in
/-- Behind a, c, i: a text. -/
theorem text_ok (g : CG) (pp cb : Nat) (w : World) (i : Nat) (h : Cur g w i) (hp : Lead g pp w) (c : Adz.Cmd) (hc : CmdAt w cb c) (hcap : g.L.length ≤ g.rcap) (c' : Adz.Cmd) (i' : Nat) (hr : Adz.textOf g.L g.pl c i = .ok (c', i')) :
    Calls Tryz.prog 147 #[.pointer (some ⟨pp, 0, none⟩), .pointer (some ⟨cb, 0, none⟩)] w fun e w' => e = .returned (.pointer none) ∧ CmdAt w' cb c' ∧ Cur g w' i' ∧ Only (fun b => b = g.c ∨ b = cb) w w' := by
  have q0 := hp.at0
  have ncb : cb ≠ g.c := hc.typ.ne h.tc (by decide)
  have npp : pp ≠ cb := hp.typ.ne hc.typ (by decide)
  unfold Adz.textOf at hr
  simp only at hr
  by_cases h1 : Adz.peek g.L i = 10 ∨ Adz.peek g.L i = -1
  · have b1 : (Adz.peek g.L i == 10 || Adz.peek g.L i == -1) = true := by simpa using h1
    rw [b1] at hr
    simp only [if_true, Except.ok.injEq, Prod.mk.injEq] at hr
    obtain ⟨rfl, rfl⟩ := hr
    clear b1
    have hpk := peek_calls g w i h
    rcases h1 with h1 | h1
    all_goals
      rw [h1] at hpk
      go_enter Tryz.func147, Tryz.ntmps147
      go_wp2_with fail
      refine hpk.mono ?_
      rintro e w1 ⟨rfl, n1, rfl⟩
      go_wp2
      go_ret
      have o1 : Only (· = g.c) w (w.drewN n1) := (Only.refl _ w).drewN n1
      exact ⟨rfl, hc.keeps o1 h.spares ncb, h.drewN n1, o1.mono (fun _ _ e => Or.inl e)⟩
  · have b1 : (Adz.peek g.L i == 10 || Adz.peek g.L i == -1) = false := by simpa using h1
    rw [b1] at hr
    simp only [Bool.false_eq_true, if_false] at hr
    cases hb : Adz.isBlank (Adz.peek g.L i) with
    | false => rw [hb] at hr; simp at hr
    | true =>
      rw [hb] at hr
      simp only [Bool.not_true, Bool.false_eq_true, if_false, Except.ok.injEq, Prod.mk.injEq] at hr
      obtain ⟨rfl, rfl⟩ := hr
      have h10 : Adz.peek g.L i ≠ 10 := fun e => h1 (Or.inl e)
      have hm1 : Adz.peek g.L i ≠ -1 := fun e => h1 (Or.inr e)
      have c10 : (Adz.peek g.L i == 10) = false := by simpa using h10
      have cm1 : (Adz.peek g.L i == -1) = false := by simpa using hm1
      have hlt : i < g.L.length := Nat.lt_of_not_le (fun e => hm1 ((peek_end h).2 e))
      have hpk := peek_calls g w i h
      have hbl := fun u => isBlank_calls (Adz.peek g.L i) u
      have hnx := fun n => next_calls g (w.drewN n) i (h.drewN n) hlt
      have HB : Hid (Adz.isBlank (Adz.peek g.L i) = true) := hb
      clear h1 b1 hb h10 hm1
      generalize Adz.peek g.L i = r at *
      go_enter Tryz.func147, Tryz.ntmps147
      go_wp2_with fail
      refine hpk.mono ?_
      clear hpk
      rintro e w1 ⟨rfl, n1, rfl⟩
      go_wp2_with fail
      refine (hbl _).mono ?_
      clear hbl
      rintro e w1 ⟨rfl, rfl⟩
      rw [HB.out]
      go_wp2_with fail
      refine (hnx n1).mono ?_
      clear hnx
      rintro e w2 ⟨rfl, hc2, ho2⟩
      have o2 : Only (· = g.c) w w2 := ((Only.refl (· = g.c) w).drewN n1).trans ho2 (fun _ e => e) (fun _ _ e => e)
      have l2 := hp.moved o2
      have q2 := l2.at0
      go_wp2_with fail
      refine (line_ok g w2 (i + 1) hc2 (by omega) hcap).mono ?_
      rintro e w3 ⟨rfl, hc3, ho3⟩
      have o3 : Only (· = g.c) w w3 := o2.trans ho3 (fun _ e => e) (fun _ _ e => e)
      have m3 := hc.keeps o3 h.spares ncb
      obtain ⟨av, iv, rv, fv, tv, kk, dd⟩ := m3.deep
      have k3 := (kk 3 _ rfl).1
      have f3 := (kk 3 _ rfl).2
      have o4 := only_set w3 cb 3 (.string (runesBytes (Adz.lineOf g.L (i + 1))))
      have hcells : Cells (w3.setCell ⟨cb, 3, none⟩ (.string (runesBytes (Adz.lineOf g.L (i + 1))))) cb (cmdCells { c with text := Adz.enc (Adz.lineOf g.L (i + 1)) } av iv rv fv tv) := by
        have := kk.set 3 (.string (runesBytes (Adz.lineOf g.L (i + 1))))
        rw [← enc_runes] at this ⊢
        exact this
      have d4 := dd.keeps o4 (spares_one m3.typ (by decide))
      have HC : Hid _ := hcells
      clear hcells kk
      go_wp2
      go_ret
      exact ⟨rfl, ⟨m3.typ.set, av, iv, rv, fv, tv, HC.out, ⟨d4.a, d4.i, d4.r, d4.f, d4.t⟩⟩, hc3.aside o4 m3.typ, o3.trans o4 (fun _ e => Or.inl e) (fun _ _ e => Or.inr e)⟩

set_option maxRecDepth 100000 in
set_option maxHeartbeats 1600000 in
theorem behOk_text (g : CG) (pp n i : Nat) (c : Adz.Cmd) (hcap : g.L.length ≤ g.rcap) (hk : Adz.behindKind c.what = some 2) (c' : Adz.Cmd) (i' : Nat) (hr : Adz.textOf g.L g.pl c i = .ok (c', i')) : BehOk g pp n c i c' i' := fun w cb at_ h hp ht hc => by
  obtain ⟨mb, m1, m2⟩ := ht.map
  obtain ⟨av, iv, rv, fv, tv, kk, dd⟩ := hc.deep
  have k0 := (kk 0 _ rfl).1
  have q0 := hp.at0
  have hlk : ∀ m, (Instr.lookup 115 (.map (some mb)) (.int .i32 c.what) false).run Tryz.prog (w.drewN m) = .ok (.int .i64 2) (w.drewN m) := fun m => by
    have := beh_lookup (w.drewN m) mb c.what m2
    rw [hk] at this
    exact this
  have HR : Hid _ := hr
  have hcall := fun m => text_ok g pp cb (w.drewN m) i (h.drewN m) (hp.drewN m) c (hc.keeps ((Only.refl (· = g.c) w).drewN m) h.spares (hc.typ.ne h.tc (by decide))) hcap c' i' HR.out
  clear kk dd hr
  generalize c.what = wh at *
  go_enter Tryz.func103, Tryz.ntmps103
  go_wp2_with fail
  go_quiet (fail)
  go_wp2_with fail
  have o1 : Only (· = g.c) w (w.drewN nq) := (Only.refl _ w).drewN nq
  refine (hcall nq).mono ?_
  rintro e w2 ⟨rfl, hc2, hu2, ho2⟩
  go_wp2
  go_ret
  exact ⟨rfl, hc2, hu2, o1.trans ho2 (fun _ e => Or.inl e) (fun _ _ e => e)⟩
end Go.Proofs.YtbiobhghnldckaaGreatDoor

/- Proved: an address that is a number or '$' is read. Conditions: the cursor lies in memory as 'Cur' says, the parser leads to it, the command lies in a block of its own. -/
namespace Go.Proofs.YtbiobhghnldckaaGreatDoor
open Go.RowKit
set_option linter.unusedVariables false
attribute [local go_sem ↓] Go.wp_at_zero Go.wp_at_succ

set_option maxRecDepth 100000 in
set_option maxHeartbeats 800000 in
theorem atAddress_yes (g : CG) (pp : Nat) (w : World) (i : Nat) (h : Cur g w i) (hp : Lead g pp w) (hr : Adz.isDigit (Adz.peek g.L i) = true ∨ Adz.peek g.L i = 36) :
    Calls Tryz.prog 142 #[.pointer (some ⟨pp, 0, none⟩)] w fun e w' => e = .returned (.bool true) ∧ ∃ n, w' = w.drewN n := by
  have q0 := hp.at0
  rcases hr with hd | hd
  · have HD : Hid (Adz.isDigit (Adz.peek g.L i) = true) := hd
    clear hd
    go_enter Tryz.func142, Tryz.ntmps142
    go_wp2_with fail
    refine (peek_calls g w i h).mono ?_
    rintro e w1 ⟨rfl, n, rfl⟩
    go_wp2_with fail
    refine (isDigit_calls _ _).mono ?_
    rintro e w1 ⟨rfl, rfl⟩
    rw [HD.out]
    go_wp2
    go_ret
    exact ⟨rfl, n, rfl⟩
  · have HD : Hid (Adz.isDigit (36 : Int) = false) := (show Adz.isDigit (36 : Int) = false by decide)
    have hpk := peek_calls g w i h
    rw [hd] at hpk
    clear hd
    go_enter Tryz.func142, Tryz.ntmps142
    go_wp2_with fail
    refine hpk.mono ?_
    rintro e w1 ⟨rfl, n, rfl⟩
    go_wp2_with fail
    refine (isDigit_calls _ _).mono ?_
    rintro e w1 ⟨rfl, rfl⟩
    rw [HD.out]
    go_wp2
    go_ret
    exact ⟨rfl, n, rfl⟩

theorem infoAddr : (Tryz.prog.info? 186).map (fun i => (i.zero, i.size, i.bytes)) = some (some (.agg #[.int .i64 0, .int .i64 0, .slice none 0 0, .int .i64 0]), 4, 48) := by kernel_rfl

/-- A command whose addresses are being read: nothing else is in it. -/
structure HeadAt (w : World) (cb B : Nat) (ads : List Adz.Ad) : Prop where
  typ : Typ w cb 167
  cells : ∃ av ivs, Cells w cb (cmdCells { addrs := ads } av (.slice none 0 0) (.slice none 0 0) (.slice none 0 0) (.slice none 0 0)) ∧ w.ownsRow B 186 4 av ads.length (adsCells ads ivs) ∧ AdItems w ads ivs
theorem HeadAt.keeps {S : Nat → Prop} {w w' : World} {cb B : Nat} {ads : List Adz.Ad} (h : HeadAt w cb B ads) (o : Only S w w') (s : Spares w S) (hs : ¬ S cb) : HeadAt w' cb B ads := by
  obtain ⟨av, ivs, h1, h2, h3⟩ := h.cells
  exact ⟨h.typ.keeps o hs, av, ivs, h1.keeps o hs, row_keeps h2 o (fun b hb => s.addr b (Typ.of_row h2 hb)), h3.keeps o s.item s.span⟩
theorem adsCells_snoc {w : World} (x : Adz.Ad) (v : Value) : ∀ {xs : List Adz.Ad} {vs : List Value}, AdItems w xs vs → adsCells (xs ++ [x]) (vs ++ [v]) = adsCells xs vs ++ adCells x v
  | [], [], _ => by simp [adsCells]
  | y :: xs, u :: vs, h => by
    have := adsCells_snoc x v h.2
    simp [adsCells, this]
  | [], _ :: _, h => h.elim
  | _ :: _, [], h => h.elim
theorem AdItems.snoc {w : World} {x : Adz.Ad} {v : Value} (hx : ItemsAt w v x.pat.items) : ∀ {xs : List Adz.Ad} {vs : List Value}, AdItems w xs vs → AdItems w (xs ++ [x]) (vs ++ [v])
  | [], [], _ => ⟨hx, trivial⟩
  | y :: xs, u :: vs, h => ⟨h.1, AdItems.snoc hx h.2⟩
  | [], _ :: _, h => h.elim
  | _ :: _, [], h => h.elim

/-- One address more. -/
theorem HeadAt.more {w w' : World} {cb B : Nat} {ads : List Adz.Ad} (ht : Typ w cb 167) {av : Value} {ivs : List Value} (k : Cells w cb (cmdCells { addrs := ads } av (.slice none 0 0) (.slice none 0 0) (.slice none 0 0) (.slice none 0 0))) (hrow : w.ownsRow B 186 4 av ads.length (adsCells ads ivs)) (hit : AdItems w ads ivs) (x : Adz.Ad) (hx : x.pat.items = []) {v' : Value}
    (q1 : w'.cell? ⟨cb, 1, none⟩ = some v') (q2 : w'.ownsRow B 186 4 v' (ads.length + 1) (adsCells ads ivs ++ adCells x (.slice none 0 0))) (q3 : Only (fun b => b = cb ∨ av.ownBlock = some b) w w') (q4 : Field cb 1 w w') : HeadAt w' cb B (ads ++ [x]) := by
  have n : ∀ {b : Nat} {T : TypeId}, Typ w b T → T ≠ 167 → T ≠ 186 → ¬ (b = cb ∨ av.ownBlock = some b) := fun hb n1 n2 e => by
    rcases e with e | e
    · subst e; exact n1 (hb.one ht)
    · exact n2 (hb.one (Typ.of_row hrow e))
  refine ⟨q4.typ _ ht, v', ivs ++ [.slice none 0 0], fun j v hv => ?_, by rw [adsCells_snoc x _ hit, List.length_append]; exact q2, AdItems.snoc (by rw [hx]; exact ⟨[], World.ownsRow_nil _ _ _ _, trivial⟩) (hit.keeps q3 (fun b hb => n hb (by decide) (by decide)) (fun b hb => n hb (by decide) (by decide)))⟩
  by_cases e : j = 1
  · subst e
    have : v = v' := by simpa [cmdCells] using hv.symm
    subst this
    exact ⟨q1, (q4.frozen 1).trans (k 1 _ rfl).2⟩
  · have hv2 : (cmdCells { addrs := ads } av (.slice none 0 0) (.slice none 0 0) (.slice none 0 0) (.slice none 0 0))[j]? = some v := by
      match j, e, hv with
      | 0, _, hv => exact hv
      | j + 2, _, hv => exact hv
    exact ⟨(q4.others j e).trans (k j v hv2).1, (q4.frozen j).trans (k j v hv2).2⟩

set_option maxRecDepth 100000 in
set_option maxHeartbeats 1600000 in
theorem address_last (g : CG) (pp cb B : Nat) (w : World) (i : Nat) (h : Cur g w i) (hp : Lead g pp w) (ads : List Adz.Ad) (hc : HeadAt w cb B ads) (hB : B ≤ cb) (hal : ads.length ≤ 1) (hpk : Adz.peek g.L i = 36) :
    Calls Tryz.prog 169 #[.pointer (some ⟨pp, 0, none⟩), .pointer (some ⟨cb, 0, none⟩)] w fun e w' => e = .returned (.pointer none) ∧ HeadAt w' cb B (ads ++ [⟨1, 0, ⟨[], 0⟩⟩]) ∧ Cur g w' (Adz.blanks g.L (i + 1)) ∧ Only (fun b => b = g.c ∨ B ≤ b) w w' := by
  have q0 := hp.at0
  have ncb : cb ≠ g.c := hc.typ.ne h.tc (by decide)
  have npp : pp ≠ cb := hp.typ.ne hc.typ (by decide)
  have hcl := hc.typ.lt
  obtain ⟨i0, hi0, hz0, hz1, hz2⟩ := info_parts infoAddr
  have c1 := atAddress_yes g pp w i h hp (Or.inr hpk)
  go_enter Tryz.func169, Tryz.ntmps169
  go_wp2_with fail
  refine c1.mono ?_
  rintro e w1 ⟨rfl, n1, hw1⟩
  have o1 : Only (· = g.c) w w1 := by rw [hw1]; exact (Only.refl _ w).drewN n1
  have h1 : Cur g w1 i := by rw [hw1]; exact h.drewN n1
  have l1 := hp.moved o1
  have m1 := hc.keeps o1 h.spares ncb
  clear hw1 c1
  have q1 := l1.at0
  have lpp := l1.lt
  go_wp2_with fail
  have oa : Only (fun _ => False) w1 (w1.alloc (.cells #[.int .i64 0, .int .i64 0, .slice none 0 0, .int .i64 0] 186)) := (Only.refl _ w1).alloc _
  have ka := Cells.new w1 #[.int .i64 0, .int .i64 0, .slice none 0 0, .int .i64 0] 186
  have ta := Typ.new w1 #[.int .i64 0, .int .i64 0, .slice none 0 0, .int .i64 0] 186 (0, 0)
  refine (take_yes g _ i 36 (h1.alloc _) hpk (by omega)).mono ?_
  rintro e w2 ⟨rfl, hc2, ho2⟩
  have nab : w1.heap.size ≠ g.c := by have := h1.lt; omega
  have k2 := ka.keeps ho2 nab
  have t2 := ta.keeps ho2 nab
  have o12 : Only (· = g.c) w1 w2 := oa.trans ho2 (fun _ e => e.elim) (fun _ _ e => e)
  have hgt : w1.heap.size < w2.heap.size := t2.lt
  have l2 := l1.moved o12
  have m2 := m1.keeps o12 h1.spares ncb
  have hcb1 : cb < w1.heap.size := m1.typ.lt
  have oS := only_set w2 w1.heap.size 0 (.int .i64 1)
  have k3 := k2.set 0 (.int .i64 1)
  have j0 := (k2 0 _ rfl).1
  have f0 := (k2 0 _ rfl).2
  have ncn : ¬ cb = w1.heap.size := by omega
  have o13 : Only (· = g.c) w1 (w2.setCell ⟨w1.heap.size, 0, none⟩ (.int .i64 1)) := (o12.trans oS (fun _ e => Or.inl e) (fun _ _ e => Or.inr e) : Only (fun b => b = g.c ∨ b = w1.heap.size) w1 _).mono (fun b hb e => by rcases e with e | e; exact e; omega)
  have m3 := m1.keeps o13 h1.spares ncb
  have hc3 : Cur g (w2.setCell ⟨w1.heap.size, 0, none⟩ (.int .i64 1)) (i + 1) := hc2.keeps oS nab.symm (fun hn => (hc2.tr hn).ne t2 (by decide)) (hc2.tp.ne t2 (by decide))
  have l3 := l1.moved o13
  have hsz3 : (w2.setCell ⟨w1.heap.size, 0, none⟩ (.int .i64 1)).heap.size = w2.heap.size := by simp [World.setCell]
  have HK3 : Hid _ := k3
  have HM3 : Hid _ := m3
  have HC3 : Hid _ := hc3
  have HL3 : Hid _ := l3
  have HO3 : Hid _ := o13
  clear k3 m3 hc3 l3 o13 oS m2 l2 o12 ho2 oa ka ta hc2 k2
  go_wp2_with fail
  have hab : w1.heap.size ≠ cb := by omega
  have HT3 : Hid (Typ (w2.setCell ⟨w1.heap.size, 0, none⟩ (.int .i64 1)) w1.heap.size 186) := t2.set
  generalize w2.setCell ⟨w1.heap.size, 0, none⟩ (.int .i64 1) = u at *
  clear j0 f0 hsz3
  obtain ⟨av, ivs, kc0, hrow, hit⟩ := HM3.out.cells
  obtain ⟨aa, ac, rfl⟩ := row_shape hrow
  have x0 := (HK3.out 0 _ rfl).1
  have x1 := (HK3.out 1 _ rfl).1
  have x2 := (HK3.out 2 _ rfl).1
  have x3 := (HK3.out 3 _ rfl).1
  have y1 := (kc0 1 _ rfl).1
  have y2 := (kc0 1 _ rfl).2
  have htc := HM3.out.typ
  have lr : cb < u.heap.size := htc.lt
  have hne : (Value.slice aa ads.length ac).ownBlock ≠ some cb := row_ne hrow htc (by decide)
  have h1b : ∀ o : Obj, (u.alloc o).cell? ⟨cb, 1, none⟩ = some (.slice aa ads.length ac) := fun o => by rw [World.cell?_alloc_past _ _ _ lr]; exact y1
  have f1b : ∀ o : Obj, (u.alloc o).frozen? ⟨cb, 1, none⟩ = false := fun o => by rw [World.frozen?_alloc_past _ _ _ lr]; exact y2
  have HKC : Hid _ := kc0
  have HIT : Hid _ := hit
  clear kc0 hit
  go_region_law
    ((refine step_append_lies _ (by rfl) _ _ _ (by rfl) B 186 i0 _ 4 48 Tryz.underlying157 hi0 hz0 hz1 hz2 rfl (by omega) (.slice aa ads.length ac) ads.length (adsCells ads ivs) (by rfl) ((hrow.alloc _).drew)
        ⟨u.heap.size, 0, none⟩ 1 1 [.int .i64 1, .int .i64 0, .slice none 0 0, .int .i64 0] (by rfl) (by rfl) (World.news_of_block (cs := #[.int .i64 1, .int .i64 0, .slice none 0 0, .int .i64 0]) (t := 186) (fr := (0, 0)) (heap_alloc_new u _)) (by simp [Value.oneCell'])
        (by omega) (by unfold maxLen; omega) (by omega) (by simp; omega) (u.heap.size + 1) (by simp) ?_; intro g1 cap w6 hown1 hgrow hat hlt1; have kc := (hgrow.cell_far ⟨cb, 1, none⟩ (by simp; omega) (Ne.symm hne)).trans (h1b _); have kf := (hgrow.frozen_far ⟨cb, 1, none⟩ (by simp; omega) (Ne.symm hne)).trans (f1b _)))
  all_goals
    have hv : (Value.slice (some ⟨g1, 0, none⟩) (ads.length + 1) cap).ownBlock ≠ some cb := by
      rcases hat with h | h
      · intro e
        simp [Value.ownBlock] at e
        exact hne (by rw [h, e])
      · intro e
        simp [Value.ownBlock] at e
        omega
    obtain ⟨u1, u2, u3, u4⟩ := field_end (((Only.refl _ u).alloc _).drew) hgrow kc hown1 hv lr hne
    have h6 := HeadAt.more htc HKC.out hrow HIT.out ⟨1, 0, ⟨[], 0⟩⟩ rfl u1 u2 u3 u4
    have n6 : ∀ {b : Nat} {T : TypeId}, Typ u b T → T ≠ 167 → T ≠ 186 → ¬ (b = cb ∨ (Value.slice aa ads.length ac).ownBlock = some b) := fun hb n1 n2 e => by
      rcases e with e | e
      · subst e; exact n1 (hb.one htc)
      · exact n2 (hb.one (Typ.of_row hrow e))
    have hc6 := HC3.out.keeps u3 (n6 HC3.out.tc (by decide) (by decide)) (fun hn => n6 (HC3.out.tr hn) (by decide) (by decide)) (n6 HC3.out.tp (by decide) (by decide))
    have l6 := HL3.out.keeps u3 (n6 HL3.out.typ (by decide) (by decide))
    have q6 := l6.at0
    have HO6 : Hid (Only (fun b => b = g.c ∨ B ≤ b) w (w6.setCell ⟨cb, 1, none⟩ (.slice (some ⟨g1, 0, none⟩) (ads.length + 1) cap))) := ((o1.trans HO3.out (fun _ e => e) (fun _ _ e => e) : Only (· = g.c) w u).trans u3 (fun _ e => Or.inl e) (fun b hb e => by
      rcases e with e | e
      · exact Or.inr (by omega)
      · exact Or.inr (hrow.lt b e).1))
    have H6 : Hid _ := h6
    clear h6 u1 u2 u3 u4 kc kf
    generalize w6.setCell ⟨cb, 1, none⟩ (.slice (some ⟨g1, 0, none⟩) (ads.length + 1) cap) = w7 at *
    go_wp2_with fail
    refine (blanks_calls g w7 (i + 1) hc6).mono ?_
    rintro e w8 ⟨rfl, hc8, ho8⟩
    go_wp2
    go_ret
    exact ⟨rfl, H6.out.keeps ho8 hc6.spares ncb, hc8, HO6.out.trans ho8 (fun _ e => e) (fun _ _ e => Or.inl e)⟩
end Go.Proofs.YtbiobhghnldckaaGreatDoor

/- Proved: an address that is a number is read; a head with addresses. Conditions: the cursor lies in memory as 'Cur' says, the parser leads to it, the command lies in a block of its own. -/
namespace Go.Proofs.YtbiobhghnldckaaGreatDoor
open Go.RowKit
set_option linter.unusedVariables false
attribute [local go_sem ↓] Go.wp_at_zero Go.wp_at_succ

set_option maxRecDepth 100000 in
set_option maxHeartbeats 1600000 in
theorem address_num (g : CG) (pp cb B : Nat) (w : World) (i : Nat) (h : Cur g w i) (hp : Lead g pp w) (ads : List Adz.Ad) (hc : HeadAt w cb B ads) (hB : B ≤ cb) (hal : ads.length ≤ 1) (hdg : Adz.isDigit (Adz.peek g.L i) = true) (n : Int) (i1 : Nat) (hr : Adz.number g.L g.pl i = .ok (n, i1)) :
    Calls Tryz.prog 169 #[.pointer (some ⟨pp, 0, none⟩), .pointer (some ⟨cb, 0, none⟩)] w fun e w' => e = .returned (.pointer none) ∧ HeadAt w' cb B (ads ++ [⟨0, n, ⟨[], 0⟩⟩]) ∧ Cur g w' (Adz.blanks g.L i1) ∧ Only (fun b => b = g.c ∨ B ≤ b) w w' := by
  have q0 := hp.at0
  have ncb : cb ≠ g.c := hc.typ.ne h.tc (by decide)
  have npp : pp ≠ cb := hp.typ.ne hc.typ (by decide)
  have hcl := hc.typ.lt
  have hp36 : Adz.peek g.L i ≠ 36 := fun e => by rw [e] at hdg; exact absurd hdg (by decide)
  have hp47 : Adz.peek g.L i ≠ 47 := fun e => by rw [e] at hdg; exact absurd hdg (by decide)
  obtain ⟨i0, hi0, hz0, hz1, hz2⟩ := info_parts infoAddr
  have c1 := atAddress_yes g pp w i h hp (Or.inl hdg)
  have HR : Hid _ := hr
  clear hr hdg
  go_enter Tryz.func169, Tryz.ntmps169
  go_wp2_with fail
  refine c1.mono ?_
  rintro e w1 ⟨rfl, n1, hw1⟩
  have o1 : Only (· = g.c) w w1 := by rw [hw1]; exact (Only.refl _ w).drewN n1
  have h1 : Cur g w1 i := by rw [hw1]; exact h.drewN n1
  have l1 := hp.moved o1
  have m1 := hc.keeps o1 h.spares ncb
  clear hw1 c1
  have q1 := l1.at0
  have lpp := l1.lt
  go_wp2_with fail
  have oa : Only (fun _ => False) w1 (w1.alloc (.cells #[.int .i64 0, .int .i64 0, .slice none 0 0, .int .i64 0] 186)) := (Only.refl _ w1).alloc _
  have ka := Cells.new w1 #[.int .i64 0, .int .i64 0, .slice none 0 0, .int .i64 0] 186
  have ta := Typ.new w1 #[.int .i64 0, .int .i64 0, .slice none 0 0, .int .i64 0] 186 (0, 0)
  have nab : w1.heap.size ≠ g.c := by have := h1.lt; omega
  have hcb1 : cb < w1.heap.size := m1.typ.lt
  have h1a := h1.alloc (.cells #[.int .i64 0, .int .i64 0, .slice none 0 0, .int .i64 0] 186)
  have l1a := l1.alloc (.cells #[.int .i64 0, .int .i64 0, .slice none 0 0, .int .i64 0] 186)
  generalize w1.alloc (.cells #[.int .i64 0, .int .i64 0, .slice none 0 0, .int .i64 0] 186) = wa at *
  refine (take_no g wa i 36 h1a hp36).mono ?_
  rintro e w2 ⟨rfl, n2, rfl⟩
  have q2 := l1a.at0
  go_wp2_with fail
  refine (take_no g _ i 47 (h1a.drewN n2) hp47).mono ?_
  rintro e w2 ⟨rfl, n3, hw2⟩
  have o2 : Only (fun _ => False) w1 w2 := by rw [hw2]; exact (oa.drewN _).drewN _
  have k2 : Cells w2 w1.heap.size [.int .i64 0, .int .i64 0, .slice none 0 0, .int .i64 0] := by rw [hw2]; exact (ka.drewN _).drewN _
  have t2 : Typ w2 w1.heap.size 186 := by rw [hw2]; exact (ta.drewN _).drewN _
  have h2 : Cur g w2 i := by rw [hw2]; exact (h1a.drewN _).drewN _
  have l2 : Lead g pp w2 := by rw [hw2]; exact (l1a.drewN _).drewN _
  clear hw2 oa ka ta h1a l1a q2
  have j0 := (k2 0 _ rfl).1
  have f0 := (k2 0 _ rfl).2
  have oS := only_set w2 w1.heap.size 0 (.int .i64 0)
  have k3 := k2.set 0 (.int .i64 0)
  have h3 : Cur g (w2.setCell ⟨w1.heap.size, 0, none⟩ (.int .i64 0)) i := h2.keeps oS nab.symm (fun hn => (h2.tr hn).ne t2 (by decide)) (h2.tp.ne t2 (by decide))
  have l3 : Lead g pp (w2.setCell ⟨w1.heap.size, 0, none⟩ (.int .i64 0)) := l2.keeps oS (by omega)
  have t3 : Typ (w2.setCell ⟨w1.heap.size, 0, none⟩ (.int .i64 0)) w1.heap.size 186 := t2.set
  have o3 : Only (· = w1.heap.size) w1 (w2.setCell ⟨w1.heap.size, 0, none⟩ (.int .i64 0)) := o2.trans oS (fun _ e => e.elim) (fun _ _ e => e)
  go_wp2_with fail
  generalize w2.setCell ⟨w1.heap.size, 0, none⟩ (.int .i64 0) = w3 at *
  refine (number_ok g pp w3 i h3 l3 n i1 HR.out).mono ?_
  rintro e w4 ⟨rfl, h4, o4⟩
  have k4 := k3.keeps o4 nab
  have t4 := t3.keeps o4 nab
  have j1 := (k4 1 _ rfl).1
  have f1 := (k4 1 _ rfl).2
  have oS4 := only_set w4 w1.heap.size 1 (.int .i64 n)
  have k5 := k4.set 1 (.int .i64 n)
  have hc5 : Cur g (w4.setCell ⟨w1.heap.size, 1, none⟩ (.int .i64 n)) i1 := h4.keeps oS4 nab.symm (fun hn => (h4.tr hn).ne t4 (by decide)) (h4.tp.ne t4 (by decide))
  have o15 : Only (· = g.c) w1 (w4.setCell ⟨w1.heap.size, 1, none⟩ (.int .i64 n)) := ((o3.trans o4 (fun _ e => Or.inr e) (fun _ _ e => Or.inl e) : Only (fun b => b = g.c ∨ b = w1.heap.size) w1 w4).trans oS4 (fun _ e => e) (fun _ _ e => Or.inr e)).mono (fun b hb e => by rcases e with e | e; exact e; omega)
  have m5 := m1.keeps o15 h1.spares ncb
  have l5 := l1.moved o15
  have HK3 : Hid _ := k5
  have HM3 : Hid _ := m5
  have HC3 : Hid _ := hc5
  have HL3 : Hid _ := l5
  have HO3 : Hid _ := o15
  clear k5 m5 hc5 l5 o15 oS4 k4 h4 o4 k3 h3 l3 t3 o3 oS k2 t2 h2 l2 o2 j0 f0
  go_wp2_with fail
  have hab : w1.heap.size ≠ cb := by omega
  have HT3 : Hid (Typ (w4.setCell ⟨w1.heap.size, 1, none⟩ (.int .i64 n)) w1.heap.size 186) := t4.set
  generalize w4.setCell ⟨w1.heap.size, 1, none⟩ (.int .i64 n) = u at *
  clear j1 f1 t4
  obtain ⟨av, ivs, kc0, hrow, hit⟩ := HM3.out.cells
  obtain ⟨aa, ac, rfl⟩ := row_shape hrow
  have x0 := (HK3.out 0 _ rfl).1
  have x1 := (HK3.out 1 _ rfl).1
  have x2 := (HK3.out 2 _ rfl).1
  have x3 := (HK3.out 3 _ rfl).1
  have y1 := (kc0 1 _ rfl).1
  have y2 := (kc0 1 _ rfl).2
  have htc := HM3.out.typ
  have lr : cb < u.heap.size := htc.lt
  have hne : (Value.slice aa ads.length ac).ownBlock ≠ some cb := row_ne hrow htc (by decide)
  have h1b : ∀ o : Obj, (u.alloc o).cell? ⟨cb, 1, none⟩ = some (.slice aa ads.length ac) := fun o => by rw [World.cell?_alloc_past _ _ _ lr]; exact y1
  have f1b : ∀ o : Obj, (u.alloc o).frozen? ⟨cb, 1, none⟩ = false := fun o => by rw [World.frozen?_alloc_past _ _ _ lr]; exact y2
  have HKC : Hid _ := kc0
  have HIT : Hid _ := hit
  clear kc0 hit
  go_region_law
    ((refine step_append_lies _ (by rfl) _ _ _ (by rfl) B 186 i0 _ 4 48 Tryz.underlying157 hi0 hz0 hz1 hz2 rfl (by omega) (.slice aa ads.length ac) ads.length (adsCells ads ivs) (by rfl) ((hrow.alloc _).drew)
        ⟨u.heap.size, 0, none⟩ 1 1 [.int .i64 0, .int .i64 n, .slice none 0 0, .int .i64 0] (by rfl) (by rfl) (World.news_of_block (cs := #[.int .i64 0, .int .i64 n, .slice none 0 0, .int .i64 0]) (t := 186) (fr := (0, 0)) (heap_alloc_new u _)) (by simp [Value.oneCell'])
        (by omega) (by unfold maxLen; omega) (by omega) (by simp; omega) (u.heap.size + 1) (by simp) ?_; intro g1 cap w6 hown1 hgrow hat hlt1; have kc := (hgrow.cell_far ⟨cb, 1, none⟩ (by simp; omega) (Ne.symm hne)).trans (h1b _); have kf := (hgrow.frozen_far ⟨cb, 1, none⟩ (by simp; omega) (Ne.symm hne)).trans (f1b _)))
  all_goals
    have hv : (Value.slice (some ⟨g1, 0, none⟩) (ads.length + 1) cap).ownBlock ≠ some cb := by
      rcases hat with h | h
      · intro e
        simp [Value.ownBlock] at e
        exact hne (by rw [h, e])
      · intro e
        simp [Value.ownBlock] at e
        omega
    obtain ⟨u1, u2, u3, u4⟩ := field_end (((Only.refl _ u).alloc _).drew) hgrow kc hown1 hv lr hne
    have h6 := HeadAt.more htc HKC.out hrow HIT.out ⟨0, n, ⟨[], 0⟩⟩ rfl u1 u2 u3 u4
    have n6 : ∀ {b : Nat} {T : TypeId}, Typ u b T → T ≠ 167 → T ≠ 186 → ¬ (b = cb ∨ (Value.slice aa ads.length ac).ownBlock = some b) := fun hb n1 n2 e => by
      rcases e with e | e
      · subst e; exact n1 (hb.one htc)
      · exact n2 (hb.one (Typ.of_row hrow e))
    have hc6 := HC3.out.keeps u3 (n6 HC3.out.tc (by decide) (by decide)) (fun hn => n6 (HC3.out.tr hn) (by decide) (by decide)) (n6 HC3.out.tp (by decide) (by decide))
    have l6 := HL3.out.keeps u3 (n6 HL3.out.typ (by decide) (by decide))
    have q6 := l6.at0
    have HO6 : Hid (Only (fun b => b = g.c ∨ B ≤ b) w (w6.setCell ⟨cb, 1, none⟩ (.slice (some ⟨g1, 0, none⟩) (ads.length + 1) cap))) := ((o1.trans HO3.out (fun _ e => e) (fun _ _ e => e) : Only (· = g.c) w u).trans u3 (fun _ e => Or.inl e) (fun b hb e => by
      rcases e with e | e
      · exact Or.inr (by omega)
      · exact Or.inr (hrow.lt b e).1))
    have H6 : Hid _ := h6
    clear h6 u1 u2 u3 u4 kc kf
    generalize w6.setCell ⟨cb, 1, none⟩ (.slice (some ⟨g1, 0, none⟩) (ads.length + 1) cap) = w7 at *
    go_wp2_with fail
    refine (blanks_calls g w7 i1 hc6).mono ?_
    rintro e w8 ⟨rfl, hc8, ho8⟩
    go_wp2
    go_ret
    exact ⟨rfl, H6.out.keeps ho8 hc6.spares ncb, hc8, HO6.out.trans ho8 (fun _ e => e) (fun _ _ e => Or.inl e)⟩
end Go.Proofs.YtbiobhghnldckaaGreatDoor

/- Proved: a head with addresses is read. Conditions: contracts of its addresses. -/
namespace Go.Proofs.YtbiobhghnldckaaGreatDoor
open Go.RowKit
set_option linter.unusedVariables false
attribute [local go_sem ↓] Go.wp_at_zero Go.wp_at_succ

/-- An address is read. -/
def AddrOk (g : CG) (pp i : Nat) (a : Adz.Ad) (i' : Nat) : Prop := ∀ (w : World) (cb B : Nat) (ads : List Adz.Ad), Cur g w i → Lead g pp w → HeadAt w cb B ads → B ≤ cb → ads.length ≤ 1 →
  Calls Tryz.prog 169 #[.pointer (some ⟨pp, 0, none⟩), .pointer (some ⟨cb, 0, none⟩)] w fun e w' => e = .returned (.pointer none) ∧ HeadAt w' cb B (ads ++ [a]) ∧ Cur g w' i' ∧ Only (fun b => b = g.c ∨ B ≤ b) w w'
theorem addrOk_last (g : CG) (pp i : Nat) (h : Adz.peek g.L i = 36) : AddrOk g pp i ⟨1, 0, ⟨[], 0⟩⟩ (Adz.blanks g.L (i + 1)) := fun w cb B ads h1 h2 h3 h4 h5 =>
  address_last g pp cb B w i h1 h2 ads h3 h4 h5 h
theorem addrOk_num (g : CG) (pp i : Nat) (h : Adz.isDigit (Adz.peek g.L i) = true) (n : Int) (i1 : Nat) (hr : Adz.number g.L g.pl i = .ok (n, i1)) : AddrOk g pp i ⟨0, n, ⟨[], 0⟩⟩ (Adz.blanks g.L i1) := fun w cb B ads h1 h2 h3 h4 h5 =>
  address_num g pp cb B w i h1 h2 ads h3 h4 h5 h n i1 hr
set_option maxRecDepth 100000 in
set_option maxHeartbeats 800000 in
theorem addrsOk_one (g : CG) (pp i : Nat) (a : Adz.Ad) (i1 : Nat) (hA : AddrOk g pp i a i1) (hn : Adz.peek g.L i1 ≠ 44) : ∀ (w : World) (cb B : Nat), Cur g w i → Lead g pp w → HeadAt w cb B [] → B ≤ cb → pp < B →
    Calls Tryz.prog 143 #[.pointer (some ⟨pp, 0, none⟩), .pointer (some ⟨cb, 0, none⟩)] w fun e w' => e = .returned (.pointer none) ∧ HeadAt w' cb B [a] ∧ Cur g w' i1 ∧ Only (fun b => b = g.c ∨ B ≤ b) w w' := fun w cb B h hp hc hB hpB => by
  have c1 := hA w cb B [] h hp hc hB (by simp)
  go_enter Tryz.func143, Tryz.ntmps143
  go_wp2_with fail
  refine c1.mono ?_
  rintro e w1 ⟨rfl, m1, h1, o1⟩
  have l1 := hp.keeps o1 (by rintro (e | e); exact hp.ne e; omega)
  have q1 := l1.at0
  go_wp2_with fail
  refine (take_no g w1 i1 44 h1 hn).mono ?_
  rintro e w2 ⟨rfl, n2, rfl⟩
  go_wp2
  go_ret
  have o2 : Only (· = g.c) w1 (w1.drewN n2) := (Only.refl _ w1).drewN n2
  exact ⟨rfl, m1.keeps o2 h1.spares (hc.typ.ne h.tc (by decide)), h1.drewN n2, o1.drewN n2⟩

set_option maxRecDepth 100000 in
set_option maxHeartbeats 800000 in
theorem addrsOk_two (g : CG) (pp i : Nat) (a b : Adz.Ad) (i1 i2 : Nat) (hA : AddrOk g pp i a i1) (hn : Adz.peek g.L i1 = 44) (hA2 : AddrOk g pp (Adz.blanks g.L (i1 + 1)) b i2) : ∀ (w : World) (cb B : Nat), Cur g w i → Lead g pp w → HeadAt w cb B [] → B ≤ cb → pp < B →
    Calls Tryz.prog 143 #[.pointer (some ⟨pp, 0, none⟩), .pointer (some ⟨cb, 0, none⟩)] w fun e w' => e = .returned (.pointer none) ∧ HeadAt w' cb B [a, b] ∧ Cur g w' i2 ∧ Only (fun b => b = g.c ∨ B ≤ b) w w' := fun w cb B h hp hc hB hpB => by
  have c1 := hA w cb B [] h hp hc hB (by simp)
  have ncb : cb ≠ g.c := hc.typ.ne h.tc (by decide)
  go_enter Tryz.func143, Tryz.ntmps143
  go_wp2_with fail
  refine c1.mono ?_
  rintro e w1 ⟨rfl, m1, h1, o1⟩
  have l1 := hp.keeps o1 (by rintro (e | e); exact hp.ne e; omega)
  have q1 := l1.at0
  go_wp2_with fail
  refine (take_yes g w1 i1 44 h1 hn (by omega)).mono ?_
  rintro e w2 ⟨rfl, h2, o2⟩
  have l2 := l1.moved o2
  have m2 := m1.keeps o2 h1.spares ncb
  have q2 := l2.at0
  go_wp2_with fail
  refine (blanks_calls g w2 (i1 + 1) h2).mono ?_
  rintro e w3 ⟨rfl, h3, o3⟩
  have l3 := l2.moved o3
  have m3 := m2.keeps o3 h2.spares ncb
  go_wp2_with fail
  refine (hA2 w3 cb B [a] h3 l3 m3 hB (by simp)).mono ?_
  rintro e w4 ⟨rfl, m4, h4, o4⟩
  go_wp2
  go_ret
  exact ⟨rfl, m4, h4, ((o1.trans o2 (fun _ e => e) (fun _ _ e => Or.inl e)).trans o3 (fun _ e => e) (fun _ _ e => Or.inl e)).trans o4 (fun _ e => e) (fun _ _ e => e)⟩

/-- Addresses are read, wherever the parser lies ahead of the command. -/
def AddrsOk (g : CG) (pp i : Nat) (ads : List Adz.Ad) (i' : Nat) : Prop := ∀ (w : World) (cb B : Nat), Cur g w i → Lead g pp w → HeadAt w cb B [] → B ≤ cb → pp < B →
    Calls Tryz.prog 143 #[.pointer (some ⟨pp, 0, none⟩), .pointer (some ⟨cb, 0, none⟩)] w fun e w' => e = .returned (.pointer none) ∧ HeadAt w' cb B ads ∧ Cur g w' i' ∧ Only (fun b => b = g.c ∨ B ≤ b) w w'

theorem HeadAt.deep {w : World} {B : Nat} {ads : List Adz.Ad} {av : Value} {ivs : List Value} (h2 : w.ownsRow B 186 4 av ads.length (adsCells ads ivs)) (h3 : AdItems w ads ivs) (neg : Bool) : Deep w { addrs := ads, neg := neg } av (.slice none 0 0) (.slice none 0 0) (.slice none 0 0) (.slice none 0 0) :=
  ⟨⟨ivs, row_base h2 (Nat.zero_le _), h3⟩, ⟨[], World.ownsRow_nil _ _ _ _, trivial⟩, World.ownsRow_nil _ _ _ _, World.ownsRow_nil _ _ _ _, World.ownsRow_nil _ _ _ _⟩

set_option maxRecDepth 100000 in
set_option maxHeartbeats 3200000 in
/-- A head: addresses, no '!'. -/
theorem headOk_addr (g : CG) (pp i : Nat) (ads : List Adz.Ad) (i1 : Nat) (hA : AddrsOk g pp i ads i1) (hat : Adz.isDigit (Adz.peek g.L i) = true ∨ Adz.peek g.L i = 36) (hn : Adz.peek g.L i1 ≠ 33) : HeadOk g pp i { addrs := ads } i1 := fun w h hp => by
  have q0 := hp.at0
  have nppc := hp.ne
  have hpl : pp < w.heap.size := hp.lt
  go_enter Tryz.func100, Tryz.ntmps100
  go_wp2_with fail
  have hc0 : HeadAt ((w.alloc (.cells #[.int .i32 0, .slice none 0 0, .bool false, .string ⟨#[]⟩, .string ⟨#[]⟩, .int .i64 0, .slice none 0 0, .int .i64 0, .slice none 0 0, .bool false, .bool false, .int .i64 0, .slice none 0 0, .slice none 0 0] 167)).alloc (.cells #[.int .i32 0, .slice none 0 0, .bool false, .string ⟨#[]⟩, .string ⟨#[]⟩, .int .i64 0, .slice none 0 0, .int .i64 0, .slice none 0 0, .bool false, .bool false, .int .i64 0, .slice none 0 0, .slice none 0 0] 167)) (w.heap.size + 1) (w.heap.size + 1) [] := by
    have t := Typ.new (w.alloc (.cells #[.int .i32 0, .slice none 0 0, .bool false, .string ⟨#[]⟩, .string ⟨#[]⟩, .int .i64 0, .slice none 0 0, .int .i64 0, .slice none 0 0, .bool false, .bool false, .int .i64 0, .slice none 0 0, .slice none 0 0] 167)) #[.int .i32 0, .slice none 0 0, .bool false, .string ⟨#[]⟩, .string ⟨#[]⟩, .int .i64 0, .slice none 0 0, .int .i64 0, .slice none 0 0, .bool false, .bool false, .int .i64 0, .slice none 0 0, .slice none 0 0] 167 (0, 0)
    have k := Cells.new (w.alloc (.cells #[.int .i32 0, .slice none 0 0, .bool false, .string ⟨#[]⟩, .string ⟨#[]⟩, .int .i64 0, .slice none 0 0, .int .i64 0, .slice none 0 0, .bool false, .bool false, .int .i64 0, .slice none 0 0, .slice none 0 0] 167)) #[.int .i32 0, .slice none 0 0, .bool false, .string ⟨#[]⟩, .string ⟨#[]⟩, .int .i64 0, .slice none 0 0, .int .i64 0, .slice none 0 0, .bool false, .bool false, .int .i64 0, .slice none 0 0, .slice none 0 0] 167
    simp only [World.size_alloc] at t k
    exact ⟨t, .slice none 0 0, [], k, World.ownsRow_nil _ _ _ _, trivial⟩
  have tR : Typ ((w.alloc (.cells #[.int .i32 0, .slice none 0 0, .bool false, .string ⟨#[]⟩, .string ⟨#[]⟩, .int .i64 0, .slice none 0 0, .int .i64 0, .slice none 0 0, .bool false, .bool false, .int .i64 0, .slice none 0 0, .slice none 0 0] 167)).alloc (.cells #[.int .i32 0, .slice none 0 0, .bool false, .string ⟨#[]⟩, .string ⟨#[]⟩, .int .i64 0, .slice none 0 0, .int .i64 0, .slice none 0 0, .bool false, .bool false, .int .i64 0, .slice none 0 0, .slice none 0 0] 167)) w.heap.size 167 := (Typ.new w _ _ (0, 0)).alloc _
  have kR : Cells ((w.alloc (.cells #[.int .i32 0, .slice none 0 0, .bool false, .string ⟨#[]⟩, .string ⟨#[]⟩, .int .i64 0, .slice none 0 0, .int .i64 0, .slice none 0 0, .bool false, .bool false, .int .i64 0, .slice none 0 0, .slice none 0 0] 167)).alloc (.cells #[.int .i32 0, .slice none 0 0, .bool false, .string ⟨#[]⟩, .string ⟨#[]⟩, .int .i64 0, .slice none 0 0, .int .i64 0, .slice none 0 0, .bool false, .bool false, .int .i64 0, .slice none 0 0, .slice none 0 0] 167)) w.heap.size [.int .i32 0, .slice none 0 0, .bool false, .string ⟨#[]⟩, .string ⟨#[]⟩, .int .i64 0, .slice none 0 0, .int .i64 0, .slice none 0 0, .bool false, .bool false, .int .i64 0, .slice none 0 0, .slice none 0 0] := (Cells.new w _ _).alloc _
  have oa : Only (fun _ => False) w ((w.alloc (.cells #[.int .i32 0, .slice none 0 0, .bool false, .string ⟨#[]⟩, .string ⟨#[]⟩, .int .i64 0, .slice none 0 0, .int .i64 0, .slice none 0 0, .bool false, .bool false, .int .i64 0, .slice none 0 0, .slice none 0 0] 167)).alloc (.cells #[.int .i32 0, .slice none 0 0, .bool false, .string ⟨#[]⟩, .string ⟨#[]⟩, .int .i64 0, .slice none 0 0, .int .i64 0, .slice none 0 0, .bool false, .bool false, .int .i64 0, .slice none 0 0, .slice none 0 0] 167)) := ((Only.refl _ w).alloc _).alloc _
  have h0 := (h.alloc (.cells #[.int .i32 0, .slice none 0 0, .bool false, .string ⟨#[]⟩, .string ⟨#[]⟩, .int .i64 0, .slice none 0 0, .int .i64 0, .slice none 0 0, .bool false, .bool false, .int .i64 0, .slice none 0 0, .slice none 0 0] 167)).alloc (.cells #[.int .i32 0, .slice none 0 0, .bool false, .string ⟨#[]⟩, .string ⟨#[]⟩, .int .i64 0, .slice none 0 0, .int .i64 0, .slice none 0 0, .bool false, .bool false, .int .i64 0, .slice none 0 0, .slice none 0 0] 167)
  have l0 := (hp.alloc (.cells #[.int .i32 0, .slice none 0 0, .bool false, .string ⟨#[]⟩, .string ⟨#[]⟩, .int .i64 0, .slice none 0 0, .int .i64 0, .slice none 0 0, .bool false, .bool false, .int .i64 0, .slice none 0 0, .slice none 0 0] 167)).alloc (.cells #[.int .i32 0, .slice none 0 0, .bool false, .string ⟨#[]⟩, .string ⟨#[]⟩, .int .i64 0, .slice none 0 0, .int .i64 0, .slice none 0 0, .bool false, .bool false, .int .i64 0, .slice none 0 0, .slice none 0 0] 167)
  have c1 := atAddress_yes g pp _ i h0 l0 hat
  generalize ((w.alloc (.cells #[.int .i32 0, .slice none 0 0, .bool false, .string ⟨#[]⟩, .string ⟨#[]⟩, .int .i64 0, .slice none 0 0, .int .i64 0, .slice none 0 0, .bool false, .bool false, .int .i64 0, .slice none 0 0, .slice none 0 0] 167)).alloc (.cells #[.int .i32 0, .slice none 0 0, .bool false, .string ⟨#[]⟩, .string ⟨#[]⟩, .int .i64 0, .slice none 0 0, .int .i64 0, .slice none 0 0, .bool false, .bool false, .int .i64 0, .slice none 0 0, .slice none 0 0] 167)) = wa at *
  have hcl := h.lt
  refine c1.mono ?_
  rintro e w1 ⟨rfl, n1, hw1⟩
  have o1 : Only (· = g.c) wa w1 := by rw [hw1]; exact (Only.refl _ wa).drewN n1
  have h1 : Cur g w1 i := by rw [hw1]; exact h0.drewN n1
  have l1 := l0.moved o1
  have ncb : w.heap.size + 1 ≠ g.c := by omega
  have nrb : w.heap.size ≠ g.c := by omega
  have m1 := hc0.keeps o1 h0.spares ncb
  have kR1 := kR.keeps o1 nrb
  have tR1 := tR.keeps o1 nrb
  clear hw1 c1 hc0 kR tR
  go_wp2_with fail
  refine (hA w1 (w.heap.size + 1) (w.heap.size + 1) h1 l1 m1 (Nat.le_refl _) (by omega)).mono ?_
  rintro e w2 ⟨rfl, m2, h2, o2⟩
  have kR2 := kR1.keeps o2 (by omega)
  have tR2 := tR1.keeps o2 (by omega)
  have l2 := l1.keeps o2 (by omega)
  have q2 := l2.at0
  go_wp2_with fail
  refine (take_no g w2 i1 33 h2 hn).mono ?_
  rintro e w3 ⟨rfl, n3, hw3⟩
  have o3 : Only (· = g.c) w2 w3 := by rw [hw3]; exact (Only.refl _ w2).drewN n3
  have h3 : Cur g w3 i1 := by rw [hw3]; exact h2.drewN n3
  have m3 := m2.keeps o3 h2.spares ncb
  have kR3 := kR2.keeps o3 nrb
  have htR := tR2.keeps o3 nrb
  clear hw3
  obtain ⟨av, ivs, kc, hrow, hit⟩ := m3.cells
  obtain ⟨aa, ac, rfl⟩ := row_shape hrow
  have k1 := set14_cells (W0 := w3) (.int .i32 0) (.slice aa ads.length ac) (.bool false) (.string ⟨#[]⟩) (.string ⟨#[]⟩) (.int .i64 0) (.slice none 0 0) (.int .i64 0) (.slice none 0 0) (.bool false) (.bool false) (.int .i64 0) (.slice none 0 0) (.slice none 0 0) kR3
  have o4 := set14_only w3 w.heap.size (.int .i32 0) (.slice aa ads.length ac) (.bool false) (.string ⟨#[]⟩) (.string ⟨#[]⟩) (.int .i64 0) (.slice none 0 0) (.int .i64 0) (.slice none 0 0) (.bool false) (.bool false) (.int .i64 0) (.slice none 0 0) (.slice none 0 0)
  have HK1 : Hid _ := k1
  have HO4 : Hid _ := o4
  clear k1 o4
  have y0 := (kc 0 _ rfl).1
  have z0 := (kR3 0 _ rfl).1
  have u0 := (kR3 0 _ rfl).2
  have y1 := (kc 1 _ rfl).1
  have z1 := (kR3 1 _ rfl).1
  have u1 := (kR3 1 _ rfl).2
  have y2 := (kc 2 _ rfl).1
  have z2 := (kR3 2 _ rfl).1
  have u2 := (kR3 2 _ rfl).2
  have y3 := (kc 3 _ rfl).1
  have z3 := (kR3 3 _ rfl).1
  have u3 := (kR3 3 _ rfl).2
  have y4 := (kc 4 _ rfl).1
  have z4 := (kR3 4 _ rfl).1
  have u4 := (kR3 4 _ rfl).2
  have y5 := (kc 5 _ rfl).1
  have z5 := (kR3 5 _ rfl).1
  have u5 := (kR3 5 _ rfl).2
  have y6 := (kc 6 _ rfl).1
  have z6 := (kR3 6 _ rfl).1
  have u6 := (kR3 6 _ rfl).2
  have y7 := (kc 7 _ rfl).1
  have z7 := (kR3 7 _ rfl).1
  have u7 := (kR3 7 _ rfl).2
  have y8 := (kc 8 _ rfl).1
  have z8 := (kR3 8 _ rfl).1
  have u8 := (kR3 8 _ rfl).2
  have y9 := (kc 9 _ rfl).1
  have z9 := (kR3 9 _ rfl).1
  have u9 := (kR3 9 _ rfl).2
  have y10 := (kc 10 _ rfl).1
  have z10 := (kR3 10 _ rfl).1
  have u10 := (kR3 10 _ rfl).2
  have y11 := (kc 11 _ rfl).1
  have z11 := (kR3 11 _ rfl).1
  have u11 := (kR3 11 _ rfl).2
  have y12 := (kc 12 _ rfl).1
  have z12 := (kR3 12 _ rfl).1
  have u12 := (kR3 12 _ rfl).2
  have y13 := (kc 13 _ rfl).1
  have z13 := (kR3 13 _ rfl).1
  have u13 := (kR3 13 _ rfl).2
  go_wp2
  refine bodyPost_ret (v := .tuple #[.agg #[.int .i32 0, .slice aa ads.length ac, .bool false, .string ⟨#[]⟩, .string ⟨#[]⟩, .int .i64 0, .slice none 0 0, .int .i64 0, .slice none 0 0, .bool false, .bool false, .int .i64 0, .slice none 0 0, .slice none 0 0], .pointer none]) (head_results rfl rfl HK1.out) rfl ?_
  have nR : ∀ {b : Nat} {T : TypeId}, Typ w3 b T → T ≠ 167 → ¬ b = w.heap.size := fun hb n1 e => by subst e; exact n1 (hb.one htR)
  refine ⟨_, _, _, _, _, rfl, (HeadAt.deep hrow hit false).keeps HO4.out ⟨fun b hb => nR hb (by decide), fun b hb => nR hb (by decide), fun b hb => nR hb (by decide), fun b hb => nR hb (by decide), fun b hb => nR hb (by decide)⟩, h3.keeps HO4.out nrb.symm (fun hn => nR (h3.tr hn) (by decide)) (nR h3.tp (by decide)), ?_⟩
  have o12 : Only (fun b => b = g.c ∨ w.heap.size + 1 ≤ b) w w2 := ((oa.trans o1 (fun _ e => e.elim) (fun _ _ e => e) : Only (· = g.c) w w1).trans o2 (fun _ e => Or.inl e) (fun _ _ e => e))
  have o13 : Only (fun b => b = g.c ∨ w.heap.size ≤ b) w w3 := o12.trans o3 (fun _ e => by rcases e with e | e; exact Or.inl e; exact Or.inr (by omega)) (fun _ _ e => Or.inl e)
  exact (o13.trans HO4.out (fun _ e => e) (fun b _ e => Or.inr (by omega))).mono (fun b hb e => by rcases e with e | e; exact e; omega)

set_option maxRecDepth 100000 in
set_option maxHeartbeats 3200000 in
/-- A head: addresses, and '!'. -/
theorem headOk_not (g : CG) (pp i : Nat) (ads : List Adz.Ad) (i1 : Nat) (hA : AddrsOk g pp i ads i1) (hat : Adz.isDigit (Adz.peek g.L i) = true ∨ Adz.peek g.L i = 36) (hn : Adz.peek g.L i1 = 33) : HeadOk g pp i { addrs := ads, neg := true } (Adz.blanks g.L (i1 + 1)) := fun w h hp => by
  have q0 := hp.at0
  have nppc := hp.ne
  have hpl : pp < w.heap.size := hp.lt
  go_enter Tryz.func100, Tryz.ntmps100
  go_wp2_with fail
  have hc0 : HeadAt ((w.alloc (.cells #[.int .i32 0, .slice none 0 0, .bool false, .string ⟨#[]⟩, .string ⟨#[]⟩, .int .i64 0, .slice none 0 0, .int .i64 0, .slice none 0 0, .bool false, .bool false, .int .i64 0, .slice none 0 0, .slice none 0 0] 167)).alloc (.cells #[.int .i32 0, .slice none 0 0, .bool false, .string ⟨#[]⟩, .string ⟨#[]⟩, .int .i64 0, .slice none 0 0, .int .i64 0, .slice none 0 0, .bool false, .bool false, .int .i64 0, .slice none 0 0, .slice none 0 0] 167)) (w.heap.size + 1) (w.heap.size + 1) [] := by
    have t := Typ.new (w.alloc (.cells #[.int .i32 0, .slice none 0 0, .bool false, .string ⟨#[]⟩, .string ⟨#[]⟩, .int .i64 0, .slice none 0 0, .int .i64 0, .slice none 0 0, .bool false, .bool false, .int .i64 0, .slice none 0 0, .slice none 0 0] 167)) #[.int .i32 0, .slice none 0 0, .bool false, .string ⟨#[]⟩, .string ⟨#[]⟩, .int .i64 0, .slice none 0 0, .int .i64 0, .slice none 0 0, .bool false, .bool false, .int .i64 0, .slice none 0 0, .slice none 0 0] 167 (0, 0)
    have k := Cells.new (w.alloc (.cells #[.int .i32 0, .slice none 0 0, .bool false, .string ⟨#[]⟩, .string ⟨#[]⟩, .int .i64 0, .slice none 0 0, .int .i64 0, .slice none 0 0, .bool false, .bool false, .int .i64 0, .slice none 0 0, .slice none 0 0] 167)) #[.int .i32 0, .slice none 0 0, .bool false, .string ⟨#[]⟩, .string ⟨#[]⟩, .int .i64 0, .slice none 0 0, .int .i64 0, .slice none 0 0, .bool false, .bool false, .int .i64 0, .slice none 0 0, .slice none 0 0] 167
    simp only [World.size_alloc] at t k
    exact ⟨t, .slice none 0 0, [], k, World.ownsRow_nil _ _ _ _, trivial⟩
  have tR : Typ ((w.alloc (.cells #[.int .i32 0, .slice none 0 0, .bool false, .string ⟨#[]⟩, .string ⟨#[]⟩, .int .i64 0, .slice none 0 0, .int .i64 0, .slice none 0 0, .bool false, .bool false, .int .i64 0, .slice none 0 0, .slice none 0 0] 167)).alloc (.cells #[.int .i32 0, .slice none 0 0, .bool false, .string ⟨#[]⟩, .string ⟨#[]⟩, .int .i64 0, .slice none 0 0, .int .i64 0, .slice none 0 0, .bool false, .bool false, .int .i64 0, .slice none 0 0, .slice none 0 0] 167)) w.heap.size 167 := (Typ.new w _ _ (0, 0)).alloc _
  have kR : Cells ((w.alloc (.cells #[.int .i32 0, .slice none 0 0, .bool false, .string ⟨#[]⟩, .string ⟨#[]⟩, .int .i64 0, .slice none 0 0, .int .i64 0, .slice none 0 0, .bool false, .bool false, .int .i64 0, .slice none 0 0, .slice none 0 0] 167)).alloc (.cells #[.int .i32 0, .slice none 0 0, .bool false, .string ⟨#[]⟩, .string ⟨#[]⟩, .int .i64 0, .slice none 0 0, .int .i64 0, .slice none 0 0, .bool false, .bool false, .int .i64 0, .slice none 0 0, .slice none 0 0] 167)) w.heap.size [.int .i32 0, .slice none 0 0, .bool false, .string ⟨#[]⟩, .string ⟨#[]⟩, .int .i64 0, .slice none 0 0, .int .i64 0, .slice none 0 0, .bool false, .bool false, .int .i64 0, .slice none 0 0, .slice none 0 0] := (Cells.new w _ _).alloc _
  have oa : Only (fun _ => False) w ((w.alloc (.cells #[.int .i32 0, .slice none 0 0, .bool false, .string ⟨#[]⟩, .string ⟨#[]⟩, .int .i64 0, .slice none 0 0, .int .i64 0, .slice none 0 0, .bool false, .bool false, .int .i64 0, .slice none 0 0, .slice none 0 0] 167)).alloc (.cells #[.int .i32 0, .slice none 0 0, .bool false, .string ⟨#[]⟩, .string ⟨#[]⟩, .int .i64 0, .slice none 0 0, .int .i64 0, .slice none 0 0, .bool false, .bool false, .int .i64 0, .slice none 0 0, .slice none 0 0] 167)) := ((Only.refl _ w).alloc _).alloc _
  have h0 := (h.alloc (.cells #[.int .i32 0, .slice none 0 0, .bool false, .string ⟨#[]⟩, .string ⟨#[]⟩, .int .i64 0, .slice none 0 0, .int .i64 0, .slice none 0 0, .bool false, .bool false, .int .i64 0, .slice none 0 0, .slice none 0 0] 167)).alloc (.cells #[.int .i32 0, .slice none 0 0, .bool false, .string ⟨#[]⟩, .string ⟨#[]⟩, .int .i64 0, .slice none 0 0, .int .i64 0, .slice none 0 0, .bool false, .bool false, .int .i64 0, .slice none 0 0, .slice none 0 0] 167)
  have l0 := (hp.alloc (.cells #[.int .i32 0, .slice none 0 0, .bool false, .string ⟨#[]⟩, .string ⟨#[]⟩, .int .i64 0, .slice none 0 0, .int .i64 0, .slice none 0 0, .bool false, .bool false, .int .i64 0, .slice none 0 0, .slice none 0 0] 167)).alloc (.cells #[.int .i32 0, .slice none 0 0, .bool false, .string ⟨#[]⟩, .string ⟨#[]⟩, .int .i64 0, .slice none 0 0, .int .i64 0, .slice none 0 0, .bool false, .bool false, .int .i64 0, .slice none 0 0, .slice none 0 0] 167)
  have c1 := atAddress_yes g pp _ i h0 l0 hat
  generalize ((w.alloc (.cells #[.int .i32 0, .slice none 0 0, .bool false, .string ⟨#[]⟩, .string ⟨#[]⟩, .int .i64 0, .slice none 0 0, .int .i64 0, .slice none 0 0, .bool false, .bool false, .int .i64 0, .slice none 0 0, .slice none 0 0] 167)).alloc (.cells #[.int .i32 0, .slice none 0 0, .bool false, .string ⟨#[]⟩, .string ⟨#[]⟩, .int .i64 0, .slice none 0 0, .int .i64 0, .slice none 0 0, .bool false, .bool false, .int .i64 0, .slice none 0 0, .slice none 0 0] 167)) = wa at *
  have hcl := h.lt
  refine c1.mono ?_
  rintro e w1 ⟨rfl, n1, hw1⟩
  have o1 : Only (· = g.c) wa w1 := by rw [hw1]; exact (Only.refl _ wa).drewN n1
  have h1 : Cur g w1 i := by rw [hw1]; exact h0.drewN n1
  have l1 := l0.moved o1
  have ncb : w.heap.size + 1 ≠ g.c := by omega
  have nrb : w.heap.size ≠ g.c := by omega
  have m1 := hc0.keeps o1 h0.spares ncb
  have kR1 := kR.keeps o1 nrb
  have tR1 := tR.keeps o1 nrb
  clear hw1 c1 hc0 kR tR
  go_wp2_with fail
  refine (hA w1 (w.heap.size + 1) (w.heap.size + 1) h1 l1 m1 (Nat.le_refl _) (by omega)).mono ?_
  rintro e w2 ⟨rfl, m2, h2, o2⟩
  have kR2 := kR1.keeps o2 (by omega)
  have tR2 := tR1.keeps o2 (by omega)
  have l2 := l1.keeps o2 (by omega)
  have q2 := l2.at0
  go_wp2_with fail
  refine (take_yes g w2 i1 33 h2 hn (by omega)).mono ?_
  rintro e wb ⟨rfl, hb, ob⟩
  have mb := m2.keeps ob h2.spares ncb
  have kRb := kR2.keeps ob nrb
  have tRb := tR2.keeps ob nrb
  have lb := l2.moved ob
  obtain ⟨av, ivs, kb, hrowb, hitb⟩ := mb.cells
  have jn := (kb 2 _ rfl).1
  have fn := (kb 2 _ rfl).2
  have oc := only_set wb (w.heap.size + 1) 2 (.bool true)
  have kc' := kb.set 2 (.bool true)
  have tcb := mb.typ
  have nC : ∀ {b : Nat} {T : TypeId}, Typ wb b T → T ≠ 167 → ¬ b = w.heap.size + 1 := fun hb n1 e => by subst e; exact n1 (hb.one tcb)
  have hrowc := row_keeps hrowb oc (fun b hb => nC (Typ.of_row hrowb hb) (by decide))
  have hitc := hitb.keeps oc (fun b hb => nC hb (by decide)) (fun b hb => nC hb (by decide))
  have hcc := hb.keeps oc ncb.symm (fun hn => nC (hb.tr hn) (by decide)) (nC hb.tp (by decide))
  have lc := lb.keeps oc (by omega)
  have kRc := kRb.keeps oc (by omega)
  have tRc := tRb.keeps oc (by omega)
  have qc := lc.at0
  have HKc : Hid (Cells (wb.setCell ⟨w.heap.size + 1, 2, none⟩ (.bool true)) (w.heap.size + 1) (cmdCells { addrs := ads, neg := true } av (.slice none 0 0) (.slice none 0 0) (.slice none 0 0) (.slice none 0 0))) := kc'
  clear kb kc' hrowb hitb mb kRb tRb
  go_wp2_with fail
  have obc : Only (fun b => b = g.c ∨ w.heap.size + 1 ≤ b) w2 (wb.setCell ⟨w.heap.size + 1, 2, none⟩ (.bool true)) := ob.trans oc (fun _ e => Or.inl e) (fun _ _ e => Or.inr (by omega))
  generalize wb.setCell ⟨w.heap.size + 1, 2, none⟩ (.bool true) = wc at *
  clear jn fn oc
  refine (blanks_calls g wc (i1 + 1) hcc).mono ?_
  rintro e w3 ⟨rfl, h3, o3'⟩
  have o3 : Only (fun b => b = g.c ∨ w.heap.size + 1 ≤ b) w2 w3 := obc.trans o3' (fun _ e => e) (fun _ _ e => Or.inl e)
  have kc := HKc.out.keeps o3' ncb
  have hrow := row_keeps hrowc o3' (fun b hb => (Typ.of_row hrowc hb).ne hcc.tc (by decide))
  have hit := hitc.keeps o3' hcc.spares.item hcc.spares.span
  have kR3 := kRc.keeps o3' nrb
  have htR := tRc.keeps o3' nrb
  obtain ⟨aa, ac, rfl⟩ := row_shape hrow
  have k1 := set14_cells (W0 := w3) (.int .i32 0) (.slice aa ads.length ac) (.bool true) (.string ⟨#[]⟩) (.string ⟨#[]⟩) (.int .i64 0) (.slice none 0 0) (.int .i64 0) (.slice none 0 0) (.bool false) (.bool false) (.int .i64 0) (.slice none 0 0) (.slice none 0 0) kR3
  have o4 := set14_only w3 w.heap.size (.int .i32 0) (.slice aa ads.length ac) (.bool true) (.string ⟨#[]⟩) (.string ⟨#[]⟩) (.int .i64 0) (.slice none 0 0) (.int .i64 0) (.slice none 0 0) (.bool false) (.bool false) (.int .i64 0) (.slice none 0 0) (.slice none 0 0)
  have HK1 : Hid _ := k1
  have HO4 : Hid _ := o4
  clear k1 o4
  have y0 := (kc 0 _ rfl).1
  have z0 := (kR3 0 _ rfl).1
  have u0 := (kR3 0 _ rfl).2
  have y1 := (kc 1 _ rfl).1
  have z1 := (kR3 1 _ rfl).1
  have u1 := (kR3 1 _ rfl).2
  have y2 := (kc 2 _ rfl).1
  have z2 := (kR3 2 _ rfl).1
  have u2 := (kR3 2 _ rfl).2
  have y3 := (kc 3 _ rfl).1
  have z3 := (kR3 3 _ rfl).1
  have u3 := (kR3 3 _ rfl).2
  have y4 := (kc 4 _ rfl).1
  have z4 := (kR3 4 _ rfl).1
  have u4 := (kR3 4 _ rfl).2
  have y5 := (kc 5 _ rfl).1
  have z5 := (kR3 5 _ rfl).1
  have u5 := (kR3 5 _ rfl).2
  have y6 := (kc 6 _ rfl).1
  have z6 := (kR3 6 _ rfl).1
  have u6 := (kR3 6 _ rfl).2
  have y7 := (kc 7 _ rfl).1
  have z7 := (kR3 7 _ rfl).1
  have u7 := (kR3 7 _ rfl).2
  have y8 := (kc 8 _ rfl).1
  have z8 := (kR3 8 _ rfl).1
  have u8 := (kR3 8 _ rfl).2
  have y9 := (kc 9 _ rfl).1
  have z9 := (kR3 9 _ rfl).1
  have u9 := (kR3 9 _ rfl).2
  have y10 := (kc 10 _ rfl).1
  have z10 := (kR3 10 _ rfl).1
  have u10 := (kR3 10 _ rfl).2
  have y11 := (kc 11 _ rfl).1
  have z11 := (kR3 11 _ rfl).1
  have u11 := (kR3 11 _ rfl).2
  have y12 := (kc 12 _ rfl).1
  have z12 := (kR3 12 _ rfl).1
  have u12 := (kR3 12 _ rfl).2
  have y13 := (kc 13 _ rfl).1
  have z13 := (kR3 13 _ rfl).1
  have u13 := (kR3 13 _ rfl).2
  go_wp2
  refine bodyPost_ret (v := .tuple #[.agg #[.int .i32 0, .slice aa ads.length ac, .bool true, .string ⟨#[]⟩, .string ⟨#[]⟩, .int .i64 0, .slice none 0 0, .int .i64 0, .slice none 0 0, .bool false, .bool false, .int .i64 0, .slice none 0 0, .slice none 0 0], .pointer none]) (head_results rfl rfl HK1.out) rfl ?_
  have nR : ∀ {b : Nat} {T : TypeId}, Typ w3 b T → T ≠ 167 → ¬ b = w.heap.size := fun hb n1 e => by subst e; exact n1 (hb.one htR)
  refine ⟨_, _, _, _, _, rfl, (HeadAt.deep hrow hit true).keeps HO4.out ⟨fun b hb => nR hb (by decide), fun b hb => nR hb (by decide), fun b hb => nR hb (by decide), fun b hb => nR hb (by decide), fun b hb => nR hb (by decide)⟩, h3.keeps HO4.out nrb.symm (fun hn => nR (h3.tr hn) (by decide)) (nR h3.tp (by decide)), ?_⟩
  have o12 : Only (fun b => b = g.c ∨ w.heap.size + 1 ≤ b) w w2 := ((oa.trans o1 (fun _ e => e.elim) (fun _ _ e => e) : Only (· = g.c) w w1).trans o2 (fun _ e => Or.inl e) (fun _ _ e => e))
  have o13 : Only (fun b => b = g.c ∨ w.heap.size ≤ b) w w3 := o12.trans o3 (fun _ e => by rcases e with e | e; exact Or.inl e; exact Or.inr (by omega)) (fun _ _ e => by rcases e with e | e; exact Or.inl e; exact Or.inr (by omega))
  exact (o13.trans HO4.out (fun _ e => e) (fun b _ e => Or.inr (by omega))).mono (fun b hb e => by rcases e with e | e; exact e; omega)
end Go.Proofs.YtbiobhghnldckaaGreatDoor
