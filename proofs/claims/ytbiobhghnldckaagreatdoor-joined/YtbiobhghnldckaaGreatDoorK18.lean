/- Proved: runes are joined, and cloned; the commands G and h are done. Conditions: the editor lies in memory as 'EM' says, and the command. -/
import Derived.Test.YtbiobhghnldckaaGreatDoorK16
import Derived.Deep.RegionWith
import Derived.Deep.RegionHeld3
import Derived.Lib.SliceRun
import Derived.Test.YtbiobhghnldckaaGreatDoorK17
import Derived.Test.YtbiobhghnldckaaGreatDoorK9
namespace Go.Proofs.YtbiobhghnldckaaGreatDoor
open Go.RowKit
set_option linter.unusedVariables false
attribute [local go_sem ↓] Go.wp_at_zero Go.wp_at_succ

theorem SpaceAt.apart {S : Nat → Prop} {w w' : World} {ra : Option Addr} {sp : List Int} (h : SpaceAt w ra sp) (o : Only S w w') (hs : sp ≠ [] → ∀ b off, ra = some ⟨b, off, none⟩ → ¬ S b) : SpaceAt w' ra sp := by
  intro hne
  obtain ⟨rb, ro, e, ht, hc⟩ := h hne
  have hn := hs hne rb ro e
  exact ⟨rb, ro, e, ht.keeps o hn, fun j hj => o.keeps (hc j hj) hn⟩

set_option maxRecDepth 100000 in
set_option maxHeartbeats 1600000 in
theorem joinM (w : World) (B : Nat) (hB : B ≤ w.heap.size) (sa : Option Addr) (sc : Nat) (xs : List Int) (h1 : w.ownsRow B 21 1 (.slice sa xs.length sc) xs.length (xs.map (.int .i32))) (ha : Option Addr) (hc : Nat) (ys : List Int) (h2 : SpaceAt w ha ys) (hap : ys ≠ [] → ∀ b, (Value.slice sa xs.length sc).ownBlock = some b → (Value.slice ha ys.length hc).ownBlock ≠ some b) (hx : xs.length ≤ 10000) (hy : ys.length ≤ 10000) :
    Calls Tryz.prog 130 #[.slice sa xs.length sc, .slice ha ys.length hc] w fun e w' => ∃ a' c', e = .returned (.slice a' (xs ++ 10 :: ys).length c') ∧ w'.ownsRow B 21 1 (.slice a' (xs ++ 10 :: ys).length c') (xs ++ 10 :: ys).length ((xs ++ 10 :: ys).map (.int .i32)) ∧ Only (fun b => (Value.slice sa xs.length sc).ownBlock = some b) w w' ∧ ((Value.slice a' (xs ++ 10 :: ys).length c').ownBlock = (Value.slice sa xs.length sc).ownBlock ∨ ∃ b, (Value.slice a' (xs ++ 10 :: ys).length c').ownBlock = some b ∧ w.heap.size ≤ b) := by
  have oa : Only (fun _ => False) w (w.alloc (.cells #[.int .i32 10] 21)) := (Only.refl _ w).alloc _
  have ga := row_keeps h1 oa (fun _ _ => id)
  have ha2 := h2.keeps oa (fun _ _ => id)
  have hsp : SpaceAt (w.alloc (.cells #[.int .i32 10] 21)) (some ⟨w.heap.size, 0, none⟩) [10] := fun _ => ⟨w.heap.size, 0, rfl, Typ.new _ _ _ _, fun j hj => by
    have : j = 0 := by simp at hj; omega
    subst this
    exact (Cells.new w #[.int .i32 10] 21 0 _ rfl).1⟩
  have hszA : (w.alloc (.cells #[.int .i32 10] 21)).heap.size = w.heap.size + 1 := by simp
  have e1 : (xs ++ 10 :: ys).length = xs.length + 1 + ys.length := by simp; omega
  have e2 : (xs ++ 10 :: ys) = (xs ++ [10]) ++ ys := by simp
  have hlen1 : (xs ++ [10]).length = xs.length + 1 := by simp
  go_enter Tryz.func130, Tryz.ntmps130
  go_wp2_with (at_builtin; first
    | (refine wpList_append_runes _ (by rfl) _ _ (by rfl) B (.slice sa xs.length sc) xs.length xs (by rfl) ga (some ⟨w.heap.size, 0, none⟩) 1 [10] 1 (by rfl) rfl hsp (by omega) (by rw [hszA]; omega) ?_; intro a1 c1 w1 hown1 o1 hat1; have hs2 : SpaceAt w1 ha ys := ha2.apart o1 (fun hne b o e hS => hap hne b hS (by rw [e]; rfl)); have hw1 := o1.size; rw [hszA] at hw1)
    | (refine wpList_append_runes _ (by rfl) _ _ (by rfl) B (.slice a1 (xs.length + 1) c1) (xs.length + 1) (xs ++ [10]) (by rfl) hown1 ha hc ys ys.length (by rfl) rfl hs2 (by omega) (by omega) ?_; intro a2 c2 w2 hown2 o2 hat2))
  go_ret
  rw [← e1, ← e2] at hown2
  rw [← e1] at hat2
  refine ⟨a2, c2, by rw [e1]; rfl, hown2, ?_, ?_⟩
  · refine (oa.trans o1 (fun _ e => e.elim) (fun _ _ e => e)).trans o2 (fun _ e => e) (fun b hb e => ?_)
    rcases hat1 with h | h
    · exact h ▸ e
    · rw [h, hszA] at e
      injection e with e
      omega
  · rcases hat2 with h | h
    · rcases hat1 with k | k
      · exact Or.inl (h.trans k)
      · exact Or.inr ⟨_, h.trans k, by rw [hszA]; omega⟩
    · exact Or.inr ⟨_, h, by omega⟩

set_option maxRecDepth 100000 in
set_option maxHeartbeats 1600000 in
theorem cloneM (w : World) (sa : Option Addr) (sc : Nat) (xs : List Int) (h : SpaceAt w sa xs) (hn : sa = none → sc = 0) (hx : xs.length ≤ 10000) :
    Calls Tryz.prog 129 #[.slice sa xs.length sc] w fun e w' => ∃ a' c', e = .returned (.slice a' xs.length c') ∧ w'.ownsRow w.heap.size 21 1 (.slice a' xs.length c') xs.length (xs.map (.int .i32)) ∧ Only (fun _ => False) w w' := by
  cases sa with
  | none =>
    have e : xs = [] := Classical.byContradiction fun hne => by obtain ⟨_, _, e, _⟩ := h hne; cases e
    subst e
    have e0 := hn rfl
    subst e0
    have hq : ∀ W : World, (binOp .eql 103 (.slice none 0 0) (.slice none 0 0)).run Tryz.prog W = .ok (.bool true) W := fun W => Lib.run_eql_slice_nil W _ _ none 0 0 0 0 Tryz.underlying103
    go_enter Tryz.func129, Tryz.ntmps129
    go_wp2
    go_ret
    exact ⟨none, 0, rfl, World.ownsRow_nil _ _ _ _, Only.refl _ _⟩
  | some ad =>
    have oa : Only (fun _ => False) w (w.alloc (.cells #[] 21)) := (Only.refl _ w).alloc _
    have hblk := heap_alloc_new w (.cells #[] 21)
    have ga : (w.alloc (.cells #[] 21)).ownsRow w.heap.size 21 1 (.slice (some ⟨w.heap.size, 0, none⟩) 0 0) 0 (([] : List Int).map (.int .i32)) := ⟨rfl, Or.inr ⟨w.heap.size, 0, #[], rfl, Nat.le_refl _, hblk, Nat.le_refl _, by unfold maxLen; omega, rfl, rfl⟩⟩
    have ha2 := h.keeps oa (fun _ _ => id)
    have hq : ∀ W : World, (binOp .eql 103 (.slice (some ad) xs.length sc) (.slice none 0 0)).run Tryz.prog W = .ok (.bool false) W := fun W => Lib.run_eql_slice_nil W _ _ (some ad) xs.length sc 0 0 Tryz.underlying103
    go_enter Tryz.func129, Tryz.ntmps129
    go_wp2_with (at_builtin; refine wpList_append_runes _ (by rfl) _ _ (by rfl) w.heap.size (.slice (some ⟨w.heap.size, 0, none⟩) 0 0) 0 [] (by rfl) ga (some ad) sc xs xs.length (by rfl) rfl ha2 (by omega) (by simp) ?_; intro a1 c1 w1 hown1 o1 hat1)
    go_ret
    rw [Nat.zero_add, List.nil_append] at hown1
    refine ⟨a1, c1, rfl, hown1, ?_⟩
    exact oa.trans o1 (fun _ e => e) (fun b hb e => by simp [Value.ownBlock] at e; omega)

/-- .. over what turns the editor and the space's own row. -/
theorem EM.joined {w w' : World} {eb : Nat} {X : Adz.Fx} {E : Adz.Es} {sa ha qa a1 : Option Addr} {sc hc qc c1 : Nat} (h : EM w eb X E sa sc ha hc qa qc) (o : Only (fun b => b = eb ∨ (Value.slice sa E.sp.length sc).ownBlock = some b) w w') {sp : List Int}
    (he : Ed w' eb ((edCells X E (.slice sa E.sp.length sc) (.slice ha E.hold.length hc) (.slice qa E.queue.length qc)).set 4 (.slice a1 sp.length c1)) E.out) (hq : w'.ownsRow (eb + 1) 21 1 (.slice a1 sp.length c1) sp.length (sp.map (.int .i32))) (hap : ∀ b, (Value.slice a1 sp.length c1).ownBlock = some b → (Value.slice ha E.hold.length hc).ownBlock ≠ some b) : EM w' eb X { E with sp := sp } a1 c1 ha hc qa qc := by
  have hlo : ∀ b, b < eb → ¬ (b = eb ∨ (Value.slice sa E.sp.length sc).ownBlock = some b) := fun b hb e => by
    rcases e with e | e
    · omega
    · have := (h.sp.lt b e).1; omega
  refine ⟨he, hq, ?_, row_keeps h.queue o (fun b hb e => ?_), hap, h.lines.keeps o hlo, h.opens.keeps o hlo⟩
  · have k : w.ownsRow _ _ _ _ _ _ := h.hold
    refine row_keeps k o (fun b hb e => ?_)
    rcases e with e | e
    · subst e; exact absurd ((Typ.of_row k hb).one h.ed.typ) (by decide)
    · exact h.apart b e hb
  · rcases e with e | e
    · subst e; exact absurd ((Typ.of_row h.queue hb).one h.ed.typ) (by decide)
    · exact absurd ((Typ.of_row h.queue hb).one (Typ.of_row h.sp e)) (by decide)

set_option maxRecDepth 100000 in
set_option maxHeartbeats 1600000 in
theorem do_G (w : World) (eb : Nat) (X : Adz.Fx) (E : Adz.Es) (sa ha qa : Option Addr) (sc hc qc : Nat) (h : EM w eb X E sa sc ha hc qa qc) (g o : Nat) (hC : w.cell? ⟨g, o, none⟩ = some (.int .i32 71)) (hs : E.sp.length ≤ 400) (hh : E.hold.length ≤ 400) :
    Calls Tryz.prog 96 #[.pointer (some ⟨eb, 0, none⟩), .pointer (some ⟨g, o, none⟩)] w fun e w' => (∃ v, e = .returned v) ∧ EMx w' eb X { E with sp := E.sp ++ 10 :: E.hold } ∧ Only (fun b => b = eb ∨ (Typ w b 21 ∧ eb < b)) w w' := by
  have q4 := (h.ed.get 4 (by omega) _ rfl).1
  have f4 := (h.ed.get 4 (by omega) _ rfl).2
  have q5 := (h.ed.get 5 (by omega) _ rfl).1
  have hhr : w.ownsRow _ _ _ _ _ _ := h.hold
  have hsp : SpaceAt w ha E.hold := (Sl.of_row hhr).1.space
  have hlt := h.ed.typ.lt
  have hne : (Value.slice sa E.sp.length sc).ownBlock ≠ some eb := row_ne h.sp h.ed.typ (by decide)
  have od : Only (fun _ => False) w w.drew := (Only.refl _ w).drew
  have hj := joinM w.drew (eb + 1) hlt sa sc E.sp (row_keeps h.sp od (fun _ _ => id)) ha hc E.hold (hsp.keeps od (fun _ _ => id)) (fun _ => h.apart) (by omega) (by omega)
  go_enter Tryz.func96, Tryz.ntmps96
  go_wp2_with fail
  go_region_with (go_at_call 130; refine hj.mono ?_; rintro e w1 ⟨a1, c1, rfl, hown1, o1, hat1⟩; have k4 := o1.keeps q4 hne; have kf4 := o1.keepsFrozen q4 f4 hne)
  all_goals
    have oo1 : Only (fun b => (Value.slice sa E.sp.length sc).ownBlock = some b) w w1 := od.trans o1 (fun _ e => e.elim) (fun _ _ e => e)
    have e4 := (h.ed.keeps oo1 hne (fun b hb => row_ne h.sp hb (by decide))).set 4 (by omega) (.slice a1 (E.sp ++ 10 :: E.hold).length c1)
    have oS := only_set w1 eb 4 (.slice a1 (E.sp ++ 10 :: E.hold).length c1)
    have oo2 : Only (fun b => b = eb ∨ (Value.slice sa E.sp.length sc).ownBlock = some b) w (w1.setCell ⟨eb, 4, none⟩ (.slice a1 (E.sp ++ 10 :: E.hold).length c1)) := oo1.trans oS (fun _ e => Or.inr e) (fun _ _ e => Or.inl e)
    have hX : EMx (w1.setCell ⟨eb, 4, none⟩ (.slice a1 (E.sp ++ 10 :: E.hold).length c1)) eb X { E with sp := E.sp ++ 10 :: E.hold } := ⟨_, _, _, _, _, _, h.joined oo2 e4 (row_keeps hown1 oS (fun b hb e => by subst e; exact absurd ((Typ.of_row hown1 hb).one (h.ed.typ.keeps oo1 hne)) (by decide))) (fun b hb => by
      rcases hat1 with k | ⟨b', k, hb'⟩
      · exact h.apart b (k ▸ hb)
      · rw [k] at hb
        injection hb with hb
        subst hb
        exact h.holdLt hb')⟩
    have HX : Hid _ := hX
    have HO : Hid (Only (fun b => b = eb ∨ (Typ w b 21 ∧ eb < b)) w (w1.setCell ⟨eb, 4, none⟩ (.slice a1 (E.sp ++ 10 :: E.hold).length c1))) := oo2.mono (fun b hb e => by
      rcases e with e | e
      · exact Or.inl e
      · exact Or.inr ⟨Typ.of_row h.sp e, by have := (h.sp.lt b e).1; omega⟩)
    clear hX oo1 oo2 e4 oS hown1 o1 hat1 k4 kf4
    go_wp2
    go_end0
    have el : (E.sp ++ 10 :: E.hold).length = E.sp.length + (E.hold.length + 1) := by simp
    have hx := HX.out
    have ho := HO.out
    rw [el] at hx ho
    exact ⟨⟨_, rfl⟩, hx, ho⟩

set_option maxRecDepth 100000 in
set_option maxHeartbeats 1600000 in
theorem do_h (w : World) (eb : Nat) (X : Adz.Fx) (E : Adz.Es) (sa ha qa : Option Addr) (sc hc qc : Nat) (h : EM w eb X E sa sc ha hc qa qc) (g o : Nat) (hC : w.cell? ⟨g, o, none⟩ = some (.int .i32 104)) (hs : E.sp.length ≤ 400) :
    Calls Tryz.prog 96 #[.pointer (some ⟨eb, 0, none⟩), .pointer (some ⟨g, o, none⟩)] w fun e w' => (∃ v, e = .returned v) ∧ EMx w' eb X { E with hold := E.sp } ∧ Only (· = eb) w w' := by
  have q4 := (h.ed.get 4 (by omega) _ rfl).1
  have hsp : SpaceAt w sa E.sp := (Sl.of_row h.sp).1.space
  have hn : sa = none → sc = 0 := fun e => by
    subst e
    rcases h.sp.2 with ⟨e, _⟩ | ⟨g, cap, cur, e, _⟩
    · injection e
    · cases e
  have hlt := h.ed.typ.lt
  go_enter Tryz.func96, Tryz.ntmps96
  go_wp2_with fail
  refine (cloneM w sa sc E.sp hsp hn (by omega)).mono ?_
  rintro e w1 ⟨a1, c1, rfl, hown1, o1⟩
  have hM1 := h.quiet o1
  have q5 := (hM1.ed.get 5 (by omega) _ rfl).1
  have f5 := (hM1.ed.get 5 (by omega) _ rfl).2
  have hE1 := hM1.ed.set 5 (by omega) (.slice a1 E.sp.length c1)
  have oS := only_set w1 eb 5 (.slice a1 E.sp.length c1)
  have n : ∀ {b : Nat} {T : TypeId}, Typ w1 b T → T ≠ 108 → ¬ b = eb := fun ht n2 e => by subst e; exact n2 (ht.one hM1.ed.typ)
  have hX : EMx (w1.setCell ⟨eb, 5, none⟩ (.slice a1 E.sp.length c1)) eb X { E with hold := E.sp } := ⟨sa, sc, a1, c1, qa, qc, hE1, row_keeps hM1.sp oS (fun b hb => n (Typ.of_row hM1.sp hb) (by decide)), row_base (row_keeps hown1 oS (fun b hb => n (Typ.of_row hown1 hb) (by decide))) (by omega), row_keeps hM1.queue oS (fun b hb => n (Typ.of_row hM1.queue hb) (by decide)), fun b hb e => by
    have k1 := (h.sp.lt b hb).2
    have k2 := (hown1.lt b e).1
    omega, hM1.lines.keeps oS (fun b hb e => by omega), hM1.opens.keeps oS (fun b hb e => by omega)⟩
  have HX : Hid _ := hX
  have HO : Hid (Only (· = eb) w (w1.setCell ⟨eb, 5, none⟩ (.slice a1 E.sp.length c1))) := o1.trans oS (fun _ e => e.elim) (fun _ _ e => e)
  clear hX oS hE1 hM1
  go_wp2
  go_end0
  exact ⟨⟨_, rfl⟩, HX.out, HO.out⟩

theorem doOk_G {w0 : World} {eb : Nat} {X : Adz.Fx} {n g : Nat} {E : Adz.Es} {c : Adz.Cmd} (h : AtCmd w0 eb X n g E c) (hw : c.what = 71) (E1 : Adz.Es) (hs : E1.sp.length ≤ 400) (hh : E1.hold.length ≤ 400) : DoOk w0 eb X g (E.next * 14) E1 { E1 with sp := E1.sp ++ 10 :: E1.hold } := fun w hO ⟨sa, sc, ha, hc, qa, qc, hM⟩ => by
  have hX := h.cmd.keeps hO
  have hwh := hX.what
  rw [hw] at hwh
  refine (do_G w eb X E1 sa ha qa sc hc qc hM g _ hwh hs hh).mono ?_
  rintro e w' ⟨hv, hM', o'⟩
  exact ⟨hv, hM', only_new hO o' h.eb (fun b e => by rcases e with e | e <;> omega)⟩
theorem doOk_h {w0 : World} {eb : Nat} {X : Adz.Fx} {n g : Nat} {E : Adz.Es} {c : Adz.Cmd} (h : AtCmd w0 eb X n g E c) (hw : c.what = 104) (E1 : Adz.Es) (hs : E1.sp.length ≤ 400) : DoOk w0 eb X g (E.next * 14) E1 { E1 with hold := E1.sp } := fun w hO ⟨sa, sc, ha, hc, qa, qc, hM⟩ => by
  have hX := h.cmd.keeps hO
  have hwh := hX.what
  rw [hw] at hwh
  refine (do_h w eb X E1 sa ha qa sc hc qc hM g _ hwh hs).mono ?_
  rintro e w' ⟨hv, hM', o'⟩
  exact ⟨hv, hM', only_new hO o' h.eb (fun b e => by omega)⟩
end Go.Proofs.YtbiobhghnldckaaGreatDoor

/- Proved: what adzekeep.edit makes of the scripts of adzekeep.Turned, over any short lines. Conditions: what the library's variables hold. -/
namespace Go.Proofs.YtbiobhghnldckaaGreatDoor
open Go.RowKit
set_option linter.unusedVariables false

/-- A turn of the loop at a command behind which nothing stands. -/
theorem gapOk_0 (g : CG) (pp : Nat) (s : Adz.Ps) (c0 : Adz.Cmd) (i1 : Nat) (hH : HeadOk g pp s.i c0 i1) (h1i : s.i ≤ i1) (r0 : Int) (hr0 : Adz.peek g.L s.i = r0) (hgood : Adz.isBlank r0 = false ∧ r0 ≠ 10 ∧ r0 ≠ 59 ∧ r0 ≠ 125 ∧ r0 ≠ -1) (r : Int) (hr : Adz.peek g.L i1 = r) (hk : Adz.behindKind r = some 0) (hr1 : r ≠ -1 ∧ r ≠ 123) (h40 : s.cmds.length ≠ 40) (he : Adz.peek g.L (i1 + 1) = 10 ∨ Adz.peek g.L (i1 + 1) = 59 ∨ Adz.peek g.L (i1 + 1) = -1) :
    GapOk g pp s { i := i1 + 1, cmds := s.cmds ++ [{ c0 with what := r }], opens := s.opens, labs := s.labs } := by
  obtain ⟨g1, g2, g3, g4, g5⟩ := hgood
  exact gapOk_of g pp s r0 hr0 g1 g2 g3 g4 g5 c0 i1 hH h1i r hr hr1.1 0 hk (by decide) (by decide) h40 _ (i1 + 1) _ (behOk_0 g pp _ _ _ hk) (Nat.le_refl _) (Adz.tail_at he) hr1.2
/-- A head: a number. -/
theorem headNum (g : CG) (pp i i1 i2 : Nat) (n : Int) (hd : Adz.isDigit (Adz.peek g.L i) = true) (hn : Adz.number g.L g.pl i = .ok (n, i1)) (hb : Adz.isBlank (Adz.peek g.L i1) = false) (h44 : Adz.peek g.L i1 ≠ 44) (h33 : Adz.peek g.L i1 ≠ 33) : HeadOk g pp i { addrs := [⟨0, n, ⟨[], 0⟩⟩] } i1 := by
  have hA := addrOk_num g pp i hd n i1 hn
  rw [Adz.blanks_none hb] at hA
  exact headOk_addr g pp i _ i1 (addrsOk_one g pp i _ i1 hA h44) (Or.inl hd) h33
/-- .. and '!'. -/
theorem headNumNot (g : CG) (pp i i1 : Nat) (n : Int) (hd : Adz.isDigit (Adz.peek g.L i) = true) (hn : Adz.number g.L g.pl i = .ok (n, i1)) (h33 : Adz.peek g.L i1 = 33) (hb : Adz.isBlank (Adz.peek g.L (i1 + 1)) = false) : HeadOk g pp i { addrs := [⟨0, n, ⟨[], 0⟩⟩], neg := true } (i1 + 1) := by
  have hA := addrOk_num g pp i hd n i1 hn
  rw [Adz.blanks_none (by rw [h33]; decide)] at hA
  have := headOk_not g pp i _ i1 (addrsOk_one g pp i _ i1 hA (by rw [h33]; decide)) (Or.inl hd) h33
  rwa [Adz.blanks_none hb] at this
/-- A head: '$'. -/
theorem headLast (g : CG) (pp i : Nat) (hd : Adz.peek g.L i = 36) (hb : Adz.isBlank (Adz.peek g.L (i + 1)) = false) (h44 : Adz.peek g.L (i + 1) ≠ 44) (h33 : Adz.peek g.L (i + 1) ≠ 33) : HeadOk g pp i { addrs := [⟨1, 0, ⟨[], 0⟩⟩] } (i + 1) := by
  have hA := addrOk_last g pp i hd
  rw [Adz.blanks_none hb] at hA
  exact headOk_addr g pp i _ (i + 1) (addrsOk_one g pp i _ (i + 1) hA h44) (Or.inr hd) h33
/-- .. and '!'. -/
theorem headLastNot (g : CG) (pp i : Nat) (hd : Adz.peek g.L i = 36) (h33 : Adz.peek g.L (i + 1) = 33) (hb : Adz.isBlank (Adz.peek g.L (i + 1 + 1)) = false) : HeadOk g pp i { addrs := [⟨1, 0, ⟨[], 0⟩⟩], neg := true } (i + 1 + 1) := by
  have hA := addrOk_last g pp i hd
  rw [Adz.blanks_none (by rw [h33]; decide)] at hA
  have := headOk_not g pp i _ (i + 1) (addrsOk_one g pp i _ (i + 1) hA (by rw [h33]; decide)) (Or.inr hd) h33
  rwa [Adz.blanks_none hb] at this

def turC : List Adz.Cmd := [{ what := 71, addrs := [⟨0, 1, ⟨[], 0⟩⟩], neg := true }, { what := 104 }, { what := 100, addrs := [⟨1, 0, ⟨[], 0⟩⟩], neg := true }]
theorem walks_tur : Walks [49, 33, 71, 59, 104, 59, 36, 33, 100] [0, 1, 2, 3, 4, 5, 6, 7, 8, 9] 5 ⟨0, [], [], []⟩ ⟨9, turC, [], []⟩ := by
  refine ⟨⟨3, [{ what := 71, addrs := [⟨0, 1, ⟨[], 0⟩⟩], neg := true }], [], []⟩, fun g pp hL hpl hcap => ?_, ⟨4, [{ what := 71, addrs := [⟨0, 1, ⟨[], 0⟩⟩], neg := true }], [], []⟩, fun g pp hL hpl hcap => ?_, ⟨5, [{ what := 71, addrs := [⟨0, 1, ⟨[], 0⟩⟩], neg := true }, { what := 104 }], [], []⟩, fun g pp hL hpl hcap => ?_, ⟨6, [{ what := 71, addrs := [⟨0, 1, ⟨[], 0⟩⟩], neg := true }, { what := 104 }], [], []⟩, fun g pp hL hpl hcap => ?_, ⟨9, turC, [], []⟩, fun g pp hL hpl hcap => ?_, rfl⟩
  · exact gapOk_0 g pp ⟨0, [], [], []⟩ _ 2 (headNumNot g pp 0 1 1 (by rw [hL]; rfl) (by rw [hL, hpl]; rfl) (by rw [hL]; rfl) (by rw [hL]; rfl)) (by decide) 49 (by rw [hL]; rfl) (by decide) 71 (by rw [hL]; rfl) (by decide) (by decide) (by simp) (Or.inr (Or.inl (by rw [hL]; rfl)))
  · exact gap_skip g pp ⟨3, _, [], []⟩ 59 (by rw [hL]; rfl) (Or.inr ⟨by decide, by decide⟩)
  · exact gapOk_0 g pp ⟨4, [{ what := 71, addrs := [⟨0, 1, ⟨[], 0⟩⟩], neg := true }], [], []⟩ {} 4 (headPlain g pp 4 104 (by rw [hL]; rfl) (by decide)) (Nat.le_refl _) 104 (by rw [hL]; rfl) (by decide) 104 (by rw [hL]; rfl) (by decide) (by decide) (by simp) (Or.inr (Or.inl (by rw [hL]; rfl)))
  · exact gap_skip g pp ⟨5, _, [], []⟩ 59 (by rw [hL]; rfl) (Or.inr ⟨by decide, by decide⟩)
  · exact gapOk_0 g pp ⟨6, [{ what := 71, addrs := [⟨0, 1, ⟨[], 0⟩⟩], neg := true }, { what := 104 }], [], []⟩ _ 8 (headLastNot g pp 6 (by rw [hL]; rfl) (by rw [hL]; rfl) (by rw [hL]; rfl)) (by show 6 ≤ 8; omega) 36 (by rw [hL]; rfl) (by decide) 100 (by rw [hL]; rfl) (by decide) (by decide) (by simp) (Or.inr (Or.inr (by rw [hL]; rfl)))
def turC2 : List Adz.Cmd := [{ what := 71, addrs := [⟨0, 1, ⟨[], 0⟩⟩], neg := true }, { what := 104 }, { what := 112, addrs := [⟨1, 0, ⟨[], 0⟩⟩] }]
theorem walks_tur2 : Walks [49, 33, 71, 10, 104, 10, 36, 112] [0, 1, 2, 3, 4, 5, 6, 7, 8] 5 ⟨0, [], [], []⟩ ⟨8, turC2, [], []⟩ := by
  refine ⟨⟨3, [{ what := 71, addrs := [⟨0, 1, ⟨[], 0⟩⟩], neg := true }], [], []⟩, fun g pp hL hpl hcap => ?_, ⟨4, [{ what := 71, addrs := [⟨0, 1, ⟨[], 0⟩⟩], neg := true }], [], []⟩, fun g pp hL hpl hcap => ?_, ⟨5, [{ what := 71, addrs := [⟨0, 1, ⟨[], 0⟩⟩], neg := true }, { what := 104 }], [], []⟩, fun g pp hL hpl hcap => ?_, ⟨6, [{ what := 71, addrs := [⟨0, 1, ⟨[], 0⟩⟩], neg := true }, { what := 104 }], [], []⟩, fun g pp hL hpl hcap => ?_, ⟨8, turC2, [], []⟩, fun g pp hL hpl hcap => ?_, rfl⟩
  · exact gapOk_0 g pp ⟨0, [], [], []⟩ _ 2 (headNumNot g pp 0 1 1 (by rw [hL]; rfl) (by rw [hL, hpl]; rfl) (by rw [hL]; rfl) (by rw [hL]; rfl)) (by decide) 49 (by rw [hL]; rfl) (by decide) 71 (by rw [hL]; rfl) (by decide) (by decide) (by simp) (Or.inl (by rw [hL]; rfl))
  · exact gap_skip g pp ⟨3, _, [], []⟩ 10 (by rw [hL]; rfl) (Or.inr ⟨by decide, by decide⟩)
  · exact gapOk_0 g pp ⟨4, [{ what := 71, addrs := [⟨0, 1, ⟨[], 0⟩⟩], neg := true }], [], []⟩ {} 4 (headPlain g pp 4 104 (by rw [hL]; rfl) (by decide)) (Nat.le_refl _) 104 (by rw [hL]; rfl) (by decide) 104 (by rw [hL]; rfl) (by decide) (by decide) (by simp) (Or.inl (by rw [hL]; rfl))
  · exact gap_skip g pp ⟨5, _, [], []⟩ 10 (by rw [hL]; rfl) (Or.inr ⟨by decide, by decide⟩)
  · exact gapOk_0 g pp ⟨6, [{ what := 71, addrs := [⟨0, 1, ⟨[], 0⟩⟩], neg := true }, { what := 104 }], [], []⟩ _ 7 (headLast g pp 6 (by rw [hL]; rfl) (by rw [hL]; rfl) (by rw [hL]; decide) (by rw [hL]; decide)) (by show 6 ≤ 7; omega) 36 (by rw [hL]; rfl) (by decide) 112 (by rw [hL]; rfl) (by decide) (by decide) (by simp) (Or.inr (Or.inr (by rw [hL]; rfl)))

/-- Lines turned round, with their ends between them. -/
def revH (ls : List (List Int)) : List Int := (txtR ls.reverse).dropLast
theorem revH_snoc (ls : List (List Int)) (l : List Int) : revH (ls ++ [l]) = if ls = [] then l else l ++ 10 :: revH ls := by
  unfold revH
  rw [List.reverse_append, List.reverse_singleton, List.singleton_append, txtR_cons]
  by_cases h : ls = []
  · subst h
    simp [txtR]
  · rw [if_neg h]
    have hne : txtR ls.reverse ≠ [] := by
      have : ls.reverse ≠ [] := by simpa using h
      cases hr : ls.reverse with
      | nil => exact absurd hr this
      | cons a t => rw [txtR_cons]; simp
    rw [List.dropLast_append_of_ne_nil (by simp), List.dropLast_cons_of_ne_nil hne]
theorem revH_end (ls : List (List Int)) (h : ls ≠ []) : revH ls ++ [10] = txtR ls.reverse := by
  unfold revH
  have hr : ls.reverse ≠ [] := by simpa using h
  have key : ∀ xs : List (List Int), xs ≠ [] → (txtR xs).dropLast ++ [10] = txtR xs := by
    intro xs hx
    rw [← List.dropLast_concat_getLast hx, txtR_snoc, ← List.append_assoc, List.dropLast_concat]
  exact key _ hr
theorem txtR_rev_len (ls : List (List Int)) : (txtR ls.reverse).length = (txtR ls).length := by
  induction ls with
  | nil => rfl
  | cons l ls ih => rw [List.reverse_cons, txtR_snoc, List.length_append, ih, txtR_cons]; simp; omega
theorem revH_len (ls : List (List Int)) (n : Nat) (h : (txtR ls).length ≤ n) : (revH ls).length ≤ n := by
  unfold revH
  rw [List.length_dropLast, txtR_rev_len]
  omega
theorem txtR_take_len (ls : List (List Int)) (j : Nat) : (txtR (ls.take j)).length ≤ (txtR ls).length := by
  conv => rhs; rw [← List.take_append_drop j ls, txtR_append, List.length_append]
  omega
end Go.Proofs.YtbiobhghnldckaaGreatDoor

/- Proved: what adzekeep.edit makes of the scripts of adzekeep.Turned, over any short lines. Conditions: what the library's variables hold. -/
namespace Go.Proofs.YtbiobhghnldckaaGreatDoor
open Go.RowKit
set_option linter.unusedVariables false

theorem revH_ok {ls : List (List Int)} (h : ∀ l ∈ ls, Ln l) : ∀ r ∈ revH ls, Okr r := fun r hr =>
  txtR_ok (ls := ls.reverse) (fun l hl => h l (by simpa using hl)) r (List.dropLast_subset _ hr)
/-- A space of ours is told. -/
theorem told_ok {l : List Int} (h : ∀ r ∈ l, Okr r) (out : List UInt8) : Adz.told false out l = out ++ encL (l ++ [10]) := by
  show (out ++ (runesBytes l).data.toList) ++ [10] = _
  rw [runesBytes_ok h, tx_list, encL_append, List.append_assoc]
  rfl

/-- What is the same for both scripts: behind two steps the space and the hold are the lines so far, turned round. -/
theorem turn_steps (w0 : World) (eb : Nat) (X : Adz.Fx) (g : Nat) (c3 : Adz.Cmd) (hP : ProgOk w0 eb X g [{ what := 71, addrs := [⟨0, 1, ⟨[], 0⟩⟩], neg := true }, { what := 104 }, c3]) (ls : List (List Int)) (hls : ∀ l ∈ ls, Ln l) (hlines : X.lines = ls.map tx) (hb : (txtR ls).length ≤ 400) (E : Adz.Es) (j : Nat) (hj : j < ls.length) (e1 : E.line = j) (e5 : E.steps + 3 ≤ 5000) (eh : E.hold = revH (ls.take j)) (k : Nat) (E2 : Adz.Es)
    (hrest : StepsOk w0 eb X 3 k { lineStart E (tx ls[j]) with steps := E.steps + 2, next := 2, sp := revH (ls.take (j + 1)), hold := revH (ls.take (j + 1)) } E2) : StepsOk w0 eb X 3 (k + 2) (lineStart E (tx ls[j])) E2 := by
  have hlj := hls ls[j] (List.getElem_mem hj)
  have hrun : Adz.runes (tx ls[j]) = ls[j] := runes_ok hlj.ok
  have htk : ls.take (j + 1) = ls.take j ++ [ls[j]] := (List.take_append_getElem hj).symm
  have hlen1 : (txtR (ls.take (j + 1))).length ≤ 400 := Nat.le_trans (txtR_take_len ls (j + 1)) hb
  have hlen0 : (txtR (ls.take j)).length ≤ 400 := Nat.le_trans (txtR_take_len ls j) hb
  have hr1 := revH_len _ 400 hlen1
  have hr0 := revH_len _ 400 hlen0
  have hl1 : (ls[j]).length ≤ 400 := by
    rw [htk, txtR_snoc, List.length_append, List.length_append] at hlen1
    omega
  have hrev : revH (ls.take (j + 1)) = if ls.take j = [] then ls[j] else ls[j] ++ 10 :: revH (ls.take j) := by rw [htk, revH_snoc]
  have hat := hP.at (lineStart E (tx ls[j])) 0 _ rfl rfl (by show E.steps < 5000; omega) (by show (Adz.runes (tx ls[j])).length ≤ 400; rw [hrun]; exact hl1) (by show E.hold.length ≤ 400; rw [eh]; exact hr0)
  have hs1 : StepOk w0 eb X 3 (lineStart E (tx ls[j])) { lineStart E (tx ls[j]) with steps := E.steps + 1, next := 1, sp := revH (ls.take (j + 1)) } := by
    by_cases h0 : j = 0
    · have ee : ls.take j = [] := by rw [h0]; rfl
      have := stepOk_not hat (by simp) (by simp) (by show decide (((E.line + 1 : Nat) : Int) = 1) = true; rw [e1, h0]; rfl) (show (71 : Int) ≠ 123 by decide)
      rw [if_pos ee] at hrev
      have e2 : ({ lineStart E (tx ls[j]) with steps := E.steps + 1, next := 1, sp := revH (ls.take (j + 1)) } : Adz.Es) = { lineStart E (tx ls[j]) with steps := (lineStart E (tx ls[j])).steps + 1, next := (lineStart E (tx ls[j])).next + 1 } := by
        rw [hrev]
        show _ = ({ E with line := E.line + 1, r8 := false, sp := Adz.runes (tx ls[j]), next := 0 + 1, drop := false, steps := E.steps + 1 } : Adz.Es)
        rw [hrun]
        rfl
      rw [e2]
      exact this
    · have ee : ls.take j ≠ [] := by
        intro e
        have := congrArg List.length e
        rw [List.length_take, List.length_nil] at this
        omega
      rw [if_neg ee] at hrev
      have hne : ¬ (((E.line + 1 : Nat) : Int) = 1) := by omega
      have := stepOk_do hat (by simp) (by simp) (by show decide (((E.line + 1 : Nat) : Int) = 1) ≠ true; rw [decide_eq_false hne]; decide) _ (doOk_G hat rfl { lineStart E (tx ls[j]) with steps := E.steps + 1, next := 1 } (by show (Adz.runes (tx ls[j])).length ≤ 400; rw [hrun]; exact hl1) (by show E.hold.length ≤ 400; rw [eh]; exact hr0))
      have e2 : ({ lineStart E (tx ls[j]) with steps := E.steps + 1, next := 1, sp := revH (ls.take (j + 1)) } : Adz.Es) = { lineStart E (tx ls[j]) with steps := E.steps + 1, next := 1, sp := Adz.runes (tx ls[j]) ++ 10 :: E.hold } := by
        rw [hrev, hrun, eh]
      rw [e2]
      exact this
  have hat2 := hP.at { lineStart E (tx ls[j]) with steps := E.steps + 1, next := 1, sp := revH (ls.take (j + 1)) } 1 _ rfl rfl (by show E.steps + 1 < 5000; omega) hr1 (by show E.hold.length ≤ 400; rw [eh]; exact hr0)
  have hs2 := stepOk_do hat2 (by simp) (by simp) (by simp [means1]) _ (doOk_h hat2 rfl { lineStart E (tx ls[j]) with steps := E.steps + 2, next := 2, sp := revH (ls.take (j + 1)) } hr1)
  exact ⟨_, hs1, _, hs2, hrest⟩

theorem cycles_tur (w0 : World) (eb : Nat) (X : Adz.Fx) (g : Nat) (hP : ProgOk w0 eb X g turC) (hq : X.q = false) (ls : List (List Int)) (hls : ∀ l ∈ ls, Ln l) (h40 : ls.length ≤ 40) (hlines : X.lines = ls.map tx) (hb : (txtR ls).length ≤ 400) (E0 : Adz.Es) (hE0 : E0.line = 0 ∧ E0.over = false ∧ E0.queue = [] ∧ E0.hold = [] ∧ E0.steps = 0 ∧ E0.out = []) :
    ∃ k E', CyclesOk w0 eb X k E0 E' ∧ E'.out = encL (txtR ls.reverse) := by
  have hXl : X.lines.length = ls.length := by rw [hlines, List.length_map]
  obtain ⟨E', h1, h2⟩ := cycles_by w0 eb X ls.length (fun j E => E.line = j ∧ E.over = false ∧ E.queue = [] ∧ E.hold = revH (ls.take j) ∧ E.steps = 3 * j ∧ E.out = if j = ls.length then encL (txtR ls.reverse) else [])
    (fun j E hj ⟨e1, e2, e3, e4, e5, e6⟩ => by
      have hlj := hls ls[j] (List.getElem_mem hj)
      have hr1 := revH_len _ 400 (Nat.le_trans (txtR_take_len ls (j + 1)) hb)
      have hjX : E.line < X.lines.length := by rw [hXl]; omega
      have hXj : X.lines[E.line] = tx ls[j] := by
        have : X.lines[E.line]? = some (tx ls[j]) := by rw [hlines, List.getElem?_map, e1, List.getElem?_eq_getElem hj]; rfl
        exact (List.getElem?_eq_some_iff.1 this).2
      have ho : E.out = [] := by rw [e6, if_neg (by omega)]
      have hts : (tx ls[j]).size ≤ 3000 := by
        have h1 : (txtR (ls.take (j + 1))).length ≤ 400 := Nat.le_trans (txtR_take_len ls (j + 1)) hb
        rw [← List.take_append_getElem hj, txtR_snoc, List.length_append, List.length_append] at h1
        have := tx_bound ls[j] 400 (by omega)
        omega
      have hat := hP.at { lineStart E (tx ls[j]) with steps := E.steps + 2, next := 2, sp := revH (ls.take (j + 1)), hold := revH (ls.take (j + 1)) } 2 _ rfl rfl (by show E.steps + 2 < 5000; omega) hr1 hr1
      by_cases hlast : j + 1 = ls.length
      · have hm : decide (X.lines.length ≤ E.line + 1) = true := by rw [hXl, e1]; simp; omega
        have hs3 := stepOk_not hat (by simp) (by simp) hm (show (100 : Int) ≠ 123 by decide)
        have htl : ls.take (j + 1) = ls := List.take_of_length_le (by omega)
        have hne : ls ≠ [] := by intro e; rw [e] at hj; simp at hj
        have htold : Adz.told false [] (revH ls) = encL (txtR ls.reverse) := by rw [told_ok (revH_ok hls), revH_end ls hne]; rfl
        have hbl : (encL (txtR ls.reverse)).length ≤ 8000 := by
          have := (encL_len (txtR ls.reverse)).2
          rw [txtR_rev_len] at this
          omega
        refine ⟨{ lineStart E (tx ls[j]) with steps := E.steps + 3, next := 3, sp := revH (ls.take (j + 1)), hold := revH (ls.take (j + 1)), queue := [], out := encL (txtR ls.reverse) }, ?_, by show E.line + 1 = _; omega, e2, rfl, rfl, by show E.steps + 3 = _; omega, by rw [if_pos hlast]⟩
        refine cycleOk_prog hP E e2 hjX (by rw [hXl]; omega) (by rw [hXj]; exact hts) 3 { lineStart E (tx ls[j]) with steps := E.steps + 3, next := 3, sp := revH (ls.take (j + 1)), hold := revH (ls.take (j + 1)) } _ ?_ (Or.inr ⟨rfl, hr1, hr1, ?_, ?_, ?_⟩)
        · rw [hXj]
          exact turn_steps w0 eb X g _ hP ls hls hlines hb E j hj e1 (by omega) e4 1 _ ⟨_, hs3, rfl, Nat.le_refl _⟩
        · show (Adz.outs (Adz.told X.q E.out (revH (ls.take (j + 1)))) E.queue).length ≤ 8000
          rw [e3, hq, ho, htl, htold]
          exact hbl
        · show E.queue.length ≤ 100000
          rw [e3]; simp
        · show _ = ({ lineStart E (tx ls[j]) with steps := E.steps + 3, next := 3, sp := revH (ls.take (j + 1)), hold := revH (ls.take (j + 1)), queue := [], out := Adz.outs (Adz.told X.q E.out (revH (ls.take (j + 1)))) E.queue } : Adz.Es)
          rw [e3, hq, ho, htl, htold]
          rfl
      · have hm : decide (X.lines.length ≤ E.line + 1) = false := by rw [hXl, e1]; simp; omega
        have hs3 := stepOk_do hat (by simp) (by simp) (by show decide (X.lines.length ≤ E.line + 1) ≠ true; rw [hm]; decide) _ (doOk_d hat rfl { lineStart E (tx ls[j]) with steps := E.steps + 3, next := 3, sp := revH (ls.take (j + 1)), hold := revH (ls.take (j + 1)) } (by show (Adz.outs E.out E.queue).length ≤ 8000; rw [e3, ho]; simp [Adz.outs]) (by show E.queue.length ≤ 100000; rw [e3]; simp))
        refine ⟨{ lineStart E (tx ls[j]) with steps := E.steps + 3, next := 3, sp := revH (ls.take (j + 1)), hold := revH (ls.take (j + 1)), queue := [], out := Adz.outs E.out E.queue, drop := true }, ?_, by show E.line + 1 = _; omega, e2, rfl, rfl, by show E.steps + 3 = _; omega, by rw [if_neg hlast]; show Adz.outs E.out E.queue = []; rw [e3, ho]; rfl⟩
        refine cycleOk_prog hP E e2 hjX (by rw [hXl]; omega) (by rw [hXj]; exact hts) 3 _ _ ?_ (Or.inl ⟨rfl, rfl⟩)
        rw [hXj]
        exact turn_steps w0 eb X g _ hP ls hls hlines hb E j hj e1 (by omega) e4 1 _ ⟨_, hs3, rfl, Nat.le_refl _⟩)
    (fun E ⟨e1, _⟩ => Or.inr (by rw [hXl]; omega)) ls.length 0 E0 (by omega) ⟨hE0.1, hE0.2.1, hE0.2.2.1, by rw [hE0.2.2.2.1]; rfl, by rw [hE0.2.2.2.2.1], by
      rw [hE0.2.2.2.2.2]
      split
      · rename_i h
        have : ls = [] := List.eq_nil_of_length_eq_zero h.symm
        rw [this]
        rfl
      · rfl⟩
  refine ⟨_, E', h1, ?_⟩
  rw [h2.2.2.2.2.2, if_pos rfl]

theorem cycles_tur2 (w0 : World) (eb : Nat) (X : Adz.Fx) (g : Nat) (hP : ProgOk w0 eb X g turC2) (hq : X.q = true) (ls : List (List Int)) (hls : ∀ l ∈ ls, Ln l) (h40 : ls.length ≤ 40) (hlines : X.lines = ls.map tx) (hb : (txtR ls).length ≤ 400) (E0 : Adz.Es) (hE0 : E0.line = 0 ∧ E0.over = false ∧ E0.queue = [] ∧ E0.hold = [] ∧ E0.steps = 0 ∧ E0.out = []) :
    ∃ k E', CyclesOk w0 eb X k E0 E' ∧ E'.out = encL (txtR ls.reverse) := by
  have hXl : X.lines.length = ls.length := by rw [hlines, List.length_map]
  have hbl : (encL (txtR ls.reverse)).length ≤ 8000 := by
    have := (encL_len (txtR ls.reverse)).2
    rw [txtR_rev_len] at this
    omega
  obtain ⟨E', h1, h2⟩ := cycles_by w0 eb X ls.length (fun j E => E.line = j ∧ E.over = false ∧ E.queue = [] ∧ E.hold = revH (ls.take j) ∧ E.steps = 3 * j ∧ E.out = if j = ls.length then encL (txtR ls.reverse) else [])
    (fun j E hj ⟨e1, e2, e3, e4, e5, e6⟩ => by
      have hlj := hls ls[j] (List.getElem_mem hj)
      have hr1 := revH_len _ 400 (Nat.le_trans (txtR_take_len ls (j + 1)) hb)
      have hjX : E.line < X.lines.length := by rw [hXl]; omega
      have hXj : X.lines[E.line] = tx ls[j] := by
        have : X.lines[E.line]? = some (tx ls[j]) := by rw [hlines, List.getElem?_map, e1, List.getElem?_eq_getElem hj]; rfl
        exact (List.getElem?_eq_some_iff.1 this).2
      have ho : E.out = [] := by rw [e6, if_neg (by omega)]
      have hts : (tx ls[j]).size ≤ 3000 := by
        have h1 : (txtR (ls.take (j + 1))).length ≤ 400 := Nat.le_trans (txtR_take_len ls (j + 1)) hb
        rw [← List.take_append_getElem hj, txtR_snoc, List.length_append, List.length_append] at h1
        have := tx_bound ls[j] 400 (by omega)
        omega
      have hat := hP.at { lineStart E (tx ls[j]) with steps := E.steps + 2, next := 2, sp := revH (ls.take (j + 1)), hold := revH (ls.take (j + 1)) } 2 _ rfl rfl (by show E.steps + 2 < 5000; omega) hr1 hr1
      have hqout : ∀ o sp, Adz.told X.q o sp = o := fun o sp => by rw [hq]; rfl
      by_cases hlast : j + 1 = ls.length
      · have hm : decide (X.lines.length ≤ E.line + 1) = true := by rw [hXl, e1]; simp; omega
        have htl : ls.take (j + 1) = ls := List.take_of_length_le (by omega)
        have hne : ls ≠ [] := by intro e; rw [e] at hj; simp at hj
        have htold : Adz.told false [] (revH ls) = encL (txtR ls.reverse) := by rw [told_ok (revH_ok hls), revH_end ls hne]; rfl
        have hs3 := stepOk_do hat (by simp) (by simp) (by show decide (X.lines.length ≤ E.line + 1) ≠ false; rw [hm]; decide) _ (doOk_p hat rfl { lineStart E (tx ls[j]) with steps := E.steps + 3, next := 3, sp := revH (ls.take (j + 1)), hold := revH (ls.take (j + 1)) } (by show (Adz.told false E.out (revH (ls.take (j + 1)))).length ≤ 8000; rw [ho, htl, htold]; exact hbl))
        refine ⟨{ lineStart E (tx ls[j]) with steps := E.steps + 3, next := 3, sp := revH (ls.take (j + 1)), hold := revH (ls.take (j + 1)), queue := [], out := encL (txtR ls.reverse) }, ?_, by show E.line + 1 = _; omega, e2, rfl, rfl, by show E.steps + 3 = _; omega, by rw [if_pos hlast]⟩
        refine cycleOk_prog hP E e2 hjX (by rw [hXl]; omega) (by rw [hXj]; exact hts) 3 _ _ (by rw [hXj]; exact turn_steps w0 eb X g _ hP ls hls hlines hb E j hj e1 (by omega) e4 1 _ ⟨_, hs3, rfl, Nat.le_refl _⟩) (Or.inr ⟨rfl, hr1, hr1, ?_, ?_, ?_⟩)
        · show (Adz.outs (Adz.told X.q (Adz.told false E.out (revH (ls.take (j + 1)))) (revH (ls.take (j + 1)))) E.queue).length ≤ 8000
          rw [e3, hqout, ho, htl, htold]
          exact hbl
        · show E.queue.length ≤ 100000
          rw [e3]; simp
        · show _ = ({ lineStart E (tx ls[j]) with steps := E.steps + 3, next := 3, sp := revH (ls.take (j + 1)), hold := revH (ls.take (j + 1)), queue := [], out := Adz.outs (Adz.told X.q (Adz.told false E.out (revH (ls.take (j + 1)))) (revH (ls.take (j + 1)))) E.queue } : Adz.Es)
          rw [e3, hqout, ho, htl, htold]
          rfl
      · have hm : decide (X.lines.length ≤ E.line + 1) = false := by rw [hXl, e1]; simp; omega
        have hs3 := stepOk_not hat (by simp) (by simp) hm (show (112 : Int) ≠ 123 by decide)
        refine ⟨{ lineStart E (tx ls[j]) with steps := E.steps + 3, next := 3, sp := revH (ls.take (j + 1)), hold := revH (ls.take (j + 1)), queue := [] }, ?_, by show E.line + 1 = _; omega, e2, rfl, rfl, by show E.steps + 3 = _; omega, by rw [if_neg hlast]; exact ho⟩
        refine cycleOk_prog hP E e2 hjX (by rw [hXl]; omega) (by rw [hXj]; exact hts) 3 { lineStart E (tx ls[j]) with steps := E.steps + 3, next := 3, sp := revH (ls.take (j + 1)), hold := revH (ls.take (j + 1)) } _ ?_ (Or.inr ⟨rfl, hr1, hr1, ?_, ?_, ?_⟩)
        · rw [hXj]
          exact turn_steps w0 eb X g _ hP ls hls hlines hb E j hj e1 (by omega) e4 1 _ ⟨_, hs3, rfl, Nat.le_refl _⟩
        · show (Adz.outs (Adz.told X.q E.out (revH (ls.take (j + 1)))) E.queue).length ≤ 8000
          rw [e3, hqout, ho]
          simp [Adz.outs]
        · show E.queue.length ≤ 100000
          rw [e3]; simp
        · show _ = ({ lineStart E (tx ls[j]) with steps := E.steps + 3, next := 3, sp := revH (ls.take (j + 1)), hold := revH (ls.take (j + 1)), queue := [], out := Adz.outs (Adz.told X.q E.out (revH (ls.take (j + 1)))) E.queue } : Adz.Es)
          rw [e3, hqout]
          rfl)
    (fun E ⟨e1, _⟩ => Or.inr (by rw [hXl]; omega)) ls.length 0 E0 (by omega) ⟨hE0.1, hE0.2.1, hE0.2.2.1, by rw [hE0.2.2.2.1]; rfl, by rw [hE0.2.2.2.2.1], by
      rw [hE0.2.2.2.2.2]
      split
      · rename_i h
        have : ls = [] := List.eq_nil_of_length_eq_zero h.symm
        rw [this]
        rfl
      · rfl⟩
  refine ⟨_, E', h1, ?_⟩
  rw [h2.2.2.2.2.2, if_pos rfl]

set_option maxRecDepth 100000 in
/-- What Turned asks of its two scripts. -/
theorem tur_edits (w : World) (ht : Tabs w) (ls : List (List Int)) (h : ∀ l ∈ ls, LineOk l) (h40 : ls.length ≤ 40) (hb : (txtR ls).length ≤ 400) :
    (Calls Tryz.prog 20 #[.string ⟨#[49, 33, 71, 59, 104, 59, 36, 33, 100]⟩, .string (tx (txtR ls)), .bool false] w fun e w' => e = .returned (.tuple #[.string (tx (txtR ls.reverse)), .bool true]) ∧ Only (fun _ => False) w w') ∧
    (Calls Tryz.prog 20 #[.string ⟨#[49, 33, 71, 10, 104, 10, 36, 112]⟩, .string (tx (txtR ls.reverse)), .bool true] w fun e w' => e = .returned (.tuple #[.string (tx (txtR ls)), .bool true]) ∧ Only (fun _ => False) w w') := by
  have hr : ∀ l ∈ ls.reverse, LineOk l := fun l hl => h l (by simpa using hl)
  have hr40 : ls.reverse.length ≤ 40 := by rw [List.length_reverse]; exact h40
  constructor
  · have := editP ⟨#[49, 33, 71, 59, 104, 59, 36, 33, 100]⟩ _ _ (dec_of (by decide +kernel)) 5 ⟨9, turC, [], []⟩ walks_tur (by decide) rfl (by decide) (by decide) (by decide) w _ false _ (textOk_l ht h h40) (encL (txtR ls.reverse)) (fun u eb X g hP hq hlines _ => cycles_tur u eb X g hP hq ls (lineOks h).1 h40 hlines hb _ ⟨rfl, rfl, rfl, rfl, rfl, rfl⟩)
    exact this
  · have := editP ⟨#[49, 33, 71, 10, 104, 10, 36, 112]⟩ _ _ (dec_of (by decide +kernel)) 5 ⟨8, turC2, [], []⟩ walks_tur2 (by decide) rfl (by decide) (by decide) (by decide) w _ true _ (textOk_l ht hr hr40) (encL (txtR ls.reverse.reverse)) (fun u eb X g hP hq hlines _ => cycles_tur2 u eb X g hP hq ls.reverse (lineOks hr).1 hr40 hlines (by rw [txtR_rev_len]; exact hb) _ ⟨rfl, rfl, rfl, rfl, rfl, rfl⟩)
    rw [List.reverse_reverse] at this
    exact this
end Go.Proofs.YtbiobhghnldckaaGreatDoor
