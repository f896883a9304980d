/- Proved: the matches in a space are handed on one after the other, whatever the caller does with them. Conditions: the looking lies in memory; a round of the caller's turns no block of its. -/
import Derived.Test.YtbiobhghnldckaaGreatDoorMSpec2
import Derived.Test.YtbiobhghnldckaaGreatDoorInR
namespace Go.Proofs.YtbiobhghnldckaaGreatDoor
open Go.RowKit
set_option linter.unusedVariables false
attribute [local go_sem] Oper.semAt_some

/-- What a round of the caller's may turn: its own boxes below B0, rows of runes, and the loop's record. -/
def KpB (B0 : Nat) (W W' : World) : Prop :=
  ∃ S : Nat → Prop, Only S W W' ∧ ∀ c, S c → (c < B0 ∧ (Typ W c 3 ∨ Typ W c 4 ∨ Typ W c 103)) ∨ Typ W c 21 ∨ ∃ r, W.heap[c]? = some (.loop r)
theorem KpB.trans {B0 : Nat} {A B C : World} (h : KpB B0 A B) (k : KpB B0 B C) : KpB B0 A C := by
  obtain ⟨S, o1, h1⟩ := h
  obtain ⟨T, o2, h2⟩ := k
  refine ⟨fun c => S c ∨ (T c ∧ ¬ S c ∧ c < A.heap.size), o1.trans o2 (fun c e => Or.inl e) (fun c hc e => ?_), fun c hc => ?_⟩
  · by_cases hs : S c
    · exact Or.inl hs
    · exact Or.inr ⟨e, hs, hc⟩
  · rcases hc with hc | ⟨ht, hn, hl⟩
    · exact h1 c hc
    · have e := o1.block c hl hn
      have ty : ∀ {T}, Typ B c T → Typ A c T := fun ⟨cur, fz, hb⟩ => ⟨cur, fz, e.symm.trans hb⟩
      rcases h2 c ht with ⟨g1, g2⟩ | g | ⟨r, hr⟩
      · exact Or.inl ⟨g1, g2.imp ty (Or.imp ty ty)⟩
      · exact Or.inr (Or.inl (ty g))
      · exact Or.inr (Or.inr ⟨r, e.symm.trans hr⟩)
theorem KpB.put {B0 L : Nat} {W : World} {r : Loop} (o : Obj) (h : W.heap[L]? = some (.loop r)) : KpB B0 W (W.putObj L o) :=
  ⟨(· = L), only_putObj W L o, fun c e => by subst e; exact Or.inr (Or.inr ⟨r, h⟩)⟩
theorem KpB.quiet {B0 : Nat} {W W' : World} (h : Only (fun _ => False) W W') : KpB B0 W W' := ⟨_, h, fun _ e => e.elim⟩
theorem KpB.only {B0 : Nat} {W W' : World} (h : KpB B0 W W') : ∃ S : Nat → Prop, Only S W W' ∧ (∀ c T, Typ W c T → T ≠ 3 → T ≠ 4 → T ≠ 103 → T ≠ 21 → ¬ S c) ∧ (∀ c, B0 ≤ c → Typ W c 3 → ¬ S c) := by
  obtain ⟨S, o, h⟩ := h
  refine ⟨S, o, fun c T hT n1 n2 n3 n4 hs => ?_, fun c hc hT hs => ?_⟩
  · rcases h c hs with ⟨_, g | g | g⟩ | g | ⟨r, hr⟩
    · exact n1 (hT.one g)
    · exact n2 (hT.one g)
    · exact n3 (hT.one g)
    · exact n4 (hT.one g)
    · obtain ⟨cur, fz, e⟩ := hT
      rw [hr] at e
      cases e
  · rcases h c hs with ⟨g, _⟩ | g | ⟨r, hr⟩
    · omega
    · exact absurd (hT.one g) (by decide)
    · obtain ⟨cur, fz, e⟩ := hT
      rw [hr] at e
      cases e
def leftV (n : Nat) : Value → Value → Nat
  | .int _ e, .int _ a => Adz.left n e a
  | _, _ => 0

/-- The looking and all that it reads lie in memory. -/
structure Look (W : World) (sb ab base : Nat) (iv : Value) (ra : Option Addr) (rc : Nat) (sp : List Int) (xs : List Adz.Item) : Prop where
  srch : Srch W sb iv (.slice ra sp.length rc) (.slice (some ⟨ab, 0, none⟩) (xs.length + 1) (xs.length + 1))
  mat : Mat W ab base (xs.length + 1) sp.length (Adz.fin sp xs)
  items : ItemsAt W iv xs
theorem Look.step {W W' : World} {sb ab base : Nat} {iv : Value} {ra : Option Addr} {rc : Nat} {sp : List Int} {xs : List Adz.Item} (h : Look W sb ab base iv ra rc sp xs) (o : Only (· = sb) W W') (s : Srch W' sb iv (.slice ra sp.length rc) (.slice (some ⟨ab, 0, none⟩) (xs.length + 1) (xs.length + 1))) : Look W' sb ab base iv ra rc sp xs := by
  have ty : ∀ {T : TypeId} {c : Nat}, Typ W c T → T ≠ 258 → ¬ c = sb := fun hc hT e => by subst e; exact hT (hc.one h.srch.typ)
  exact ⟨s, h.mat.keeps o (fun c hc => ty hc (by decide)) (fun c hc => ty hc (by decide)), h.items.keeps o (fun c hc => ty hc (by decide)) (fun c hc => ty hc (by decide))⟩
theorem Look.quiet {W W' : World} {sb ab base : Nat} {iv : Value} {ra : Option Addr} {rc : Nat} {sp : List Int} {xs : List Adz.Item} (h : Look W sb ab base iv ra rc sp xs) (o : Only (fun _ => False) W W') : Look W' sb ab base iv ra rc sp xs :=
  ⟨h.srch.keeps o id, h.mat.keeps o (fun _ _ => id) (fun _ _ => id), h.items.keeps o (fun _ _ => id) (fun _ _ => id)⟩
theorem Look.round {W W' : World} {B0 sb ab base : Nat} {iv : Value} {ra : Option Addr} {rc : Nat} {sp : List Int} {xs : List Adz.Item} (h : Look W sb ab base iv ra rc sp xs) (hb : B0 ≤ base) (k : KpB B0 W W') : Look W' sb ab base iv ra rc sp xs := by
  obtain ⟨S, o, g1, g2⟩ := k.only
  refine ⟨h.srch.keeps o (g1 _ _ h.srch.typ (by decide) (by decide) (by decide) (by decide)), ?_, h.items.keeps o (fun c hc => g1 c _ hc (by decide) (by decide) (by decide) (by decide)) (fun c hc => g1 c _ hc (by decide) (by decide) (by decide) (by decide))⟩
  have m := h.mat
  refine ⟨m.typ.keeps o (g1 _ _ m.typ (by decide) (by decide) (by decide) (by decide)), fun j hj => o.keeps (m.cell j hj) (g1 _ _ m.typ (by decide) (by decide) (by decide) (by decide)), fun j hj => (m.rows j hj).keeps o (g2 _ (by omega) (m.rows j hj)), fun j t hj ht => ?_⟩
  have n := g2 (base + j) (by omega) (m.rows j hj)
  exact ⟨o.keeps (m.place j t hj ht).1 n, o.keepsFrozen (m.place j t hj ht).1 (m.place j t hj ht).2 n⟩

set_option maxRecDepth 100000 in
set_option maxHeartbeats 3200000 in
theorem eachMatch_in (xs : List Adz.Item) (sp : List Int) (sb ab base : Nat) (iv : Value) (ra : Option Addr) (rc B0 : Nat) (hk : xs.length ≤ 1000) (hf : ∀ x ∈ xs, x.spans.length ≤ 1000) (hn : sp.length ≤ 1000000) (hg : ∀ x ∈ xs, 1 ≤ x.group ∧ x.group ≤ 9 ∨ (x.kind ≠ 2 ∧ x.kind ≠ 3))
    (l : Nat) (J Jx : List (List Int) → World → Prop) (hJ : LetsT 258 B0 J) (hJx : LetsT 258 B0 Jx)
    (hY : ∀ pre x W1, J pre W1 → (pre ++ [x]) <+: Adz.matches_ sp xs → YieldAt Fence.wide 0 Tryz.prog l #[.agg (x.map (.int .i64)).toArray] W1 fun e W' => (e = .returned (.bool true) ∧ J (pre ++ [x]) W' ∧ KpB B0 W1 W') ∨ (e = .returned (.bool false) ∧ Jx (pre ++ [x]) W'))
    (W : World) (hL : Look W sb ab base iv ra rc sp xs) (hb1 : B0 ≤ base) (hsb : B0 ≤ sb) (h0 : J [] W) :
    CallsIn Fence.wide 0 Tryz.prog 191 #[.pointer (some ⟨sb, 0, none⟩), .func (.yield l) #[] #[]] W fun e W' => (∃ v, e = .returned v) ∧
      ((∃ ys, ys = Adz.matches_ sp xs ∧ J ys W') ∨ (∃ pre, (pre <+: Adz.matches_ sp xs ∧ pre ≠ []) ∧ Jx pre W')) := by
  refine callsIn_of_wp Tryz.func191 rfl trivial ?_ rfl
  simp only [Tryz.ntmps191, List.size_toArray, List.length_cons, List.length_nil, Nat.reduceAdd, Nat.reduceSub, Array.replicate_succ, Array.replicate_zero, List.push_toArray, List.append_toArray, List.nil_append, List.cons_append]
  have c0 := firstFrom_calls sb ab base xs.length sp.length iv ra rc (Adz.fin sp xs) W hL.srch hL.mat (Adz.row0 sp xs) (Adz.row0_len sp xs) (fun t _ => Adz.row0_get sp xs t) hn 0 (by omega)
  gi_wp2
  refine ⟨trivial, rfl, (callsIn_wide.2 c0).mono ?_⟩
  clear c0
  rintro e w1 ⟨rfl, ho1, hs1⟩
  have hi219 : (Tryz.prog.info? 219).map (·.size) = some 20 := by kernel_rfl
  have hI : Hid ((Tryz.prog.info? 219).map (·.size) = some 20) := hi219
  clear hi219
  have hM1 : Hid (Adz.matches_ sp xs = [] ++ Adz.eachGo (Adz.row0 sp xs) (Adz.matchAt (Adz.allEnds sp xs) xs) (2 * sp.length + 3) (Adz.firstFrom (Adz.row0 sp xs) 0) (-1)) := by show _ = _; rfl
  have hA1 : Hid (Adz.firstFrom (Adz.row0 sp xs) 0 = -1 ∨ ∃ k : Nat, Adz.firstFrom (Adz.row0 sp xs) 0 = k ∧ k ≤ sp.length ∧ Adz.fin sp xs 0 k ≠ -1) := by
    rcases Adz.first_cases sp xs 0 (by omega) with h | ⟨k, h1, _, h3, h4⟩
    · exact Or.inl h
    · exact Or.inr ⟨k, h1, h3, h4⟩
  have hF1 : Hid (Adz.left sp.length (-1) (Adz.firstFrom (Adz.row0 sp xs) 0) ≤ 2 * sp.length + 3) := by
    show _ ≤ _
    rcases hA1.out with h | ⟨k, h, _, _⟩
    · rw [h, Adz.left_none]; omega
    · rw [h, Adz.left_nat]; split <;> omega
  have hL1 := hL.step ho1 hs1
  have hJ1 : J [] w1 := hJ _ _ _ h0 (ho1.mono (fun c _ e => by subst e; exact ⟨hL.srch.typ, hsb⟩))
  clear ho1 hs1 hL h0
  generalize Adz.firstFrom (Adz.row0 sp xs) 0 = a0 at *
  gi_wp2
  gi_loopw [4, 5] (fun v u wr => ∃ (pre : List (List Int)) (k : Nat) (ended at_ : Int), v = .int .i64 ended ∧ u = .int .i64 at_ ∧ Hid (Adz.matches_ sp xs = pre ++ Adz.eachGo (Adz.row0 sp xs) (Adz.matchAt (Adz.allEnds sp xs) xs) k at_ ended) ∧ Hid (Adz.left sp.length ended at_ ≤ k) ∧ Hid (at_ = -1 ∨ ∃ k : Nat, at_ = k ∧ k ≤ sp.length ∧ Adz.fin sp xs 0 k ≠ -1) ∧ Hid (Look wr sb ab base iv ra rc sp xs) ∧ Hid (J pre wr)) (fun v u wr => leftV sp.length v u)
  case atStart => exact ⟨[], _, -1, a0, rfl, rfl, hM1, hF1, hA1, hL1, hJ1⟩
  case round =>
    clear hM1 hF1 hA1 hL1 hJ1
    obtain ⟨pre, k, ended, at_, rfl, rfl, hM, hF, hA, h1, h2⟩ := hrel
    have hL : Look wr sb ab base iv ra rc sp xs := h1
    have hJr : J pre wr := h2
    clear h1 h2
    rcases hA.out with rfl | ⟨a, rfl, ha, hfa⟩
    · have hfin : Hid (Adz.matches_ sp xs = pre) := by
        show _ = _
        rw [hM.out]
        cases k <;> simp [Adz.eachGo]
      clear hM hF hA
      gi_wp2
      go_end0
      exact ⟨⟨_, rfl⟩, .inl ⟨pre, hfin.out.symm, hJr⟩⟩
    · have d1 : ((a : Int) != -1) = true := by simp
      have d2 : decide ((a : Int) = -1) = false := by simp
      have c1 := matchAt_calls xs sb ab base wr iv ra rc sp.length hL.srch hL.items hk hf sp rfl hn hg hL.mat a ha hfa
      have hlen := Adz.matchAt_len (Adz.allEnds sp xs) xs a
      have hfrom := Adz.matchAt_from (Adz.allEnds sp xs) xs a
      obtain ⟨to_, hto, ht1, ht2⟩ := Adz.matchAt_to sp xs a ha hfa
      have hskip := Adz.each_skip sp xs k a ended ha hF.out
      have hyield := Adz.each_yield sp xs k a ended ha hF.out to_ hto ht1 ht2
      have HSK : Hid _ := hskip
      have HYI : Hid _ := hyield
      clear hskip hyield hA
      generalize hm : Adz.matchAt (Adz.allEnds sp xs) xs a = m at *
      gi_wp2
      refine ⟨trivial, rfl, (callsIn_wide.2 c1).mono ?_⟩
      clear c1
      rintro e w2 ⟨rfl, ho2, hs2⟩
      have hL2 := hL.step ho2 hs2
      have hJ2 : J pre w2 := hJ _ _ _ hJr (ho2.mono (fun c _ e => by subst e; exact ⟨hL.srch.typ, hsb⟩))
      clear ho2 hs2 hL hJr
      have hi2 : (Tryz.prog.info? 219).map (·.size) = some (m.map (Value.int .i64)).toArray.size := by rw [List.size_toArray, List.length_map, hlen]; exact hI.out
      have hz2 : ((m.map (Value.int .i64)).toArray.all (·.oneCell')) = true := all_oneCell_toArray (by intro v hv; simp at hv; obtain ⟨a, _, rfl⟩ := hv; rfl)
      have hMn := MatchAt.new w2
      have hth := hMn.there
      rw [show (20 : Nat) = (m.map (Value.int .i64)).toArray.size by rw [List.size_toArray, List.length_map, hlen]] at hth
      have HI2 : Hid _ := hi2
      have HTH : Hid _ := hth
      clear hi2 hth
      gi_wp2_with (refine wpListIn_store_mid rfl (by rfl) 219 _ _ (by rfl) w2.heap.size 0 (m.map (Value.int .i64)).toArray (by rfl) (by rfl) HTH.out HI2.out hz2 ?_)
      have hM3 := hMn.store m hlen
      have o3 : Only (fun _ => False) w2 ((w2.alloc (.cells zeros20 219)).setCells w2.heap.size 0 (m.map (.int .i64))) := by
        refine ((Only.refl _ w2).alloc _).trans (setCells_only w2.heap.size _ _ 0) (fun _ e => e) (fun b hb e => by omega)
      unfold zeros20 at hM3 o3
      generalize ((w2.alloc (.cells _ 219)).setCells w2.heap.size 0 (m.map (.int .i64))) = w3 at *
      have hL3 := hL2.quiet o3
      have hJ3 : J pre w3 := hJ _ _ _ hJ2 (o3.mono (fun _ _ e => e.elim))
      have m0 : w3.cell? ⟨w2.heap.size, 0, none⟩ = some (.int .i64 a) := by
        have := hM3.cells 0 (.int .i64 a) (by rw [List.getElem?_map, ← hfrom, List.getD_eq_getElem?_getD, List.getElem?_eq_getElem (by omega)]; rfl)
        rwa [Nat.zero_add] at this
      have m1 : w3.cell? ⟨w2.heap.size, 1, none⟩ = some (.int .i64 to_) := by
        have := hM3.cells 1 (.int .i64 to_) (by rw [List.getElem?_map, ← hto, List.getD_eq_getElem?_getD, List.getElem?_eq_getElem (by omega)]; rfl)
        rwa [Nat.zero_add] at this
      have hmt := hM3.typ
      clear hMn o3 HTH HI2 hz2 hL2 hJ2
      have c2 := empty_calls w2.heap.size a to_ w3 m0 m1
      refine ⟨trivial, rfl, (callsIn_wide.2 c2).mono ?_⟩
      clear c2
      rintro e w4 ⟨rfl, ho4⟩
      have hL4 := hL3.quiet ho4
      have hJ4 : J pre w4 := hJ _ _ _ hJ3 (ho4.mono (fun _ _ e => e.elim))
      have hM4 := hM3.keeps ho4 id
      have m14 := ho4.keeps m1 id
      clear hL3 hJ3 hM3 m0 m1 ho4
      by_cases hemp : (a : Int) = to_ ∧ (a : Int) = ended
      · obtain ⟨e1, e2⟩ := hemp
        have b1 : ((a : Int) == to_) = true := by simp [e1]
        have b2 : ((a : Int) == ended) = true := by simp [e2]
        obtain ⟨k', g1, g2, g3⟩ := HSK.out (by rw [hfrom, hto, e1]) e2
        rw [b1]
        have hd2 : decide ((a : Int) = ended) = true := by simp [e2]
        have hw : IntKind.i64.wrap ((a : Int) + 1) = (a : Int) + 1 := by rw [IntKind.wrap_i64]; omega
        have c5 := firstFrom_calls sb ab base xs.length sp.length iv ra rc (Adz.fin sp xs) w4 hL4.srch hL4.mat (Adz.row0 sp xs) (Adz.row0_len sp xs) (fun t _ => Adz.row0_get sp xs t) hn (a + 1) (by omega)
        rw [show (((a + 1 : Nat)) : Int) = (a : Int) + 1 by omega] at c5
        have hA5 : Hid (Adz.firstFrom (Adz.row0 sp xs) (a + 1) = -1 ∨ ∃ k : Nat, Adz.firstFrom (Adz.row0 sp xs) (a + 1) = k ∧ k ≤ sp.length ∧ Adz.fin sp xs 0 k ≠ -1) := by
          rcases Adz.first_cases sp xs (a + 1) (by omega) with h | ⟨k, h1, _, h3, h4⟩
          · exact Or.inl h
          · exact Or.inr ⟨k, h1, h3, h4⟩
        have G1 : Hid _ := g1
        have G2 : Hid _ := g2
        have G3 : Hid _ := g3
        have E2 : Hid _ := e2
        clear g1 g2 g3 e1 e2 HSK HYI
        generalize Adz.firstFrom (Adz.row0 sp xs) (a + 1) = a5 at *
        gi_wp2
        refine ⟨trivial, rfl, (callsIn_wide.2 c5).mono ?_⟩
        clear c5
        rintro e w5 ⟨rfl, ho5, hs5⟩
        have hL5 := hL4.step ho5 hs5
        have hJ5 : J pre w5 := hJ _ _ _ hJ4 (ho5.mono (fun c _ e => by subst e; exact ⟨hL4.srch.typ, hsb⟩))
        clear ho5 hs5 hL4 hJ4
        gi_wp2
        go_roundw
        case rel => exact ⟨pre, k', ended, a5, rfl, rfl, by show _ = _; rw [hM.out, G1.out], G2, hA5, hL5, hJ5⟩
        case measure => exact G3.out
      · obtain ⟨k', g1, g2, g3⟩ := HYI.out hemp
        have hx : (pre ++ [m]) <+: Adz.matches_ sp xs := ⟨Adz.eachGo (Adz.row0 sp xs) (Adz.matchAt (Adz.allEnds sp xs) xs) k' (Adz.firstFrom (Adz.row0 sp xs) to_) to_, by rw [hM.out, g1]; simp⟩
        have hYr := hY pre m w4 hJ4 hx
        obtain ⟨fn, tmps, assign, body, hy, hR⟩ := hYr
        have hbb : (((a : Int) == to_) = true ∧ ((a : Int) == ended) = false) ∨ ((a : Int) == to_) = false := by
          by_cases e1 : (a : Int) = to_
          · exact Or.inl ⟨by simp [e1], by simp; exact fun e2 => hemp ⟨e1, e2⟩⟩
          · exact Or.inr (by simp [e1])
        have c5 := fun (w5 : World) (hL5 : Look w5 sb ab base iv ra rc sp xs) => firstFrom_calls sb ab base xs.length sp.length iv ra rc (Adz.fin sp xs) w5 hL5.srch hL5.mat (Adz.row0 sp xs) (Adz.row0_len sp xs) (fun t _ => Adz.row0_get sp xs t) hn to_ (by omega)
        have hA5 : Hid (Adz.firstFrom (Adz.row0 sp xs) to_ = -1 ∨ ∃ k : Nat, Adz.firstFrom (Adz.row0 sp xs) to_ = k ∧ k ≤ sp.length ∧ Adz.fin sp xs 0 k ≠ -1) := by
          rcases Adz.first_cases sp xs to_ (by omega) with h | ⟨k, h1, _, h3, h4⟩
          · exact Or.inl h
          · exact Or.inr ⟨k, h1, h3, h4⟩
        have hi1 : (Tryz.prog.info? 219).map (·.size) = some (m.map (Value.int .i64)).length := by rw [List.length_map, hlen]; exact hI.out
        have HI1 : Hid _ := hi1
        have hmc := hM4.cells
        have G1 : Hid _ := g1
        have G2 : Hid _ := g2
        have G3 : Hid _ := g3
        have HX : Hid _ := hx
        clear g1 g2 g3 HSK HYI hi1 hx hemp
        rcases hbb with ⟨b1, b2⟩ | b1
        · rw [b1]
          have hd2 : decide ((a : Int) = ended) = false := by simpa using b2
          gi_wp2_with (refine wpListIn_load_mid rfl (by rfl) 219 _ (by rfl) w2.heap.size 0 (by rfl) (m.map (Value.int .i64)) _ hmc Tryz.underlying219 (by rfl) HI1.out ?_)
          refine ⟨rfl, hR.mono ?_⟩
          clear hR hy
          rintro e w5 (⟨rfl, hJ5, hk5⟩ | ⟨rfl, hJx5⟩)
          · have hL5 := hL4.round hb1 hk5
            obtain ⟨S, o5, g5, _⟩ := hk5.only
            have m15 := o5.keeps m14 (g5 _ _ hM4.typ (by decide) (by decide) (by decide) (by decide))
            clear o5 g5 hk5 hL4 hJ4 hM4 m14 hmc
            have c6 := c5 w5 hL5
            clear c5
            generalize Adz.firstFrom (Adz.row0 sp xs) to_ = a5 at *
            gi_wp2
            refine ⟨trivial, rfl, (callsIn_wide.2 c6).mono ?_⟩
            clear c6
            rintro e w6 ⟨rfl, ho6, hs6⟩
            have hL6 := hL5.step ho6 hs6
            have hJ6 : J (pre ++ [m]) w6 := hJ _ _ _ hJ5 (ho6.mono (fun c _ e => by subst e; exact ⟨hL5.srch.typ, hsb⟩))
            clear ho6 hs6 hL5 hJ5
            gi_wp2
            go_roundw
            case rel => exact ⟨pre ++ [m], k', to_, a5, rfl, rfl, by show _ = _; rw [hM.out, G1.out]; simp, G2, hA5, hL6, hJ6⟩
            case measure => exact G3.out
          · gi_wp2
            refine bodyPost_ret (results_none rfl _ _ _) rfl ?_
            exact ⟨⟨_, rfl⟩, .inr ⟨pre ++ [m], ⟨HX.out, by simp⟩, hJx5⟩⟩
        · rw [b1]
          gi_wp2_with (refine wpListIn_load_mid rfl (by rfl) 219 _ (by rfl) w2.heap.size 0 (by rfl) (m.map (Value.int .i64)) _ hmc Tryz.underlying219 (by rfl) HI1.out ?_)
          refine ⟨rfl, hR.mono ?_⟩
          clear hR hy
          rintro e w5 (⟨rfl, hJ5, hk5⟩ | ⟨rfl, hJx5⟩)
          · have hL5 := hL4.round hb1 hk5
            obtain ⟨S, o5, g5, _⟩ := hk5.only
            have m15 := o5.keeps m14 (g5 _ _ hM4.typ (by decide) (by decide) (by decide) (by decide))
            clear o5 g5 hk5 hL4 hJ4 hM4 m14 hmc
            have c6 := c5 w5 hL5
            clear c5
            generalize Adz.firstFrom (Adz.row0 sp xs) to_ = a5 at *
            gi_wp2
            refine ⟨trivial, rfl, (callsIn_wide.2 c6).mono ?_⟩
            clear c6
            rintro e w6 ⟨rfl, ho6, hs6⟩
            have hL6 := hL5.step ho6 hs6
            have hJ6 : J (pre ++ [m]) w6 := hJ _ _ _ hJ5 (ho6.mono (fun c _ e => by subst e; exact ⟨hL5.srch.typ, hsb⟩))
            clear ho6 hs6 hL5 hJ5
            gi_wp2
            go_roundw
            case rel => exact ⟨pre ++ [m], k', to_, a5, rfl, rfl, by show _ = _; rw [hM.out, G1.out]; simp, G2, hA5, hL6, hJ6⟩
            case measure => exact G3.out
          · gi_wp2
            refine bodyPost_ret (results_none rfl _ _ _) rfl ?_
            exact ⟨⟨_, rfl⟩, .inr ⟨pre ++ [m], ⟨HX.out, by simp⟩, hJx5⟩⟩

set_option maxHeartbeats 1600000 in
theorem matches1_in (xs : List Adz.Item) (sp : List Int) (pb po : Nat) (iv : Value) (ra : Option Addr) (rc : Nat) (hk : xs.length ≤ 1000) (hf : ∀ x ∈ xs, x.spans.length ≤ 1000) (hn : sp.length ≤ 1000000) (hg : ∀ x ∈ xs, 1 ≤ x.group ∧ x.group ≤ 9 ∨ (x.kind ≠ 2 ∧ x.kind ≠ 3)) (b1 b2 : Nat)
    (l : Nat) (J Jx : List (List Int) → World → Prop) (B0 : Nat) (hJ : LetsT 258 B0 J) (hJx : LetsT 258 B0 Jx)
    (hY : ∀ pre x W1, J pre W1 → (pre ++ [x]) <+: Adz.matches_ sp xs → YieldAt Fence.wide 0 Tryz.prog l #[.agg (x.map (.int .i64)).toArray] W1 fun e W' => (e = .returned (.bool true) ∧ J (pre ++ [x]) W' ∧ KpB B0 W1 W') ∨ (e = .returned (.bool false) ∧ Jx (pre ++ [x]) W'))
    (W : World) (hB : B0 ≤ W.heap.size) (h1 : W.cell? ⟨b1, 0, none⟩ = some (.pointer (some ⟨pb, po, none⟩))) (h2 : W.cell? ⟨b2, 0, none⟩ = some (.slice ra sp.length rc)) (hp : W.cell? ⟨pb, po, none⟩ = some iv) (hi : ItemsAt W iv xs) (hr : SpaceAt W ra sp) (h0 : J [] W) :
    CallsIn Fence.wide 0 Tryz.prog 190 (#[.func (.yield l) #[] #[]] ++ #[.pointer (some ⟨b1, 0, none⟩), .pointer (some ⟨b2, 0, none⟩)]) W fun e W' => (∃ v, e = .returned v) ∧
      ((∃ ys, ys = Adz.matches_ sp xs ∧ J ys W') ∨ (∃ pre, (pre <+: Adz.matches_ sp xs ∧ pre ≠ []) ∧ Jx pre W')) := by
  have c0 := lookIn_calls xs pb po W iv hp hi hk hf ra rc sp hr hn
  refine callsIn_of_wp Tryz.func190 rfl trivial ?_ rfl
  simp only [Tryz.ntmps190, List.size_toArray, List.length_cons, List.length_nil, Nat.reduceAdd, Nat.reduceSub, Array.replicate_succ, Array.replicate_zero, List.push_toArray, List.append_toArray, List.nil_append, List.cons_append]
  gi_wp2
  refine ⟨trivial, rfl, (callsIn_wide.2 c0).mono ?_⟩
  clear c0
  rintro e w1 ⟨sb, ab, base, rfl, hs, hM, ho, hb, hb2⟩
  have hL : Look w1 sb ab base iv ra rc sp xs := ⟨hs, hM, hi.keeps ho (fun _ _ => id) (fun _ _ => id)⟩
  have hJ1 : J [] w1 := hJ _ _ _ h0 (ho.mono (fun _ _ e => e.elim))
  have c1 := eachMatch_in xs sp sb ab base iv ra rc B0 hk hf hn hg l J Jx hJ hJx hY w1 hL (by omega) (by omega) hJ1
  gi_wp2
  refine ⟨trivial, rfl, c1.mono ?_⟩
  clear c1
  rintro e w2 ⟨⟨v, rfl⟩, h⟩
  gi_wp2
  go_end0
  exact ⟨⟨_, rfl⟩, h⟩

set_option maxHeartbeats 800000 in
theorem matches_calls (pb po : Nat) (ra : Option Addr) (n rc : Nat) (w : World) :
    Calls Tryz.prog 164 #[.pointer (some ⟨pb, po, none⟩), .slice ra n rc] w fun e w' => ∃ b1 b2, e = .returned (.func (.func 190) #[] #[.pointer (some ⟨b1, 0, none⟩), .pointer (some ⟨b2, 0, none⟩)]) ∧
      w'.cell? ⟨b1, 0, none⟩ = some (.pointer (some ⟨pb, po, none⟩)) ∧ w'.cell? ⟨b2, 0, none⟩ = some (.slice ra n rc) ∧ w.heap.size ≤ b1 ∧ w.heap.size ≤ b2 ∧ Only (fun _ => False) w w' := by
  go_enter Tryz.func164, Tryz.ntmps164
  go_wp2
  go_ret
  refine ⟨_, _, rfl, by simp [go_sem], by simp [go_sem], by simp, by simp, ((Only.refl _ w).alloc _).alloc _⟩
end Go.Proofs.YtbiobhghnldckaaGreatDoor
