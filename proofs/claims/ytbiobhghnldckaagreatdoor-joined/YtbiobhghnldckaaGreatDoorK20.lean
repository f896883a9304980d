/- Proved: what one s makes of the space, as a row of its own. Conditions: the command and the editor lie in memory. -/
import Derived.Test.YtbiobhghnldckaaGreatDoorK8
import Derived.Deep.RegionHeld3
import Derived.Test.YtbiobhghnldckaaGreatDoorK16
namespace Go.Proofs.YtbiobhghnldckaaGreatDoor
open Go.RowKit
set_option linter.unusedVariables false
attribute [local go_sem] Oper.semAt_some

namespace Adz
/-- Whether an s finds what it replaces. -/
def hit (sp : List Int) (c : Cmd) : Bool := (substGo sp c.nth c.all c.repl (matches_ sp c.pat.items) 0 0 [] false).2.2
end Adz

set_option maxRecDepth 100000 in
set_option maxHeartbeats 3200000 in
theorem substitute_own (c : Adz.Cmd) (cb co : Nat) (eb : Nat) (w : World) (hc : SubAt w cb co c) (ra : Option Addr) (rc : Nat) (sp : List Int) (he : Typ w eb 108) (l : List Value) (hE : Cells w eb l) (hl4 : l[4]? = some (.slice ra sp.length rc)) (r8 : Bool) (hl8 : l[8]? = some (.bool r8)) (hpr : c.print = false) (hsl : Sl w ra sp) (hrc : sp.length ≤ rc)
    (hk : c.pat.items.length ≤ 1000) (hf : ∀ x ∈ c.pat.items, x.spans.length ≤ 1000) (hn : sp.length ≤ 1000000) (hg : ∀ x ∈ c.pat.items, 1 ≤ x.group ∧ x.group ≤ 9 ∨ (x.kind ≠ 2 ∧ x.kind ≠ 3)) (hpl : c.repl.length ≤ 1000)
    (hok : Adz.okRun sp c.nth c.all c.repl (Adz.matches_ sp c.pat.items) 0 0 []) :
    CallsIn Fence.wide 0 Tryz.prog 135 #[.pointer (some ⟨eb, 0, none⟩), .pointer (some ⟨cb, co, none⟩)] w fun e w' => (∃ v, e = .returned v) ∧ ∃ a' c' v8, Cells w' eb ((l.set 4 (.slice a' (Adz.subst sp c).length c')).set 8 v8) ∧ (∃ b, v8 = .bool b) ∧ Sl w' a' (Adz.subst sp c) ∧ (Adz.subst sp c).length ≤ c' ∧ Typ w' eb 108 ∧ Only (fun b => b = eb) w w' ∧ w'.shape? eb = w.shape? eb ∧ ((a' = ra ∧ c' = rc ∧ Adz.subst sp c = sp ∧ v8 = .bool r8 ∧ Adz.hit sp c = false) ∨ (v8 = .bool true ∧ Adz.hit sp c = true ∧ w'.ownsRow w.heap.size 21 1 (.slice a' (Adz.subst sp c).length c') (Adz.subst sp c).length ((Adz.subst sp c).map (.int .i32)))) := by
  have h4 : w.cell? ⟨eb, 4, none⟩ = some (.slice ra sp.length rc) := (hE 4 _ hl4).1
  obtain ⟨iv, i1, i2⟩ := hc.items
  refine callsIn_of_wp_marks Tryz.func135 rfl trivial ?_ rfl
  simp only [Tryz.ntmps135, List.size_toArray, List.length_cons, List.length_nil, Nat.reduceAdd, Nat.reduceSub, Array.replicate_succ, Array.replicate_zero, List.push_toArray, List.append_toArray, List.nil_append, List.cons_append]
  gi_wp2
  have o0 : Only (fun _ => False) w ((((((w.alloc (.cells #[.pointer (some ⟨eb, 0, none⟩)] 98)).alloc (.cells #[.pointer (some ⟨cb, co, none⟩)] 190)).alloc (.cells #[.slice none 0 0] 103)).alloc (.cells #[.int .i64 0] 3)).alloc (.cells #[.int .i64 0] 3)).alloc (.cells #[.bool false] 4)) := ((((((Only.refl _ w).alloc _).alloc _).alloc _).alloc _).alloc _).alloc _
  have hb0 : Boxes ((((((w.alloc (.cells #[.pointer (some ⟨eb, 0, none⟩)] 98)).alloc (.cells #[.pointer (some ⟨cb, co, none⟩)] 190)).alloc (.cells #[.slice none 0 0] 103)).alloc (.cells #[.int .i64 0] 3)).alloc (.cells #[.int .i64 0] 3)).alloc (.cells #[.bool false] 4)) w.heap.size eb cb co none 0 0 0 0 false := boxes_new w eb cb co
  have hz0 : ((((((w.alloc (.cells #[.pointer (some ⟨eb, 0, none⟩)] 98)).alloc (.cells #[.pointer (some ⟨cb, co, none⟩)] 190)).alloc (.cells #[.slice none 0 0] 103)).alloc (.cells #[.int .i64 0] 3)).alloc (.cells #[.int .i64 0] 3)).alloc (.cells #[.bool false] 4)).heap.size = w.heap.size + 6 := by simp
  generalize ((((((w.alloc (.cells #[.pointer (some ⟨eb, 0, none⟩)] 98)).alloc (.cells #[.pointer (some ⟨cb, co, none⟩)] 190)).alloc (.cells #[.slice none 0 0] 103)).alloc (.cells #[.int .i64 0] 3)).alloc (.cells #[.int .i64 0] 3)).alloc (.cells #[.bool false] 4)) = w0 at *
  have od : Only (fun _ => False) w w0.drew := o0.drew
  have q0 := hb0.c0
  have q1 := hb0.c1
  have q4 := o0.keeps h4 id
  have cm := matches_calls cb co ra sp.length rc w0.drew
  refine wpIn_wide.2 ?_
  go_region_held3 (fun u => u.cell? ⟨w.heap.size, 0, none⟩ = some (.pointer (some ⟨eb, 0, none⟩)) ∧ u.cell? ⟨w.heap.size + 1, 0, none⟩ = some (.pointer (some ⟨cb, co, none⟩)) ∧ u.cell? ⟨eb, 4, none⟩ = some (.slice ra sp.length rc)) (first | exact ⟨q0, q1, q4⟩ | exact ⟨k0, k1, k4⟩) ((go_at_call 164; refine cm.mono ?_; clear cm; rintro e w1 ⟨b1, b2, rfl, g1, g2, g3, g4, o1⟩; have k0 := o1.keeps (p := ⟨w.heap.size, 0, none⟩) q0 id; have k1 := o1.keeps (p := ⟨w.heap.size + 1, 0, none⟩) q1 id; have k4 := o1.keeps (p := ⟨eb, 4, none⟩) q4 id))
  have hzl : w1.heap.size = w1.heap.size := rfl
  have ow1 : Only (fun _ => False) w w1 := od.trans o1 (fun _ e => e) (fun _ _ e => e)
  have hb1 := (hb0.keeps (S := fun _ => False) (((Only.refl _ w0).drew).trans o1 (fun _ e => e) (fun _ _ e => e)) (fun _ _ _ => id))
  have hBl : w.heap.size + 5 < w1.heap.size := by
    have := o1.size
    have e : w0.drew.heap.size = w0.heap.size := rfl
    omega
  have hi1 := ow1.keeps i1 id
  have hit1 := i2.keeps ow1 (fun _ _ => id) (fun _ _ => id)
  have hsl1 := hsl.keeps ow1 (fun _ _ _ => id)
  clear k0 k1 k4 q0 q1 q4 od o0 hb0 hz0 o1 g3 g4
  generalize hms : Adz.matches_ sp c.pat.items = ms at *
  have tsr : ∀ {b : Nat} {T : TypeId}, Typ w b T → T ≠ 258 → ¬ False := fun _ _ h3 => h3
  gi_wp2
  rename_i Q0 K0 hK0 hHeld0
  clear hHeld0
  obtain ⟨I, hI⟩ : ∃ I : List (List Int) → World → Prop, Hid (∀ pre W, I pre W ↔ ∃ k ch f a N c', SI w W w.heap.size w1.heap.size eb cb co pre.length k ch f a N c' ∧ Adz.substGo sp c.nth c.all c.repl ms 0 0 [] false = Adz.substGo sp c.nth c.all c.repl (ms.drop pre.length) pre.length k ch f ∧ Adz.okRun sp c.nth c.all c.repl (ms.drop pre.length) pre.length k ch) := ⟨fun pre W => ∃ k ch f a N c', SI w W w.heap.size w1.heap.size eb cb co pre.length k ch f a N c' ∧ Adz.substGo sp c.nth c.all c.repl ms 0 0 [] false = Adz.substGo sp c.nth c.all c.repl (ms.drop pre.length) pre.length k ch f ∧ Adz.okRun sp c.nth c.all c.repl (ms.drop pre.length) pre.length k ch, fun _ _ => Iff.rfl⟩
  obtain ⟨Ix, hIx⟩ : ∃ Ix : Code → List (List Int) → World → Prop, Hid (∀ code pre W, Ix code pre W ↔ ∃ k ch f a N c', SI w W w.heap.size w1.heap.size eb cb co pre.length k ch f a N c' ∧ Adz.substGo sp c.nth c.all c.repl ms 0 0 [] false = (k, ch, f) ∧ code = .exit 0 ∧ ch.length ≤ 20000000 ∧ k ≤ sp.length) := ⟨fun code pre W => ∃ k ch f a N c', SI w W w.heap.size w1.heap.size eb cb co pre.length k ch f a N c' ∧ Adz.substGo sp c.nth c.all c.repl ms 0 0 [] false = (k, ch, f) ∧ code = .exit 0 ∧ ch.length ≤ 20000000 ∧ k ≤ sp.length, fun _ _ _ => Iff.rfl⟩
  refine range_law (α := List Int) (S := fun ys => ys = ms) (Sp := fun pre => pre <+: ms ∧ pre ≠ []) (Ok := fun pre => pre <+: ms) (Kp := KpB w1.heap.size) (gf := 190) (lb := #[.pointer (some ⟨b1, 0, none⟩), .pointer (some ⟨b2, 0, none⟩)]) (by first | rfl | simp [Act.eval]) (enters_of Tryz.func190 (by kernel_rfl) rfl) (encs := fun x => #[.agg (x.map (.int .i64)).toArray]) (fun _ => rfl) 258 ?_ (fun h k => h.trans k) (fun W r o h => KpB.put o h)
    I Ix
    ?_ ?_ ?_ ?_ ?_ ?_
  · -- the iterator
    intro l J Jx W hO hJ hJx hY h0
    have := matches1_in c.pat.items sp cb co iv ra rc hk hf hn hg b1 b2 l J Jx w1.heap.size hJ hJx (by rw [hms]; exact hY) W hO.size (hO.keeps g1 id) (hO.keeps g2 id) (hO.keeps hi1 id) (hit1.keeps hO (fun _ _ => id) (fun _ _ => id)) (hsl1.space.keeps hO (fun _ _ => id)) h0
    rw [hms] at this
    exact this
  · rintro s W W' hs ho
    obtain ⟨k, ch, f, a, N, c', h1, h2, h3⟩ := (hI.out _ _).1 hs
    exact (hI.out _ _).2 ⟨k, ch, f, a, N, c', h1.lets rfl hBl ho, h2, h3⟩
  · rintro code s W W' hs ho
    obtain ⟨k, ch, f, a, N, c', h1, h2, h3⟩ := (hIx.out _ _ _).1 hs
    exact (hIx.out _ _ _).2 ⟨k, ch, f, a, N, c', h1.lets rfl hBl ho, h2, h3⟩
  · refine (hI.out _ _).2 ⟨0, [], false, none, 0, 0, ⟨hb1, World.ownsRow_nil _ _ _ _, rfl, fun b hb => by simp [Value.ownBlock] at hb, ow1.mono (fun _ _ e => e.elim)⟩, ?_, ?_⟩
    · simp
    · simpa using hok
  · -- a round
    rintro pre x W r hIW hpre hl
    obtain ⟨k, ch, f, a, N, c', hsi, heq, hrun⟩ := (hI.out _ _).1 hIW
    clear hIW
    obtain ⟨tl, htl⟩ := hpre
    have hdrop : ms.drop pre.length = x :: ms.drop (pre.length + 1) := by
      rw [← htl]; simp [List.append_assoc, List.drop_append]
    rw [hdrop] at heq hrun
    unfold Adz.okRun at hrun
    obtain ⟨hx20, hk0, hm01, hchl, hks, hif⟩ := hrun
    have hLlt : w1.heap.size + 1 < W.heap.size := (Array.getElem?_eq_some_iff.1 hl).1
    have hMn := MatchAt.new W
    have hi219 : (Tryz.prog.info? 219).map (·.size) = some 20 := by kernel_rfl
    have hi2 : (Tryz.prog.info? 219).map (·.size) = some (x.map (Value.int .i64)).toArray.size := by rw [List.size_toArray, List.length_map, hx20]; exact hi219
    have hz2 : ((x.map (Value.int .i64)).toArray.all (·.oneCell')) = true := all_oneCell_toArray (by intro v hv; simp at hv; obtain ⟨a, _, rfl⟩ := hv; rfl)
    have hth := hMn.there
    rw [show (20 : Nat) = (x.map (Value.int .i64)).toArray.size by rw [List.size_toArray, List.length_map, hx20]] at hth
    have HI2 : Hid _ := hi2
    have HTH : Hid _ := hth
    clear hi2 hth hi219
    simp only [List.zip_toArray, List.zip_cons_cons, List.zip_nil_right, List.size_toArray, List.foldl_toArray', List.foldl_cons, List.foldl_nil, List.setIfInBounds_toArray, List.set_cons_zero, List.set_cons_succ]
    refine region_inRound rfl (fun ⟨_, _, h⟩ => h) ?_
    go_wp2_with (refine wpList_store_mid (by rfl) 219 _ _ (by rfl) W.heap.size 0 (x.map (Value.int .i64)).toArray (by rfl) (by rfl) HTH.out HI2.out hz2 ?_)
    have hM3 := hMn.store x hx20
    have oV : Only (fun _ => False) W ((W.alloc (.cells zeros20 219)).setCells W.heap.size 0 (x.map (.int .i64))) := by
      refine ((Only.refl _ W).alloc _).trans (setCells_only W.heap.size _ _ 0) (fun _ e => e) (fun b hb e => by omega)
    unfold zeros20 at hM3 oV
    generalize ((W.alloc (.cells _ 219)).setCells W.heap.size 0 (x.map (.int .i64))) = V at *
    refine ⟨⟨oV.block _ (by omega) id, oV.block _ (by omega) id⟩, KpB.quiet oV, fun r' => ?_⟩
    have oP := only_putObj V (w1.heap.size + 1) (.loop r')
    have hM := hM3.keeps oP (by omega)
    have hsi2 := hsi.lets rfl hBl ((oV.trans oP (fun _ e => e.elim) (fun _ _ e => Or.inr (Or.inr e)) : Only (fun b => (Typ W b 258 ∧ w1.heap.size ≤ b) ∨ b = w1.heap.size ∨ b = w1.heap.size + 1) W _))
    have hsz : w1.heap.size + 1 < (V.putObj (w1.heap.size + 1) (.loop r')).heap.size := by have := oV.size; simp; omega
    have hszm : W.heap.size < (V.putObj (w1.heap.size + 1) (.loop r')).heap.size := hM.typ.lt
    clear hsi oV oP hM3 hMn HI2 HTH hz2 hl
    generalize V.putObj (w1.heap.size + 1) (.loop r') = U at *
    generalize hBm : W.heap.size = Bm at *
    have hlen : pre.length + 1 ≤ 2000003 := by
      have h1 := Adz.matches_len sp c.pat.items
      rw [hms, ← htl] at h1
      simp only [List.length_append, List.length_cons, List.length_nil] at h1
      omega
    have hw : IntKind.i64.wrap ((pre.length : Int) + 1) = (pre.length : Int) + 1 := by rw [IntKind.wrap_i64]; omega
    have c4 := hsi2.box.c4
    have f4 := hsi2.box.f4
    refine wpIn_block ?_
    refine wpIn_seq_k fun K1 hK1 => ?_
    refine region_inRound rfl (fun ⟨_, _, h⟩ => h) ?_
    go_wp2
    clear c4 f4
    obtain ⟨hs1, kp1⟩ := hsi2.upd rfl hBl (only_set U (w.heap.size + 1 + 1 + 1 + 1) 0 (.int .i64 ((pre.length : Int) + 1))) (by omega) (by omega) (Or.inl hsi2.box.t4) (hsi2.box.set4 ((pre.length : Int) + 1))
    have hM1 := hM.keeps (only_set U (w.heap.size + 1 + 1 + 1 + 1) 0 (.int .i64 ((pre.length : Int) + 1))) (by omega)
    have bl1 := (only_set U (w.heap.size + 1 + 1 + 1 + 1) 0 (.int .i64 ((pre.length : Int) + 1))).block
    have st1 : (U.setCell ⟨w.heap.size + 1 + 1 + 1 + 1, 0, none⟩ (.int .i64 ((pre.length : Int) + 1))).heap[w1.heap.size]? = U.heap[w1.heap.size]? ∧ (U.setCell ⟨w.heap.size + 1 + 1 + 1 + 1, 0, none⟩ (.int .i64 ((pre.length : Int) + 1))).heap[w1.heap.size + 1]? = U.heap[w1.heap.size + 1]? := ⟨bl1 _ (by omega) (by omega), bl1 _ (by omega) (by omega)⟩
    clear bl1 hM hsi2
    generalize U.setCell ⟨w.heap.size + 1 + 1 + 1 + 1, 0, none⟩ (.int .i64 ((pre.length : Int) + 1)) = U1 at *
    -- how many have come, against the number that is asked
    have hcU := hc.keeps hs1.only (fun b hb => tsr hb (by decide)) (fun b hb => tsr hb (by decide)) (fun b hb => tsr hb (by decide)) (fun b hb => tsr hb (by decide))
    have hS : (fun u : World => u.cell? ⟨w.heap.size + 1 + 1 + 1 + 1, 0, none⟩ = some (.int .i64 ((pre.length : Int) + 1)) ∧ u.cell? ⟨w.heap.size + 1, 0, none⟩ = some (.pointer (some ⟨cb, co, none⟩)) ∧ u.cell? ⟨cb, co + 5, none⟩ = some (.int .i64 c.nth)) U1.drew := ⟨hs1.box.c4, hs1.box.c1, hcU.nth⟩
    refine wpIn_seq_k fun K2 hK2 => ?_
    refine wpIn_seq_k fun K3 hK3 => ?_
    refine region_inRound_any (by kernel_rfl) rfl (fun ⟨_, _, h⟩ => h) ?_
    refine wpAny_of_held (S := fun u : World => u.cell? ⟨w.heap.size + 1 + 1 + 1 + 1, 0, none⟩ = some (.int .i64 ((pre.length : Int) + 1)) ∧ u.cell? ⟨w.heap.size + 1, 0, none⟩ = some (.pointer (some ⟨cb, co, none⟩)) ∧ u.cell? ⟨cb, co + 5, none⟩ = some (.int .i64 c.nth)) _ _ _ _ ?_
    refine wpAnyH_take (i := 0) (v := ?_) rfl (by kernel_rfl) (by kernel_rfl) (by kernel_rfl) (fun _ _ _ h => h) (Or.inl ⟨by rfl, ?_⟩) hS ?_
    rotate_left
    · intro u hu
      obtain ⟨s1, s2, s3⟩ := hu
      go_simp
      try with_reducible rfl
    simp only [Act.put, List.getElem_toArray, List.getElem_cons_zero, List.setIfInBounds_toArray, List.set_cons_zero, List.set_cons_succ]
    refine wpAnyH_take (i := 1) (v := ?_) rfl (by kernel_rfl) (by kernel_rfl) (by kernel_rfl) (fun _ _ _ h => h) (Or.inl ⟨by rfl, ?_⟩) hS ?_
    rotate_left
    · intro u hu
      obtain ⟨s1, s2, s3⟩ := hu
      go_simp
      try with_reducible rfl
    simp only [Act.put, List.getElem_toArray, List.getElem_cons_zero, List.getElem_cons_succ, List.setIfInBounds_toArray, List.set_cons_zero, List.set_cons_succ]
    refine wpAnyH_take (i := 2) (v := ?_) rfl (by kernel_rfl) (by kernel_rfl) (by kernel_rfl) (fun _ _ _ h => h) (Or.inl ⟨by rfl, ?_⟩) hS ?_
    rotate_left
    · intro u hu
      obtain ⟨s1, s2, s3⟩ := hu
      go_simp
      try with_reducible rfl
    simp only [Act.put, List.getElem_toArray, List.getElem_cons_zero, List.getElem_cons_succ, List.setIfInBounds_toArray, List.set_cons_zero, List.set_cons_succ]
    refine wpAnyH_take (i := 3) (v := ?_) rfl (by kernel_rfl) (by kernel_rfl) (by kernel_rfl) (fun _ _ _ h => h) (Or.inl ⟨by rfl, ?_⟩) hS ?_
    rotate_left
    · intro u hu
      obtain ⟨s1, s2, s3⟩ := hu
      go_simp
      try with_reducible rfl
    simp only [Act.put, List.getElem_toArray, List.getElem_cons_zero, List.getElem_cons_succ, List.setIfInBounds_toArray, List.set_cons_zero, List.set_cons_succ]
    refine wpAnyH_take (i := 4) (v := ?_) rfl (by kernel_rfl) (by kernel_rfl) (by kernel_rfl) (fun _ _ _ h => h) (Or.inl ⟨by rfl, ?_⟩) hS ?_
    rotate_left
    · intro u hu
      obtain ⟨s1, s2, s3⟩ := hu
      go_simp
      try with_reducible rfl
    simp only [Act.put, List.getElem_toArray, List.getElem_cons_zero, List.getElem_cons_succ, List.setIfInBounds_toArray, List.set_cons_zero, List.set_cons_succ]
    refine wpAnyH_take (i := 5) (v := ?_) rfl (by kernel_rfl) (by kernel_rfl) (by kernel_rfl) (fun _ _ _ h => h) (Or.inl ⟨by rfl, ?_⟩) hS ?_
    rotate_left
    · intro u hu
      obtain ⟨s1, s2, s3⟩ := hu
      go_simp
      try with_reducible rfl
    simp only [Act.put, List.getElem_toArray, List.getElem_cons_zero, List.getElem_cons_succ, List.setIfInBounds_toArray, List.set_cons_zero, List.set_cons_succ]
    refine wpAnyH_done (by kernel_rfl) ?_ _
    refine hK3 _ _ ?_
    clear hK3 K3 hS
    have hs1d := hs1.quiet ((Only.refl (fun _ => False) U1).drew)
    have kp1d := kp1.trans (KpB.quiet (B0 := w1.heap.size) ((Only.refl (fun _ => False) U1).drew))
    have st1d : U1.drew.heap[w1.heap.size]? = U.heap[w1.heap.size]? ∧ U1.drew.heap[w1.heap.size + 1]? = U.heap[w1.heap.size + 1]? := st1
    have hM1d := hM1.keeps (S := fun _ => False) ((Only.refl _ U1).drew) id
    have hcd := hcU.quiet ((Only.refl (fun _ => False) U1).drew)
    clear hs1 kp1 st1 hM1 hcU
    generalize U1.drew = U2 at *
    by_cases hnth : (pre.length : Int) + 1 < c.nth
    · rw [if_pos hnth] at hif
      have heq2 := heq
      simp only [Adz.substGo] at heq2
      rw [if_pos hnth] at heq2
      refine wpIn_cond (t := true) (by first | rfl | simp [Act.eval, hnth]) ?_
      refine wpIn_exit ?_
      refine ⟨st1d, kp1d, (hI.out _ _).2 ⟨k, ch, f, a, N, c', ?_, ?_, ?_⟩⟩
      · rw [List.length_append]; exact hs1d
      · rw [List.length_append]; exact heq2
      · rw [List.length_append]; exact hif
    · rw [if_neg hnth] at hif
      refine wpIn_cond (t := false) (by first | rfl | simp [Act.eval, hnth]) ?_
      refine wpIn_skip ?_
      refine hK2 _ _ ?_
      clear hK2 K2
      have c5 := hs1d.box.c5
      have f5 := hs1d.box.f5
      refine wpIn_seq_k fun K7 hK7 => ?_
      refine region_inRound rfl (fun ⟨_, _, h⟩ => h) ?_
      go_wp2
      clear c5 f5
      obtain ⟨hs3, kp3⟩ := hs1d.upd rfl hBl (only_set U2 (w.heap.size + 1 + 1 + 1 + 1 + 1) 0 (.bool true)) (by omega) (by omega) (Or.inr hs1d.box.t5) (hs1d.box.set5 true)
      have hM3 := hM1d.keeps (only_set U2 (w.heap.size + 1 + 1 + 1 + 1 + 1) 0 (.bool true)) (by omega)
      have hz2 : U.heap.size ≤ U2.heap.size := by obtain ⟨S, o, _⟩ := kp1d; exact o.size
      have bl3 := (only_set U2 (w.heap.size + 1 + 1 + 1 + 1 + 1) 0 (.bool true)).block
      have st3 : (U2.setCell ⟨w.heap.size + 1 + 1 + 1 + 1 + 1, 0, none⟩ (.bool true)).heap[w1.heap.size]? = U.heap[w1.heap.size]? ∧ (U2.setCell ⟨w.heap.size + 1 + 1 + 1 + 1 + 1, 0, none⟩ (.bool true)).heap[w1.heap.size + 1]? = U.heap[w1.heap.size + 1]? := ⟨(bl3 _ (by omega) (by omega)).trans st1d.1, (bl3 _ (by omega) (by omega)).trans st1d.2⟩
      have kp3' := kp1d.trans kp3
      clear bl3 kp3 kp1d st1d hM1d hs1d hcd
      generalize U2.setCell ⟨w.heap.size + 1 + 1 + 1 + 1 + 1, 0, none⟩ (.bool true) = U3 at *
      -- what is ahead of the match is laid behind what was changed
      obtain ⟨mf, hmf⟩ : ∃ mf : Nat, x.getD 0 0 = mf := ⟨(x.getD 0 0).toNat, by have := hm01.1; omega⟩
      obtain ⟨mt, hmt⟩ : ∃ mt : Nat, x.getD 1 0 = mt := ⟨(x.getD 1 0).toNat, by have := hm01.1; have := hm01.2.1; omega⟩
      have hin1 := hk0
      rw [hmf] at hin1
      have hin2 := hm01
      rw [hmf, hmt] at hin2
      have hx1 : k ≤ mf := by have := hin1.2.1; omega
      have hx2 : mf ≤ sp.length := by have := hin1.2.2; omega
      have hx3 : mf ≤ mt := by have := hin2.2.1; omega
      have hx4 : mt ≤ sp.length := by have := hin2.2.2; omega
      have hx5 : mf ≤ rc := by omega
      clear hin1 hin2
      have hsegl := Adz.seg_len sp k mf hx1 hx2
      have od3 : Only (fun _ => False) U3 U3.drew := (Only.refl _ U3).drew
      have hs3d := hs3.quiet od3
      have h4d := hs3d.only.keeps h4 (tsr he (by decide))
      have hsld := hsl.keeps hs3d.only (fun b o e => by
        rcases hsl with ⟨e2, _⟩ | ⟨rb, ro, e2, ht, _⟩
        · rw [e2] at e; cases e
        · rw [e2] at e; injection e with e; injection e with e1 e2; subst e1; exact tsr ht (by decide))
      have m0 : U3.drew.cell? ⟨Bm, 0, none⟩ = some (.int .i64 mf) := by
        have := (hM3.keeps od3 id).cells 0 (.int .i64 mf) (by rw [List.getElem?_map, ← hmf, List.getD_eq_getElem?_getD, List.getElem?_eq_getElem (by omega)]; rfl)
        rwa [Nat.zero_add] at this
      have hcs := hsld.cut rc k mf hx1 hx2 hrc
      have hc2 := hs3d.box.c2
      have ht2 := hs3d.box.t2
      have hS : (fun u : World => u.cell? ⟨w.heap.size, 0, none⟩ = some (.pointer (some ⟨eb, 0, none⟩)) ∧ u.cell? ⟨eb, 4, none⟩ = some (.slice ra sp.length rc) ∧ u.cell? ⟨w.heap.size + 1 + 1 + 1, 0, none⟩ = some (.int .i64 k) ∧ u.cell? ⟨Bm, 0, none⟩ = some (.int .i64 mf)) U3.drew := ⟨hs3d.box.c0, h4d, hs3d.box.c3, m0⟩
      refine wpIn_seq_k fun K8 hK8 => ?_
      refine region_inRound_any (by kernel_rfl) rfl (fun ⟨_, _, h⟩ => h) ?_
      refine wpAny_of_held (S := fun u : World => u.cell? ⟨w.heap.size, 0, none⟩ = some (.pointer (some ⟨eb, 0, none⟩)) ∧ u.cell? ⟨eb, 4, none⟩ = some (.slice ra sp.length rc) ∧ u.cell? ⟨w.heap.size + 1 + 1 + 1, 0, none⟩ = some (.int .i64 k) ∧ u.cell? ⟨Bm, 0, none⟩ = some (.int .i64 mf)) _ _ _ _ ?_
      refine wpAnyH_take (i := 1) (v := ?_) rfl (by kernel_rfl) (by kernel_rfl) (by kernel_rfl) (fun _ _ _ h => h) (Or.inl ⟨by rfl, ?_⟩) hS ?_
      rotate_left
      · intro u hu
        obtain ⟨s1, s2, s3, s4⟩ := hu
        go_simp
        try with_reducible rfl
      simp only [Act.put, List.getElem_toArray, List.getElem_cons_zero, List.getElem_cons_succ, List.setIfInBounds_toArray, List.set_cons_zero, List.set_cons_succ]
      refine wpAnyH_take (i := 2) (v := ?_) rfl (by kernel_rfl) (by kernel_rfl) (by kernel_rfl) (fun _ _ _ h => h) (Or.inl ⟨by rfl, ?_⟩) hS ?_
      rotate_left
      · intro u hu
        obtain ⟨s1, s2, s3, s4⟩ := hu
        go_simp
        try with_reducible rfl
      simp only [Act.put, List.getElem_toArray, List.getElem_cons_zero, List.getElem_cons_succ, List.setIfInBounds_toArray, List.set_cons_zero, List.set_cons_succ]
      refine wpAnyH_take (i := 3) (v := ?_) rfl (by kernel_rfl) (by kernel_rfl) (by kernel_rfl) (fun _ _ _ h => h) (Or.inl ⟨by rfl, ?_⟩) hS ?_
      rotate_left
      · intro u hu
        obtain ⟨s1, s2, s3, s4⟩ := hu
        go_simp
        try with_reducible rfl
      simp only [Act.put, List.getElem_toArray, List.getElem_cons_zero, List.getElem_cons_succ, List.setIfInBounds_toArray, List.set_cons_zero, List.set_cons_succ]
      refine wpAnyH_take (i := 4) (v := ?_) rfl (by kernel_rfl) (by kernel_rfl) (by kernel_rfl) (fun _ _ _ h => h) (Or.inl ⟨by rfl, ?_⟩) hS ?_
      rotate_left
      · intro u hu
        obtain ⟨s1, s2, s3, s4⟩ := hu
        go_simp
        try with_reducible rfl
      simp only [Act.put, List.getElem_toArray, List.getElem_cons_zero, List.getElem_cons_succ, List.setIfInBounds_toArray, List.set_cons_zero, List.set_cons_succ]
      refine wpAnyH_take (i := 5) (v := ?_) rfl (by kernel_rfl) (by kernel_rfl) (by kernel_rfl) (fun _ _ _ h => h) (Or.inl ⟨by rfl, ?_⟩) hS ?_
      rotate_left
      · intro u hu
        obtain ⟨s1, s2, s3, s4⟩ := hu
        go_simp
        try with_reducible rfl
      simp only [Act.put, List.getElem_toArray, List.getElem_cons_zero, List.getElem_cons_succ, List.setIfInBounds_toArray, List.set_cons_zero, List.set_cons_succ]
      refine wpAnyH_take (i := 6) (v := ?_) rfl (by kernel_rfl) (by kernel_rfl) (by kernel_rfl) (fun _ _ _ h => h) (Or.inl ⟨by rfl, ?_⟩) hS ?_
      rotate_left
      · intro u hu
        obtain ⟨s1, s2, s3, s4⟩ := hu
        go_simp
        try with_reducible rfl
      simp only [Act.put, List.getElem_toArray, List.getElem_cons_zero, List.getElem_cons_succ, List.setIfInBounds_toArray, List.set_cons_zero, List.set_cons_succ]
      refine wpAnyH_take (i := 7) (v := ?_) rfl (by kernel_rfl) (by kernel_rfl) (by kernel_rfl) (fun _ _ _ h => h) (Or.inl ⟨by rfl, ?_⟩) hS ?_
      rotate_left
      · intro u hu
        obtain ⟨s1, s2, s3, s4⟩ := hu
        go_simp
        try with_reducible rfl
      simp only [Act.put, List.getElem_toArray, List.getElem_cons_zero, List.getElem_cons_succ, List.setIfInBounds_toArray, List.set_cons_zero, List.set_cons_succ]
      refine wpAnyH_take (i := 8) (v := ?_) rfl (by kernel_rfl) (by kernel_rfl) (by kernel_rfl) (fun _ _ _ h => h) (Or.inl ⟨by rfl, ?_⟩) hS ?_
      rotate_left
      · intro u hu
        obtain ⟨s1, s2, s3, s4⟩ := hu
        go_simp
        try with_reducible rfl
      simp only [Act.put, List.getElem_toArray, List.getElem_cons_zero, List.getElem_cons_succ, List.setIfInBounds_toArray, List.set_cons_zero, List.set_cons_succ]
      refine wpAnyH_take (i := 9) (v := ?_) rfl (by kernel_rfl) (by kernel_rfl) (by kernel_rfl) (fun _ _ _ h => h) (Or.inl ⟨by rfl, ?_⟩) hS ?_
      rotate_left
      · intro u hu
        obtain ⟨s1, s2, s3, s4⟩ := hu
        go_simp
        try with_reducible rfl
      simp only [Act.put, List.getElem_toArray, List.getElem_cons_zero, List.getElem_cons_succ, List.setIfInBounds_toArray, List.set_cons_zero, List.set_cons_succ]
      refine wpAnyH_ready (rs := [0]) (by kernel_rfl) (by simp) (AllReadyH.cons rfl (fun K' hK' => ?_) AllReadyH.nil)
      go_simp
      refine hK'.out _ _ hS (fun hS => ?_)
      clear hK' K'
      refine wpAnyH_ready (rs := [10]) (by kernel_rfl) (by simp) (AllReadyH.cons rfl (fun K' hK' => ?_) AllReadyH.nil)
      refine step_append_runes _ (by rfl) _ _ (by rfl) w.heap.size (.slice a N c') N ch (by rfl) hs3d.row _ _ (Adz.seg sp k mf) _ (by rfl) hsegl.symm hcs (by have := hs3d.len; omega) (by have := hs3d.only.size; omega) ?_
      intro a2 c2 w2 hown2 ho2 hat2
      generalize (if rc = k then ra else Option.map (fun x => x.add k) ra) = sa at *
      have nown : ∀ b, (Value.slice a N c').ownBlock = some b → w1.heap.size + 1 < b := hs3d.own
      have hbx2 := hs3d.box.keeps ho2 (fun b h1 h2 e => by have := nown b e; omega)
      have ty2 : ∀ {b : Nat} {T : TypeId}, Typ U3.drew b T → T ≠ 21 → ¬ (Value.slice a N c').ownBlock = some b := fun h1 h2 e => h2 (h1.one (Typ.of_row hs3d.row e))
      have heU := he.keeps hs3d.only (tsr he (by decide))
      have h42 := ho2.keeps h4d (ty2 heU (by decide))
      have hMd := hM3.keeps od3 id
      have hM2 := hMd.keeps ho2 (ty2 hMd.typ (by decide))
      have m02 := ho2.keeps m0 (ty2 hMd.typ (by decide))
      refine hK'.out _ _ ⟨hbx2.c0, h42, hbx2.c3, m02⟩ (fun hS => ?_)
      clear hK' K'
      simp only [Act.put, List.getElem_toArray, List.getElem_cons_zero, List.getElem_cons_succ, List.setIfInBounds_toArray, List.set_cons_zero, List.set_cons_succ]
      refine wpAnyH_ready (rs := [11]) (by kernel_rfl) (by simp) (AllReadyH.cons rfl (fun K' hK' => ?_) AllReadyH.nil)
      have bc2 := hbx2.c2
      have bf2 := hbx2.f2
      have hat3 : ∀ b, (Value.slice a2 (N + (mf - k)) c2).ownBlock = some b → (Value.slice a N c').ownBlock = some b ∨ w1.heap.size + 1 < b := fun b hb => by
        rcases hat2 with e | e
        · exact Or.inl (e ▸ hb)
        · rw [e] at hb; injection hb with hb; right
          have e3 : U3.drew.heap.size = U3.heap.size := rfl
          have := (Array.getElem?_eq_some_iff.1 (show U3.heap[w1.heap.size + 1]? = some _ from st3.2.trans (Array.getElem?_eq_getElem hsz))).1
          omega
      obtain ⟨hs4, kp4⟩ := hs3d.append rfl hBl ho2 hown2 (by rw [List.length_append, hsegl, hs3d.len]) hat3
      have h44 := (only_set w2 (w.heap.size + 1 + 1) 0 (.slice a2 (N + (mf - k)) c2)).keeps h42 (by have e3 := he.lt; simp; omega)
      have hM4 := hM2.keeps (only_set w2 (w.heap.size + 1 + 1) 0 (.slice a2 (N + (mf - k)) c2)) (by omega)
      have m04 := (only_set w2 (w.heap.size + 1 + 1) 0 (.slice a2 (N + (mf - k)) c2)).keeps m02 (by simp; omega)
      go_simp
      refine hK'.out _ _ ⟨hs4.box.c0, h44, hs4.box.c3, m04⟩ (fun hS => ?_)
      clear hK' K'
      refine wpAnyH_done (by kernel_rfl) ?_ _
      refine hK8 _ _ ?_
      clear hK8 K8 hS
      have kp4' := (kp3'.trans (KpB.quiet (B0 := w1.heap.size) od3)).trans kp4
      have hz4 : U.heap.size ≤ (w2.setCell ⟨w.heap.size + 1 + 1, 0, none⟩ (.slice a2 (N + (mf - k)) c2)).heap.size := by obtain ⟨S, o, _⟩ := kp4'; exact o.size
      have oall : Only (fun b => b ≠ w1.heap.size ∧ b ≠ w1.heap.size + 1) U3 (w2.setCell ⟨w.heap.size + 1 + 1, 0, none⟩ (.slice a2 (N + (mf - k)) c2)) := by
        refine od3.trans ((ho2.trans (only_set w2 (w.heap.size + 1 + 1) 0 (.slice a2 (N + (mf - k)) c2)) (fun _ e => Or.inl e) (fun _ _ e => Or.inr e) : Only (fun b => (Value.slice a N c').ownBlock = some b ∨ b = w.heap.size + 1 + 1) _ _)) (fun _ e => e.elim) (fun b hb e => ?_)
        rcases e with e | e
        · have := nown b e; omega
        · omega
      have hU3 : w1.heap.size + 1 < U3.heap.size := (Array.getElem?_eq_some_iff.1 (show U3.heap[w1.heap.size + 1]? = some _ from st3.2.trans (Array.getElem?_eq_getElem hsz))).1
      have st4 : (w2.setCell ⟨w.heap.size + 1 + 1, 0, none⟩ (.slice a2 (N + (mf - k)) c2)).heap[w1.heap.size]? = U.heap[w1.heap.size]? ∧ (w2.setCell ⟨w.heap.size + 1 + 1, 0, none⟩ (.slice a2 (N + (mf - k)) c2)).heap[w1.heap.size + 1]? = U.heap[w1.heap.size + 1]? := ⟨(oall.block _ (by omega) (by omega)).trans st3.1, (oall.block _ (by omega) (by omega)).trans st3.2⟩
      clear oall kp4 kp3' st3 hs3 hs3d hM3 hMd hM2 m02 m0 h42 h44 m04 h4d hsld hbx2 bc2 bf2 hown2 ho2 hat2 hat3 heU ty2 nown hc2 ht2 od3
      generalize hN2 : N + (mf - k) = N2 at *
      generalize w2.setCell ⟨w.heap.size + 1 + 1, 0, none⟩ (.slice a2 N2 c2) = U4 at *
      generalize hch2 : ch ++ Adz.seg sp k mf = ch2 at *
      -- the match's replacement
      have od4 : Only (fun _ => False) U4 U4.drew := (Only.refl _ U4).drew
      have hs4d := hs4.quiet od4
      have h4d := hs4d.only.keeps h4 (tsr he (by decide))
      have hsld := hsl.keeps hs4d.only (fun b o e => by
        rcases hsl with ⟨e2, _⟩ | ⟨rb, ro, e2, ht, _⟩
        · rw [e2] at e; cases e
        · rw [e2] at e; injection e with e; injection e with e1 e2; subst e1; exact tsr ht (by decide))
      have hcd := hc.keeps hs4d.only (fun b hb => tsr hb (by decide)) (fun b hb => tsr hb (by decide)) (fun b hb => tsr hb (by decide)) (fun b hb => tsr hb (by decide))
      obtain ⟨pa, pc, p1, p2⟩ := hcd.parts
      have hMd := hM4.keeps od4 id
      have hc2 := hs4d.box.c2
      obtain ⟨hfits, hrl, hchl2, hall⟩ := hif
      rw [hmf, hch2] at hchl2 hall
      have hlen2 := hs4d.len
      subst hlen2
      have hsep : ∀ b o, ra = some ⟨b, o, none⟩ → (Value.slice a2 ch2.length c2).ownBlock ≠ some b := fun b o e e2 => by
        have := hs4d.own b e2
        rcases hsl with ⟨e3, _⟩ | ⟨rb, ro, e3, ht, _⟩
        · rw [e3] at e; cases e
        · rw [e3] at e; injection e with e; injection e with e1 e4; subst e1
          have := ht.lt; omega
      have hcall := replace_calls c.repl pa pc U4.drew p2 hpl w.heap.size (by have := hs4d.only.size; omega) a2 c2 ch2 hs4d.row ra rc sp hsld hrc hsep Bm x hMd hfits hm01 (by simp only [List.length_append] at hchl2; omega)
      have hS : (fun u : World => u.cell? ⟨w.heap.size + 1, 0, none⟩ = some (.pointer (some ⟨cb, co, none⟩)) ∧ u.cell? ⟨cb, co + 2, none⟩ = some (.slice pa c.repl.length pc) ∧ u.cell? ⟨w.heap.size, 0, none⟩ = some (.pointer (some ⟨eb, 0, none⟩)) ∧ u.cell? ⟨eb, 4, none⟩ = some (.slice ra sp.length rc)) U4.drew := ⟨hs4d.box.c1, p1, hs4d.box.c0, h4d⟩
      refine wpIn_seq_k fun K9 hK9 => ?_
      refine region_inRound_any (by kernel_rfl) rfl (fun ⟨_, _, h⟩ => h) ?_
      refine wpAny_of_held (S := fun u : World => u.cell? ⟨w.heap.size + 1, 0, none⟩ = some (.pointer (some ⟨cb, co, none⟩)) ∧ u.cell? ⟨cb, co + 2, none⟩ = some (.slice pa c.repl.length pc) ∧ u.cell? ⟨w.heap.size, 0, none⟩ = some (.pointer (some ⟨eb, 0, none⟩)) ∧ u.cell? ⟨eb, 4, none⟩ = some (.slice ra sp.length rc)) _ _ _ _ ?_
      refine wpAnyH_take (i := 1) (v := ?_) rfl (by kernel_rfl) (by kernel_rfl) (by kernel_rfl) (fun _ _ _ h => h) (Or.inl ⟨by rfl, ?_⟩) hS ?_
      rotate_left
      · intro u hu
        obtain ⟨s1, s2, s3, s4⟩ := hu
        go_simp
        try with_reducible rfl
      simp only [Act.put, List.getElem_toArray, List.getElem_cons_zero, List.getElem_cons_succ, List.setIfInBounds_toArray, List.set_cons_zero, List.set_cons_succ]
      refine wpAnyH_take (i := 2) (v := ?_) rfl (by kernel_rfl) (by kernel_rfl) (by kernel_rfl) (fun _ _ _ h => h) (Or.inl ⟨by rfl, ?_⟩) hS ?_
      rotate_left
      · intro u hu
        obtain ⟨s1, s2, s3, s4⟩ := hu
        go_simp
        try with_reducible rfl
      simp only [Act.put, List.getElem_toArray, List.getElem_cons_zero, List.getElem_cons_succ, List.setIfInBounds_toArray, List.set_cons_zero, List.set_cons_succ]
      refine wpAnyH_take (i := 3) (v := ?_) rfl (by kernel_rfl) (by kernel_rfl) (by kernel_rfl) (fun _ _ _ h => h) (Or.inl ⟨by rfl, ?_⟩) hS ?_
      rotate_left
      · intro u hu
        obtain ⟨s1, s2, s3, s4⟩ := hu
        go_simp
        try with_reducible rfl
      simp only [Act.put, List.getElem_toArray, List.getElem_cons_zero, List.getElem_cons_succ, List.setIfInBounds_toArray, List.set_cons_zero, List.set_cons_succ]
      refine wpAnyH_take (i := 4) (v := ?_) rfl (by kernel_rfl) (by kernel_rfl) (by kernel_rfl) (fun _ _ _ h => h) (Or.inl ⟨by rfl, ?_⟩) hS ?_
      rotate_left
      · intro u hu
        obtain ⟨s1, s2, s3, s4⟩ := hu
        go_simp
        try with_reducible rfl
      simp only [Act.put, List.getElem_toArray, List.getElem_cons_zero, List.getElem_cons_succ, List.setIfInBounds_toArray, List.set_cons_zero, List.set_cons_succ]
      refine wpAnyH_take (i := 5) (v := ?_) rfl (by kernel_rfl) (by kernel_rfl) (by kernel_rfl) (fun _ _ _ h => h) (Or.inl ⟨by rfl, ?_⟩) hS ?_
      rotate_left
      · intro u hu
        obtain ⟨s1, s2, s3, s4⟩ := hu
        go_simp
        try with_reducible rfl
      simp only [Act.put, List.getElem_toArray, List.getElem_cons_zero, List.getElem_cons_succ, List.setIfInBounds_toArray, List.set_cons_zero, List.set_cons_succ]
      refine wpAnyH_take (i := 6) (v := ?_) rfl (by kernel_rfl) (by kernel_rfl) (by kernel_rfl) (fun _ _ _ h => h) (Or.inl ⟨by rfl, ?_⟩) hS ?_
      rotate_left
      · intro u hu
        obtain ⟨s1, s2, s3, s4⟩ := hu
        go_simp
        try with_reducible rfl
      simp only [Act.put, List.getElem_toArray, List.getElem_cons_zero, List.getElem_cons_succ, List.setIfInBounds_toArray, List.set_cons_zero, List.set_cons_succ]
      refine wpAnyH_take (i := 7) (v := ?_) rfl (by kernel_rfl) (by kernel_rfl) (by kernel_rfl) (fun _ _ _ h => h) (Or.inl ⟨by rfl, ?_⟩) hS ?_
      rotate_left
      · intro u hu
        obtain ⟨s1, s2, s3, s4⟩ := hu
        go_simp
        try with_reducible rfl
      simp only [Act.put, List.getElem_toArray, List.getElem_cons_zero, List.getElem_cons_succ, List.setIfInBounds_toArray, List.set_cons_zero, List.set_cons_succ]
      refine wpAnyH_take (i := 8) (v := ?_) rfl (by kernel_rfl) (by kernel_rfl) (by kernel_rfl) (fun _ _ _ h => h) (Or.inl ⟨by rfl, ?_⟩) hS ?_
      rotate_left
      · intro u hu
        obtain ⟨s1, s2, s3, s4⟩ := hu
        go_simp
        try with_reducible rfl
      simp only [Act.put, List.getElem_toArray, List.getElem_cons_zero, List.getElem_cons_succ, List.setIfInBounds_toArray, List.set_cons_zero, List.set_cons_succ]
      refine wpAnyH_ready (rs := [0]) (by kernel_rfl) (by simp) (AllReadyH.cons rfl (fun K' hK' => ?_) AllReadyH.nil)
      go_simp
      refine hK'.out _ _ hS (fun hS => ?_)
      clear hK' K'
      refine wpAnyH_ready (rs := [9]) (by kernel_rfl) (by simp) (AllReadyH.cons rfl (fun K' hK' => ?_) AllReadyH.nil)
      go_simp
      refine hcall.mono ?_
      clear hcall
      rintro e w3 ⟨a3, c3, N3, hN3, rfl, hown3, ho3, hat3⟩
      have nown : ∀ b, (Value.slice a2 ch2.length c2).ownBlock = some b → w1.heap.size + 1 < b := hs4d.own
      have ty4 : ∀ {b : Nat} {T : TypeId}, Typ U4.drew b T → T ≠ 21 → ¬ (Value.slice a2 ch2.length c2).ownBlock = some b := fun h1 h2 e => h2 (h1.one (Typ.of_row hs4d.row e))
      have hbx3 := hs4d.box.keeps ho3 (fun b h1 h2 e => by have := nown b e; omega)
      have heU := he.keeps hs4d.only (tsr he (by decide))
      have h43 := ho3.keeps h4d (ty4 heU (by decide))
      have p13 := ho3.keeps p1 (ty4 hcd.typ (by decide))
      have hM3 := hMd.keeps ho3 (ty4 hMd.typ (by decide))
      refine hK'.out _ _ ⟨hbx3.c1, p13, hbx3.c0, h43⟩ (fun hS => ?_)
      clear hK' K'
      refine wpAnyH_ready (rs := [10]) (by kernel_rfl) (by simp) (AllReadyH.cons rfl (fun K' hK' => ?_) AllReadyH.nil)
      have HN3 : Hid _ := hN3
      clear hN3
      have bc2 := hbx3.c2
      have bf2 := hbx3.f2
      have hU4 : w1.heap.size + 1 < U4.drew.heap.size := (Array.getElem?_eq_some_iff.1 (show U4.heap[w1.heap.size + 1]? = some _ from st4.2.trans (Array.getElem?_eq_getElem hsz))).1
      obtain ⟨hs5, kp5⟩ := hs4d.append rfl hBl ho3 hown3 (by rw [List.length_append]; exact HN3.out) (fun b hb => by
        rcases hat3 b hb with e | e
        · exact Or.inl e
        · right; omega)
      have os5 := only_set w3 (w.heap.size + 1 + 1) 0 (.slice a3 N3 c3)
      have h45 := os5.keeps h43 (by have e3 := he.lt; simp; omega)
      have p15 := os5.keeps p13 (by have e3 := hc.typ.lt; simp; omega)
      have hM5 := hM3.keeps os5 (by omega)
      go_simp
      refine hK'.out _ _ ⟨hs5.box.c1, p15, hs5.box.c0, h45⟩ (fun hS => ?_)
      clear hK' K'
      refine wpAnyH_done (by kernel_rfl) ?_ _
      refine hK9 _ _ ?_
      clear hK9 K9 hS
      have kp5' := (kp4'.trans (KpB.quiet (B0 := w1.heap.size) od4)).trans kp5
      have oall : Only (fun b => b ≠ w1.heap.size ∧ b ≠ w1.heap.size + 1) U4 (w3.setCell ⟨w.heap.size + 1 + 1, 0, none⟩ (.slice a3 N3 c3)) := by
        refine od4.trans ((ho3.trans os5 (fun _ e => Or.inl e) (fun _ _ e => Or.inr e) : Only (fun b => (Value.slice a2 ch2.length c2).ownBlock = some b ∨ b = w.heap.size + 1 + 1) _ _)) (fun _ e => e.elim) (fun b hb e => ?_)
        rcases e with e | e
        · have := nown b e; omega
        · omega
      have e4 : U4.drew.heap.size = U4.heap.size := rfl
      have st5 : (w3.setCell ⟨w.heap.size + 1 + 1, 0, none⟩ (.slice a3 N3 c3)).heap[w1.heap.size]? = U.heap[w1.heap.size]? ∧ (w3.setCell ⟨w.heap.size + 1 + 1, 0, none⟩ (.slice a3 N3 c3)).heap[w1.heap.size + 1]? = U.heap[w1.heap.size + 1]? := ⟨(oall.block _ (by omega) (by omega)).trans st4.1, (oall.block _ (by omega) (by omega)).trans st4.2⟩
      have hz5 : U.heap.size ≤ (w3.setCell ⟨w.heap.size + 1 + 1, 0, none⟩ (.slice a3 N3 c3)).heap.size := by obtain ⟨S, o, _⟩ := kp5'; exact o.size
      clear oall kp5 kp4' st4 hs4 hs4d hM4 hMd hM3 h43 h45 h4d hsld hbx3 bc2 bf2 hown3 ho3 hat3 heU ty4 nown hc2 od4 p1 p2 p13 p15 os5 hcd hsep e4 hU4 hz4
      generalize w3.setCell ⟨w.heap.size + 1 + 1, 0, none⟩ (.slice a3 N3 c3) = U5 at *
      -- up to where all is told
      have m1 : U5.cell? ⟨Bm, 1, none⟩ = some (.int .i64 mt) := by
        have := hM5.cells 1 (.int .i64 mt) (by rw [List.getElem?_map, ← hmt, List.getD_eq_getElem?_getD, List.getElem?_eq_getElem (by omega)]; rfl)
        rwa [Nat.zero_add] at this
      have c3' := hs5.box.c3
      have f3' := hs5.box.f3
      refine wpIn_seq_k fun K10 hK10 => ?_
      refine region_inRound rfl (fun ⟨_, _, h⟩ => h) ?_
      go_wp2
      clear c3' f3' m1
      obtain ⟨hs6, kp6⟩ := hs5.upd (k' := mt) rfl hBl (only_set U5 (w.heap.size + 1 + 1 + 1) 0 (.int .i64 mt)) (by omega) (by omega) (Or.inl hs5.box.t3) (hs5.box.set3 mt)
      have kp6' := kp5'.trans kp6
      have bl6 := (only_set U5 (w.heap.size + 1 + 1 + 1) 0 (.int .i64 mt)).block
      have st6 : (U5.setCell ⟨w.heap.size + 1 + 1 + 1, 0, none⟩ (.int .i64 mt)).heap[w1.heap.size]? = U.heap[w1.heap.size]? ∧ (U5.setCell ⟨w.heap.size + 1 + 1 + 1, 0, none⟩ (.int .i64 mt)).heap[w1.heap.size + 1]? = U.heap[w1.heap.size + 1]? := ⟨(bl6 _ (by omega) (by omega)).trans st5.1, (bl6 _ (by omega) (by omega)).trans st5.2⟩
      clear bl6 kp6 kp5' st5 hs5 hM5
      generalize U5.setCell ⟨w.heap.size + 1 + 1 + 1, 0, none⟩ (.int .i64 mt) = U6 at *
      have hc6 := hc.keeps hs6.only (fun b hb => tsr hb (by decide)) (fun b hb => tsr hb (by decide)) (fun b hb => tsr hb (by decide)) (fun b hb => tsr hb (by decide))
      have a6 := hc6.all
      have b6 := hs6.box.c1
      have heq2 := heq
      simp only [Adz.substGo] at heq2
      rw [if_neg (by omega), hmf, hmt, hch2, Int.toNat_natCast] at heq2
      rw [hmt, Int.toNat_natCast] at hall
      rcases hca : c.all with _ | _
      · rw [hca] at a6
        have e9 : Adz.substGo sp c.nth c.all c.repl ms 0 0 [] false = (mt, ch2 ++ Adz.replAll sp x c.repl, true) := by
          rw [heq2, hca]; rfl
        have H9 : Hid _ := e9
        have HCA : Hid _ := hca
        clear e9 heq2 heq hca
        refine wpIn_seq_k fun K11 hK11 => ?_
        refine region_inRound rfl (fun ⟨_, _, h⟩ => h) ?_
        go_wp2
        refine wpIn_cond (t := true) (by first | rfl | simp [Act.eval]) ?_
        refine wpIn_exit ?_
        refine ⟨st6, (hIx.out _ _ _).2 ⟨mt, ch2 ++ Adz.replAll sp x c.repl, true, a3, N3, c3, ?_, H9.out, rfl, hchl2, hx4⟩⟩
        rw [List.length_append]; exact hs6
      · rw [hca] at a6
        have e9 : Adz.substGo sp c.nth c.all c.repl ms 0 0 [] false = Adz.substGo sp c.nth c.all c.repl (ms.drop (pre.length + 1)) ((pre.length : Int) + 1) mt (ch2 ++ Adz.replAll sp x c.repl) true := by
          rw [heq2, if_pos hca]
        have h9 := hall hca
        have H9 : Hid _ := e9
        have HCA : Hid _ := hca
        have HOK : Hid _ := h9
        clear e9 heq2 heq hca h9 hall
        refine wpIn_seq_k fun K11 hK11 => ?_
        refine region_inRound rfl (fun ⟨_, _, h⟩ => h) ?_
        go_wp2
        refine wpIn_cond (t := false) (by first | rfl | simp [Act.eval]) ?_
        refine wpIn_skip ?_
        refine ⟨st6, kp6', (hI.out _ _).2 ⟨mt, ch2 ++ Adz.replAll sp x c.repl, true, a3, N3, c3, ?_, ?_, ?_⟩⟩
        · rw [List.length_append]; exact hs6
        · rw [List.length_append]; exact H9.out
        · rw [List.length_append]; exact HOK.out
  · intro xs W hxs hIW hD
    subst hxs
    obtain ⟨k, ch, f, a, N, c', hsi, heq, hrun⟩ := (hI.out _ _).1 hIW
    rw [List.drop_length] at heq hrun
    simp only [Adz.substGo] at heq
    obtain ⟨hks, hchl⟩ := hrun
    refine hK0 _ _ ?_
    clear hK0 K0 hI hIx I Ix hIW
    have c5 := hsi.box.c5
    have heW := he.keeps hsi.only (tsr he (by decide))
    have hEW := hE.keeps hsi.only (tsr he (by decide))
    have hlb : eb < w.heap.size := he.lt
    rcases f with _ | _
    · have hsub : Adz.subst sp c = sp := by unfold Adz.subst; rw [hms, heq]; rfl
      have hhit : Adz.hit sp c = false := by unfold Adz.hit; rw [hms, heq]
      gi_wp2
      refine ⟨by simp, .inl ⟨_, _, rfl, run_takeDeferred hD, ?_⟩⟩
      have oP := only_putObj W w1.heap.size (.deferred none)
      refine ⟨_, results_none rfl _ _ _, ⟨_, rfl⟩, ra, rc, .bool r8, ?_, ⟨_, rfl⟩, ?_, ?_, heW.keeps oP (by omega), ?_, (shape_only oP heW.lt (by omega)).trans (shape_only hsi.only he.lt (tsr he (by decide))), Or.inl ⟨rfl, rfl, hsub, rfl, hhit⟩⟩
      · rw [hsub, set_same hl4, set_same hl8]; exact hEW.keeps oP (by omega)
      · rw [hsub]
        refine (hsl.keeps hsi.only (fun b o e => ?_)).keeps oP (fun b o e => ?_)
        · rcases hsl with ⟨e2, _⟩ | ⟨rb, ro, e2, ht, _⟩
          · rw [e2] at e; cases e
          · rw [e2] at e; injection e with e; injection e with e1 e2; subst e1; exact tsr ht (by decide)
        · rcases hsl with ⟨e2, _⟩ | ⟨rb, ro, e2, ht, _⟩
          · rw [e2] at e; cases e
          · rw [e2] at e; injection e with e; injection e with e1 e2; subst e1; have := ht.lt; omega
      · rw [hsub]; exact hrc
      · exact hsi.only.trans oP (fun _ e => e.elim) (fun b hb e => by omega)
    · have hsub : Adz.subst sp c = ch ++ Adz.seg sp k sp.length := by
        unfold Adz.subst; rw [hms, heq]
        simp only [Adz.seg, Int.toNat_natCast, if_true]
        rw [List.take_of_length_le (by simp)]
      have hSB := hsub
      clear hsub
      have HHIT : Hid (Adz.hit sp c = true) := by show _ = _; unfold Adz.hit; rw [hms, heq]
      have HSB : Hid _ := hSB
      clear hSB heq
      gi_wp2
      have hsegl := Adz.seg_len sp k sp.length hks (Nat.le_refl _)
      have od : Only (fun _ => False) W W.drew := (Only.refl _ W).drew
      have hsd := hsi.quiet od
      have h4d := hsd.only.keeps h4 (tsr he (by decide))
      have hsld := hsl.keeps hsd.only (fun b o e => by
        rcases hsl with ⟨e2, _⟩ | ⟨rb, ro, e2, ht, _⟩
        · rw [e2] at e; cases e
        · rw [e2] at e; injection e with e; injection e with e1 e2; subst e1; exact tsr ht (by decide))
      have hcs := hsld.cut rc k sp.length hks (Nat.le_refl _) hrc
      have hkr : k ≤ sp.length := hks
      have hS : (fun u : World => u.cell? ⟨w.heap.size, 0, none⟩ = some (.pointer (some ⟨eb, 0, none⟩)) ∧ u.cell? ⟨w.heap.size + 1 + 1, 0, none⟩ = some (.slice a N c') ∧ u.cell? ⟨w.heap.size + 1 + 1 + 1, 0, none⟩ = some (.int .i64 k)) W.drew := ⟨hsd.box.c0, hsd.box.c2, hsd.box.c3⟩
      refine wpIn_wide.2 ?_
      refine wp_region_noPanic ?_
      refine wp_region_held (S := fun u : World => u.cell? ⟨w.heap.size, 0, none⟩ = some (.pointer (some ⟨eb, 0, none⟩)) ∧ u.cell? ⟨w.heap.size + 1 + 1, 0, none⟩ = some (.slice a N c') ∧ u.cell? ⟨w.heap.size + 1 + 1 + 1, 0, none⟩ = some (.int .i64 k)) (by kernel_rfl) ?_
      change wpAnyH _ _ _ _ _ _ _ _ W.drew
      refine wpAnyH_take (i := 0) (v := ?_) rfl (by kernel_rfl) (by kernel_rfl) (by kernel_rfl) (fun _ _ _ h => h) (Or.inl ⟨by rfl, ?_⟩) hS ?_
      rotate_left
      · intro u hu
        obtain ⟨s1, s2, s3⟩ := hu
        go_simp
        try with_reducible rfl
      simp only [Act.put, List.getElem_toArray, List.getElem_cons_zero, List.setIfInBounds_toArray, List.set_cons_zero, List.set_cons_succ]
      refine wpAnyH_take (i := 1) (v := ?_) rfl (by kernel_rfl) (by kernel_rfl) (by kernel_rfl) (fun _ _ _ h => h) (Or.inl ⟨by rfl, ?_⟩) hS ?_
      rotate_left
      · intro u hu
        obtain ⟨s1, s2, s3⟩ := hu
        go_simp
        try with_reducible rfl
      simp only [Act.put, List.getElem_toArray, List.getElem_cons_zero, List.getElem_cons_succ, List.setIfInBounds_toArray, List.set_cons_zero, List.set_cons_succ]
      refine wpAnyH_take (i := 2) (v := ?_) rfl (by kernel_rfl) (by kernel_rfl) (by kernel_rfl) (fun _ _ _ h => h) (Or.inl ⟨by rfl, ?_⟩) hS ?_
      rotate_left
      · intro u hu
        obtain ⟨s1, s2, s3⟩ := hu
        go_simp
        try with_reducible rfl
      simp only [Act.put, List.getElem_toArray, List.getElem_cons_zero, List.getElem_cons_succ, List.setIfInBounds_toArray, List.set_cons_zero, List.set_cons_succ]
      refine wpAnyH_take (i := 3) (v := ?_) rfl (by kernel_rfl) (by kernel_rfl) (by kernel_rfl) (fun _ _ _ h => h) (Or.inl ⟨by rfl, ?_⟩) hS ?_
      rotate_left
      · intro u hu
        obtain ⟨s1, s2, s3⟩ := hu
        go_simp
        try with_reducible rfl
      simp only [Act.put, List.getElem_toArray, List.getElem_cons_zero, List.getElem_cons_succ, List.setIfInBounds_toArray, List.set_cons_zero, List.set_cons_succ]
      refine wpAnyH_take (i := 4) (v := ?_) rfl (by kernel_rfl) (by kernel_rfl) (by kernel_rfl) (fun _ _ _ h => h) (Or.inl ⟨by rfl, ?_⟩) hS ?_
      rotate_left
      · intro u hu
        obtain ⟨s1, s2, s3⟩ := hu
        go_simp
        try with_reducible rfl
      simp only [Act.put, List.getElem_toArray, List.getElem_cons_zero, List.getElem_cons_succ, List.setIfInBounds_toArray, List.set_cons_zero, List.set_cons_succ]
      refine wpAnyH_take (i := 6) (v := ?_) rfl (by kernel_rfl) (by kernel_rfl) (by kernel_rfl) (fun _ _ _ h => h) (Or.inl ⟨by rfl, ?_⟩) hS ?_
      rotate_left
      · intro u hu
        obtain ⟨s1, s2, s3⟩ := hu
        go_simp
        try with_reducible rfl
      simp only [Act.put, List.getElem_toArray, List.getElem_cons_zero, List.getElem_cons_succ, List.setIfInBounds_toArray, List.set_cons_zero, List.set_cons_succ]
      refine wpAnyH_ready (rs := [5]) (by kernel_rfl) (by simp) (AllReadyH.cons rfl (fun K' hK' => ?_) AllReadyH.nil)
      go_simp
      refine hK'.out _ _ hS (fun hS => ?_)
      clear hK' K'
      refine wpAnyH_take (i := 7) (v := ?_) rfl (by kernel_rfl) (by kernel_rfl) (by kernel_rfl) (fun _ _ _ h => h) (Or.inl ⟨by rfl, ?_⟩) hS ?_
      rotate_left
      · intro u hu
        obtain ⟨s1, s2, s3⟩ := hu
        go_simp
        try with_reducible rfl
      simp only [Act.put, List.getElem_toArray, List.getElem_cons_zero, List.getElem_cons_succ, List.setIfInBounds_toArray, List.set_cons_zero, List.set_cons_succ]
      refine wpAnyH_ready (rs := [8]) (by kernel_rfl) (by simp) (AllReadyH.cons rfl (fun K' hK' => ?_) AllReadyH.nil)
      refine step_append_runes _ (by rfl) _ _ (by rfl) w.heap.size (.slice a N c') N ch (by rfl) hsd.row _ _ (Adz.seg sp k sp.length) _ (by rfl) hsegl.symm hcs (by have := hsd.len; omega) (by have := hsd.only.size; omega) ?_
      intro a2 c2 w2 hown2 ho2 hat2
      generalize (if rc = k then ra else Option.map (fun x => x.add k) ra) = sa at *
      have nown : ∀ b, (Value.slice a N c').ownBlock = some b → w1.heap.size + 1 < b := hsd.own
      have hbx2 := hsd.box.keeps ho2 (fun b h1 h2 e => by have := nown b e; omega)
      refine hK'.out _ _ ⟨hbx2.c0, hbx2.c2, hbx2.c3⟩ (fun hS => ?_)
      clear hK' K'
      simp only [Act.put, List.getElem_toArray, List.getElem_cons_zero, List.getElem_cons_succ, List.setIfInBounds_toArray, List.set_cons_zero, List.set_cons_succ]
      refine wpAnyH_take (i := 9) (v := ?_) rfl (by kernel_rfl) (by kernel_rfl) (by kernel_rfl) (fun _ _ _ h => h) (Or.inl ⟨by rfl, ?_⟩) hS ?_
      rotate_left
      · intro u hu
        obtain ⟨s1, s2, s3⟩ := hu
        go_simp
        try with_reducible rfl
      simp only [Act.put, List.getElem_toArray, List.getElem_cons_zero, List.getElem_cons_succ, List.setIfInBounds_toArray, List.set_cons_zero, List.set_cons_succ]
      refine wpAnyH_take (i := 10) (v := ?_) rfl (by kernel_rfl) (by kernel_rfl) (by kernel_rfl) (fun _ _ _ h => h) (Or.inl ⟨by rfl, ?_⟩) hS ?_
      rotate_left
      · intro u hu
        obtain ⟨s1, s2, s3⟩ := hu
        go_simp
        try with_reducible rfl
      simp only [Act.put, List.getElem_toArray, List.getElem_cons_zero, List.getElem_cons_succ, List.setIfInBounds_toArray, List.set_cons_zero, List.set_cons_succ]
      have nb : ∀ b, (Value.slice a N c').ownBlock = some b → ¬ b = eb := fun b e => by have := nown b e; omega
      have hEd := hEW.keeps od id
      have hE2 := hEd.keeps ho2 (fun e => nb eb e rfl)
      have e4 := hE2 4 _ hl4
      have g4 := e4.1
      have f4 := e4.2
      refine wpAnyH_ready (rs := [11]) (by kernel_rfl) (by simp) (AllReadyH.cons rfl (fun K' hK' => ?_) AllReadyH.nil)
      have os3 := only_set w2 eb 4 (.slice a2 (N + (sp.length - k)) c2)
      have hbx3 := hbx2.keeps os3 (fun b h1 h2 e => by omega)
      go_simp
      refine hK'.out _ _ ⟨hbx3.c0, hbx3.c2, hbx3.c3⟩ (fun hS => ?_)
      clear hK' K' e4 g4 f4
      refine wpAnyH_done (by kernel_rfl) ?_ _
      refine NoPanic.normal ?_
      have nbn : ∀ b, (Value.slice a2 (N + (sp.length - k)) c2).ownBlock = some b → b ≠ eb ∧ b ≠ w1.heap.size := fun b hb => by
        have hDl := (Array.getElem?_eq_some_iff.1 hD).1
        have ez : W.drew.heap.size = W.heap.size := rfl
        rcases hat2 with e | e
        · have := nown b (e ▸ hb); omega
        · rw [e] at hb; injection hb with hb; omega
      have hsl2 := Sl.of_row hown2
      have hE3 := hE2.set 4 (.slice a2 (N + (sp.length - k)) c2)
      have hE3' : (l.set 4 (.slice a2 (N + (sp.length - k)) c2))[8]? = some (.bool r8) := by rw [List.getElem?_set_ne (by omega)]; exact hl8
      have hE4 := hE3.set 8 (.bool true)
      have g8 := (hE3 8 _ hE3').1
      have f8 := (hE3 8 _ hE3').2
      have hsl3 := hsl2.1.keeps os3 (fun b o e => by subst e; exact (nbn b rfl).1)
      have os4 := only_set (w2.setCell ⟨eb, 4, none⟩ (.slice a2 (N + (sp.length - k)) c2)) eb 8 (.bool true)
      have hsl4 := hsl3.keeps os4 (fun b o e => by subst e; exact (nbn b rfl).1)
      have HRW : Hid _ := row_keeps (row_keeps hown2 os3 (fun b hb => (nbn b hb).1)) os4 (fun b hb => (nbn b hb).1)
      have he4 : Typ ((w2.setCell ⟨eb, 4, none⟩ (.slice a2 (N + (sp.length - k)) c2)).setCell ⟨eb, 8, none⟩ (.bool true)) eb 108 := (((heW.keeps od id).keeps ho2 (fun e => nb eb e rfl)).setCell _ _).setCell _ _
      have hbx4 := hbx3.keeps os4 (fun b h1 h2 e => by omega)
      have oAll : Only (fun b => b = eb ∨ False) w ((w2.setCell ⟨eb, 4, none⟩ (.slice a2 (N + (sp.length - k)) c2)).setCell ⟨eb, 8, none⟩ (.bool true)) := by
        have h1 : Only (fun b => b = eb ∨ False) w w2 := hsd.only.trans ho2 (fun _ e => Or.inr e) (fun b hb e => by have := nown b e; omega)
        exact Only.setCell (p := ⟨eb, 8, none⟩) (Only.setCell (p := ⟨eb, 4, none⟩) h1 (fun _ => Or.inl rfl) _) (fun _ => Or.inl rfl) _
      have hDd : ((w2.setCell ⟨eb, 4, none⟩ (.slice a2 (N + (sp.length - k)) c2)).setCell ⟨eb, 8, none⟩ (.bool true)).heap[w1.heap.size]? = some (.deferred (some [])) := by
        have hDl := (Array.getElem?_eq_some_iff.1 hD).1
        have h1 : w2.heap[w1.heap.size]? = some (.deferred (some [])) := (ho2.block _ hDl (fun e => by have := nown _ e; omega)).trans hD
        have h2 := (os3.block w1.heap.size (Array.getElem?_eq_some_iff.1 h1).1 (by omega)).trans h1
        exact (os4.block w1.heap.size (Array.getElem?_eq_some_iff.1 h2).1 (by omega)).trans h2
      have hc4 : ((w2.setCell ⟨eb, 4, none⟩ (.slice a2 (N + (sp.length - k)) c2)).setCell ⟨eb, 8, none⟩ (.bool true)).cell? ⟨cb, co + 4, none⟩ = some (.bool c.print) := oAll.keeps hc.print (fun e => by
        rcases e with e | e
        · exact (he.ne hc.typ (by decide)) e.symm
        · exact tsr hc.typ (by decide) e)
      rw [hpr] at hc4
      have hNL : Hid ((Adz.subst sp c).length = N + (sp.length - k)) := by show _ = _; rw [HSB.out, List.length_append, hsegl, hsd.len]
      have hcap := hsl2.2
      have hshp : Hid (((w2.setCell ⟨eb, 4, none⟩ (.slice a2 (N + (sp.length - k)) c2)).setCell ⟨eb, 8, none⟩ (.bool true)).shape? eb = w.shape? eb) := shape_set.trans (shape_set.trans ((shape_only ho2 (heW.keeps od id).lt (fun e => nb eb e rfl)).trans (shape_only hsd.only he.lt (tsr he (by decide)))))
      have q0 := hbx3.c0
      have q1 := hbx4.c1
      clear hE2 hE3 hEd hbx2 hbx3 hbx4 hsd hsi hown2 ho2 hat2 hsl2 hsl3 nown nb od os3 os4 hS c5 hcs hsld h4d
      gi_wp2
      refine ⟨by simp, .inl ⟨_, _, rfl, run_takeDeferred hDd, ?_⟩⟩
      have oP := only_putObj ((w2.setCell ⟨eb, 4, none⟩ (.slice a2 (N + (sp.length - k)) c2)).setCell ⟨eb, 8, none⟩ (.bool true)) w1.heap.size (.deferred none)
      refine ⟨_, results_none rfl _ _ _, ⟨_, rfl⟩, a2, c2, .bool true, ?_, (by first | exact ⟨_, rfl⟩ | exact Or.inr rfl), ?_, ?_, he4.keeps oP (by omega), ?_, (shape_only oP he4.lt (by omega)).trans hshp.out, Or.inr ⟨rfl, HHIT.out, by rw [hNL.out, HSB.out]; exact row_keeps HRW.out oP (fun b hb => (nbn b hb).2)⟩⟩
      · rw [hNL.out]; exact hE4.keeps oP (by omega)
      · rw [HSB.out]; exact hsl4.keeps oP (fun b o e => by subst e; exact (nbn b rfl).2)
      · rw [hNL.out]; exact hcap
      · exact oAll.trans oP (fun _ e => e.elim id False.elim) (fun b hb e => by omega)
  · intro code pre W hsp hIW hD
    obtain ⟨k, ch, f, a, N, c', hsi, heq, rfl, hchl, hks⟩ := (hIx.out _ _ _).1 hIW
    refine wpIn_exit ?_
    refine hK0 _ _ ?_
    clear hK0 K0 hI hIx I Ix hIW
    have c5 := hsi.box.c5
    have heW := he.keeps hsi.only (tsr he (by decide))
    have hEW := hE.keeps hsi.only (tsr he (by decide))
    have hlb : eb < w.heap.size := he.lt
    rcases f with _ | _
    · have hsub : Adz.subst sp c = sp := by unfold Adz.subst; rw [hms, heq]; rfl
      have hhit : Adz.hit sp c = false := by unfold Adz.hit; rw [hms, heq]
      gi_wp2
      refine ⟨by simp, .inl ⟨_, _, rfl, run_takeDeferred hD, ?_⟩⟩
      have oP := only_putObj W w1.heap.size (.deferred none)
      refine ⟨_, results_none rfl _ _ _, ⟨_, rfl⟩, ra, rc, .bool r8, ?_, ⟨_, rfl⟩, ?_, ?_, heW.keeps oP (by omega), ?_, (shape_only oP heW.lt (by omega)).trans (shape_only hsi.only he.lt (tsr he (by decide))), Or.inl ⟨rfl, rfl, hsub, rfl, hhit⟩⟩
      · rw [hsub, set_same hl4, set_same hl8]; exact hEW.keeps oP (by omega)
      · rw [hsub]
        refine (hsl.keeps hsi.only (fun b o e => ?_)).keeps oP (fun b o e => ?_)
        · rcases hsl with ⟨e2, _⟩ | ⟨rb, ro, e2, ht, _⟩
          · rw [e2] at e; cases e
          · rw [e2] at e; injection e with e; injection e with e1 e2; subst e1; exact tsr ht (by decide)
        · rcases hsl with ⟨e2, _⟩ | ⟨rb, ro, e2, ht, _⟩
          · rw [e2] at e; cases e
          · rw [e2] at e; injection e with e; injection e with e1 e2; subst e1; have := ht.lt; omega
      · rw [hsub]; exact hrc
      · exact hsi.only.trans oP (fun _ e => e.elim) (fun b hb e => by omega)
    · have hsub : Adz.subst sp c = ch ++ Adz.seg sp k sp.length := by
        unfold Adz.subst; rw [hms, heq]
        simp only [Adz.seg, Int.toNat_natCast, if_true]
        rw [List.take_of_length_le (by simp)]
      have hSB := hsub
      clear hsub
      have HHIT : Hid (Adz.hit sp c = true) := by show _ = _; unfold Adz.hit; rw [hms, heq]
      have HSB : Hid _ := hSB
      clear hSB heq
      gi_wp2
      have hsegl := Adz.seg_len sp k sp.length hks (Nat.le_refl _)
      have od : Only (fun _ => False) W W.drew := (Only.refl _ W).drew
      have hsd := hsi.quiet od
      have h4d := hsd.only.keeps h4 (tsr he (by decide))
      have hsld := hsl.keeps hsd.only (fun b o e => by
        rcases hsl with ⟨e2, _⟩ | ⟨rb, ro, e2, ht, _⟩
        · rw [e2] at e; cases e
        · rw [e2] at e; injection e with e; injection e with e1 e2; subst e1; exact tsr ht (by decide))
      have hcs := hsld.cut rc k sp.length hks (Nat.le_refl _) hrc
      have hkr : k ≤ sp.length := hks
      have hS : (fun u : World => u.cell? ⟨w.heap.size, 0, none⟩ = some (.pointer (some ⟨eb, 0, none⟩)) ∧ u.cell? ⟨w.heap.size + 1 + 1, 0, none⟩ = some (.slice a N c') ∧ u.cell? ⟨w.heap.size + 1 + 1 + 1, 0, none⟩ = some (.int .i64 k)) W.drew := ⟨hsd.box.c0, hsd.box.c2, hsd.box.c3⟩
      refine wpIn_wide.2 ?_
      refine wp_region_noPanic ?_
      refine wp_region_held (S := fun u : World => u.cell? ⟨w.heap.size, 0, none⟩ = some (.pointer (some ⟨eb, 0, none⟩)) ∧ u.cell? ⟨w.heap.size + 1 + 1, 0, none⟩ = some (.slice a N c') ∧ u.cell? ⟨w.heap.size + 1 + 1 + 1, 0, none⟩ = some (.int .i64 k)) (by kernel_rfl) ?_
      change wpAnyH _ _ _ _ _ _ _ _ W.drew
      refine wpAnyH_take (i := 0) (v := ?_) rfl (by kernel_rfl) (by kernel_rfl) (by kernel_rfl) (fun _ _ _ h => h) (Or.inl ⟨by rfl, ?_⟩) hS ?_
      rotate_left
      · intro u hu
        obtain ⟨s1, s2, s3⟩ := hu
        go_simp
        try with_reducible rfl
      simp only [Act.put, List.getElem_toArray, List.getElem_cons_zero, List.setIfInBounds_toArray, List.set_cons_zero, List.set_cons_succ]
      refine wpAnyH_take (i := 1) (v := ?_) rfl (by kernel_rfl) (by kernel_rfl) (by kernel_rfl) (fun _ _ _ h => h) (Or.inl ⟨by rfl, ?_⟩) hS ?_
      rotate_left
      · intro u hu
        obtain ⟨s1, s2, s3⟩ := hu
        go_simp
        try with_reducible rfl
      simp only [Act.put, List.getElem_toArray, List.getElem_cons_zero, List.getElem_cons_succ, List.setIfInBounds_toArray, List.set_cons_zero, List.set_cons_succ]
      refine wpAnyH_take (i := 2) (v := ?_) rfl (by kernel_rfl) (by kernel_rfl) (by kernel_rfl) (fun _ _ _ h => h) (Or.inl ⟨by rfl, ?_⟩) hS ?_
      rotate_left
      · intro u hu
        obtain ⟨s1, s2, s3⟩ := hu
        go_simp
        try with_reducible rfl
      simp only [Act.put, List.getElem_toArray, List.getElem_cons_zero, List.getElem_cons_succ, List.setIfInBounds_toArray, List.set_cons_zero, List.set_cons_succ]
      refine wpAnyH_take (i := 3) (v := ?_) rfl (by kernel_rfl) (by kernel_rfl) (by kernel_rfl) (fun _ _ _ h => h) (Or.inl ⟨by rfl, ?_⟩) hS ?_
      rotate_left
      · intro u hu
        obtain ⟨s1, s2, s3⟩ := hu
        go_simp
        try with_reducible rfl
      simp only [Act.put, List.getElem_toArray, List.getElem_cons_zero, List.getElem_cons_succ, List.setIfInBounds_toArray, List.set_cons_zero, List.set_cons_succ]
      refine wpAnyH_take (i := 4) (v := ?_) rfl (by kernel_rfl) (by kernel_rfl) (by kernel_rfl) (fun _ _ _ h => h) (Or.inl ⟨by rfl, ?_⟩) hS ?_
      rotate_left
      · intro u hu
        obtain ⟨s1, s2, s3⟩ := hu
        go_simp
        try with_reducible rfl
      simp only [Act.put, List.getElem_toArray, List.getElem_cons_zero, List.getElem_cons_succ, List.setIfInBounds_toArray, List.set_cons_zero, List.set_cons_succ]
      refine wpAnyH_take (i := 6) (v := ?_) rfl (by kernel_rfl) (by kernel_rfl) (by kernel_rfl) (fun _ _ _ h => h) (Or.inl ⟨by rfl, ?_⟩) hS ?_
      rotate_left
      · intro u hu
        obtain ⟨s1, s2, s3⟩ := hu
        go_simp
        try with_reducible rfl
      simp only [Act.put, List.getElem_toArray, List.getElem_cons_zero, List.getElem_cons_succ, List.setIfInBounds_toArray, List.set_cons_zero, List.set_cons_succ]
      refine wpAnyH_ready (rs := [5]) (by kernel_rfl) (by simp) (AllReadyH.cons rfl (fun K' hK' => ?_) AllReadyH.nil)
      go_simp
      refine hK'.out _ _ hS (fun hS => ?_)
      clear hK' K'
      refine wpAnyH_take (i := 7) (v := ?_) rfl (by kernel_rfl) (by kernel_rfl) (by kernel_rfl) (fun _ _ _ h => h) (Or.inl ⟨by rfl, ?_⟩) hS ?_
      rotate_left
      · intro u hu
        obtain ⟨s1, s2, s3⟩ := hu
        go_simp
        try with_reducible rfl
      simp only [Act.put, List.getElem_toArray, List.getElem_cons_zero, List.getElem_cons_succ, List.setIfInBounds_toArray, List.set_cons_zero, List.set_cons_succ]
      refine wpAnyH_ready (rs := [8]) (by kernel_rfl) (by simp) (AllReadyH.cons rfl (fun K' hK' => ?_) AllReadyH.nil)
      refine step_append_runes _ (by rfl) _ _ (by rfl) w.heap.size (.slice a N c') N ch (by rfl) hsd.row _ _ (Adz.seg sp k sp.length) _ (by rfl) hsegl.symm hcs (by have := hsd.len; omega) (by have := hsd.only.size; omega) ?_
      intro a2 c2 w2 hown2 ho2 hat2
      generalize (if rc = k then ra else Option.map (fun x => x.add k) ra) = sa at *
      have nown : ∀ b, (Value.slice a N c').ownBlock = some b → w1.heap.size + 1 < b := hsd.own
      have hbx2 := hsd.box.keeps ho2 (fun b h1 h2 e => by have := nown b e; omega)
      refine hK'.out _ _ ⟨hbx2.c0, hbx2.c2, hbx2.c3⟩ (fun hS => ?_)
      clear hK' K'
      simp only [Act.put, List.getElem_toArray, List.getElem_cons_zero, List.getElem_cons_succ, List.setIfInBounds_toArray, List.set_cons_zero, List.set_cons_succ]
      refine wpAnyH_take (i := 9) (v := ?_) rfl (by kernel_rfl) (by kernel_rfl) (by kernel_rfl) (fun _ _ _ h => h) (Or.inl ⟨by rfl, ?_⟩) hS ?_
      rotate_left
      · intro u hu
        obtain ⟨s1, s2, s3⟩ := hu
        go_simp
        try with_reducible rfl
      simp only [Act.put, List.getElem_toArray, List.getElem_cons_zero, List.getElem_cons_succ, List.setIfInBounds_toArray, List.set_cons_zero, List.set_cons_succ]
      refine wpAnyH_take (i := 10) (v := ?_) rfl (by kernel_rfl) (by kernel_rfl) (by kernel_rfl) (fun _ _ _ h => h) (Or.inl ⟨by rfl, ?_⟩) hS ?_
      rotate_left
      · intro u hu
        obtain ⟨s1, s2, s3⟩ := hu
        go_simp
        try with_reducible rfl
      simp only [Act.put, List.getElem_toArray, List.getElem_cons_zero, List.getElem_cons_succ, List.setIfInBounds_toArray, List.set_cons_zero, List.set_cons_succ]
      have nb : ∀ b, (Value.slice a N c').ownBlock = some b → ¬ b = eb := fun b e => by have := nown b e; omega
      have hEd := hEW.keeps od id
      have hE2 := hEd.keeps ho2 (fun e => nb eb e rfl)
      have e4 := hE2 4 _ hl4
      have g4 := e4.1
      have f4 := e4.2
      refine wpAnyH_ready (rs := [11]) (by kernel_rfl) (by simp) (AllReadyH.cons rfl (fun K' hK' => ?_) AllReadyH.nil)
      have os3 := only_set w2 eb 4 (.slice a2 (N + (sp.length - k)) c2)
      have hbx3 := hbx2.keeps os3 (fun b h1 h2 e => by omega)
      go_simp
      refine hK'.out _ _ ⟨hbx3.c0, hbx3.c2, hbx3.c3⟩ (fun hS => ?_)
      clear hK' K' e4 g4 f4
      refine wpAnyH_done (by kernel_rfl) ?_ _
      refine NoPanic.normal ?_
      have nbn : ∀ b, (Value.slice a2 (N + (sp.length - k)) c2).ownBlock = some b → b ≠ eb ∧ b ≠ w1.heap.size := fun b hb => by
        have hDl := (Array.getElem?_eq_some_iff.1 hD).1
        have ez : W.drew.heap.size = W.heap.size := rfl
        rcases hat2 with e | e
        · have := nown b (e ▸ hb); omega
        · rw [e] at hb; injection hb with hb; omega
      have hsl2 := Sl.of_row hown2
      have hE3 := hE2.set 4 (.slice a2 (N + (sp.length - k)) c2)
      have hE3' : (l.set 4 (.slice a2 (N + (sp.length - k)) c2))[8]? = some (.bool r8) := by rw [List.getElem?_set_ne (by omega)]; exact hl8
      have hE4 := hE3.set 8 (.bool true)
      have g8 := (hE3 8 _ hE3').1
      have f8 := (hE3 8 _ hE3').2
      have hsl3 := hsl2.1.keeps os3 (fun b o e => by subst e; exact (nbn b rfl).1)
      have os4 := only_set (w2.setCell ⟨eb, 4, none⟩ (.slice a2 (N + (sp.length - k)) c2)) eb 8 (.bool true)
      have hsl4 := hsl3.keeps os4 (fun b o e => by subst e; exact (nbn b rfl).1)
      have HRW : Hid _ := row_keeps (row_keeps hown2 os3 (fun b hb => (nbn b hb).1)) os4 (fun b hb => (nbn b hb).1)
      have he4 : Typ ((w2.setCell ⟨eb, 4, none⟩ (.slice a2 (N + (sp.length - k)) c2)).setCell ⟨eb, 8, none⟩ (.bool true)) eb 108 := (((heW.keeps od id).keeps ho2 (fun e => nb eb e rfl)).setCell _ _).setCell _ _
      have hbx4 := hbx3.keeps os4 (fun b h1 h2 e => by omega)
      have oAll : Only (fun b => b = eb ∨ False) w ((w2.setCell ⟨eb, 4, none⟩ (.slice a2 (N + (sp.length - k)) c2)).setCell ⟨eb, 8, none⟩ (.bool true)) := by
        have h1 : Only (fun b => b = eb ∨ False) w w2 := hsd.only.trans ho2 (fun _ e => Or.inr e) (fun b hb e => by have := nown b e; omega)
        exact Only.setCell (p := ⟨eb, 8, none⟩) (Only.setCell (p := ⟨eb, 4, none⟩) h1 (fun _ => Or.inl rfl) _) (fun _ => Or.inl rfl) _
      have hDd : ((w2.setCell ⟨eb, 4, none⟩ (.slice a2 (N + (sp.length - k)) c2)).setCell ⟨eb, 8, none⟩ (.bool true)).heap[w1.heap.size]? = some (.deferred (some [])) := by
        have hDl := (Array.getElem?_eq_some_iff.1 hD).1
        have h1 : w2.heap[w1.heap.size]? = some (.deferred (some [])) := (ho2.block _ hDl (fun e => by have := nown _ e; omega)).trans hD
        have h2 := (os3.block w1.heap.size (Array.getElem?_eq_some_iff.1 h1).1 (by omega)).trans h1
        exact (os4.block w1.heap.size (Array.getElem?_eq_some_iff.1 h2).1 (by omega)).trans h2
      have hc4 : ((w2.setCell ⟨eb, 4, none⟩ (.slice a2 (N + (sp.length - k)) c2)).setCell ⟨eb, 8, none⟩ (.bool true)).cell? ⟨cb, co + 4, none⟩ = some (.bool c.print) := oAll.keeps hc.print (fun e => by
        rcases e with e | e
        · exact (he.ne hc.typ (by decide)) e.symm
        · exact tsr hc.typ (by decide) e)
      rw [hpr] at hc4
      have hNL : Hid ((Adz.subst sp c).length = N + (sp.length - k)) := by show _ = _; rw [HSB.out, List.length_append, hsegl, hsd.len]
      have hcap := hsl2.2
      have hshp : Hid (((w2.setCell ⟨eb, 4, none⟩ (.slice a2 (N + (sp.length - k)) c2)).setCell ⟨eb, 8, none⟩ (.bool true)).shape? eb = w.shape? eb) := shape_set.trans (shape_set.trans ((shape_only ho2 (heW.keeps od id).lt (fun e => nb eb e rfl)).trans (shape_only hsd.only he.lt (tsr he (by decide)))))
      have q0 := hbx3.c0
      have q1 := hbx4.c1
      clear hE2 hE3 hEd hbx2 hbx3 hbx4 hsd hsi hown2 ho2 hat2 hsl2 hsl3 nown nb od os3 os4 hS c5 hcs hsld h4d
      gi_wp2
      refine ⟨by simp, .inl ⟨_, _, rfl, run_takeDeferred hDd, ?_⟩⟩
      have oP := only_putObj ((w2.setCell ⟨eb, 4, none⟩ (.slice a2 (N + (sp.length - k)) c2)).setCell ⟨eb, 8, none⟩ (.bool true)) w1.heap.size (.deferred none)
      refine ⟨_, results_none rfl _ _ _, ⟨_, rfl⟩, a2, c2, .bool true, ?_, (by first | exact ⟨_, rfl⟩ | exact Or.inr rfl), ?_, ?_, he4.keeps oP (by omega), ?_, (shape_only oP he4.lt (by omega)).trans hshp.out, Or.inr ⟨rfl, HHIT.out, by rw [hNL.out, HSB.out]; exact row_keeps HRW.out oP (fun b hb => (nbn b hb).2)⟩⟩
      · rw [hNL.out]; exact hE4.keeps oP (by omega)
      · rw [HSB.out]; exact hsl4.keeps oP (fun b o e => by subst e; exact (nbn b rfl).2)
      · rw [hNL.out]; exact hcap
      · exact oAll.trans oP (fun _ e => e.elim id False.elim) (fun b hb e => by omega)
end Go.Proofs.YtbiobhghnldckaaGreatDoor

/- Proved: an s is done among other commands; a script is read and run with its commands' block. Conditions: the editor lies in memory as 'EM' says, and the command. -/
namespace Go.Proofs.YtbiobhghnldckaaGreatDoor
open Go.RowKit
set_option linter.unusedVariables false

theorem CmdX.sub {w : World} {g o : Nat} {c : Adz.Cmd} (h : CmdX w g o c) (ht : Typ w g 167) : SubAt w g (o + 6) c := by
  obtain ⟨av, iv, rv, fv, tv, h1, h2⟩ := h.deep
  obtain ⟨pa, pc, rfl⟩ := row_shape h2.r
  exact ⟨ht, ⟨iv, h1 6 _ rfl, h2.i⟩, ⟨pa, pc, h1 8 _ rfl, h2.r⟩, h1 9 _ rfl, h1 10 _ rfl, h1 11 _ rfl⟩

theorem subM (c : Adz.Cmd) (g o : Nat) (w : World) (eb : Nat) (X : Adz.Fx) (E : Adz.Es) (sa ha qa : Option Addr) (sc hc qc : Nat) (h : EM w eb X E sa sc ha hc qa qc) (hs : SubAt w g (o + 6) c) (hf : Fine E.sp c) :
    Calls Tryz.prog 135 #[.pointer (some ⟨eb, 0, none⟩), .pointer (some ⟨g, o + 6, none⟩)] w fun e w' => (∃ v, e = .returned v) ∧ EMx w' eb X { E with sp := Adz.subst E.sp c, r8 := Adz.hit E.sp c || E.r8 } ∧ Only (· = eb) w w' := by
  obtain ⟨p, a, c0, g1, g2, g3⟩ := h.ed.cells
  have hsl := Sl.of_row h.sp
  refine (callsIn_wide.1 (substitute_own c g (o + 6) eb w hs sa sc E.sp h.ed.typ _ g1 (by rw [List.getElem?_set_ne (by omega), List.getElem?_set_ne (by omega)]; rfl) E.r8 (by rw [List.getElem?_set_ne (by omega), List.getElem?_set_ne (by omega)]; rfl) hf.pr hsl.1 hsl.2 hf.k hf.f (by have := hf.n; omega) hf.g hf.pl hf.ok)).mono ?_
  rintro e w' ⟨he, a', c', v8, q1, ⟨b8, rfl⟩, q2, q3, q4, q5, q6, q7⟩
  have hlt := h.ed.typ.lt
  have hEd : Ed w' eb (((edCells X E (.slice sa E.sp.length sc) (.slice ha E.hold.length hc) (.slice qa E.queue.length qc)).set 4 (.slice a' (Adz.subst E.sp c).length c')).set 8 (.bool b8)) E.out := by
    refine ⟨⟨p, a, c0, ?_, g2, ?_⟩, q6.trans h.ed.shape, q4, by rw [List.length_set, List.length_set]; exact h.ed.len⟩
    · rwa [List.set_comm _ _ (by omega : 14 ≠ 4), List.set_comm _ _ (by omega : 13 ≠ 4), List.set_comm _ _ (by omega : 14 ≠ 8), List.set_comm _ _ (by omega : 13 ≠ 8)] at q1
    · refine row_keeps g3 q5 (fun b hb e => ?_)
      subst e; exact absurd ((Typ.of_row g3 hb).one h.ed.typ) (by decide)
  have n : ∀ {b : Nat} {T : TypeId}, Typ w b T → T ≠ 108 → ¬ b = eb := fun ht n2 e => by subst e; exact n2 (ht.one h.ed.typ)
  have hb8 : b8 = (Adz.hit E.sp c || E.r8) := by
    rcases q7 with ⟨_, _, _, k1, k2⟩ | ⟨k1, k2, _⟩
    · rw [k2]; injection k1
    · rw [k2]; injection k1
  rw [hb8] at hEd
  refine ⟨he, ⟨a', c', ha, hc, qa, qc, hEd, ?_, h.hold.keeps q5 (fun b hb => n hb (by decide)), row_keeps h.queue q5 (fun b hb => n (Typ.of_row h.queue hb) (by decide)), ?_, h.lines.keeps q5 (fun b hb e => by omega), h.opens.keeps q5 (fun b hb e => by omega)⟩, q5⟩
  · rcases q7 with ⟨rfl, rfl, k3, _⟩ | ⟨_, _, k3⟩
    · show w'.ownsRow _ _ _ (.slice a' (Adz.subst E.sp c).length c') (Adz.subst E.sp c).length _
      rw [k3]
      exact row_keeps h.sp q5 (fun b hb => n (Typ.of_row h.sp hb) (by decide))
    · exact row_base k3 (by omega)
  · rcases q7 with ⟨rfl, rfl, k3, _⟩ | ⟨_, _, k3⟩
    · show ∀ b, (Value.slice a' (Adz.subst E.sp c).length c').ownBlock = some b → _
      rw [k3]
      exact h.apart
    · intro b hb
      exact h.holdLt (k3.lt b hb).1

set_option maxRecDepth 100000 in
set_option maxHeartbeats 1600000 in
theorem do_sM (c : Adz.Cmd) (g o : Nat) (w : World) (eb : Nat) (X : Adz.Fx) (E : Adz.Es) (sa ha qa : Option Addr) (sc hc qc : Nat) (h : EM w eb X E sa sc ha hc qa qc) (hC : w.cell? ⟨g, o, none⟩ = some (.int .i32 115)) (hs : SubAt w g (o + 6) c) (hf : Fine E.sp c) :
    Calls Tryz.prog 96 #[.pointer (some ⟨eb, 0, none⟩), .pointer (some ⟨g, o, none⟩)] w fun e w' => (∃ v, e = .returned v) ∧ EMx w' eb X { E with sp := Adz.subst E.sp c, r8 := Adz.hit E.sp c || E.r8 } ∧ Only (· = eb) w w' := by
  have hcall := subM c g o w eb X E sa ha qa sc hc qc h hs hf
  go_enter Tryz.func96, Tryz.ntmps96
  go_wp2_with fail
  refine hcall.mono ?_
  rintro e w1 ⟨⟨v, rfl⟩, hh⟩
  go_wp2
  go_end0
  exact ⟨⟨_, rfl⟩, hh⟩

theorem doOk_s {w0 : World} {eb : Nat} {X : Adz.Fx} {n g : Nat} {E : Adz.Es} {c : Adz.Cmd} (h : AtCmd w0 eb X n g E c) (ht : Typ w0 g 167) (hw : c.what = 115) (E1 : Adz.Es) (hf : Fine E1.sp c) : DoOk w0 eb X g (E.next * 14) E1 { E1 with sp := Adz.subst E1.sp c, r8 := Adz.hit E1.sp c || E1.r8 } := fun w hO ⟨sa, sc, ha, hc, qa, qc, hM⟩ => by
  have hX := h.cmd.keeps hO
  have hwh := hX.what
  rw [hw] at hwh
  refine (do_sM c g _ w eb X E1 sa ha qa sc hc qc hM hwh (hX.sub (ht.keeps hO id)) hf).mono ?_
  rintro e w' ⟨hv, hM', o'⟩
  exact ⟨hv, hM', only_new hO o' h.eb (fun b e => by omega)⟩

theorem editP2 (sc : ByteArray) (L pl : List Int) (hd : Dec sc L pl) (N : Nat) (sf : Adz.Ps) (hwk : Walks L pl N ⟨0, [], [], []⟩ sf) (hend : Adz.peek L sf.i = -1) (hop : sf.opens = []) (hkd : ∀ c ∈ sf.cmds, (Adz.behindKind c.what).getD 0 ≠ 4) (hn : sf.cmds.length ≤ 500) (hne : sf.cmds ≠ [])
    (w : World) (s : ByteArray) (q : Bool) (ls : List ByteArray) (ht : TextOk w s ls) (out : List UInt8)
    (hcy : ∀ (u : World) eb X g, ProgOk u eb X g sf.cmds → Typ u g 167 → X.q = q → X.lines = ls → u.heap.size ≤ X.lo → ∃ k E', CyclesOk u eb X k { opens := List.replicate sf.cmds.length false } E' ∧ E'.out = out) (hlab : sf.labs = [] := by rfl) :
    Calls Tryz.prog 20 #[.string sc, .string s, .bool q] w fun e w' => e = .returned (.tuple #[.string ⟨out.toArray⟩, .bool true]) ∧ Only (fun _ => False) w w' := by
  refine editM sc L pl hd N sf hwk hend hop (fun j hj => hkd _ (List.getElem_mem hj)) hn w s q ls ht out ?_ hlab
  intro u qv xs h1 h2 eb X hEb hcv hq hlines hlo
  obtain ⟨ca, cc, rfl⟩ := row_shape h1
  obtain ⟨g, rfl⟩ : ∃ g, ca = some ⟨g, 0, none⟩ := by
    rcases h1.2 with ⟨_, e⟩ | ⟨g, cap, cur, e, _⟩
    · exact absurd (List.eq_nil_of_length_eq_zero e) hne
    · injection e with e1; exact ⟨g, e1⟩
  exact hcy u eb X g ⟨hEb, ⟨cc, hcv⟩, hn, fun j hj => cmdX_of h1 h2 j hj⟩ (Typ.of_row h1 rfl) hq hlines hlo
end Go.Proofs.YtbiobhghnldckaaGreatDoor

/- Proved: where a rune lies among others, and whether one lies there twice. Conditions: the runes lie in memory. -/
namespace Go.Proofs.YtbiobhghnldckaaGreatDoor
open Go.RowKit
set_option linter.unusedVariables false
attribute [local go_sem ↓] Go.wp_at_zero Go.wp_at_succ

/-- A place is the first of a rune's among others, or none. -/
def IdxAt (xs : List Int) (r v : Int) : Prop := (∃ j : Nat, j < xs.length ∧ v = j ∧ xs.getD j 0 = r ∧ ∀ k, k < j → xs.getD k 0 ≠ r) ∨ (v = -1 ∧ ∀ k, k < xs.length → xs.getD k 0 ≠ r)

set_option maxRecDepth 100000 in
set_option maxHeartbeats 1600000 in
theorem index_calls (w : World) (sa : Option Addr) (sc : Nat) (xs : List Int) (h : SpaceAt w sa xs) (hx : xs.length ≤ 1000000) (r : Int) :
    Calls Tryz.prog 163 #[.slice sa xs.length sc, .int .i32 r] w fun e w' => (∃ v : Int, e = .returned (.int .i64 v) ∧ IdxAt xs r v) ∧ w' = w := by
  go_enter Tryz.func163, Tryz.ntmps163
  go_wp2_with fail
  go_loopg [8] xs.length (fun k v wr => ∃ j : Nat, v = .int .i64 j ∧ j + k = xs.length ∧ Hid (∀ k, k < j → xs.getD k 0 ≠ r) ∧ wr = w)
  case atStart => exact ⟨0, rfl, by omega, fun k hk => by omega, rfl⟩
  case round =>
    obtain ⟨j, rfl, hjk, hA, rfl⟩ := hrel
    have HJ : Hid (j + gk = xs.length) := hjk
    have hjl : j ≤ xs.length := by omega
    clear hjk
    by_cases hlt : j < xs.length
    · obtain ⟨rb, ro, rfl, ht, hc⟩ := h (by intro e; simp [e] at hlt)
      have y1 := hc j hlt
      have HC : Hid _ := hc
      clear hc
      have hw : IntKind.i64.wrap ((j : Int) + 1) = (j : Int) + 1 := by rw [IntKind.wrap_i64]; omega
      have HQ : Hid (∀ k, k < j → xs.getD k 0 ≠ r) := hA
      clear hA
      generalize hp : xs.getD j 0 = p at *
      have HP : Hid (xs.getD j 0 = p) := hp
      clear hp
      by_cases hr : r = p
      · subst hr
        go_wp2
        go_ret
        exact ⟨⟨_, rfl, Or.inl ⟨j, hlt, rfl, HP.out, HQ.out⟩⟩, rfl⟩
      · have hb : (r == p) = false := by simpa using hr
        go_wp2
        go_roundg (gk - 1)
        case measure => have := HJ.out; omega
        case rel => exact ⟨j + 1, by first | rfl | simp [hw], by have := HJ.out; omega, fun k hk => by
          rcases Nat.lt_succ_iff_lt_or_eq.1 hk with h1 | h1
          · exact HQ.out k h1
          · subst h1; rw [HP.out]; exact fun e => hr e.symm, rfl⟩
    · have he : j = xs.length := by omega
      subst he
      have HQ : Hid (∀ k, k < xs.length → xs.getD k 0 ≠ r) := hA
      clear hA
      go_wp2
      go_ret
      exact ⟨⟨_, rfl, Or.inr ⟨rfl, HQ.out⟩⟩, rfl⟩

set_option maxHeartbeats 800000 in
theorem contains_calls (w : World) (sa : Option Addr) (sc : Nat) (xs : List Int) (h : SpaceAt w sa xs) (hx : xs.length ≤ 1000000) (r : Int) (hno : ∀ k, k < xs.length → xs.getD k 0 ≠ r) :
    Calls Tryz.prog 198 #[.slice sa xs.length sc, .int .i32 r] w fun e w' => e = .returned (.bool false) ∧ w' = w := by
  go_enter Tryz.func198, Tryz.ntmps198
  go_wp2_with fail
  refine (index_calls w sa sc xs h hx r).mono ?_
  rintro e w1 ⟨⟨v, rfl, hv⟩, rfl⟩
  have hv1 : v = -1 := by
    rcases hv with ⟨j, h1, h2, h3, h4⟩ | ⟨h1, _⟩
    · exact absurd h3 (hno j h1)
    · exact h1
  subst hv1
  go_wp2
  go_ret
  exact ⟨rfl, rfl⟩
end Go.Proofs.YtbiobhghnldckaaGreatDoor
