/- Proved: from a call to a row's claim, where the call is handed no memory and turns none; what the library's tables hold where a row lists them. Conditions: as told in each theorem. -/
import Derived.Test.YtbiobhghnldckaaGreatDoorK9
import Derived.Test.YtbiobhghnldckaaGreatDoorRows
import Derived.WalkKit
import Derived.ProofKit
import Derived.OpenShut
import Derived.Lay
import Derived.LaidOnce
import Derived.LaidMore
import Derived.Stop.Joined
import Derived.SevenTiedAt
import Derived.Lib.LaidU8
import Derived.Shelf.Vars
import Derived.HandedShaped
import Derived.Test.YtbiobhghnldckaaGreatDoorK13
import Derived.ChangeSlices
import Derived.ChangeSame
namespace Go.Proofs.YtbiobhghnldckaaGreatDoor
open Go.ChangeShapes Go.WideShapes Go.ChangeAt Go.RowKit Go.Lib
set_option linter.unusedVariables false

/-- The way from a call to a row's claim that keeps both the world's shape and what the row lists. -/
theorem lift_both {H : Type} {enc : TypeId × Value → H} {a : Assume} {C : Checked} {os : Os} {f : FuncId} {fn : Func} {s : ChangeSpec} {conds : List PathCond} {apart fresh handsOn again : Bool} {X : World → Array Value → Prop}
    (hX : ∀ (w w' : World) (args : Array Value), w.heap = w'.heap → X w args → X w' args)
    (own : ownKnob C.prog.godebug = none) (started : os.Started) (noInit : C.prog.inits.idxOf? f = none) (hfn : C.prog.funcs[f]? = some fn)
    (witness : ∃ (w : World) (tape : Tape) (i : Input), w.os = os ∧ (w.forCall tape i).Shaped C.prog ∧ i.vars = [] ∧ Input.okWide C.prog (w.forCall tape i) .any w.heap.size f i ∧
      ((s.pre enc C.prog fn conds apart (w.forCall tape i).memory i.args ∧ X (w.forCall tape i).memory i.args) ∧ sizedMet enc C.prog fn (OpenSpec.ofChange s) apart (w.forCall tape i).memory i.args) ∧ a.holds C.prog (lone (Frame.enter C.prog f i.args .normal) [] (w.forCall tape i)))
    (contract : ∀ (W : World) (base : Nat) (args : Array Value) (ds gs : List (DataW H)) (before : List MemPlace),
      (∀ (j : Nat) t v, fn.params[j]? = some t → args[j]? = some v → Value.okWide C.prog W .any base t v) →
      DataW.Whole enc C.prog fn.params.toList s.vars apart W args.toList ds gs before → X W args → W.ShapedOpen C.prog →
      Calls C.prog f args W fun e W' => ∃ v, e = .returned v ∧ s.post enc C.prog fn apart fresh handsOn again W args v W') :
    ReturnsInHanded a C os f .any (fun w args => (s.pre enc C.prog fn conds apart w args ∧ X w args) ∧ sizedMet enc C.prog fn (OpenSpec.ofChange s) apart w args) (s.post enc C.prog fn apart fresh handsOn again) := by
  refine returnsInHanded_of_calls own started noInit witness ?_
  intro w tape i _ hsh _ hok hpre _
  obtain ⟨_, _, _, fn', hfn', _, _, _, _, hval⟩ := hok
  obtain rfl : fn' = fn := Option.some.inj (hfn'.symm.trans hfn)
  obtain ⟨⟨⟨ds, gs, before, hw, _⟩, hx⟩, _⟩ := hpre
  refine (contract (w.forCall tape i) w.heap.size i.args ds gs before hval (DataW.Whole.of_heap (by rfl) hw) (hX _ _ _ (by rfl) hx) hsh).mono ?_
  rintro e W' ⟨v, rfl, hp⟩
  exact ChangeSpec.post_blind hp

/-- The post of a call that was handed no memory and turned none: what it has made may be frozen. -/
theorem post_none {H : Type} {enc : TypeId × Value → H} {P : Program} {f : Func} {s : ChangeSpec} {apart fresh handsOn again : Bool} {W W' : World} {args : Array Value} {v : Value} {ds gs : List (DataW H)}
    (hW : DataW.Whole enc P f.params.toList s.vars apart W args.toList ds gs [])
    (hres : ∀ (b : Nat) (sp : Nat → Bool) (hd : Bool), DataW.TrodAll enc P W' b sp hd f.resultTypes.toList (v.resultList f.resultTypes.size) (s.fn H (ds ++ gs)).results [])
    (hargs : ∀ sp : Nat → Bool, DataW.TrodAll enc P W' 0 sp true f.params.toList args.toList (s.fn H (ds ++ gs)).args [])
    (hvars : ∀ sp : Nat → Bool, DataW.TrodVars enc P W' sp s.vars (s.fn H (ds ++ gs)).vars [])
    (hk : W.keptBut W' (fun _ => False))
    (hok : ∀ (j : Nat) (t : TypeId) (r : Value), f.resultTypes[j]? = some t → (v.resultList f.resultTypes.size)[j]? = some r → Value.okWide P W' .any 0 t r) :
    s.post enc P f apart fresh handsOn again W args v W' := by
  refine ⟨ds, gs, [], [], [], [], hW, hres _ _ _, hargs _, hvars _, World.keptBut_mono (fun p hp => hp.elim) hk, fun _ => ?_⟩
  refine ⟨hok, _, _, [], ⟨[], [], trodAll_append (hargs _) (hres _ _ _), hvars _, rfl, fun b off hp => ?_, fun _ => List.nodup_nil⟩, fun p hp => ?_⟩
  · simp at hp
  · simp at hp

theorem kept_of_only {W W' : World} (o : Only (fun _ => False) W W') : W.keptBut W' (fun _ => False) := by
  refine ⟨o.os, o.output, fun i hi => ?_⟩
  rw [o.block i hi id]
  split
  · rename_i h1 h2
    rw [h1] at h2
    injection h2 with h2
    injection h2 with h2 h3 h4
    subst h2; subst h3; subst h4
    exact ⟨rfl, rfl, rfl, fun _ _ => rfl⟩
  · rename_i h1 h2
    rw [h1] at h2
    injection h2 with h2
    injection h2 with h2 h3
    subst h2; subst h3
    exact Or.inr ⟨rfl, rfl⟩
  · rfl

set_option maxRecDepth 100000 in
theorem tabs_of {W : World} {l : List (String × DataW Unit)} (hl : (l.all fun x => x.2.handleName?.isNone) = true) (m1 : ("unicode/utf8.first", Rows.laid_unicode_utf8_first) ∈ l) (m2 : ("unicode/utf8.acceptRanges", Rows.laid_unicode_utf8_acceptRanges) ∈ l) (hL : laidMetH Tryz.prog l W) (hS : W.ShapedOpen Tryz.prog) : Tabs W := by
  rw [MakeChecks.laidMetH_plain _ _ _ hl] at hL
  have h1 := Go.Lib.laidMet.reads hL m1
  have h2 := Go.Lib.laidMet.reads hL m2
  have c5 : Tryz.prog.cellsOf 5 = 1 := by kernel_rfl
  have f : W.cell? ⟨0, 195, none⟩ = some (.int .u8 2) := by
    obtain ⟨g, t, cs, fuel, p, hg, hty, hvar, hd⟩ := h1
    obtain rfl := Option.some.inj ((show Tryz.prog.globalNamed "unicode/utf8.first" = some 0 by kernel_rfl).symm.trans hg)
    obtain rfl := Option.some.inj ((show (Tryz.prog.globals[0]?).map (·.type) = some 134 by kernel_rfl).symm.trans hty)
    unfold Rows.laid_unicode_utf8_first Go.Pinned.utf8First at hd
    obtain ⟨fuel', d, q, hdi, he⟩ := array_elem Tryz.underlying134 hd 195 (by omega)
    obtain rfl : d = .lit (.int .u8 2) := Option.some.inj (hdi.symm.trans (by kernel_rfl))
    rw [c5] at he
    obtain ⟨z, e1, e2, _⟩ := DataW.trod_int Tryz.underlying5 he
    have hz : z = 2 := by
      have := (Prod.mk.inj e2).1
      simp only [DataW.lit.injEq, Lit.int.injEq, true_and] at this
      exact this.symm
    rw [World.var?_cell hg hvar 195]
    have h0 : ((cs.toList.drop (195 * 1)).take 1)[0]? = some (.int .u8 z) := by rw [e1]; rfl
    rw [← hz]
    simpa using h0
  have r : W.cell? ⟨1, 0, none⟩ = some (.int .u8 128) ∧ W.cell? ⟨1, 1, none⟩ = some (.int .u8 191) := by
    obtain ⟨g, t, cs, fuel, p, hg, hty, hvar, hd⟩ := h2
    obtain rfl := Option.some.inj ((show Tryz.prog.globalNamed "unicode/utf8.acceptRanges" = some 1 by kernel_rfl).symm.trans hg)
    obtain rfl := Option.some.inj ((show (Tryz.prog.globals[1]?).map (·.type) = some 137 by kernel_rfl).symm.trans hty)
    have c2 : Tryz.prog.cellsOf 136 = 2 := by kernel_rfl
    unfold Rows.laid_unicode_utf8_acceptRanges at hd
    obtain ⟨fuel', d, q, hdi, he⟩ := array_elem Tryz.underlying137 hd 0 (by omega)
    obtain rfl : d = .agg ([(128 : Int), 191].map fun z => .lit (.int .u8 z)) := Option.some.inj (hdi.symm.trans (by kernel_rfl))
    rw [c2] at he
    have hcs := ints_of_struct Tryz.underlying136 (fun j f hj => by
      match j, hj with
      | 0, hj => simp at hj; subst hj; exact ⟨Tryz.underlying5, rfl, c5⟩
      | 1, hj => simp at hj; subst hj; exact ⟨Tryz.underlying5, rfl, c5⟩
      | j + 2, hj => simp at hj) (by rw [c2]; rfl) he
    have e0 := congrArg (·[0]?) hcs
    have e1 := congrArg (·[1]?) hcs
    simp only [List.getElem?_take, List.getElem?_drop] at e0 e1
    constructor
    · rw [World.var?_cell hg hvar 0, ← Array.getElem?_toList]
      simpa using e0
    · rw [World.var?_cell hg hvar 1, ← Array.getElem?_toList]
      simpa using e1
  exact ⟨f, r.1, r.2, cell_of_shapedOpen_int (zero := #[.int .i64 0]) (t := 3) hS (of_decide_eq_true (by kernel_rfl)) (by kernel_rfl) rfl (by kernel_rfl) (by kernel_rfl) Tryz.underlying3⟩

/-- The bounds of an int. -/
theorem int_bounds {x : Int} (h : (Lit.int .i64 x).wf = true) : -9223372036854775808 ≤ x ∧ x ≤ 9223372036854775807 := by
  have e1 : IntKind.i64.min = -9223372036854775808 := by decide
  have e2 : IntKind.i64.max = 9223372036854775807 := by decide
  simp only [Lit.wf, Bool.and_eq_true, decide_eq_true_eq, e1, e2] at h
  exact h
end Go.Proofs.YtbiobhghnldckaaGreatDoor

/- Proved: from a call to a row's claim, where the call is handed raw numbers and turns nothing of what was there. Conditions: as told in each theorem. -/
namespace Go.Proofs.YtbiobhghnldckaaGreatDoor
open Go.ChangeShapes Go.WideShapes Go.ChangeAt Go.RowKit Go.Lib
set_option linter.unusedVariables false

/-- The post of a call that turned nothing of what was there: what it has made may be frozen. -/
theorem post_kept {H : Type} {enc : TypeId × Value → H} {P : Program} {f : Func} {s : ChangeSpec} {apart fresh handsOn again : Bool} {W W' : World} {args : Array Value} {v : Value} {ds gs : List (DataW H)} {before pa pv : List MemPlace}
    (hW : DataW.Whole enc P f.params.toList s.vars apart W args.toList ds gs before)
    (hres : ∀ (b : Nat) (sp : Nat → Bool) (hd : Bool), DataW.TrodAll enc P W' b sp hd f.resultTypes.toList (v.resultList f.resultTypes.size) (s.fn H (ds ++ gs)).results [])
    (hargs : ∀ sp : Nat → Bool, (∀ p ∈ before, sp p.block = true) → DataW.TrodAll enc P W' 0 sp true f.params.toList args.toList (s.fn H (ds ++ gs)).args pa)
    (hvars : ∀ sp : Nat → Bool, (∀ p ∈ before, sp p.block = true) → DataW.TrodVars enc P W' sp s.vars (s.fn H (ds ++ gs)).vars pv)
    (hps : before = pa ++ pv) (o : Only (fun _ => False) W W')
    (hok : ∀ (j : Nat) (t : TypeId) (r : Value), f.resultTypes[j]? = some t → (v.resultList f.resultTypes.size)[j]? = some r → Value.okWide P W' .any 0 t r) :
    s.post enc P f apart fresh handsOn again W args v W' := by
  have hlt := hW.lt
  have hold : ∀ p ∈ before, (fun b => decide (b < W.heap.size)) p.block = true := fun p hp => by simpa using hlt p hp
  refine ⟨ds, gs, before, [], pa, pv, hW, hres _ _ _, hargs _ hold, hvars _ hold, World.keptBut_mono (fun p hp => hp.elim) (kept_of_only o), fun _ => ?_⟩
  obtain ⟨_, _, _, _, _, hz, hn⟩ := hW
  refine ⟨hok, _, _, ([] ++ pa) ++ pv, ⟨[] ++ pa, pv, trodAll_append (hargs _ (fun _ _ => rfl)) (hres _ _ _), hvars _ (fun _ _ => rfl), rfl, ?_, ?_⟩, ?_⟩
  · intro b off hp
    have hb : MemPlace.cell b off ∈ before := by rw [hps]; simpa using hp
    exact (o.frozen (p := ⟨b, off, none⟩) (hlt _ hb) id).trans (hz b off hb)
  · intro ha
    have := hn ha
    rw [hps] at this
    simpa using this
  · intro p hp _
    rw [hps]
    simpa using hp

set_option maxRecDepth 100000 in
theorem cellsInt : Tryz.prog.cellsOf 3 = 1 := by kernel_rfl

set_option maxRecDepth 100000 in
/-- Raw numbers that were handed in: where they lie, and that they read as they did. -/
theorem open_raw {H : Type} {enc : TypeId × Value → H} {W : World} {r : Reach} {base : Nat} {v : Value} {d : DataW H} {p : List MemPlace} (hval : Value.okWide Tryz.prog W r base 35 v) (h : DataW.Trod enc Tryz.prog W 0 (fun _ => true) true 35 v d p) :
    ∃ (a : Option Addr) (cap : Nat) (zs : List Int), v = .slice a zs.length cap ∧ RawAt W a zs ∧ zs.length ≤ 9223372036854775807 ∧ ∀ W', Only (fun _ => False) W W' → ∀ sp : Nat → Bool, (∀ q ∈ p, sp q.block = true) → DataW.Trod enc Tryz.prog W' 0 sp true 35 v d p := by
  obtain ⟨a0, len, cap, rfl⟩ := okWide_slice Tryz.underlying35 hval
  obtain ⟨fuel, hf⟩ := h
  rcases open_ints Tryz.underlying35 Tryz.underlying3 cellsInt hf with ⟨hcs, hx⟩ | ⟨a, len', cap', zs, hcs, _, hl, hm, hz, hx, hcell, hwz⟩
  · simp only [Value.cells, List.cons.injEq, and_true, Value.slice.injEq] at hcs
    obtain ⟨rfl, rfl, rfl⟩ := hcs
    obtain ⟨rfl, rfl⟩ := Prod.mk.inj hx
    exact ⟨none, 0, [], rfl, ⟨fun k hk => by simp at hk, fun z hz => by simp at hz⟩, by simp, fun W' o sp hsp => shut_slice_nil Tryz.underlying35⟩
  · simp only [Value.cells, List.cons.injEq, and_true, Value.slice.injEq] at hcs
    obtain ⟨rfl, rfl, rfl⟩ := hcs
    obtain ⟨rfl, rfl⟩ := Prod.mk.inj hx
    have hzl : zs.length = cap := by simpa using hz
    have htl : (zs.take len).length = len := by rw [List.length_take]; omega
    have hspot : 0 < zs.length → a.spot = none := fun h0 => by
      have := hcell 0 h0
      simp only [Addr.add, if_true] at this
      unfold World.cell? at this
      split at this
      · split at this
        · cases this
        · rename_i hn
          simpa using hn
      · cases this
    refine ⟨some a, cap, zs.take len, by rw [htl], ⟨fun k hk => ?_, fun z hz => ?_⟩, ?_, fun W' o sp hsp => ?_⟩
    · have hk2 : k < zs.length := by rw [htl] at hk; omega
      have hs := hspot (by omega)
      have hc := hcell k hk2
      obtain ⟨b, off, spot⟩ := a
      simp only at hs
      subst hs
      rw [add_plain] at hc
      refine ⟨b, off, rfl, ?_⟩
      rw [hc, List.getD_eq_getElem?_getD, List.getElem?_eq_getElem hk2, List.getElem_take]
      rfl
    · exact int_bounds (hwz z (List.mem_of_mem_take hz))
    · rw [htl]; unfold maxLen at hm; omega
    · refine ⟨2, ?_⟩
      have hzsp : zs.length = (if sp a.block = true then cap else len) := by
        by_cases h0 : 0 < zs.length
        · have : sp a.block = true := hsp (.cell a.block a.off) (by
            rw [MemPlace.row]
            simp
            exact h0)
          rw [if_pos this, hzl]
        · split <;> omega
      have := shut_ints (enc := enc) (P := Tryz.prog) (w := W') (base := 0) (spare := sp) (held := true) 0 Tryz.underlying35 Tryz.underlying3 cellsInt (a := a) (len := len) (cap := cap) (zs := zs) (Nat.zero_le _) hl hm hzsp (fun i hi => o.keeps (hcell i hi) id) hwz
      exact this
end Go.Proofs.YtbiobhghnldckaaGreatDoor
