/- Proved: a call of adzelaw.All returns true, for every row of steps, and turns nothing of what was there; the library's tables that the row lists hold what the program's text lays (the card's tie), and no other condition. -/
import Derived.Test.YtbiobhghnldckaaGreatDoorS19
import Derived.Test.YtbiobhghnldckaaGreatDoorCards
import Derived.LaidByTextLater
namespace Go.Proofs.YtbiobhghnldckaaGreatDoor.all
open Go.ChangeShapes Go.WideShapes Go.ChangeAt Go.RowKit
set_option linter.unusedVariables false

theorem own : ownKnob Tryz.prog.godebug = none := by kernel_rfl

set_option maxRecDepth 100000 in
theorem lifted (os : Os) (started : os.Started) (H : Type) (cg : TypeId × Value → H) :
    ReturnsInHanded {} Tryz.checked os 5 .any (fun w args => (Rows.allSpec.pre cg Tryz.prog Tryz.f5 [] false w args ∧ laidMetH Tryz.prog Rows.allRow.laid w) ∧ sizedMet cg Tryz.prog Tryz.f5 (OpenSpec.ofChange Rows.allSpec) false w args)
      (Rows.allSpec.post cg Tryz.prog Tryz.f5 false true false false) := by
  refine Gj (C := Tryz.checked) (X := fun w _ => laidMetH Tryz.prog Rows.allRow.laid w) (fun _ _ _ hh h => h.of_heap hh) own started (by kernel_rfl) Tryz.func5
    (ChangeSpec.witness_shaped (enc := cg) (C := Tryz.checked) (os := os) (X := fun w _ => laidMetH Tryz.prog Rows.allRow.laid w) false (World.laidAll Tryz.prog os Rows.allRow.laid) #[.slice none 0 0] 8 (World.laidAll_os _ _ _)
      (World.shaped_of_ZipB (by kernel_rfl) (by kernel_rfl)) (by kernel_rfl) (by kernel_rfl) (by kernel_rfl)
      (by rw [MakeChecks.laidMetH_plain _ _ _ (by kernel_rfl)]; exact laidMet_laidAll _ (by kernel_rfl) (by kernel_rfl))) ?_
  intro W aq args ds gs before hval0 hW hL hS hwt0
  have hval : ∀ (j : Nat) t v, Tryz.f5.params[j]? = some t → args[j]? = some v → Value.okWide Tryz.prog W .any aq t v := hval0
  have hW' := hW
  obtain ⟨p, q, hA0, hV, rfl, _, _⟩ := hW
  have hA : DataW.TrodAll cg Tryz.prog W 0 (fun _ => true) true Tryz.f5.params.toList args.toList ds p := hA0
  rw [Tryz.params5] at hA hval
  obtain ⟨v0, d0, rfl, rfl, h0⟩ := trodAll_one hA
  obtain ⟨rfl, rfl⟩ := trodVars_none hV
  have hwt : (DataW.weightsEach Tryz.prog (Tryz.f5.params.toList ++ []) ([d0] ++ [])).all (· ≤ reachBytes) = true := hwt0
  rw [Tryz.params5] at hwt
  have hw2 : (d0.weights Tryz.prog 29).all (· ≤ reachBytes) = true := by
    simp only [List.append_nil, DataW.weightsEach] at hwt
    exact hwt
  obtain ⟨a, cD, ops, rfl, hops, hlen⟩ := Ob (hval 0 29 v0 rfl rfl) h0 hw2
  clear hA0 hval0
  simp only [List.append_nil] at hW'
  have hlt := hW'.lt
  refine (Jn W (E0 (by kernel_rfl) (by simp [Rows.allRow]) (by simp [Rows.allRow]) (by simp [Rows.allRow]) hL hS) a cD ops hops hlen).mono ?_
  rintro e W' ⟨rfl, o⟩
  exact ⟨_, rfl, Kt hW' (fun _ _ _ => trodAll_mk1 (shut_bool Tryz.underlying4 _)) (fun sp hsp => trodAll_mk1 (Go.WideElems.Trod_stays (by kernel_rfl) (by kernel_rfl) (of_decide_eq_true (by kernel_rfl)) h0 (fun x hx => (o.below _ (Nat.le_refl _) (fun _ _ => id)).same (hlt x hx)) hsp)) (fun _ _ => rfl)
    (by simp) o (ok_one (by kernel_rfl) rfl (okWide_bool_mk Tryz.underlying4 _))⟩

theorem said : Rows.AllSaid :=
  OpenClaim.holds_of_wide 5 Tryz.f5 rfl rfl rfl rfl rfl rfl rfl ⟨rfl, rfl, rfl, rfl, rfl⟩ rfl rfl rfl rfl rfl (by kernel_rfl) Tryz.func5 (by kernel_rfl)
    (of_decide_eq_true (by kernel_rfl)) (by unfold Func.isWrapper; first | (rw [if_pos (by decide +kernel)]; kernel_rfl) | (rw [if_neg (by decide +kernel)]; exact ⟨rfl, rfl⟩))
    (fun os started H cg _ => lifted os started H cg)

theorem plain (f : FuncId) (fn : Func) (hf : Tryz.pinned.checked.prog.funcNamed "adze/adzelaw.All" = some f) (hfn : Tryz.pinned.checked.prog.funcs[f]? = some fn) :
    false = Tryz.pinned.checked.prog.looks [] ∧ ∀ (j : Nat) t, fn.params[j]? = some t → Tryz.pinned.checked.prog.wantsStandIn t = false := by
  obtain rfl : f = 5 := Option.some.inj ((show Tryz.prog.funcNamed "adze/adzelaw.All" = some 5 by kernel_rfl).symm.trans hf) |>.symm
  obtain rfl : fn = Tryz.f5 := (Option.some.inj (Tryz.func5.symm.trans hfn)).symm
  refine ⟨by kernel_rfl, fun j t ht => ?_⟩
  rw [Tryz.params5] at ht
  have hm : t ∈ [29] := by simpa using Array.mem_of_getElem? ht
  have hall : ([29].all fun u => !Tryz.prog.wantsStandIn u) = true := by kernel_rfl
  exact (show Tryz.prog.wantsStandIn t = false by simpa using List.all_eq_true.1 hall t hm)

set_option maxRecDepth 100000 in
theorem SW : Rows.allRow.laidByTextAt .later Tryz.pinned [.data, .data, .data, .data, .pinned] true :=
  OpenClaim.laidByTextAt_pinned (l := Rows.allRow.laid.take 4) (k := [.data, .data, .data, .data]) rfl rfl (Program.laidByTextLater_by_one 34 8 65 (by kernel_rfl) (by kernel_rfl) (by kernel_rfl) (by kernel_rfl) (by kernel_rfl) (by kernel_rfl) (fun _ _ => by kernel_rfl)) rfl rfl rfl rfl (fun y hy e => by
    simp only [Rows.allRow, List.zip_cons_cons, List.zip_nil_right, List.mem_cons, List.mem_nil_iff, or_false] at hy
    rcases hy with rfl | rfl | rfl | rfl | rfl
    all_goals first | (cases e; done) | exact ⟨by kernel_rfl, by kernel_rfl⟩) (by unfold Program.listedFits; rw [show Tryz.pinned.checked.prog.headLifts.contains "ownunsafe" = false by kernel_rfl]; kernel_rfl)

/-- The card. -/
theorem proved : Rows.AllCardSaid :=
  Claim7.holds_tied_plain_at .later [] _ _ _ _ said (fun _ h => by cases h) (by kernel_rfl) (fun _ h => by cases h) SW rfl ⟨rfl, rfl⟩ (by kernel_rfl) rfl plain (by kernel_rfl)
#print axioms proved
end Go.Proofs.YtbiobhghnldckaaGreatDoor.all
