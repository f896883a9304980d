/- Proved: an s finds what it replaces where another replacement, of a rune that is not in the space, turns the space. No condition but those told. -/
import Derived.Test.YtbiobhghnldckaaGreatDoorRpl5
namespace Go.Proofs.YtbiobhghnldckaaGreatDoor
set_option linter.unusedVariables false
namespace Adz
theorem substGo_flag (sp : List Int) (nth : Int) (all : Bool) (ps ps' : List Part) : ∀ (ms : List (List Int)) (num : Int) (k : Nat) (ch ch' : List Int) (f : Bool), (substGo sp nth all ps ms num k ch f).2.2 = (substGo sp nth all ps' ms num k ch' f).2.2
  | [], _, _, _, _, _ => rfl
  | m :: ms, num, k, ch, ch', f => by
    simp only [substGo]
    split
    · exact substGo_flag sp nth all ps ps' ms _ _ _ _ _
    · split
      · exact substGo_flag sp nth all ps ps' ms _ _ _ _ _
      · rfl
theorem substGo_mem (sp : List Int) (nth : Int) (all : Bool) (ps : List Part) (v : Int) (hv : ∀ m, v ∈ replAll sp m ps) : ∀ (ms : List (List Int)) (num : Int) (k : Nat) (ch : List Int) (f : Bool), (f = true → v ∈ ch) → (substGo sp nth all ps ms num k ch f).2.2 = true → v ∈ (substGo sp nth all ps ms num k ch f).2.1
  | [], _, _, _, _, h, hf => h hf
  | m :: ms, num, k, ch, f, h, hf => by
    simp only [substGo] at hf ⊢
    split at hf
    · rename_i hc
      rw [if_pos hc]
      exact substGo_mem sp nth all ps v hv ms _ _ _ _ h hf
    · rename_i hc
      rw [if_neg hc]
      split at hf
      · rename_i ha
        rw [if_pos ha]
        exact substGo_mem sp nth all ps v hv ms _ _ _ _ (fun _ => List.mem_append_right _ (hv m)) hf
      · rename_i ha
        rw [if_neg ha]
        exact List.mem_append_right _ (hv m)
/-- Whether an s finds what it replaces. -/
theorem hit_iff (sp : List Int) (c : Cmd) (v : Int) (hk : Okr v) (hv : v ∉ sp) : hit sp c = true ↔ subst sp { c with repl := [litp v] } ≠ sp := by
  have hmem : ∀ m, v ∈ replAll sp m [litp v] := fun m => by
    unfold replAll repl1
    have h0 : (litp v).kind = 0 := rfl
    simp only [List.flatMap_cons, List.flatMap_nil, List.append_nil]
    rw [if_pos h0, litp_runes hk]
    simp
  have hfl := substGo_flag sp c.nth c.all c.repl [litp v] (matches_ sp c.pat.items) 0 0 [] [] false
  unfold hit subst
  simp only
  rw [hfl]
  constructor
  · intro h
    rw [if_pos h]
    intro e
    have := substGo_mem sp c.nth c.all [litp v] v hmem (matches_ sp c.pat.items) 0 0 [] false (fun e => by cases e) h
    exact hv (by rw [← e]; exact List.mem_append_left _ this)
  · intro h
    cases hb : (substGo sp c.nth c.all [litp v] (matches_ sp c.pat.items) 0 0 [] false).2.2 with
    | true => rfl
    | false => rw [hb] at h; exact absurd rfl h
end Adz
end Go.Proofs.YtbiobhghnldckaaGreatDoor
