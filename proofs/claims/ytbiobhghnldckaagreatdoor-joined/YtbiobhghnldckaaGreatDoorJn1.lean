/- Proved: the script of adzekeep.Joined is read. No condition but those told. -/
import Derived.Test.YtbiobhghnldckaaGreatDoorLab9
import Derived.Test.YtbiobhghnldckaaGreatDoorK18
import Derived.Test.YtbiobhghnldckaaGreatDoorK17
namespace Go.Proofs.YtbiobhghnldckaaGreatDoor
open Go.RowKit
set_option linter.unusedVariables false

def jnL : List Int := [58, 97, 59, 36, 33, 123, 78, 59, 98, 32, 97, 125, 59, 115, 47, 92, 110, 47, 233, 45, 47, 103]
def jnP : List Int := [0, 1, 2, 3, 4, 5, 6, 7, 8, 9, 10, 11, 12, 13, 14, 15, 16, 17, 18, 20, 21, 22, 23]
def jn1 : Adz.Cmd := { what := 58, name := Adz.enc [97] }
def jn2 : Adz.Cmd := { what := 123, addrs := [⟨1, 0, ⟨[], 0⟩⟩], neg := true }
def jn2' : Adz.Cmd := { what := 123, addrs := [⟨1, 0, ⟨[], 0⟩⟩], neg := true, goal := 4 }
def jn3 : Adz.Cmd := { what := 78 }
def jn4 : Adz.Cmd := { what := 98, name := Adz.enc [97] }
def jn5 : Adz.Cmd := { what := 115, pat := ⟨[⟨5, 0, [(10, 10)], 0⟩], 0⟩, repl := [⟨0, [195, 169], 0⟩, ⟨0, [45], 0⟩], all := true }
def jnC : List Adz.Cmd := [jn1, jn2', jn3, jn4, jn5]

theorem turn1 (g : CG) (pp : Nat) (hL : g.L = jnL) (hpl : g.pl = jnP) : GapOk g pp ⟨0, [], [], []⟩ ⟨2, [jn1], [], [⟨Adz.enc [97], 0, -1⟩]⟩ := by
  have hp0 : Adz.peek g.L 0 = 58 := by rw [hL]; rfl
  refine gap_cmdW g pp ⟨0, [], [], []⟩ _ 58 hp0 (by decide) (by decide) (by decide) (by decide) (by decide) (fun base w hp => ?_)
  have hB : BehP g pp 0 ⟨0, [], [], []⟩ ⟨2, [], [], [⟨Adz.enc [97], 0, -1⟩]⟩ { ({} : Adz.Cmd) with what := Adz.peek g.L 0 } jn1 := by
    rw [hp0]
    exact behP_set g pp 0 ⟨0, [], [], []⟩ { what := 58 } rfl rfl 97 (by rw [hL]; rfl) (by decide) (by rw [hL]; rfl)
  exact command_okW hp {} 0 (headPlain g pp 0 58 hp0 (by decide)) (Nat.le_refl _) (whatP_label g pp base ⟨0, [], [], []⟩ {} (by show Adz.behindKind (Adz.peek g.L 0) = some 3; rw [hp0]; decide) rfl rfl (by simp) (by show 0 < g.L.length; rw [hL]; decide)) _ jn1 hB (by decide) 2 (by rw [hL]; rfl) (by decide)
theorem turn3 (g : CG) (pp : Nat) (hL : g.L = jnL) (hpl : g.pl = jnP) : GapOk g pp ⟨3, [jn1], [], [⟨Adz.enc [97], 0, -1⟩]⟩ ⟨6, [jn1, jn2], [1], [⟨Adz.enc [97], 0, -1⟩]⟩ := by
  have hp5 : Adz.peek g.L 5 = 123 := by rw [hL]; rfl
  refine gap_cmdW g pp ⟨3, [jn1], [], [⟨Adz.enc [97], 0, -1⟩]⟩ _ 36 (by rw [hL]; rfl) (by decide) (by decide) (by decide) (by decide) (by decide) (fun base w hp => ?_)
  have hB : BehP g pp 5 ⟨3, [jn1], [], [⟨Adz.enc [97], 0, -1⟩]⟩ ⟨6, [jn1], [1], [⟨Adz.enc [97], 0, -1⟩]⟩ { ({ addrs := [⟨1, 0, ⟨[], 0⟩⟩], neg := true } : Adz.Cmd) with what := Adz.peek g.L 5 } jn2 := by
    rw [hp5]
    exact behP_open g pp 5 ⟨3, [jn1], [], [⟨Adz.enc [97], 0, -1⟩]⟩ jn2 rfl (by simp)
  exact command_ok1 hp { addrs := [⟨1, 0, ⟨[], 0⟩⟩], neg := true } 5 (headLastNot g pp 3 (by rw [hL]; rfl) (by rw [hL]; rfl) (by rw [hL]; rfl)) (by decide) (whatP_block g pp base ⟨5, [jn1], [], [⟨Adz.enc [97], 0, -1⟩]⟩ _ (by show Adz.behindKind (Adz.peek g.L 5) = some 1; rw [hp5]; decide) (by simp) (by simp) (by show 5 < g.L.length; rw [hL]; decide) (by simp)) _ jn2 hB (by decide) rfl
theorem turn6 (g : CG) (pp : Nat) (hL : g.L = jnL) (hpl : g.pl = jnP) : GapOk g pp ⟨8, [jn1, jn2, jn3], [1], [⟨Adz.enc [97], 0, -1⟩]⟩ ⟨11, [jn1, jn2, jn3, jn4], [1], [⟨Adz.enc [97], 0, 8⟩]⟩ := by
  have hp8 : Adz.peek g.L 8 = 98 := by rw [hL]; rfl
  have hpl8 : Adz.place g.pl 8 = 8 := by rw [hpl]; rfl
  refine gap_cmdW g pp ⟨8, [jn1, jn2, jn3], [1], [⟨Adz.enc [97], 0, -1⟩]⟩ _ 98 hp8 (by decide) (by decide) (by decide) (by decide) (by decide) (fun base w hp => ?_)
  have hB : BehP g pp 8 ⟨8, [jn1, jn2, jn3], [1], [⟨Adz.enc [97], 0, -1⟩]⟩ ⟨11, [jn1, jn2, jn3], [1], [⟨Adz.enc [97], 0, 8⟩]⟩ { ({} : Adz.Cmd) with what := Adz.peek g.L 8 } jn4 := by
    rw [hp8]
    have := behP_ask g pp 8 ⟨8, [jn1, jn2, jn3], [1], [⟨Adz.enc [97], 0, -1⟩]⟩ { what := 98 } rfl 97 0 rfl 10 (by rw [hL]; decide) (by rw [hL]; rfl) (by decide) (by rw [hL]; rfl)
    rw [hpl8] at this
    exact this
  exact command_okW hp {} 8 (headPlain g pp 8 98 hp8 (by decide)) (Nat.le_refl _) (whatP_plain g pp base ⟨8, [jn1, jn2, jn3], [1], [⟨Adz.enc [97], 0, -1⟩]⟩ {} 4 (by show Adz.behindKind (Adz.peek g.L 8) = some 4; rw [hp8]; decide) (by decide) (by decide) (by simp) (by show 8 < g.L.length; rw [hL]; decide)) _ jn4 hB (by decide) 11 (by rw [hL]; rfl) (by decide)

theorem walks_join : Walks jnL jnP 9 ⟨0, [], [], []⟩ ⟨22, jnC, [], [⟨Adz.enc [97], 0, 8⟩]⟩ := by
  refine ⟨_, fun g pp hL hpl hcap => turn1 g pp hL hpl, ⟨3, [jn1], [], [⟨Adz.enc [97], 0, -1⟩]⟩, fun g pp hL hpl hcap => ?_, _, fun g pp hL hpl hcap => turn3 g pp hL hpl, ⟨7, [jn1, jn2, jn3], [1], [⟨Adz.enc [97], 0, -1⟩]⟩, fun g pp hL hpl hcap => ?_, ⟨8, [jn1, jn2, jn3], [1], [⟨Adz.enc [97], 0, -1⟩]⟩, fun g pp hL hpl hcap => ?_, _, fun g pp hL hpl hcap => turn6 g pp hL hpl, ⟨12, [jn1, jn2', jn3, jn4], [], [⟨Adz.enc [97], 0, 8⟩]⟩, fun g pp hL hpl hcap => ?_, ⟨13, [jn1, jn2', jn3, jn4], [], [⟨Adz.enc [97], 0, 8⟩]⟩, fun g pp hL hpl hcap => ?_, ⟨22, jnC, [], [⟨Adz.enc [97], 0, 8⟩]⟩, fun g pp hL hpl hcap => ?_, rfl⟩
  · exact gap_skip g pp ⟨2, [jn1], [], [⟨Adz.enc [97], 0, -1⟩]⟩ 59 (by rw [hL]; rfl) (Or.inr ⟨by decide, by decide⟩)
  · exact gapOk_0 g pp ⟨6, [jn1, jn2], [1], [⟨Adz.enc [97], 0, -1⟩]⟩ {} 6 (headPlain g pp 6 78 (by rw [hL]; rfl) (by decide)) (Nat.le_refl _) 78 (by rw [hL]; rfl) (by decide) 78 (by rw [hL]; rfl) (by decide) (by decide) (by simp) (Or.inr (Or.inl (by rw [hL]; rfl)))
  · exact gap_skip g pp ⟨7, [jn1, jn2, jn3], [1], [⟨Adz.enc [97], 0, -1⟩]⟩ 59 (by rw [hL]; rfl) (Or.inr ⟨by decide, by decide⟩)
  · exact gap_close g pp ⟨11, [jn1, jn2, jn3, jn4], [1], [⟨Adz.enc [97], 0, 8⟩]⟩ (by rw [hL]; rfl) 1 rfl (by simp)
  · exact gap_skip g pp ⟨12, [jn1, jn2', jn3, jn4], [], [⟨Adz.enc [97], 0, 8⟩]⟩ 59 (by rw [hL]; rfl) (Or.inr ⟨by decide, by decide⟩)
  · exact gapOk_plain g pp ⟨13, [jn1, jn2', jn3, jn4], [], [⟨Adz.enc [97], 0, 8⟩]⟩ 115 (by rw [hL]; rfl) (by decide) 5 (by decide) (by decide) (by decide) (by simp) jn5 22 22 (behOk_s g pp _ 14 _ rfl jn5 22 (by rw [hL, hpl]; rfl)) (by show 14 ≤ 22; omega) (Adz.tail_at (Or.inr (Or.inr (by rw [hL]; rfl)))) (by decide)
theorem fin_join : FinOk ⟨22, jnC, [], [⟨Adz.enc [97], 0, 8⟩]⟩ jnC := by
  have := finOk_lab ⟨22, jnC, [], [⟨Adz.enc [97], 0, 8⟩]⟩ ⟨Adz.enc [97], 0, 8⟩ rfl rfl (by decide) (by decide +kernel) (by
    intro j hj h4
    have : ∀ c ∈ jnC, (Adz.behindKind c.what).getD 0 = 4 → c.name = Adz.enc [97] := by
      intro c hc h4
      simp only [jnC, List.mem_cons, List.not_mem_nil, or_false] at hc
      rcases hc with rfl | rfl | rfl | rfl | rfl
      · exact absurd h4 (by decide)
      · exact absurd h4 (by decide)
      · exact absurd h4 (by decide)
      · rfl
      · exact absurd h4 (by decide)
    exact this _ (List.getElem_mem hj) h4)
  have e : jnC.map (goalF 0) = jnC := by
    have e1 : goalF 0 jn1 = jn1 := if_neg (by decide)
    have e2 : goalF 0 jn2' = jn2' := if_neg (by decide)
    have e3 : goalF 0 jn3 = jn3 := if_neg (by decide)
    have e4 : goalF 0 jn4 = jn4 := if_pos (by decide)
    have e5 : goalF 0 jn5 = jn5 := if_neg (by decide)
    simp only [jnC, List.map_cons, List.map_nil, e1, e2, e3, e4, e5]
  have e' : (⟨22, jnC, [], [⟨Adz.enc [97], 0, 8⟩]⟩ : Adz.Ps).cmds.map (goalF 0) = jnC := e
  simp only [e] at this
  exact this
end Go.Proofs.YtbiobhghnldckaaGreatDoor
