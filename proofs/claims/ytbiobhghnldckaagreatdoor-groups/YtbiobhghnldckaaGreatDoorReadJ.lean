/- Proved: program.Read of a script that is one s, without an address, to its end. Conditions: 'Dec': what the script's runes and places are. -/
import Derived.Test.YtbiobhghnldckaaGreatDoorFinJ
namespace Go.Proofs.YtbiobhghnldckaaGreatDoor
open Go.RowKit
set_option linter.unusedVariables false

/-- A script that is one s to its end: what the twins make of it. -/
structure OneS (L pl : List Int) (c : Adz.Cmd) : Prop where
  first : Adz.peek L 0 = 115
  cmd : Adz.command L pl ⟨0, [], [], []⟩ = .ok ⟨L.length, [c], [], []⟩

/-- A program of these commands lies in memory. -/
def ProgAt (w : World) (pb : Nat) (cs : List Adz.Cmd) : Prop := ∃ qv xs, w.cell? ⟨pb, 0, none⟩ = some qv ∧ w.ownsRow 0 167 14 qv cs.length xs ∧ CmdsIn w cs xs ∧ Typ w pb 101

theorem Par.start {g : CG} {w0 : World} (h : Cur g w0 0) (mb lb : Nat) (hm : BehAt w0 mb) (hl : w0.heap[lb]? = some (.map #[] 0)) :
    Par g w0.heap.size w0.heap.size (w0.alloc (.cells #[.pointer (some ⟨g.c, 0, none⟩), .map (some mb), .slice none 0 0, .slice none 0 0, .map (some lb)] 119)) ⟨0, [], [], []⟩ := by
  have hk := Cells.new w0 #[.pointer (some ⟨g.c, 0, none⟩), .map (some mb), .slice none 0 0, .slice none 0 0, .map (some lb)] 119
  have hcl := h.lt
  exact ⟨h.alloc _, ⟨(hk 0 _ rfl).1, by omega, Typ.new _ _ _ _⟩, ⟨mb, (hk 1 _ rfl).1, map_keeps hm ((Only.refl (fun _ => False) w0).alloc _) id⟩, ⟨_, [], (hk 2 _ rfl).1, World.ownsRow_nil _ _ _ _, trivial⟩, ⟨_, (hk 3 _ rfl).1, World.ownsRow_nil _ _ _ _⟩,
    ⟨rfl, lb, (hk 4 _ rfl).1, map_keeps hl ((Only.refl (fun _ => False) w0).alloc _) id⟩, (hk 2 _ rfl).2, (hk 3 _ rfl).2, by simp, h.tp.lt, by simp⟩

set_option maxRecDepth 100000 in
set_option maxHeartbeats 1600000 in
theorem read_s (s : ByteArray) (L pl : List Int) (hd : Dec s L pl) (c : Adz.Cmd) (h1 : OneS L pl c) (w : World) :
    Calls Tryz.prog 32 #[.string s] w fun e w' => ∃ pb, e = .returned (.tuple #[.pointer (some ⟨pb, 0, none⟩), .pointer none]) ∧ ProgAt w' pb [c] ∧ Only (fun _ => False) w w' ∧ w.heap.size ≤ pb := by
  have hsm := hd.small
  have hmm := @run_makeMap Tryz.prog
  obtain ⟨c0, i3, i4, hs, ht, hw, heq⟩ := (command_s h1.cmd (by simp [Adz.atAddress, h1.first, Adz.isDigit]) h1.first).2
  have hcw : c.what = 115 := by
    simp at heq
    rw [heq.2]
    exact hw
  have hb500 : decide ((500 : Int) < (s.size : Int)) = false := decide_eq_false (by omega)
  have hfew := hd.few
  go_enter Tryz.func32, Tryz.ntmps32
  go_wp2_with fail
  refine (new_ok s L pl hd w).mono ?_
  rintro e w1 ⟨g, rfl, rfl, rfl, hc1, ho1, hgc⟩
  go_wp2_with fail
  refine (behinds_calls w1).mono ?_
  rintro e w2 ⟨rfl, rfl⟩
  go_wp2_with fail
  have hpar : Par g (w1.heap.size + 2) (w1.heap.size + 2) (((w1.alloc (.map (behEntries 0 Adz.behTable).toArray 22)).alloc (.map #[] 0)).alloc (.cells #[.pointer (some ⟨g.c, 0, none⟩), .map (some w1.heap.size), .slice none 0 0, .slice none 0 0, .map (some (w1.heap.size + 1))] 119)) ⟨0, [], [], []⟩ := by
    have hm : BehAt ((w1.alloc (.map (behEntries 0 Adz.behTable).toArray 22)).alloc (.map #[] 0)) w1.heap.size := map_keeps (heap_alloc_new w1 _) ((Only.refl (fun _ => False) _).alloc _) id
    have hl : ((w1.alloc (.map (behEntries 0 Adz.behTable).toArray 22)).alloc (.map #[] 0)).heap[w1.heap.size + 1]? = some (.map #[] 0) := by
      have := heap_alloc_new (w1.alloc (.map (behEntries 0 Adz.behTable).toArray 22)) (.map #[] 0)
      simpa using this
    have := Par.start ((hc1.alloc (.map (behEntries 0 Adz.behTable).toArray 22)).alloc (.map #[] 0)) w1.heap.size (w1.heap.size + 1) hm hl
    simpa using this
  have oo : Only (fun _ => False) w (((w1.alloc (.map (behEntries 0 Adz.behTable).toArray 22)).alloc (.map #[] 0)).alloc (.cells #[.pointer (some ⟨g.c, 0, none⟩), .map (some w1.heap.size), .slice none 0 0, .slice none 0 0, .map (some (w1.heap.size + 1))] 119)) := ((ho1.alloc _).alloc _).alloc _
  have hsz1 := ho1.size
  generalize ((w1.alloc (.map (behEntries 0 Adz.behTable).toArray 22)).alloc (.map #[] 0)).alloc (.cells #[.pointer (some ⟨g.c, 0, none⟩), .map (some w1.heap.size), .slice none 0 0, .slice none 0 0, .map (some (w1.heap.size + 1))] 119) = w3 at *
  have HF : Hid (Adz.peek g.L 0 = 115) := h1.first
  have HC : Hid (Adz.command g.L g.pl ⟨0, [], [], []⟩ = .ok ⟨g.L.length, [c], [], []⟩) := h1.cmd
  clear h1 hs ht hw heq hd hc1
  go_loopg [] 1 (fun k wr => ((k = 1 ∧ Hid (Par g (w1.heap.size + 2) (w1.heap.size + 2) wr ⟨0, [], [], []⟩)) ∨ (k = 0 ∧ Hid (Par g (w1.heap.size + 2) (w1.heap.size + 2) wr ⟨g.L.length, [c], [], []⟩))) ∧ Hid (Only (fun b => w.heap.size ≤ b) w wr))
  case atStart => exact ⟨Or.inl ⟨rfl, hpar⟩, oo.mono (fun _ _ e => e.elim)⟩
  case round =>
    obtain ⟨hk, hO⟩ := hrel
    have hO' : Only (fun b => w.heap.size ≤ b) w wr := hO
    clear hO
    rcases hk with ⟨rfl, hP⟩ | ⟨rfl, hP⟩
    · have hP' : Par g (w1.heap.size + 2) (w1.heap.size + 2) wr ⟨0, [], [], []⟩ := hP
      clear hP hpar
      have ho2 : Only (· = g.c) wr wr := Only.refl _ _
      go_wp2_with fail
      refine (peek_calls g wr 0 hP'.cur).mono ?_
      rintro e w4 ⟨rfl, n4, rfl⟩
      rw [HF.out]
      go_wp2_with fail
      have o4 : Only (· = g.c) wr (wr.drewN n4) := (Only.refl _ wr).drewN n4
      refine (gap_s (hP'.moved (hP'.cur.drewN n4) o4 (Nat.le_refl _)) HF.out HC.out).mono ?_
      rintro e w5 ⟨rfl, h5, o5⟩
      go_wp2
      go_roundg 0
      case measure => omega
      case rel =>
        refine ⟨Or.inr ⟨rfl, h5⟩, ?_⟩
        exact (hO'.drewN n4).trans o5 (fun _ e => e) (fun b _ e => by
          rcases e with e | e | e
          · omega
          · omega
          · omega)
    · have hP' : Par g (w1.heap.size + 2) (w1.heap.size + 2) wr ⟨g.L.length, [c], [], []⟩ := hP
      have hend : Adz.peek g.L g.L.length = -1 := Adz.peek_ge (Nat.le_refl _)
      have HE : Hid (Adz.peek g.L g.L.length = -1) := hend
      clear hP hpar hend
      go_wp2_with fail
      refine (peek_calls g wr _ hP'.cur).mono ?_
      rintro e w4 ⟨rfl, n4, rfl⟩
      rw [HE.out]
      go_wp2_with fail
      have o4 : Only (· = g.c) wr (wr.drewN n4) := (Only.refl _ wr).drewN n4
      have h4 := hP'.moved (hP'.cur.drewN n4) o4 (Nat.le_refl _)
      refine (finish_ok h4 rfl ?_).mono ?_
      · intro j hj
        have : j = 0 := by simpa using hj
        subst this
        simp only [List.getElem_cons_zero, hcw]
        decide
      rintro e w5 ⟨rfl, o5⟩
      have h5 := h4.moved (h4.cur.keeps o5 id (fun _ => id) id) (o5.mono (fun _ _ e => e.elim)) (Nat.le_refl _)
      obtain ⟨qv, xs, q1, q2, q3⟩ := h5.cmds
      obtain ⟨qa, qc, rfl⟩ := row_shape q2
      go_wp2
      go_ret2
      have o6 : Only (fun _ => False) w w5 := ((hO'.drewN n4).trans o5 (fun _ e => e) (fun _ _ e => e.elim) : Only (fun b => w.heap.size ≤ b) w w5).mono (fun b hb e => by omega)
      have oa : Only (fun _ => False) w5 (w5.alloc (.cells #[.slice qa [c].length qc] 101)) := (Only.refl _ w5).alloc _
      refine ⟨w5.heap.size, rfl, ⟨_, xs, (Cells.new w5 #[.slice qa [c].length qc] 101).at 0 _ rfl, row_base (row_keeps q2 oa (fun _ _ => id)) (Nat.zero_le _), q3.keeps oa ⟨fun _ _ => id, fun _ _ => id, fun _ _ => id, fun _ _ => id, fun _ _ => id⟩, Typ.new _ _ _ _⟩, o6.alloc _, o6.size⟩
end Go.Proofs.YtbiobhghnldckaaGreatDoor

/- Proved: adze.Parse of a script that is one s, without an address, to its end. Conditions: 'Dec': what the script's runes and places are. -/
namespace Go.Proofs.YtbiobhghnldckaaGreatDoor
open Go.RowKit
set_option linter.unusedVariables false

/-- A Script of these commands lies in memory. -/
structure ScriptAt (w : World) (sb : Nat) (cs : List Adz.Cmd) : Prop where
  typ : Typ w sb 67
  prog : ∃ pb, w.cell? ⟨sb, 0, none⟩ = some (.pointer (some ⟨pb, 0, none⟩)) ∧ ProgAt w pb cs

set_option maxHeartbeats 800000 in
theorem parse_s (s : ByteArray) (L pl : List Int) (hd : Dec s L pl) (c : Adz.Cmd) (h1 : OneS L pl c) (w : World) :
    Calls Tryz.prog 28 #[.string s] w fun e w' => ∃ sb, e = .returned (.tuple #[.pointer (some ⟨sb, 0, none⟩), .int .i64 0, .int .i64 0]) ∧ ScriptAt w' sb [c] ∧ Only (fun _ => False) w w' ∧ w.heap.size ≤ sb := by
  go_enter Tryz.func28, Tryz.ntmps28
  go_wp2_with fail
  refine (read_s s L pl hd c h1 w).mono ?_
  rintro e w1 ⟨pb, rfl, ⟨qv, xs, p1, p2, p3, p4⟩, ho, hpb⟩
  go_wp2
  go_ret3
  have oa : ∀ o : Obj, Only (fun _ => False) w1 (w1.alloc o) := fun o => (Only.refl _ w1).alloc o
  exact ⟨w1.heap.size, rfl, ⟨Typ.new _ _ _ _, pb, (Cells.new w1 _ _).at 0 _ rfl, qv, xs, (oa _).keeps p1 id, row_keeps p2 (oa _) (fun _ _ => id), p3.keeps (oa _) ⟨fun _ _ => id, fun _ _ => id, fun _ _ => id, fun _ _ => id, fun _ _ => id⟩, p4.alloc _⟩, ho.alloc _, ho.size⟩
end Go.Proofs.YtbiobhghnldckaaGreatDoor
