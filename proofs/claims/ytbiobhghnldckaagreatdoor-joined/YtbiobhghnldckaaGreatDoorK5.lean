/- Proved: program.Read of a script that is one s, without an address, to its end. Conditions: 'Dec': what the script's runes and places are. -/
import Derived.Test.YtbiobhghnldckaaGreatDoorK4
import Derived.Test.YtbiobhghnldckaaGreatDoorSpecJ
namespace Go.Proofs.YtbiobhghnldckaaGreatDoor
open Go.RowKit
set_option linter.unusedVariables false

/-- A script that is one s to its end: what the twins make of it. -/
structure OneS (L pl : List Int) (c : Adz.Cmd) : Prop where
  first : Adz.peek L 0 = 115
  cmd : Adz.command L pl ⟨0, [], [], []⟩ = .ok ⟨L.length, [c], [], []⟩

/-- A program of these commands lies in memory. -/
def ProgAt (w : World) (pb : Nat) (cs : List Adz.Cmd) : Prop := ∃ qv xs, w.cell? ⟨pb, 0, none⟩ = some qv ∧ w.ownsRow 0 167 14 qv cs.length xs ∧ CmdsIn w cs xs ∧ Typ w pb 101

theorem Par.start {g : CG} {w0 : World} (h : Cur g w0 0) (mb lb : Nat) (hm : BehAt w0 mb) (hl : w0.heap[lb]? = some (.map #[] 0)) (hlb : w0.heap.size ≤ lb + 1) :
    Par g w0.heap.size w0.heap.size (w0.alloc (.cells #[.pointer (some ⟨g.c, 0, none⟩), .map (some mb), .slice none 0 0, .slice none 0 0, .map (some lb)] 119)) ⟨0, [], [], []⟩ := by
  have hk := Cells.new w0 #[.pointer (some ⟨g.c, 0, none⟩), .map (some mb), .slice none 0 0, .slice none 0 0, .map (some lb)] 119
  have hcl := h.lt
  exact ⟨h.alloc _, ⟨(hk 0 _ rfl).1, by omega, Typ.new _ _ _ _⟩, ⟨mb, (hk 1 _ rfl).1, map_keeps hm ((Only.refl (fun _ => False) w0).alloc _) id⟩, ⟨_, [], (hk 2 _ rfl).1, World.ownsRow_nil _ _ _ _, trivial⟩, ⟨_, (hk 3 _ rfl).1, World.ownsRow_nil _ _ _ _⟩,
    ⟨lb, hlb, (hk 4 _ rfl).1, map_keeps hl ((Only.refl (fun _ => False) w0).alloc _) id⟩, (hk 2 _ rfl).2, (hk 3 _ rfl).2, by simp, h.tp.lt, by simp⟩

set_option maxRecDepth 100000 in
set_option maxHeartbeats 1600000 in
theorem read_s (s : ByteArray) (L pl : List Int) (hd : Dec s L pl) (c : Adz.Cmd) (h1 : OneS L pl c) (w : World) :
    Calls Tryz.prog 32 #[.string s] w fun e w' => ∃ pb, e = .returned (.tuple #[.pointer (some ⟨pb, 0, none⟩), .pointer none]) ∧ ProgAt w' pb [c] ∧ Only (fun _ => False) w w' ∧ w.heap.size ≤ pb := by
  have hsm := hd.small
  have hmm := @run_makeMap Tryz.prog
  obtain ⟨c0, i3, i4, hs, ht, hw, heq⟩ := (command_s h1.cmd (by simp [Adz.atAddress, h1.first, Adz.isDigit]) h1.first).2
  have hcw : c.what = 115 := by
    simp at heq
    rw [heq.2]
    exact hw
  have hb500 : decide ((500 : Int) < (s.size : Int)) = false := decide_eq_false (by omega)
  have hfew := hd.few
  go_enter Tryz.func32, Tryz.ntmps32
  go_wp2_with fail
  refine (new_ok s L pl hd w).mono ?_
  rintro e w1 ⟨g, rfl, rfl, rfl, hc1, ho1, hgc⟩
  go_wp2_with fail
  refine (behinds_calls w1).mono ?_
  rintro e w2 ⟨rfl, rfl⟩
  go_wp2_with fail
  have hpar : Par g (w1.heap.size + 2) (w1.heap.size + 2) (((w1.alloc (.map (behEntries 0 Adz.behTable).toArray 22)).alloc (.map #[] 0)).alloc (.cells #[.pointer (some ⟨g.c, 0, none⟩), .map (some w1.heap.size), .slice none 0 0, .slice none 0 0, .map (some (w1.heap.size + 1))] 119)) ⟨0, [], [], []⟩ := by
    have hm : BehAt ((w1.alloc (.map (behEntries 0 Adz.behTable).toArray 22)).alloc (.map #[] 0)) w1.heap.size := map_keeps (heap_alloc_new w1 _) ((Only.refl (fun _ => False) _).alloc _) id
    have hl : ((w1.alloc (.map (behEntries 0 Adz.behTable).toArray 22)).alloc (.map #[] 0)).heap[w1.heap.size + 1]? = some (.map #[] 0) := by
      have := heap_alloc_new (w1.alloc (.map (behEntries 0 Adz.behTable).toArray 22)) (.map #[] 0)
      simpa using this
    have := Par.start ((hc1.alloc (.map (behEntries 0 Adz.behTable).toArray 22)).alloc (.map #[] 0)) w1.heap.size (w1.heap.size + 1) hm hl (by simp)
    simpa using this
  have oo : Only (fun _ => False) w (((w1.alloc (.map (behEntries 0 Adz.behTable).toArray 22)).alloc (.map #[] 0)).alloc (.cells #[.pointer (some ⟨g.c, 0, none⟩), .map (some w1.heap.size), .slice none 0 0, .slice none 0 0, .map (some (w1.heap.size + 1))] 119)) := ((ho1.alloc _).alloc _).alloc _
  have hsz1 := ho1.size
  generalize ((w1.alloc (.map (behEntries 0 Adz.behTable).toArray 22)).alloc (.map #[] 0)).alloc (.cells #[.pointer (some ⟨g.c, 0, none⟩), .map (some w1.heap.size), .slice none 0 0, .slice none 0 0, .map (some (w1.heap.size + 1))] 119) = w3 at *
  have HF : Hid (Adz.peek g.L 0 = 115) := h1.first
  have HC : Hid (Adz.command g.L g.pl ⟨0, [], [], []⟩ = .ok ⟨g.L.length, [c], [], []⟩) := h1.cmd
  clear h1 hs ht hw heq hd hc1
  go_loopg [] 1 (fun k wr => ((k = 1 ∧ Hid (Par g (w1.heap.size + 2) (w1.heap.size + 2) wr ⟨0, [], [], []⟩)) ∨ (k = 0 ∧ Hid (Par g (w1.heap.size + 2) (w1.heap.size + 2) wr ⟨g.L.length, [c], [], []⟩))) ∧ Hid (Only (fun b => w.heap.size ≤ b) w wr))
  case atStart => exact ⟨Or.inl ⟨rfl, hpar⟩, oo.mono (fun _ _ e => e.elim)⟩
  case round =>
    obtain ⟨hk, hO⟩ := hrel
    have hO' : Only (fun b => w.heap.size ≤ b) w wr := hO
    clear hO
    rcases hk with ⟨rfl, hP⟩ | ⟨rfl, hP⟩
    · have hP' : Par g (w1.heap.size + 2) (w1.heap.size + 2) wr ⟨0, [], [], []⟩ := hP
      clear hP hpar
      have ho2 : Only (· = g.c) wr wr := Only.refl _ _
      go_wp2_with fail
      refine (peek_calls g wr 0 hP'.cur).mono ?_
      rintro e w4 ⟨rfl, n4, rfl⟩
      rw [HF.out]
      go_wp2_with fail
      have o4 : Only (· = g.c) wr (wr.drewN n4) := (Only.refl _ wr).drewN n4
      refine (gap_s (hP'.moved (hP'.cur.drewN n4) o4 (Nat.le_refl _)) HF.out HC.out).mono ?_
      rintro e w5 ⟨rfl, h5, o5⟩
      go_wp2
      go_roundg 0
      case measure => omega
      case rel =>
        refine ⟨Or.inr ⟨rfl, h5⟩, ?_⟩
        exact (hO'.drewN n4).trans o5 (fun _ e => e) (fun b _ e => by
          rcases e with e | e | e
          · omega
          · omega
          · omega)
    · have hP' : Par g (w1.heap.size + 2) (w1.heap.size + 2) wr ⟨g.L.length, [c], [], []⟩ := hP
      have hend : Adz.peek g.L g.L.length = -1 := Adz.peek_ge (Nat.le_refl _)
      have HE : Hid (Adz.peek g.L g.L.length = -1) := hend
      clear hP hpar hend
      go_wp2_with fail
      refine (peek_calls g wr _ hP'.cur).mono ?_
      rintro e w4 ⟨rfl, n4, rfl⟩
      rw [HE.out]
      go_wp2_with fail
      have o4 : Only (· = g.c) wr (wr.drewN n4) := (Only.refl _ wr).drewN n4
      have h4 := hP'.moved (hP'.cur.drewN n4) o4 (Nat.le_refl _)
      refine (finish_ok h4 rfl rfl ?_).mono ?_
      · intro j hj
        have : j = 0 := by simpa using hj
        subst this
        simp only [List.getElem_cons_zero, hcw]
        decide
      rintro e w5 ⟨rfl, o5⟩
      have h5 := h4.moved (h4.cur.keeps o5 id (fun _ => id) id) (o5.mono (fun _ _ e => e.elim)) (Nat.le_refl _)
      obtain ⟨qv, xs, q1, q2, q3⟩ := h5.cmds
      obtain ⟨qa, qc, rfl⟩ := row_shape q2
      go_wp2
      go_ret2
      have o6 : Only (fun _ => False) w w5 := ((hO'.drewN n4).trans o5 (fun _ e => e) (fun _ _ e => e.elim) : Only (fun b => w.heap.size ≤ b) w w5).mono (fun b hb e => by omega)
      have oa : Only (fun _ => False) w5 (w5.alloc (.cells #[.slice qa [c].length qc] 101)) := (Only.refl _ w5).alloc _
      refine ⟨w5.heap.size, rfl, ⟨_, xs, (Cells.new w5 #[.slice qa [c].length qc] 101).at 0 _ rfl, row_base (row_keeps q2 oa (fun _ _ => id)) (Nat.zero_le _), q3.keeps oa ⟨fun _ _ => id, fun _ _ => id, fun _ _ => id, fun _ _ => id, fun _ _ => id⟩, Typ.new _ _ _ _⟩, o6.alloc _, o6.size⟩
end Go.Proofs.YtbiobhghnldckaaGreatDoor

/- Proved: adze.Parse of a script that is one s, without an address, to its end. Conditions: 'Dec': what the script's runes and places are. -/
namespace Go.Proofs.YtbiobhghnldckaaGreatDoor
open Go.RowKit
set_option linter.unusedVariables false

/-- A Script of these commands lies in memory. -/
structure ScriptAt (w : World) (sb : Nat) (cs : List Adz.Cmd) : Prop where
  typ : Typ w sb 67
  prog : ∃ pb, w.cell? ⟨sb, 0, none⟩ = some (.pointer (some ⟨pb, 0, none⟩)) ∧ ProgAt w pb cs

set_option maxHeartbeats 800000 in
theorem parse_s (s : ByteArray) (L pl : List Int) (hd : Dec s L pl) (c : Adz.Cmd) (h1 : OneS L pl c) (w : World) :
    Calls Tryz.prog 28 #[.string s] w fun e w' => ∃ sb, e = .returned (.tuple #[.pointer (some ⟨sb, 0, none⟩), .int .i64 0, .int .i64 0]) ∧ ScriptAt w' sb [c] ∧ Only (fun _ => False) w w' ∧ w.heap.size ≤ sb := by
  go_enter Tryz.func28, Tryz.ntmps28
  go_wp2_with fail
  refine (read_s s L pl hd c h1 w).mono ?_
  rintro e w1 ⟨pb, rfl, ⟨qv, xs, p1, p2, p3, p4⟩, ho, hpb⟩
  go_wp2
  go_ret3
  have oa : ∀ o : Obj, Only (fun _ => False) w1 (w1.alloc o) := fun o => (Only.refl _ w1).alloc o
  exact ⟨w1.heap.size, rfl, ⟨Typ.new _ _ _ _, pb, (Cells.new w1 _ _).at 0 _ rfl, qv, xs, (oa _).keeps p1 id, row_keeps p2 (oa _) (fun _ _ => id), p3.keeps (oa _) ⟨fun _ _ => id, fun _ _ => id, fun _ _ => id, fun _ _ => id, fun _ _ => id⟩, p4.alloc _⟩, ho.alloc _, ho.size⟩
end Go.Proofs.YtbiobhghnldckaaGreatDoor

/- Proved: nothing; plain Lean functions: what the functions that look for matches compute, on lists of numbers. No condition. -/
namespace Go.Proofs.YtbiobhghnldckaaGreatDoor.Adz

def spanHas (r : Int) (s : Int × Int) : Bool := decide (s.1 ≤ r) && decide (r ≤ s.2)
def has (x : Item) (r : Int) : Bool := x.spans.any (spanHas r)
def takes (x : Item) (r : Int) : Bool := if x.kind == 4 then true else if x.kind == 5 then has x r else if x.kind == 6 then !has x r else false
def takesMany (x : Item) : Bool := x.times == 1 || x.times == 2
def takesNone (x : Item) (at_ n : Int) : Bool :=
  if x.kind == 0 then at_ == 0 else if x.kind == 1 then at_ == n else if x.kind == 2 || x.kind == 3 then true else x.times == 1 || x.times == 3
/-- where an item ends that begins at a place: what is known of the next place (e1), and of the next item at the next place (b1) and at this one (b0) -/
def endAt (x : Item) (r? : Option Int) (at_ n e1 b1 b0 : Int) : Int :=
  let none_ := if takesNone x at_ n && b0 != -1 then at_ else -1
  match r? with
  | some r => if takes x r then (if takesMany x && e1 != -1 then e1 else if b1 != -1 then at_ + 1 else none_) else none_
  | none => none_
end Go.Proofs.YtbiobhghnldckaaGreatDoor.Adz

/- Proved: whether an item takes a rune. Conditions: the item lies in memory as 'ItemAt' says. -/
namespace Go.Proofs.YtbiobhghnldckaaGreatDoor
open Go.RowKit
set_option linter.unusedVariables false

/-- An item lies at an address. -/
structure ItemAt (w : World) (ib o : Nat) (x : Adz.Item) : Prop where
  kind : w.cell? ⟨ib, o, none⟩ = some (.int .i64 x.kind)
  spans : ∃ sa sc, w.cell? ⟨ib, o + 2, none⟩ = some (.slice sa x.spans.length sc) ∧ SpansAt w (.slice sa x.spans.length sc) x.spans
  times : w.cell? ⟨ib, o + 3, none⟩ = some (.int .i64 x.times)
  few : x.spans.length ≤ 1000
theorem ItemAt.keeps {S : Nat → Prop} {w w' : World} {ib o : Nat} {x : Adz.Item} (h : ItemAt w ib o x) (u : Only S w w') (h1 : ¬ S ib) (h2 : ∀ b, Typ w b 284 → ¬ S b) : ItemAt w' ib o x := by
  obtain ⟨sa, sc, s1, s2⟩ := h.spans
  exact ⟨u.keeps h.kind h1, ⟨sa, sc, u.keeps s1 h1, s2.keeps u h2⟩, u.keeps h.times h1, h.few⟩
theorem ItemAt.quiet {w w' : World} {ib o : Nat} {x : Adz.Item} (h : ItemAt w ib o x) (u : Only (fun _ => False) w w') : ItemAt w' ib o x := h.keeps u id (fun _ _ => id)

set_option maxHeartbeats 800000 in
theorem closure_calls (a b r : Int) (rb : Nat) (w : World) (hr : w.cell? ⟨rb, 0, none⟩ = some (.int .i32 r)) :
    Calls Tryz.prog 235 #[.agg #[.int .i32 a, .int .i32 b], .pointer (some ⟨rb, 0, none⟩)] w fun e w' => e = .returned (.bool (Adz.spanHas r (a, b))) ∧ Only (fun _ => False) w w' := by
  have hl : rb < w.heap.size := World.block_lt_of_cell? w _ hr
  by_cases h : a ≤ r
  · have hd : decide (a ≤ r) = true := by simp [h]
    have e : Adz.spanHas r (a, b) = decide (r ≤ b) := by simp [Adz.spanHas, h]
    rw [e]
    go_enter Tryz.func235, Tryz.ntmps235
    go_wp2
    go_ret
    exact ⟨rfl, (Only.refl _ w).alloc _⟩
  · have hd : decide (a ≤ r) = false := by simp [h]
    have e : Adz.spanHas r (a, b) = false := by simp [Adz.spanHas, h]
    rw [e]
    go_enter Tryz.func235, Tryz.ntmps235
    go_wp2
    go_ret
    exact ⟨rfl, (Only.refl _ w).alloc _⟩

set_option maxRecDepth 100000 in
set_option maxHeartbeats 800000 in
theorem indexFunc_calls (sp : List (Int × Int)) (sa : Option Addr) (sc : Nat) (r : Int) (rb : Nat) (w : World) (hs : SpansAt w (.slice sa sp.length sc) sp) (hn : sp.length ≤ 1000) (hr : w.cell? ⟨rb, 0, none⟩ = some (.int .i32 r)) :
    Calls Tryz.prog 239 #[.slice sa sp.length sc, .func (.func 235) #[] #[.pointer (some ⟨rb, 0, none⟩)]] w fun e w' => ∃ v : Int, e = .returned (.int .i64 v) ∧ decide (0 ≤ v) = sp.any (Adz.spanHas r) ∧ Only (fun _ => False) w w' := by
  go_enter Tryz.func239, Tryz.ntmps239
  go_wp2_with fail
  go_loopg [8] sp.length (fun k v wr => ∃ j : Nat, v = .int .i64 j ∧ j + k = sp.length ∧ Hid ((sp.take j).any (Adz.spanHas r) = false) ∧ Hid (Only (fun _ => False) w wr))
  case atStart => exact ⟨0, rfl, by omega, by show (List.take 0 sp).any _ = false; simp, Only.refl _ _⟩
  case round =>
    obtain ⟨j, rfl, hjk, hA, hO⟩ := hrel
    have hO' : Only (fun _ => False) w wr := hO
    have HJ : Hid (j + gk = sp.length) := hjk
    have hjl : j ≤ sp.length := by omega
    clear hO hjk
    by_cases hlt : j < sp.length
    · obtain ⟨a', c', e', hb⟩ := hs
      simp at e'
      obtain ⟨rfl, rfl⟩ := e'
      obtain ⟨b, rfl, tb, hc⟩ := hb (by intro e; simp [e] at hlt)
      obtain ⟨x1, x2⟩ := hc j hlt
      have y1 := hO'.keeps x1 id
      have y2 := hO'.keeps x2 id
      have yr := hO'.keeps hr id
      rw [Nat.mul_comm] at y1 y2
      have hg : sp[j]'hlt = sp.getD j (0, 0) := by simp [hlt]
      have htk : (sp.take (j + 1)).any (Adz.spanHas r) = ((sp.take j).any (Adz.spanHas r) || Adz.spanHas r (sp.getD j (0, 0))) := by
        rw [List.take_succ_eq_append_getElem hlt, List.any_append, hg]; simp
      have hall : sp.any (Adz.spanHas r) = ((sp.take (j + 1)).any (Adz.spanHas r) || (sp.drop (j + 1)).any (Adz.spanHas r)) := by
        rw [← List.any_append, List.take_append_drop]
      rw [hA.out] at htk
      generalize hp : sp.getD j (0, 0) = p at *
      rcases hb : Adz.spanHas r p with _ | _
      · have HB : Hid (Adz.spanHas r p = false) := hb
        have HT : Hid ((sp.take (j + 1)).any (Adz.spanHas r) = false) := by show _ = _; rw [htk, hb]; rfl
        clear hb htk hall hg
        have hw : IntKind.i64.wrap ((j : Int) + 1) = (j : Int) + 1 := by rw [IntKind.wrap_i64]; omega
        go_wp2_with fail
        refine (closure_calls _ _ _ _ _ yr).mono ?_
        rintro e w1 ⟨rfl, ho1⟩
        rw [HB.out]
        go_wp2
        go_roundg (gk - 1)
        case measure => have := HJ.out; omega
        case rel => exact ⟨j + 1, by first | rfl | simp [hw], by have := HJ.out; omega, HT, hO'.trans ho1 (fun _ e => e) (fun _ _ e => e)⟩
      · have HB : Hid (Adz.spanHas r p = true) := hb
        have HT : Hid (sp.any (Adz.spanHas r) = true) := by show _ = _; rw [hall, htk, hb]; rfl
        clear hb htk hall hg
        go_wp2_with fail
        refine (closure_calls _ _ _ _ _ yr).mono ?_
        rintro e w1 ⟨rfl, ho1⟩
        rw [HB.out]
        go_wp2
        go_ret
        exact ⟨_, rfl, by rw [HT.out]; simp, hO'.trans ho1 (fun _ e => e) (fun _ _ e => e)⟩
    · have he : j = sp.length := by omega
      have hA' : sp.any (Adz.spanHas r) = false := by have := hA.out; rw [he, List.take_length] at this; exact this
      have HA : Hid (sp.any (Adz.spanHas r) = false) := hA'
      subst he
      clear hA' hA hlt
      go_wp2
      go_ret
      exact ⟨_, rfl, by rw [HA.out]; simp, hO'⟩

set_option maxHeartbeats 800000 in
theorem containsFunc_calls (sp : List (Int × Int)) (sa : Option Addr) (sc : Nat) (r : Int) (rb : Nat) (w : World) (hs : SpansAt w (.slice sa sp.length sc) sp) (hn : sp.length ≤ 1000) (hr : w.cell? ⟨rb, 0, none⟩ = some (.int .i32 r)) :
    Calls Tryz.prog 234 #[.slice sa sp.length sc, .func (.func 235) #[] #[.pointer (some ⟨rb, 0, none⟩)]] w fun e w' => e = .returned (.bool (sp.any (Adz.spanHas r))) ∧ Only (fun _ => False) w w' := by
  go_enter Tryz.func234, Tryz.ntmps234
  go_wp2_with fail
  refine (indexFunc_calls sp sa sc r rb w hs hn hr).mono ?_
  rintro e w1 ⟨v, rfl, hv, ho⟩
  go_wp2
  go_ret
  exact ⟨by rw [← hv]; rfl, ho⟩

set_option maxHeartbeats 800000 in
theorem has_calls (x : Adz.Item) (ib o : Nat) (r : Int) (w : World) (hx : ItemAt w ib o x) :
    Calls Tryz.prog 228 #[.pointer (some ⟨ib, o, none⟩), .int .i32 r] w fun e w' => e = .returned (.bool (Adz.has x r)) ∧ Only (fun _ => False) w w' := by
  have hk := hx.kind
  obtain ⟨sa, sc, s1, s2⟩ := hx.spans
  have hl : ib < w.heap.size := World.block_lt_of_cell? w _ hk
  have ho1 : Only (fun _ => False) w (w.alloc (Obj.cells #[Value.int IntKind.i32 r] 21)) := (Only.refl _ w).alloc _
  have s3 := s2.keeps ho1 (fun _ _ => id)
  have s4 := ho1.keeps s1 id
  have hr : (w.alloc (Obj.cells #[Value.int IntKind.i32 r] 21)).cell? ⟨w.heap.size, 0, none⟩ = some (.int .i32 r) := by simp [go_sem]
  go_enter Tryz.func228, Tryz.ntmps228
  go_wp2_with fail
  refine (containsFunc_calls x.spans sa sc r w.heap.size _ s3 hx.few hr).mono ?_
  rintro e w1 ⟨rfl, ho⟩
  go_wp2
  go_ret
  exact ⟨rfl, ho1.trans ho (fun _ e => e) (fun _ _ e => e)⟩

set_option maxHeartbeats 800000 in
theorem takes_calls (x : Adz.Item) (ib o : Nat) (r : Int) (w : World) (hx : ItemAt w ib o x) :
    Calls Tryz.prog 217 #[.pointer (some ⟨ib, o, none⟩), .int .i32 r] w fun e w' => e = .returned (.bool (Adz.takes x r)) ∧ Only (fun _ => False) w w' := by
  have hk := hx.kind
  have hl : ib < w.heap.size := World.block_lt_of_cell? w _ hk
  by_cases k4 : x.kind = 4
  · have e : Adz.takes x r = true := by simp [Adz.takes, k4]
    rw [e]
    rw [k4] at hk
    go_enter Tryz.func217, Tryz.ntmps217
    go_wp2
    go_ret
    exact ⟨rfl, Only.refl _ _⟩
  by_cases k5 : x.kind = 5
  · have e : Adz.takes x r = Adz.has x r := by simp [Adz.takes, k5]
    rw [e]
    rw [k5] at hk
    go_enter Tryz.func217, Tryz.ntmps217
    go_wp2_with fail
    refine (has_calls x ib o r w hx).mono ?_
    rintro e w1 ⟨rfl, ho⟩
    go_wp2
    go_ret
    exact ⟨rfl, ho⟩
  by_cases k6 : x.kind = 6
  · have e : Adz.takes x r = !Adz.has x r := by simp [Adz.takes, k6]
    rw [e]
    rw [k6] at hk
    go_enter Tryz.func217, Tryz.ntmps217
    go_wp2_with fail
    refine (has_calls x ib o r w hx).mono ?_
    rintro e w1 ⟨rfl, ho⟩
    go_wp2
    go_ret
    exact ⟨rfl, ho⟩
  have e : Adz.takes x r = false := by simp [Adz.takes, k4, k5, k6]
  have d4 : decide (x.kind = 4) = false := by simp [k4]
  have d5 : decide (x.kind = 5) = false := by simp [k5]
  have d6 : decide (x.kind = 6) = false := by simp [k6]
  rw [e]
  go_enter Tryz.func217, Tryz.ntmps217
  go_wp2
  go_ret
  exact ⟨rfl, Only.refl _ _⟩

set_option maxHeartbeats 800000 in
theorem takesMany_calls (x : Adz.Item) (ib o : Nat) (w : World) (hx : ItemAt w ib o x) :
    Calls Tryz.prog 218 #[.pointer (some ⟨ib, o, none⟩)] w fun e w' => e = .returned (.bool (Adz.takesMany x)) ∧ Only (fun _ => False) w w' := by
  have hk := hx.times
  have hl : ib < w.heap.size := World.block_lt_of_cell? w _ hk
  by_cases k1 : x.times = 1
  · have e : Adz.takesMany x = true := by simp [Adz.takesMany, k1]
    rw [e]
    rw [k1] at hk
    go_enter Tryz.func218, Tryz.ntmps218
    go_wp2
    go_ret
    exact ⟨rfl, Only.refl _ _⟩
  have e : Adz.takesMany x = (x.times == 1 || x.times == 2) := rfl
  have d4 : decide (x.times = 1) = false := by simp [k1]
  rw [e]
  go_enter Tryz.func218, Tryz.ntmps218
  go_wp2
  go_ret
  exact ⟨rfl, Only.refl _ _⟩

set_option maxHeartbeats 1600000 in
theorem takesNone_calls (x : Adz.Item) (ib o : Nat) (at_ n : Int) (w : World) (hx : ItemAt w ib o x) :
    Calls Tryz.prog 219 #[.pointer (some ⟨ib, o, none⟩), .int .i64 at_, .int .i64 n] w fun e w' => e = .returned (.bool (Adz.takesNone x at_ n)) ∧ Only (fun _ => False) w w' := by
  have hk := hx.kind
  have ht := hx.times
  have hl : ib < w.heap.size := World.block_lt_of_cell? w _ hk
  by_cases k0 : x.kind = 0
  · have e : Adz.takesNone x at_ n = decide (at_ = 0) := by by_cases h : at_ = 0 <;> simp [Adz.takesNone, k0, h]
    rw [e]
    rw [k0] at hk
    go_enter Tryz.func219, Tryz.ntmps219
    go_wp2
    go_ret
    exact ⟨rfl, Only.refl _ _⟩
  by_cases k1 : x.kind = 1
  · have e : Adz.takesNone x at_ n = decide (at_ = n) := by by_cases h : at_ = n <;> simp [Adz.takesNone, k1, h]
    rw [e]
    rw [k1] at hk
    go_enter Tryz.func219, Tryz.ntmps219
    go_wp2
    go_ret
    exact ⟨rfl, Only.refl _ _⟩
  by_cases k2 : x.kind = 2
  · have e : Adz.takesNone x at_ n = true := by simp [Adz.takesNone, k2]
    rw [e]
    rw [k2] at hk
    go_enter Tryz.func219, Tryz.ntmps219
    go_wp2
    go_ret
    exact ⟨rfl, Only.refl _ _⟩
  by_cases k3 : x.kind = 3
  · have e : Adz.takesNone x at_ n = true := by simp [Adz.takesNone, k3]
    rw [e]
    rw [k3] at hk
    go_enter Tryz.func219, Tryz.ntmps219
    go_wp2
    go_ret
    exact ⟨rfl, Only.refl _ _⟩
  have d0 : decide (x.kind = 0) = false := by simp [k0]
  have d1 : decide (x.kind = 1) = false := by simp [k1]
  have d2 : decide (x.kind = 2) = false := by simp [k2]
  have d3 : decide (x.kind = 3) = false := by simp [k3]
  by_cases t1 : x.times = 1
  · have e : Adz.takesNone x at_ n = true := by simp [Adz.takesNone, k0, k1, k2, k3, t1]
    rw [e]
    rw [t1] at ht
    go_enter Tryz.func219, Tryz.ntmps219
    go_wp2
    go_ret
    exact ⟨rfl, Only.refl _ _⟩
  have e : Adz.takesNone x at_ n = (x.times == 1 || x.times == 3) := by simp [Adz.takesNone, k0, k1, k2, k3]
  have d4 : decide (x.times = 1) = false := by simp [t1]
  rw [e]
  go_enter Tryz.func219, Tryz.ntmps219
  go_wp2
  go_ret
  exact ⟨rfl, Only.refl _ _⟩
end Go.Proofs.YtbiobhghnldckaaGreatDoor

/- Proved: where an item of a pattern ends. Conditions: the item, the space and the rows of ends lie in memory as told. -/
namespace Go.Proofs.YtbiobhghnldckaaGreatDoor
open Go.RowKit
set_option linter.unusedVariables false

/-- The looking for a pattern lies in memory: its items, its space, its rows of ends; its count may be written. -/
structure Srch (w : World) (sb : Nat) (iv sv ev : Value) : Prop where
  typ : Typ w sb 258
  items : w.cell? ⟨sb, 0, none⟩ = some iv
  space : w.cell? ⟨sb, 1, none⟩ = some sv
  ends : w.cell? ⟨sb, 2, none⟩ = some ev
  steps : ∃ st, w.cell? ⟨sb, 3, none⟩ = some (.int .i64 st)
  free : w.frozen? ⟨sb, 3, none⟩ = false
theorem Srch.keeps {S : Nat → Prop} {w w' : World} {sb : Nat} {iv sv ev : Value} (h : Srch w sb iv sv ev) (o : Only S w w') (hs : ¬ S sb) : Srch w' sb iv sv ev := by
  obtain ⟨st, hst⟩ := h.steps
  exact ⟨h.typ.keeps o hs, o.keeps h.items hs, o.keeps h.space hs, o.keeps h.ends hs, ⟨st, o.keeps hst hs⟩, o.keepsFrozen hst h.free hs⟩
theorem Srch.step {w : World} {sb : Nat} {iv sv ev : Value} (h : Srch w sb iv sv ev) (v : Int) : Srch (w.setCell ⟨sb, 3, none⟩ (.int .i64 v)) sb iv sv ev := by
  obtain ⟨st, hst⟩ := h.steps
  have hc : ∀ o, o ≠ 3 → (w.setCell ⟨sb, 3, none⟩ (.int .i64 v)).cell? ⟨sb, o, none⟩ = w.cell? ⟨sb, o, none⟩ := fun o ho => World.cell?_setCell_other w ⟨sb, 3, none⟩ ⟨sb, o, none⟩ _ (by intro h; injection h; omega)
  exact ⟨h.typ.setCell _ _, (hc 0 (by omega)).trans h.items, (hc 1 (by omega)).trans h.space, (hc 2 (by omega)).trans h.ends, ⟨v, World.cell?_setCell_same _ _ _ hst⟩, by rw [World.frozen?_setCell]; exact h.free⟩
theorem srch_only {w : World} (sb : Nat) (v : Int) : Only (· = sb) w (w.setCell ⟨sb, 3, none⟩ (.int .i64 v)) := Only.setCell (S := (· = sb)) (p := ⟨sb, 3, none⟩) (Only.refl _ w) (fun _ => rfl) _

set_option maxHeartbeats 3200000 in
theorem end_lt (x : Adz.Item) (ib i K : Nat) (ic : Nat) (w : World) (sb ab : Nat) (rb ro rc n j : Nat) (hs : Srch w sb (.slice (some ⟨ib, 0, none⟩) K ic) (.slice (some ⟨rb, ro, none⟩) n rc) (.slice (some ⟨ab, 0, none⟩) (K + 1) (K + 1))) (hi : i < K) (hK : K ≤ 1000) (hx : ItemAt w ib (i * 4) x) (hit : Typ w ib 270) (hrt : Typ w rb 21) (hat : Typ w ab 35)
    (hj : j < n) (hn : n ≤ 1000000) (r : Int) (hr : w.cell? ⟨rb, ro + j, none⟩ = some (.int .i32 r)) (eb bb : Nat) (hae : w.cell? ⟨ab, i, none⟩ = some (.slice (some ⟨eb, 0, none⟩) (n + 1) (n + 1))) (hab : w.cell? ⟨ab, i + 1, none⟩ = some (.slice (some ⟨bb, 0, none⟩) (n + 1) (n + 1))) (het : Typ w eb 3) (hbt : Typ w bb 3) (e1 : Int) (he : w.cell? ⟨eb, j + 1, none⟩ = some (.int .i64 e1)) (b0 b1 : Int) (hb0 : w.cell? ⟨bb, j, none⟩ = some (.int .i64 b0)) (hb1 : w.cell? ⟨bb, j + 1, none⟩ = some (.int .i64 b1)) :
    Calls Tryz.prog 201 #[.pointer (some ⟨sb, 0, none⟩), .int .i64 i, .int .i64 j] w fun e w' => e = .returned (.int .i64 (Adz.endAt x (some r) j n e1 b1 b0)) ∧ Only (· = sb) w w' ∧ Srch w' sb (.slice (some ⟨ib, 0, none⟩) K ic) (.slice (some ⟨rb, ro, none⟩) n rc) (.slice (some ⟨ab, 0, none⟩) (K + 1) (K + 1)) := by
  have dj : decide ((j : Int) < n) = true := by simp; omega
  have hw : IntKind.i64.wrap ((j : Int) + 1) = (j : Int) + 1 := by rw [IntKind.wrap_i64]; omega
  have hwi : IntKind.i64.wrap ((i : Int) + 1) = (i : Int) + 1 := by rw [IntKind.wrap_i64]; omega
  have hi1 : (i : Int) < K := by omega
  have hi2 : (i : Int) < (K : Int) + 1 := by omega
  have hi3 : (i : Int) + 1 < (K : Int) + 1 := by omega
  obtain ⟨st, hst⟩ := hs.steps
  have n1 : ib ≠ sb := hit.ne hs.typ (by decide)
  have n2 : rb ≠ sb := hrt.ne hs.typ (by decide)
  have n3 : ab ≠ sb := hat.ne hs.typ (by decide)
  have n4 : eb ≠ sb := het.ne hs.typ (by decide)
  have n5 : bb ≠ sb := hbt.ne hs.typ (by decide)
  have q0 := hs.items
  have q1 := hs.space
  have q2 := hs.ends
  have q3 := hs.free
  have o0 := srch_only (w := w) sb (wrap64 (st + 1))
  have s0 := hs.step (wrap64 (st + 1))
  have x0 := hx.keeps o0 n1 (fun b hb e => by subst e; exact absurd (hb.one hs.typ) (by decide))
  have r0 := o0.keeps hr n2
  have he0 := o0.keeps he n4
  have hb00 := o0.keeps hb0 n5
  have hb10 := o0.keeps hb1 n5
  have ae0 := o0.keeps hae n3
  have ab0 := o0.keeps hab n3
  have p0 := s0.items
  have p1 := s0.space
  have p2 := s0.ends
  go_enter Tryz.func201, Tryz.ntmps201
  go_wp2_with fail
  generalize w.setCell ⟨sb, 3, none⟩ (.int .i64 (wrap64 (st + 1))) = w0 at *
  clear hst q0 q1 q2 q3 hr he hb0 hb1 hae hab hx
  have fin : ∀ u, Only (fun _ => False) w0 u → Only (· = sb) w u ∧ Srch u sb (.slice (some ⟨ib, 0, none⟩) K ic) (.slice (some ⟨rb, ro, none⟩) n rc) (.slice (some ⟨ab, 0, none⟩) (K + 1) (K + 1)) := fun u hu => ⟨o0.trans hu (fun _ e => e) (fun _ _ e => e.elim), s0.keeps hu id⟩
  go_quiet (fail)
  go_wp2_with fail
  refine (takes_calls x ib (i * 4) r _ (x0.quiet ((Only.refl _ w0).drewN _))).mono ?_
  rintro e w1 ⟨rfl, ho0⟩
  have ho1 : Only (fun _ => False) w0 w1 := ((Only.refl (fun _ => False) w0).drewN _).trans ho0 (fun _ e => e) (fun _ _ e => e)
  clear ho0
  have he1 := ho1.keeps he0 id
  have p11 := ho1.keeps p1 id
  have hb11 := ho1.keeps hb10 id
  rcases hK : Adz.takes x r with _ | _
  · have HK : Hid (Adz.takes x r = false) := hK
    clear hK
    go_wp2_with fail
    refine (takesNone_calls x ib (i * 4) _ _ _ (x0.quiet ho1)).mono ?_
    rintro e w9 ⟨rfl, ho9⟩
    have hoX := ho1.trans ho9 (fun _ e => e) (fun _ _ e => e)
    have hb9 := hoX.keeps hb00 id
    rcases hT : Adz.takesNone x j n with _ | _
    · have HT : Hid (Adz.takesNone x j n = false) := hT
      clear hT
      go_wp2
      go_ret
      exact ⟨by simp [Adz.endAt, HK.out, HT.out], fin _ hoX⟩
    · have HT : Hid (Adz.takesNone x j n = true) := hT
      clear hT
      by_cases hz : b0 = -1
      · subst hz
        go_wp2
        go_ret
        exact ⟨by simp [Adz.endAt, HK.out, HT.out], fin _ hoX⟩
      · have dz : (b0 == -1) = false := by simp [hz]
        have dz' : (b0 != -1) = true := by simp [hz]
        have dz2 : decide (b0 = -1) = false := by simp [hz]
        have HZ : Hid (¬ b0 = -1) := hz
        clear hz
        go_wp2
        go_ret
        exact ⟨by simp [Adz.endAt, HK.out, HT.out, HZ.out], fin _ hoX⟩
  · have HK : Hid (Adz.takes x r = true) := hK
    clear hK
    go_wp2_with fail
    refine (takesMany_calls x ib (i * 4) w1 (x0.quiet ho1)).mono ?_
    rintro e w2 ⟨rfl, ho2⟩
    have ho12 := ho1.trans ho2 (fun _ e => e) (fun _ _ e => e)
    have he2 := ho12.keeps he0 id
    have p12 := ho12.keeps p1 id
    have hb12 := ho12.keeps hb10 id
    have hor : (Adz.takesMany x = true ∧ ¬ e1 = -1) ∨ (Adz.takesMany x = true ∧ e1 = -1) ∨ Adz.takesMany x = false := by
      rcases Adz.takesMany x with _ | _ <;> by_cases h : e1 = -1 <;> simp [h]
    by_cases hz1 : b1 = -1
    · rcases hor with ⟨hM, hE⟩ | ⟨hM, hE⟩ | hM
      · have HM : Hid (Adz.takesMany x = true) := hM
        clear hM
        rw [HM.out]
        have HE : Hid (¬ e1 = -1) := hE
        clear hE
        have de1 : (e1 == -1) = false := by simp [HE.out]
        have de1' : (e1 != -1) = true := by simp [HE.out]
        have de12 : decide (e1 = -1) = false := by simp [HE.out]
        go_wp2
        go_ret
        exact ⟨by simp [Adz.endAt, HK.out, HM.out, HE.out], fin _ ho12⟩
      · have HM : Hid (Adz.takesMany x = true) := hM
        clear hM
        rw [HM.out]
        have HE : Hid (e1 = -1) := hE
        clear hE
        have de1 : (e1 == -1) = true := by simp [HE.out]
        have de1' : (e1 != -1) = false := by simp [HE.out]
        have de12 : decide (e1 = -1) = true := by simp [HE.out]
        have HZ1 : Hid (b1 = -1) := hz1
        clear hz1
        have dz1 : (b1 == -1) = true := by simp [HZ1.out]
        have dz1' : (b1 != -1) = false := by simp [HZ1.out]
        have dz12 : decide (b1 = -1) = true := by simp [HZ1.out]
        go_wp2_with fail
        refine (takesNone_calls x ib (i * 4) _ _ _ (x0.quiet ho12)).mono ?_
        rintro e w9 ⟨rfl, ho9⟩
        have hoX := ho12.trans ho9 (fun _ e => e) (fun _ _ e => e)
        have hb9 := hoX.keeps hb00 id
        rcases hT : Adz.takesNone x j n with _ | _
        · have HT : Hid (Adz.takesNone x j n = false) := hT
          clear hT
          go_wp2
          go_ret
          exact ⟨by simp [Adz.endAt, HK.out, HM.out, HZ1.out, HE.out, HT.out], fin _ hoX⟩
        · have HT : Hid (Adz.takesNone x j n = true) := hT
          clear hT
          by_cases hz : b0 = -1
          · subst hz
            go_wp2
            go_ret
            exact ⟨by simp [Adz.endAt, HK.out, HM.out, HZ1.out, HE.out, HT.out], fin _ hoX⟩
          · have dz : (b0 == -1) = false := by simp [hz]
            have dz' : (b0 != -1) = true := by simp [hz]
            have dz2 : decide (b0 = -1) = false := by simp [hz]
            have HZ : Hid (¬ b0 = -1) := hz
            clear hz
            go_wp2
            go_ret
            exact ⟨by simp [Adz.endAt, HK.out, HM.out, HZ1.out, HE.out, HT.out, HZ.out], fin _ hoX⟩
      · have HM : Hid (Adz.takesMany x = false) := hM
        clear hM
        rw [HM.out]
        have HZ1 : Hid (b1 = -1) := hz1
        clear hz1
        have dz1 : (b1 == -1) = true := by simp [HZ1.out]
        have dz1' : (b1 != -1) = false := by simp [HZ1.out]
        have dz12 : decide (b1 = -1) = true := by simp [HZ1.out]
        go_wp2_with fail
        refine (takesNone_calls x ib (i * 4) _ _ _ (x0.quiet ho12)).mono ?_
        rintro e w9 ⟨rfl, ho9⟩
        have hoX := ho12.trans ho9 (fun _ e => e) (fun _ _ e => e)
        have hb9 := hoX.keeps hb00 id
        rcases hT : Adz.takesNone x j n with _ | _
        · have HT : Hid (Adz.takesNone x j n = false) := hT
          clear hT
          go_wp2
          go_ret
          exact ⟨by simp [Adz.endAt, HK.out, HM.out, HZ1.out, HT.out], fin _ hoX⟩
        · have HT : Hid (Adz.takesNone x j n = true) := hT
          clear hT
          by_cases hz : b0 = -1
          · subst hz
            go_wp2
            go_ret
            exact ⟨by simp [Adz.endAt, HK.out, HM.out, HZ1.out, HT.out], fin _ hoX⟩
          · have dz : (b0 == -1) = false := by simp [hz]
            have dz' : (b0 != -1) = true := by simp [hz]
            have dz2 : decide (b0 = -1) = false := by simp [hz]
            have HZ : Hid (¬ b0 = -1) := hz
            clear hz
            go_wp2
            go_ret
            exact ⟨by simp [Adz.endAt, HK.out, HM.out, HZ1.out, HT.out, HZ.out], fin _ hoX⟩
    · rcases hor with ⟨hM, hE⟩ | ⟨hM, hE⟩ | hM
      · have HM : Hid (Adz.takesMany x = true) := hM
        clear hM
        rw [HM.out]
        have HE : Hid (¬ e1 = -1) := hE
        clear hE
        have de1 : (e1 == -1) = false := by simp [HE.out]
        have de1' : (e1 != -1) = true := by simp [HE.out]
        have de12 : decide (e1 = -1) = false := by simp [HE.out]
        go_wp2
        go_ret
        exact ⟨by simp [Adz.endAt, HK.out, HM.out, HE.out], fin _ ho12⟩
      · have HM : Hid (Adz.takesMany x = true) := hM
        clear hM
        rw [HM.out]
        have HE : Hid (e1 = -1) := hE
        clear hE
        have de1 : (e1 == -1) = true := by simp [HE.out]
        have de1' : (e1 != -1) = false := by simp [HE.out]
        have de12 : decide (e1 = -1) = true := by simp [HE.out]
        have HZ1 : Hid (¬ b1 = -1) := hz1
        clear hz1
        have dz1 : (b1 == -1) = false := by simp [HZ1.out]
        have dz1' : (b1 != -1) = true := by simp [HZ1.out]
        have dz12 : decide (b1 = -1) = false := by simp [HZ1.out]
        go_wp2
        go_ret
        exact ⟨by simp [Adz.endAt, HK.out, HM.out, HZ1.out, HE.out], fin _ ho12⟩
      · have HM : Hid (Adz.takesMany x = false) := hM
        clear hM
        rw [HM.out]
        have HZ1 : Hid (¬ b1 = -1) := hz1
        clear hz1
        have dz1 : (b1 == -1) = false := by simp [HZ1.out]
        have dz1' : (b1 != -1) = true := by simp [HZ1.out]
        have dz12 : decide (b1 = -1) = false := by simp [HZ1.out]
        go_wp2
        go_ret
        exact ⟨by simp [Adz.endAt, HK.out, HM.out, HZ1.out], fin _ ho12⟩

set_option maxHeartbeats 1600000 in
theorem end_eq (x : Adz.Item) (ib i K : Nat) (ic : Nat) (w : World) (sb ab : Nat) (ra : Option Addr) (rc j : Nat) (hs : Srch w sb (.slice (some ⟨ib, 0, none⟩) K ic) (.slice ra j rc) (.slice (some ⟨ab, 0, none⟩) (K + 1) (K + 1))) (hi : i < K) (hK : K ≤ 1000) (hx : ItemAt w ib (i * 4) x) (hit : Typ w ib 270) (hat : Typ w ab 35)
    (hn : j ≤ 1000000) (eb bb : Nat) (hae : w.cell? ⟨ab, i, none⟩ = some (.slice (some ⟨eb, 0, none⟩) (j + 1) (j + 1))) (hab : w.cell? ⟨ab, i + 1, none⟩ = some (.slice (some ⟨bb, 0, none⟩) (j + 1) (j + 1))) (hbt : Typ w bb 3) (e1 b1 : Int) (b0 : Int) (hb0 : w.cell? ⟨bb, j, none⟩ = some (.int .i64 b0)) :
    Calls Tryz.prog 201 #[.pointer (some ⟨sb, 0, none⟩), .int .i64 i, .int .i64 j] w fun e w' => e = .returned (.int .i64 (Adz.endAt x none j j e1 b1 b0)) ∧ Only (· = sb) w w' ∧ Srch w' sb (.slice (some ⟨ib, 0, none⟩) K ic) (.slice ra j rc) (.slice (some ⟨ab, 0, none⟩) (K + 1) (K + 1)) := by
  have dj : decide ((j : Int) < j) = false := by simp
  have hwi : IntKind.i64.wrap ((i : Int) + 1) = (i : Int) + 1 := by rw [IntKind.wrap_i64]; omega
  have hi1 : (i : Int) < K := by omega
  have hi2 : (i : Int) < (K : Int) + 1 := by omega
  have hi3 : (i : Int) + 1 < (K : Int) + 1 := by omega
  obtain ⟨st, hst⟩ := hs.steps
  have n1 : ib ≠ sb := hit.ne hs.typ (by decide)
  have n3 : ab ≠ sb := hat.ne hs.typ (by decide)
  have n5 : bb ≠ sb := hbt.ne hs.typ (by decide)
  have q0 := hs.items
  have q1 := hs.space
  have q2 := hs.ends
  have q3 := hs.free
  have o0 := srch_only (w := w) sb (wrap64 (st + 1))
  have s0 := hs.step (wrap64 (st + 1))
  have x0 := hx.keeps o0 n1 (fun b hb e => by subst e; exact absurd (hb.one hs.typ) (by decide))
  have hb00 := o0.keeps hb0 n5
  have ae0 := o0.keeps hae n3
  have ab0 := o0.keeps hab n3
  have p0 := s0.items
  have p1 := s0.space
  have p2 := s0.ends
  go_enter Tryz.func201, Tryz.ntmps201
  go_wp2_with fail
  generalize w.setCell ⟨sb, 3, none⟩ (.int .i64 (wrap64 (st + 1))) = w0 at *
  clear hst q0 q1 q2 q3 hb0 hae hab hx
  have fin : ∀ u, Only (fun _ => False) w0 u → Only (· = sb) w u ∧ Srch u sb (.slice (some ⟨ib, 0, none⟩) K ic) (.slice ra j rc) (.slice (some ⟨ab, 0, none⟩) (K + 1) (K + 1)) := fun u hu => ⟨o0.trans hu (fun _ e => e) (fun _ _ e => e.elim), s0.keeps hu id⟩
  go_quiet (fail)
  go_wp2_with fail
  refine (takesNone_calls x ib (i * 4) _ _ _ (x0.quiet ((Only.refl _ w0).drewN _))).mono ?_
  rintro e w9 ⟨rfl, ho9⟩
  have hoX : Only (fun _ => False) w0 w9 := ((Only.refl (fun _ => False) w0).drewN _).trans ho9 (fun _ e => e) (fun _ _ e => e)
  clear ho9
  have hb9 := hoX.keeps hb00 id
  rcases hT : Adz.takesNone x j j with _ | _
  · have HT : Hid (Adz.takesNone x j j = false) := hT
    clear hT
    go_wp2
    go_ret
    exact ⟨by simp [Adz.endAt, HT.out], fin _ hoX⟩
  · have HT : Hid (Adz.takesNone x j j = true) := hT
    clear hT
    by_cases hz : b0 = -1
    · subst hz
      go_wp2
      go_ret
      exact ⟨by simp [Adz.endAt, HT.out], fin _ hoX⟩
    · have dz : (b0 == -1) = false := by simp [hz]
      have dz' : (b0 != -1) = true := by simp [hz]
      have dz2 : decide (b0 = -1) = false := by simp [hz]
      have HZ : Hid (¬ b0 = -1) := hz
      clear hz
      go_wp2
      go_ret
      exact ⟨by simp [Adz.endAt, HT.out, HZ.out], fin _ hoX⟩
end Go.Proofs.YtbiobhghnldckaaGreatDoor

/- Proved: small laws: the ends of a pattern's items, and how their rows lie in memory. No condition. -/
namespace Go.Proofs.YtbiobhghnldckaaGreatDoor
open Go.RowKit
set_option linter.unusedVariables false
namespace Adz
/-- the ends of an item from a place on, by the runes and by the next item's ends from there on -/
def endsGo (x : Item) (n : Int) : Nat → List Int → List Int → List Int
  | j, [], b0 :: _ => [endAt x none j n 0 0 b0]
  | j, r :: rs, b0 :: b1 :: bs => let rest := endsGo x n (j + 1) rs (b1 :: bs); endAt x (some r) j n (rest.headD 0) b1 b0 :: rest
  | _, _, _ => []
def ends (x : Item) (sp bh : List Int) : List Int := endsGo x sp.length 0 sp bh
theorem endsGo_length (x : Item) (n : Int) : ∀ (rs : List Int) (bh : List Int) (j : Nat), bh.length = rs.length + 1 → (endsGo x n j rs bh).length = bh.length
  | [], [b], j, h => by simp [endsGo]
  | [], [], j, h => by simp at h
  | [], b :: c :: l, j, h => by simp at h
  | r :: rs, [], j, h => by simp at h
  | r :: rs, [b], j, h => by simp at h
  | r :: rs, b :: c :: l, j, h => by
    simp only [endsGo, List.length_cons]
    rw [endsGo_length x n rs (c :: l) (j + 1) (by simpa using h)]
    simp
theorem endsGo_lt (x : Item) (n : Int) : ∀ (rs : List Int) (bh : List Int) (j k : Nat), bh.length = rs.length + 1 → k < rs.length →
    (endsGo x n j rs bh).getD k 0 = endAt x (some (rs.getD k 0)) ((j + k : Nat) : Int) n ((endsGo x n j rs bh).getD (k + 1) 0) (bh.getD (k + 1) 0) (bh.getD k 0)
  | [], bh, j, k, h, hk => by simp at hk
  | r :: rs, [], j, k, h, hk => by simp at h
  | r :: rs, [b], j, k, h, hk => by simp at h
  | r :: rs, b :: c :: l, j, 0, h, hk => by
    simp only [endsGo, List.getD_cons_zero, List.getD_cons_succ, Nat.add_zero]
    cases endsGo x n (j + 1) rs (c :: l) <;> simp
  | r :: rs, b :: c :: l, j, k + 1, h, hk => by
    have := endsGo_lt x n rs (c :: l) (j + 1) k (by simpa using h) (by simpa using hk)
    simp only [endsGo, List.getD_cons_succ]
    rw [this, show j + 1 + k = j + (k + 1) by omega]
    simp
theorem endsGo_eq (x : Item) (n : Int) : ∀ (rs : List Int) (bh : List Int) (j : Nat), bh.length = rs.length + 1 →
    (endsGo x n j rs bh).getD rs.length 0 = endAt x none ((j + rs.length : Nat) : Int) n 0 0 (bh.getD rs.length 0)
  | [], [b], j, h => by simp [endsGo]
  | [], [], j, h => by simp at h
  | [], b :: c :: l, j, h => by simp at h
  | r :: rs, [], j, h => by simp at h
  | r :: rs, [b], j, h => by simp at h
  | r :: rs, b :: c :: l, j, h => by
    have := endsGo_eq x n rs (c :: l) (j + 1) (by simpa using h)
    simp only [endsGo, List.length_cons, List.getD_cons_succ]
    rw [this, show j + 1 + rs.length = j + (rs.length + 1) by omega]
theorem ends_lt (x : Item) (sp bh : List Int) (h : bh.length = sp.length + 1) (k : Nat) (hk : k < sp.length) :
    (ends x sp bh).getD k 0 = endAt x (some (sp.getD k 0)) k sp.length ((ends x sp bh).getD (k + 1) 0) (bh.getD (k + 1) 0) (bh.getD k 0) := by
  have := endsGo_lt x sp.length sp bh 0 k h hk
  simpa [ends] using this
theorem ends_eq (x : Item) (sp bh : List Int) (h : bh.length = sp.length + 1) : (ends x sp bh).getD sp.length 0 = endAt x none sp.length sp.length 0 0 (bh.getD sp.length 0) := by
  have := endsGo_eq x sp.length sp bh 0 h
  simpa [ends] using this
theorem ends_length (x : Item) (sp bh : List Int) (h : bh.length = sp.length + 1) : (ends x sp bh).length = bh.length := endsGo_length x _ sp bh 0 h
end Adz

/-- A slice of runes lies in memory. -/
def SpaceAt (w : World) (ra : Option Addr) (sp : List Int) : Prop := sp ≠ [] → ∃ rb ro, ra = some ⟨rb, ro, none⟩ ∧ Typ w rb 21 ∧ ∀ j, j < sp.length → w.cell? ⟨rb, ro + j, none⟩ = some (.int .i32 (sp.getD j 0))
theorem SpaceAt.keeps {S : Nat → Prop} {w w' : World} {ra : Option Addr} {sp : List Int} (h : SpaceAt w ra sp) (o : Only S w w') (hs : ∀ b, Typ w b 21 → ¬ S b) : SpaceAt w' ra sp := by
  intro hne
  obtain ⟨rb, ro, e, ht, hc⟩ := h hne
  exact ⟨rb, ro, e, ht.keeps o (hs _ ht), fun j hj => o.keeps (hc j hj) (hs _ ht)⟩
/-- A row of places lies in memory. -/
structure Ints (w : World) (b : Nat) (l : List Int) : Prop where
  typ : Typ w b 3
  cell : ∀ j, j < l.length → w.cell? ⟨b, j, none⟩ = some (.int .i64 (l.getD j 0))
theorem Ints.keeps {S : Nat → Prop} {w w' : World} {b : Nat} {l : List Int} (h : Ints w b l) (o : Only S w w') (hs : ¬ S b) : Ints w' b l :=
  ⟨h.typ.keeps o hs, fun j hj => o.keeps (h.cell j hj) hs⟩
set_option maxRecDepth 100000 in
theorem mk_ints (w : World) (n : Nat) (hn : n ≤ 2000000) : (Instr.makeSlice 35 (.int .i64 n) (.int .i64 n)).run Tryz.prog w = .ok (.slice (some ⟨w.heap.size, 0, none⟩) n n) (w.alloc (.cells (madeCells #[.int .i64 0] n) 3)) := by
  have h := run_make (P := Tryz.prog) (w := w) 35 3 _ (.int .i64 0) (by rfl) (by rfl) (by rfl) .i64 .i64 n n (by omega) (by omega) (by show (8 : Int) * n ≤ _; omega) (by omega)
  have e : Tryz.prog.types[3].size = 1 := by rfl
  rw [h, e, Int.toNat_natCast, Nat.mul_one]
  rfl
namespace Adz
def allEnds (sp : List Int) : List Item → List (List Int)
  | [] => [List.replicate (sp.length + 1) 0]
  | x :: xs => ends x sp ((allEnds sp xs).headD []) :: allEnds sp xs
theorem allEnds_length (sp : List Int) : ∀ xs : List Item, (allEnds sp xs).length = xs.length + 1
  | [] => rfl
  | x :: xs => by simp [allEnds, allEnds_length sp xs]
theorem allEnds_width (sp : List Int) : ∀ (xs : List Item) (i : Nat), i ≤ xs.length → ((allEnds sp xs).getD i []).length = sp.length + 1
  | [], i, h => by
    have : i = 0 := by simpa using h
    subst this
    simp [allEnds]
  | x :: xs, 0, h => by
    have hw := allEnds_width sp xs 0 (by omega)
    have e : (allEnds sp xs).headD [] = (allEnds sp xs).getD 0 [] := by cases allEnds sp xs <;> rfl
    simp only [allEnds, List.getD_cons_zero]
    rw [ends_length x sp _ (by rw [e]; exact hw), e, hw]
  | x :: xs, i + 1, h => by
    simp only [allEnds, List.getD_cons_succ]
    exact allEnds_width sp xs i (by simpa using h)
theorem allEnds_last (sp : List Int) : ∀ xs : List Item, (allEnds sp xs).getD xs.length [] = List.replicate (sp.length + 1) 0
  | [] => rfl
  | x :: xs => by simp only [allEnds, List.length_cons, List.getD_cons_succ]; exact allEnds_last sp xs
theorem allEnds_at (sp : List Int) : ∀ (xs : List Item) (i : Nat) (h : i < xs.length), (allEnds sp xs).getD i [] = ends xs[i] sp ((allEnds sp xs).getD (i + 1) [])
  | x :: xs, 0, h => by
    have e : (allEnds sp xs).headD [] = (allEnds sp xs).getD 0 [] := by cases allEnds sp xs <;> rfl
    simp only [allEnds, List.getD_cons_zero, List.getD_cons_succ, List.getElem_cons_zero]
    rw [e]
  | x :: xs, i + 1, h => by
    simp only [allEnds, List.getD_cons_succ, List.getElem_cons_succ]
    exact allEnds_at sp xs i (by simpa using h)
  | [], _, h => by simp at h
end Adz
set_option maxRecDepth 100000 in
theorem mk_rows (w : World) (n : Nat) (hn : n ≤ 2000000) : (Instr.makeSlice 77 (.int .i64 n) (.int .i64 n)).run Tryz.prog w = .ok (.slice (some ⟨w.heap.size, 0, none⟩) n n) (w.alloc (.cells (madeCells #[.slice none 0 0] n) 35)) := by
  have h := run_make (P := Tryz.prog) (w := w) 77 35 _ (.slice none 0 0) (by rfl) (by rfl) (by rfl) .i64 .i64 n n (by omega) (by omega) (by show (24 : Int) * n ≤ _; omega) (by omega)
  have e : Tryz.prog.types[35].size = 1 := by rfl
  rw [h, e, Int.toNat_natCast, Nat.mul_one]
  rfl
theorem ItemsAt.get {w : World} {a : Option Addr} {n c : Nat} {xs : List Adz.Item} (h : ItemsAt w (.slice a n c) xs) (hf : ∀ x ∈ xs, x.spans.length ≤ 1000) (hne : xs ≠ []) :
    ∃ ib, a = some ⟨ib, 0, none⟩ ∧ Typ w ib 270 ∧ ∀ i (hi : i < xs.length), ItemAt w ib (i * 4) xs[i] ∧ w.cell? ⟨ib, i * 4 + 1, none⟩ = some (.int .i64 xs[i].group) := by
  obtain ⟨svs, h1, h2⟩ := h
  rcases h1.2 with ⟨_, e⟩ | ⟨g, cap, cur, hv, _, hg, hcap, _, hsz, htake⟩
  · exact absurd (List.length_eq_zero_iff.1 e) hne
  · injection hv with e1 e2 e3
    refine ⟨g, e1, ⟨cur, (0, 0), hg⟩, fun i hi => ?_⟩
    obtain ⟨v, hv, hc⟩ := itemsCells_get h2 i hi
    have hcell : ∀ o u, o < 4 → (itemCells xs[i] v)[o]? = some u → w.cell? ⟨g, i * 4 + o, none⟩ = some u := by
      intro o u ho hu
      rw [cell_of_row _ g (i * 4 + o) cur _ (0, 0) hg]
      have hx := hc o ho
      rw [hu, ← htake, List.getElem?_take] at hx
      have : i * 4 + o < xs.length * 4 := by omega
      simpa [this] using hx
    obtain ⟨sa, sc, rfl, hsp⟩ := hv
    exact ⟨⟨hcell 0 _ (by omega) rfl, ⟨sa, sc, hcell 2 _ (by omega) rfl, ⟨sa, sc, rfl, hsp⟩⟩, hcell 3 _ (by omega) rfl, hf _ (List.getElem_mem hi)⟩, hcell 1 _ (by omega) rfl⟩


/-- Rows of places lie in memory, one block each, from a block on. -/
structure Mat (w : World) (ab base K n : Nat) (F : Nat → Nat → Int) : Prop where
  typ : Typ w ab 35
  cell : ∀ j, j < K → w.cell? ⟨ab, j, none⟩ = some (.slice (some ⟨base + j, 0, none⟩) (n + 1) (n + 1))
  rows : ∀ j, j < K → Typ w (base + j) 3
  place : ∀ j t, j < K → t ≤ n → w.cell? ⟨base + j, t, none⟩ = some (.int .i64 (F j t)) ∧ w.frozen? ⟨base + j, t, none⟩ = false
theorem Mat.keeps {S : Nat → Prop} {w w' : World} {ab base K n : Nat} {F : Nat → Nat → Int} (h : Mat w ab base K n F) (o : Only S w w') (hs : ∀ c, Typ w c 35 → ¬ S c) (hs2 : ∀ c, Typ w c 3 → ¬ S c) : Mat w' ab base K n F :=
  ⟨h.typ.keeps o (hs _ h.typ), fun j hj => o.keeps (h.cell j hj) (hs _ h.typ), fun j hj => (h.rows j hj).keeps o (hs2 _ (h.rows j hj)),
    fun j t hj ht => ⟨o.keeps (h.place j t hj ht).1 (hs2 _ (h.rows j hj)), o.keepsFrozen (h.place j t hj ht).1 (h.place j t hj ht).2 (hs2 _ (h.rows j hj))⟩⟩
theorem Mat.like {w : World} {ab base K n : Nat} {F G : Nat → Nat → Int} (h : Mat w ab base K n F) (e : ∀ j t, j < K → t ≤ n → F j t = G j t) : Mat w ab base K n G :=
  ⟨h.typ, h.cell, h.rows, fun j t hj ht => by rw [← e j t hj ht]; exact h.place j t hj ht⟩
theorem Mat.set {w : World} {ab base K n : Nat} {F : Nat → Nat → Int} (h : Mat w ab base K n F) (i s : Nat) (hi : i < K) (hs : s ≤ n) (v : Int) : Mat (w.setCell ⟨base + i, s, none⟩ (.int .i64 v)) ab base K n (fun j t => if j = i ∧ t = s then v else F j t) := by
  have o := only_set w (base + i) s (.int .i64 v)
  have na : ab ≠ base + i := h.typ.ne (h.rows i hi) (by decide)
  refine ⟨h.typ.setCell _ _, fun j hj => o.keeps (h.cell j hj) na, fun j hj => (h.rows j hj).setCell _ _, fun j t hj ht => ⟨?_, ?_⟩⟩
  · by_cases e : j = i ∧ t = s
    · obtain ⟨rfl, rfl⟩ := e
      simp only [and_self, if_true]
      exact World.cell?_setCell_same _ _ _ (h.place j t hj ht).1
    · rw [if_neg e, World.cell?_setCell_other w ⟨base + i, s, none⟩ ⟨base + j, t, none⟩ _ (by intro h; injection h; omega)]
      exact (h.place j t hj ht).1
  · rw [World.frozen?_setCell]; exact (h.place j t hj ht).2
/-- The first m of these rows are made, of zeros. -/
structure MatTo (w : World) (ab base K m n : Nat) : Prop where
  typ : Typ w ab 35
  any : ∀ j, j < K → (∃ v, w.cell? ⟨ab, j, none⟩ = some v) ∧ w.frozen? ⟨ab, j, none⟩ = false
  cell : ∀ j, j < m → w.cell? ⟨ab, j, none⟩ = some (.slice (some ⟨base + j, 0, none⟩) (n + 1) (n + 1))
  rows : ∀ j, j < m → Typ w (base + j) 3
  place : ∀ j t, j < m → t ≤ n → w.cell? ⟨base + j, t, none⟩ = some (.int .i64 0) ∧ w.frozen? ⟨base + j, t, none⟩ = false
theorem MatTo.made (w : World) (base K n : Nat) : MatTo (w.alloc (.cells (madeCells #[.slice none 0 0] K) 35)) w.heap.size base K 0 n := by
  have hc := Cells.new w (madeCells #[.slice none 0 0] K) 35
  rw [toList_madeCells_one] at hc
  refine ⟨Typ.new w _ _ _, fun j hj => ?_, fun j hj => by omega, fun j hj => by omega, fun j t hj => by omega⟩
  have := hc j (.slice none 0 0) (by simp [hj])
  exact ⟨⟨_, this.1⟩, this.2⟩
theorem MatTo.keeps {S : Nat → Prop} {w w' : World} {ab base K m n : Nat} (h : MatTo w ab base K m n) (o : Only S w w') (hs : ∀ c, Typ w c 35 → ¬ S c) (hs2 : ∀ c, Typ w c 3 → ¬ S c) : MatTo w' ab base K m n :=
  ⟨h.typ.keeps o (hs _ h.typ), fun j hj => ⟨⟨_, o.keeps (h.any j hj).1.choose_spec (hs _ h.typ)⟩, o.keepsFrozen (h.any j hj).1.choose_spec (h.any j hj).2 (hs _ h.typ)⟩, fun j hj => o.keeps (h.cell j hj) (hs _ h.typ), fun j hj => (h.rows j hj).keeps o (hs2 _ (h.rows j hj)),
    fun j t hj ht => ⟨o.keeps (h.place j t hj ht).1 (hs2 _ (h.rows j hj)), o.keepsFrozen (h.place j t hj ht).1 (h.place j t hj ht).2 (hs2 _ (h.rows j hj))⟩⟩
theorem MatTo.add {w : World} {ab base K m n : Nat} (h : MatTo w ab base K m n) (hm : m < K) (hb : base + m = w.heap.size) :
    MatTo ((w.setCell ⟨ab, m, none⟩ (.slice (some ⟨base + m, 0, none⟩) (n + 1) (n + 1))).alloc (.cells (madeCells #[.int .i64 0] (n + 1)) 3)) ab base K (m + 1) n := by
  obtain ⟨u, hu⟩ := (h.any m hm).1
  have os := only_set w ab m (.slice (some ⟨base + m, 0, none⟩) (n + 1) (n + 1))
  generalize hw1 : w.setCell ⟨ab, m, none⟩ (.slice (some ⟨base + m, 0, none⟩) (n + 1) (n + 1)) = w1 at *
  have hs1 : w1.heap.size = w.heap.size := by rw [← hw1]; simp [World.setCell]
  have oa : Only (fun _ => False) w1 (w1.alloc (.cells (madeCells #[.int .i64 0] (n + 1)) 3)) := (Only.refl _ w1).alloc _
  have t1 : Typ w1 ab 35 := by rw [← hw1]; exact h.typ.setCell _ _
  have hc := Cells.new w1 (madeCells #[.int .i64 0] (n + 1)) 3
  rw [toList_madeCells_one, hs1, ← hb] at hc
  have tn := Typ.new w1 (madeCells #[.int .i64 0] (n + 1)) 3 (0, 0)
  rw [hs1, ← hb] at tn
  have h1 : ∀ j, j < K → (∃ v, w1.cell? ⟨ab, j, none⟩ = some v) ∧ w1.frozen? ⟨ab, j, none⟩ = false := fun j hj => by
    rw [← hw1]
    refine ⟨?_, by rw [World.frozen?_setCell]; exact (h.any j hj).2⟩
    by_cases e : j = m
    · subst e; exact ⟨_, World.cell?_setCell_same _ _ _ hu⟩
    · obtain ⟨y, hy⟩ := (h.any j hj).1
      exact ⟨y, by rw [World.cell?_setCell_other w ⟨ab, m, none⟩ ⟨ab, j, none⟩ _ (by intro h; injection h; omega)]; exact hy⟩
  have h2 : ∀ j, j < m + 1 → w1.cell? ⟨ab, j, none⟩ = some (.slice (some ⟨base + j, 0, none⟩) (n + 1) (n + 1)) := fun j hj => by
    rw [← hw1]
    by_cases e : j = m
    · subst e; exact World.cell?_setCell_same _ _ _ hu
    · rw [World.cell?_setCell_other w ⟨ab, m, none⟩ ⟨ab, j, none⟩ _ (by intro h; injection h; omega)]; exact h.cell j (by omega)
  refine ⟨t1.keeps oa id, fun j hj => ⟨⟨_, oa.keeps (h1 j hj).1.choose_spec id⟩, oa.keepsFrozen (h1 j hj).1.choose_spec (h1 j hj).2 id⟩, fun j hj => oa.keeps (h2 j hj) id, fun j hj => ?_, fun j t hj ht => ?_⟩
  · by_cases e : j = m
    · subst e; exact tn
    · exact ((h.rows j (by omega)).keeps os (fun c => (h.typ.ne (h.rows j (by omega)) (by decide)) c.symm)).keeps oa id
  · by_cases e : j = m
    · subst e; exact hc t (.int .i64 0) (by rw [List.getElem?_replicate]; simp; omega)
    · have nn := fun c => (h.typ.ne (h.rows j (by omega)) (by decide)) (Eq.symm c)
      have p := h.place j t (by omega) ht
      have q := os.keeps p.1 nn
      exact ⟨oa.keeps q id, oa.keepsFrozen q (os.keepsFrozen p.1 p.2 nn) id⟩
theorem MatTo.full {w : World} {ab base K n : Nat} (h : MatTo w ab base K K n) : Mat w ab base K n (fun _ _ => 0) := ⟨h.typ, h.cell, h.rows, h.place⟩
end Go.Proofs.YtbiobhghnldckaaGreatDoor
