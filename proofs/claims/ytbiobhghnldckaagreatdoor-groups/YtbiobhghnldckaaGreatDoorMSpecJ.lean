/- Proved: nothing; plain Lean functions: what the functions that look for matches compute, on lists of numbers. No condition. -/
import Derived.Test.YtbiobhghnldckaaGreatDoorSpecJ
import Derived.Test.YtbiobhghnldckaaGreatDoorReadJ
namespace Go.Proofs.YtbiobhghnldckaaGreatDoor.Adz

def spanHas (r : Int) (s : Int × Int) : Bool := decide (s.1 ≤ r) && decide (r ≤ s.2)
def has (x : Item) (r : Int) : Bool := x.spans.any (spanHas r)
def takes (x : Item) (r : Int) : Bool := if x.kind == 4 then true else if x.kind == 5 then has x r else if x.kind == 6 then !has x r else false
def takesMany (x : Item) : Bool := x.times == 1 || x.times == 2
def takesNone (x : Item) (at_ n : Int) : Bool :=
  if x.kind == 0 then at_ == 0 else if x.kind == 1 then at_ == n else if x.kind == 2 || x.kind == 3 then true else x.times == 1 || x.times == 3
/-- where an item ends that begins at a place: what is known of the next place (e1), and of the next item at the next place (b1) and at this one (b0) -/
def endAt (x : Item) (r? : Option Int) (at_ n e1 b1 b0 : Int) : Int :=
  let none_ := if takesNone x at_ n && b0 != -1 then at_ else -1
  match r? with
  | some r => if takes x r then (if takesMany x && e1 != -1 then e1 else if b1 != -1 then at_ + 1 else none_) else none_
  | none => none_
end Go.Proofs.YtbiobhghnldckaaGreatDoor.Adz

/- Proved: whether an item takes a rune. Conditions: the item lies in memory as 'ItemAt' says. -/
namespace Go.Proofs.YtbiobhghnldckaaGreatDoor
open Go.RowKit
set_option linter.unusedVariables false

/-- An item lies at an address. -/
structure ItemAt (w : World) (ib o : Nat) (x : Adz.Item) : Prop where
  kind : w.cell? ⟨ib, o, none⟩ = some (.int .i64 x.kind)
  spans : ∃ sa sc, w.cell? ⟨ib, o + 2, none⟩ = some (.slice sa x.spans.length sc) ∧ SpansAt w (.slice sa x.spans.length sc) x.spans
  times : w.cell? ⟨ib, o + 3, none⟩ = some (.int .i64 x.times)
  few : x.spans.length ≤ 1000
theorem ItemAt.keeps {S : Nat → Prop} {w w' : World} {ib o : Nat} {x : Adz.Item} (h : ItemAt w ib o x) (u : Only S w w') (h1 : ¬ S ib) (h2 : ∀ b, Typ w b 284 → ¬ S b) : ItemAt w' ib o x := by
  obtain ⟨sa, sc, s1, s2⟩ := h.spans
  exact ⟨u.keeps h.kind h1, ⟨sa, sc, u.keeps s1 h1, s2.keeps u h2⟩, u.keeps h.times h1, h.few⟩
theorem ItemAt.quiet {w w' : World} {ib o : Nat} {x : Adz.Item} (h : ItemAt w ib o x) (u : Only (fun _ => False) w w') : ItemAt w' ib o x := h.keeps u id (fun _ _ => id)

set_option maxHeartbeats 800000 in
theorem closure_calls (a b r : Int) (rb : Nat) (w : World) (hr : w.cell? ⟨rb, 0, none⟩ = some (.int .i32 r)) :
    Calls Tryz.prog 235 #[.agg #[.int .i32 a, .int .i32 b], .pointer (some ⟨rb, 0, none⟩)] w fun e w' => e = .returned (.bool (Adz.spanHas r (a, b))) ∧ Only (fun _ => False) w w' := by
  have hl : rb < w.heap.size := World.block_lt_of_cell? w _ hr
  by_cases h : a ≤ r
  · have hd : decide (a ≤ r) = true := by simp [h]
    have e : Adz.spanHas r (a, b) = decide (r ≤ b) := by simp [Adz.spanHas, h]
    rw [e]
    go_enter Tryz.func235, Tryz.ntmps235
    go_wp2
    go_ret
    exact ⟨rfl, (Only.refl _ w).alloc _⟩
  · have hd : decide (a ≤ r) = false := by simp [h]
    have e : Adz.spanHas r (a, b) = false := by simp [Adz.spanHas, h]
    rw [e]
    go_enter Tryz.func235, Tryz.ntmps235
    go_wp2
    go_ret
    exact ⟨rfl, (Only.refl _ w).alloc _⟩

set_option maxRecDepth 100000 in
set_option maxHeartbeats 800000 in
theorem indexFunc_calls (sp : List (Int × Int)) (sa : Option Addr) (sc : Nat) (r : Int) (rb : Nat) (w : World) (hs : SpansAt w (.slice sa sp.length sc) sp) (hn : sp.length ≤ 1000) (hr : w.cell? ⟨rb, 0, none⟩ = some (.int .i32 r)) :
    Calls Tryz.prog 239 #[.slice sa sp.length sc, .func (.func 235) #[] #[.pointer (some ⟨rb, 0, none⟩)]] w fun e w' => ∃ v : Int, e = .returned (.int .i64 v) ∧ decide (0 ≤ v) = sp.any (Adz.spanHas r) ∧ Only (fun _ => False) w w' := by
  go_enter Tryz.func239, Tryz.ntmps239
  go_wp2_with fail
  go_loopg [8] sp.length (fun k v wr => ∃ j : Nat, v = .int .i64 j ∧ j + k = sp.length ∧ Hid ((sp.take j).any (Adz.spanHas r) = false) ∧ Hid (Only (fun _ => False) w wr))
  case atStart => exact ⟨0, rfl, by omega, by show (List.take 0 sp).any _ = false; simp, Only.refl _ _⟩
  case round =>
    obtain ⟨j, rfl, hjk, hA, hO⟩ := hrel
    have hO' : Only (fun _ => False) w wr := hO
    have HJ : Hid (j + gk = sp.length) := hjk
    have hjl : j ≤ sp.length := by omega
    clear hO hjk
    by_cases hlt : j < sp.length
    · obtain ⟨a', c', e', hb⟩ := hs
      simp at e'
      obtain ⟨rfl, rfl⟩ := e'
      obtain ⟨b, rfl, tb, hc⟩ := hb (by intro e; simp [e] at hlt)
      obtain ⟨x1, x2⟩ := hc j hlt
      have y1 := hO'.keeps x1 id
      have y2 := hO'.keeps x2 id
      have yr := hO'.keeps hr id
      rw [Nat.mul_comm] at y1 y2
      have hg : sp[j]'hlt = sp.getD j (0, 0) := by simp [hlt]
      have htk : (sp.take (j + 1)).any (Adz.spanHas r) = ((sp.take j).any (Adz.spanHas r) || Adz.spanHas r (sp.getD j (0, 0))) := by
        rw [List.take_succ_eq_append_getElem hlt, List.any_append, hg]; simp
      have hall : sp.any (Adz.spanHas r) = ((sp.take (j + 1)).any (Adz.spanHas r) || (sp.drop (j + 1)).any (Adz.spanHas r)) := by
        rw [← List.any_append, List.take_append_drop]
      rw [hA.out] at htk
      generalize hp : sp.getD j (0, 0) = p at *
      rcases hb : Adz.spanHas r p with _ | _
      · have HB : Hid (Adz.spanHas r p = false) := hb
        have HT : Hid ((sp.take (j + 1)).any (Adz.spanHas r) = false) := by show _ = _; rw [htk, hb]; rfl
        clear hb htk hall hg
        have hw : IntKind.i64.wrap ((j : Int) + 1) = (j : Int) + 1 := by rw [IntKind.wrap_i64]; omega
        go_wp2_with fail
        refine (closure_calls _ _ _ _ _ yr).mono ?_
        rintro e w1 ⟨rfl, ho1⟩
        rw [HB.out]
        go_wp2
        go_roundg (gk - 1)
        case measure => have := HJ.out; omega
        case rel => exact ⟨j + 1, by first | rfl | simp [hw], by have := HJ.out; omega, HT, hO'.trans ho1 (fun _ e => e) (fun _ _ e => e)⟩
      · have HB : Hid (Adz.spanHas r p = true) := hb
        have HT : Hid (sp.any (Adz.spanHas r) = true) := by show _ = _; rw [hall, htk, hb]; rfl
        clear hb htk hall hg
        go_wp2_with fail
        refine (closure_calls _ _ _ _ _ yr).mono ?_
        rintro e w1 ⟨rfl, ho1⟩
        rw [HB.out]
        go_wp2
        go_ret
        exact ⟨_, rfl, by rw [HT.out]; simp, hO'.trans ho1 (fun _ e => e) (fun _ _ e => e)⟩
    · have he : j = sp.length := by omega
      have hA' : sp.any (Adz.spanHas r) = false := by have := hA.out; rw [he, List.take_length] at this; exact this
      have HA : Hid (sp.any (Adz.spanHas r) = false) := hA'
      subst he
      clear hA' hA hlt
      go_wp2
      go_ret
      exact ⟨_, rfl, by rw [HA.out]; simp, hO'⟩

set_option maxHeartbeats 800000 in
theorem containsFunc_calls (sp : List (Int × Int)) (sa : Option Addr) (sc : Nat) (r : Int) (rb : Nat) (w : World) (hs : SpansAt w (.slice sa sp.length sc) sp) (hn : sp.length ≤ 1000) (hr : w.cell? ⟨rb, 0, none⟩ = some (.int .i32 r)) :
    Calls Tryz.prog 234 #[.slice sa sp.length sc, .func (.func 235) #[] #[.pointer (some ⟨rb, 0, none⟩)]] w fun e w' => e = .returned (.bool (sp.any (Adz.spanHas r))) ∧ Only (fun _ => False) w w' := by
  go_enter Tryz.func234, Tryz.ntmps234
  go_wp2_with fail
  refine (indexFunc_calls sp sa sc r rb w hs hn hr).mono ?_
  rintro e w1 ⟨v, rfl, hv, ho⟩
  go_wp2
  go_ret
  exact ⟨by rw [← hv]; rfl, ho⟩

set_option maxHeartbeats 800000 in
theorem has_calls (x : Adz.Item) (ib o : Nat) (r : Int) (w : World) (hx : ItemAt w ib o x) :
    Calls Tryz.prog 228 #[.pointer (some ⟨ib, o, none⟩), .int .i32 r] w fun e w' => e = .returned (.bool (Adz.has x r)) ∧ Only (fun _ => False) w w' := by
  have hk := hx.kind
  obtain ⟨sa, sc, s1, s2⟩ := hx.spans
  have hl : ib < w.heap.size := World.block_lt_of_cell? w _ hk
  have ho1 : Only (fun _ => False) w (w.alloc (Obj.cells #[Value.int IntKind.i32 r] 21)) := (Only.refl _ w).alloc _
  have s3 := s2.keeps ho1 (fun _ _ => id)
  have s4 := ho1.keeps s1 id
  have hr : (w.alloc (Obj.cells #[Value.int IntKind.i32 r] 21)).cell? ⟨w.heap.size, 0, none⟩ = some (.int .i32 r) := by simp [go_sem]
  go_enter Tryz.func228, Tryz.ntmps228
  go_wp2_with fail
  refine (containsFunc_calls x.spans sa sc r w.heap.size _ s3 hx.few hr).mono ?_
  rintro e w1 ⟨rfl, ho⟩
  go_wp2
  go_ret
  exact ⟨rfl, ho1.trans ho (fun _ e => e) (fun _ _ e => e)⟩

set_option maxHeartbeats 800000 in
theorem takes_calls (x : Adz.Item) (ib o : Nat) (r : Int) (w : World) (hx : ItemAt w ib o x) :
    Calls Tryz.prog 217 #[.pointer (some ⟨ib, o, none⟩), .int .i32 r] w fun e w' => e = .returned (.bool (Adz.takes x r)) ∧ Only (fun _ => False) w w' := by
  have hk := hx.kind
  have hl : ib < w.heap.size := World.block_lt_of_cell? w _ hk
  by_cases k4 : x.kind = 4
  · have e : Adz.takes x r = true := by simp [Adz.takes, k4]
    rw [e]
    rw [k4] at hk
    go_enter Tryz.func217, Tryz.ntmps217
    go_wp2
    go_ret
    exact ⟨rfl, Only.refl _ _⟩
  by_cases k5 : x.kind = 5
  · have e : Adz.takes x r = Adz.has x r := by simp [Adz.takes, k5]
    rw [e]
    rw [k5] at hk
    go_enter Tryz.func217, Tryz.ntmps217
    go_wp2_with fail
    refine (has_calls x ib o r w hx).mono ?_
    rintro e w1 ⟨rfl, ho⟩
    go_wp2
    go_ret
    exact ⟨rfl, ho⟩
  by_cases k6 : x.kind = 6
  · have e : Adz.takes x r = !Adz.has x r := by simp [Adz.takes, k6]
    rw [e]
    rw [k6] at hk
    go_enter Tryz.func217, Tryz.ntmps217
    go_wp2_with fail
    refine (has_calls x ib o r w hx).mono ?_
    rintro e w1 ⟨rfl, ho⟩
    go_wp2
    go_ret
    exact ⟨rfl, ho⟩
  have e : Adz.takes x r = false := by simp [Adz.takes, k4, k5, k6]
  have d4 : decide (x.kind = 4) = false := by simp [k4]
  have d5 : decide (x.kind = 5) = false := by simp [k5]
  have d6 : decide (x.kind = 6) = false := by simp [k6]
  rw [e]
  go_enter Tryz.func217, Tryz.ntmps217
  go_wp2
  go_ret
  exact ⟨rfl, Only.refl _ _⟩

set_option maxHeartbeats 800000 in
theorem takesMany_calls (x : Adz.Item) (ib o : Nat) (w : World) (hx : ItemAt w ib o x) :
    Calls Tryz.prog 218 #[.pointer (some ⟨ib, o, none⟩)] w fun e w' => e = .returned (.bool (Adz.takesMany x)) ∧ Only (fun _ => False) w w' := by
  have hk := hx.times
  have hl : ib < w.heap.size := World.block_lt_of_cell? w _ hk
  by_cases k1 : x.times = 1
  · have e : Adz.takesMany x = true := by simp [Adz.takesMany, k1]
    rw [e]
    rw [k1] at hk
    go_enter Tryz.func218, Tryz.ntmps218
    go_wp2
    go_ret
    exact ⟨rfl, Only.refl _ _⟩
  have e : Adz.takesMany x = (x.times == 1 || x.times == 2) := rfl
  have d4 : decide (x.times = 1) = false := by simp [k1]
  rw [e]
  go_enter Tryz.func218, Tryz.ntmps218
  go_wp2
  go_ret
  exact ⟨rfl, Only.refl _ _⟩

set_option maxHeartbeats 1600000 in
theorem takesNone_calls (x : Adz.Item) (ib o : Nat) (at_ n : Int) (w : World) (hx : ItemAt w ib o x) :
    Calls Tryz.prog 219 #[.pointer (some ⟨ib, o, none⟩), .int .i64 at_, .int .i64 n] w fun e w' => e = .returned (.bool (Adz.takesNone x at_ n)) ∧ Only (fun _ => False) w w' := by
  have hk := hx.kind
  have ht := hx.times
  have hl : ib < w.heap.size := World.block_lt_of_cell? w _ hk
  by_cases k0 : x.kind = 0
  · have e : Adz.takesNone x at_ n = decide (at_ = 0) := by by_cases h : at_ = 0 <;> simp [Adz.takesNone, k0, h]
    rw [e]
    rw [k0] at hk
    go_enter Tryz.func219, Tryz.ntmps219
    go_wp2
    go_ret
    exact ⟨rfl, Only.refl _ _⟩
  by_cases k1 : x.kind = 1
  · have e : Adz.takesNone x at_ n = decide (at_ = n) := by by_cases h : at_ = n <;> simp [Adz.takesNone, k1, h]
    rw [e]
    rw [k1] at hk
    go_enter Tryz.func219, Tryz.ntmps219
    go_wp2
    go_ret
    exact ⟨rfl, Only.refl _ _⟩
  by_cases k2 : x.kind = 2
  · have e : Adz.takesNone x at_ n = true := by simp [Adz.takesNone, k2]
    rw [e]
    rw [k2] at hk
    go_enter Tryz.func219, Tryz.ntmps219
    go_wp2
    go_ret
    exact ⟨rfl, Only.refl _ _⟩
  by_cases k3 : x.kind = 3
  · have e : Adz.takesNone x at_ n = true := by simp [Adz.takesNone, k3]
    rw [e]
    rw [k3] at hk
    go_enter Tryz.func219, Tryz.ntmps219
    go_wp2
    go_ret
    exact ⟨rfl, Only.refl _ _⟩
  have d0 : decide (x.kind = 0) = false := by simp [k0]
  have d1 : decide (x.kind = 1) = false := by simp [k1]
  have d2 : decide (x.kind = 2) = false := by simp [k2]
  have d3 : decide (x.kind = 3) = false := by simp [k3]
  by_cases t1 : x.times = 1
  · have e : Adz.takesNone x at_ n = true := by simp [Adz.takesNone, k0, k1, k2, k3, t1]
    rw [e]
    rw [t1] at ht
    go_enter Tryz.func219, Tryz.ntmps219
    go_wp2
    go_ret
    exact ⟨rfl, Only.refl _ _⟩
  have e : Adz.takesNone x at_ n = (x.times == 1 || x.times == 3) := by simp [Adz.takesNone, k0, k1, k2, k3]
  have d4 : decide (x.times = 1) = false := by simp [t1]
  rw [e]
  go_enter Tryz.func219, Tryz.ntmps219
  go_wp2
  go_ret
  exact ⟨rfl, Only.refl _ _⟩
end Go.Proofs.YtbiobhghnldckaaGreatDoor
