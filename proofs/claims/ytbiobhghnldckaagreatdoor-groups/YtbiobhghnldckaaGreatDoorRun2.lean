/- Proved: a run over a text of one line, by a program that is one s. Conditions: the program lies in memory, and the library's variables hold what they should. -/
import Derived.Test.YtbiobhghnldckaaGreatDoorRun1
import Derived.Deep.RegionHeld3
namespace Go.Proofs.YtbiobhghnldckaaGreatDoor
open Go.RowKit
set_option linter.unusedVariables false

set_option maxRecDepth 100000 in
set_option maxHeartbeats 800000 in
theorem hasNext_calls (eb k n lc : Nat) (la : Option Addr) (w : World) (h2 : w.cell? ⟨eb, 2, none⟩ = some (.slice la n lc)) (h3 : w.cell? ⟨eb, 3, none⟩ = some (.int .i64 k)) :
    Calls Tryz.prog 45 #[.pointer (some ⟨eb, 0, none⟩)] w fun e w' => e = .returned (.bool (decide ((k : Int) < n))) ∧ Only (fun _ => False) w w' := by
  go_enter Tryz.func45, Tryz.ntmps45
  go_wp2_with fail
  go_quiet (fail)
  go_wp2
  go_ret
  exact ⟨by first | rfl | simp, (Only.refl _ w).drewN _⟩

set_option maxRecDepth 100000 in
theorem mk_open (u : World) : (Instr.makeSlice 92 (.int .i64 1) (.int .i64 1)).run Tryz.prog u = .ok (.slice (some ⟨u.heap.size, 0, none⟩) 1 1) (u.alloc (.cells #[.bool false] 4)) := by
  have h := run_make (P := Tryz.prog) (w := u) 92 4 _ (.bool false) (by rfl) (by rfl) (by rfl) .i64 .i64 1 1 (by omega) (by omega) (by show (1 : Int) * 1 ≤ _; omega) (by omega)
  have e : Tryz.prog.types[4].size = 1 := by rfl
  rw [h, e]
  have hm : madeCells (Value.bool false).cells (Int.toNat 1 * 1) = #[.bool false] := Array.toList_inj.1 (by rw [show (Value.bool false).cells = #[Value.bool false] from rfl, toList_madeCells_one]; rfl)
  rw [hm]
  rfl
/-- An editor that was just made. -/
theorem ed_new (u : World) (v0 v1 v2 v7 : Value) :
    Ed (u.alloc (.cells #[v0, v1, v2, .int .i64 0, .slice none 0 0, .slice none 0 0, .slice none 0 0, v7, .bool false, .int .i64 0, .bool false, .bool false, .int .i64 0, .pointer none, .slice none 0 0, .int .i64 0] 108)) u.heap.size
      [v0, v1, v2, .int .i64 0, .slice none 0 0, .slice none 0 0, .slice none 0 0, v7, .bool false, .int .i64 0, .bool false, .bool false, .int .i64 0, .pointer none, .slice none 0 0, .int .i64 0] [] := by
  have hc := Cells.new u #[v0, v1, v2, .int .i64 0, .slice none 0 0, .slice none 0 0, .slice none 0 0, v7, .bool false, .int .i64 0, .bool false, .bool false, .int .i64 0, .pointer none, .slice none 0 0, .int .i64 0] 108
  refine ⟨⟨.pointer none, none, 0, hc, Or.inl rfl, World.ownsRow_nil _ _ _ _⟩, ?_, Typ.new _ _ _ _, rfl⟩
  unfold World.shape?
  rw [heap_alloc_new]
  rfl

/-- What a run over a text of one line asks. -/
structure OneLine (s : ByteArray) (c : Adz.Cmd) : Prop where
  simple : simple s.data.toList = true
  size : s.size ≤ 24
  some : 0 < s.size
  lsize : (lineOf s).size ≤ 3000
  count : Lib.countB (lineOf s) ⟨#[10]⟩ = 0
  split : Lib.splitB ⟨#[10]⟩ 0 0 (lineOf s) = [lineOf s]
  fine : Fine (Adz.runes (lineOf s)) c
  less : (runesBytes (Adz.subst (Adz.runes (lineOf s)) c)).size + 1 ≤ 8000

set_option maxRecDepth 100000 in
set_option maxHeartbeats 3200000 in
theorem run_s (c : Adz.Cmd) (pb g cap : Nat) (w : World) (ht : Tabs w) (hp : w.cell? ⟨pb, 0, none⟩ = some (.slice (some ⟨g, 0, none⟩) 1 cap)) (hc : OneCmd w g c) (s : ByteArray) (q : Bool) (h1 : OneLine s c) :
    Calls Tryz.prog 31 #[.pointer (some ⟨pb, 0, none⟩), .string s, .bool q] w fun e w' => e = .returned (.tuple #[.string ⟨(Adz.told q [] (Adz.subst (Adz.runes (lineOf s)) c)).toArray⟩, .int .i64 0]) ∧ Only (fun _ => False) w w' := by
  have hsz := h1.size
  have d1 : ¬ ((3000 : Int) < (s.size : Int)) := by omega
  have hval := validString_calls s w h1.simple h1.size ht.f ht.r0 ht.r1
  have hfine := h1.fine
  have hless := h1.less
  have hsplit := fun (u : World) (hu : Tabs u) => split_one s u hu h1.some (by omega) h1.lsize h1.count h1.split
  have hl3 := h1.lsize
  clear h1
  generalize lineOf s = ln at *
  go_enter Tryz.func31, Tryz.ntmps31
  go_wp2_with fail
  refine hval.mono ?_
  clear hval
  rintro e w1 ⟨rfl, o1⟩
  have hp1 := o1.keeps hp id
  have lp : pb < w1.heap.size := World.block_lt_of_cell? w1 _ hp1
  have hpa : ∀ (u : World) (o : Obj), u.cell? ⟨pb, 0, none⟩ = some (.slice (some ⟨g, 0, none⟩) 1 cap) → (u.alloc o).cell? ⟨pb, 0, none⟩ = some (.slice (some ⟨g, 0, none⟩) 1 cap) := fun u o hu => by
    have oo : Only (fun _ => False) u (u.alloc o) := (Only.refl _ u).alloc o
    exact oo.keeps hu id
  have hmk := mk_open
  have ht1 : Tabs w1.drew := (ht.keeps o1).keeps ((Only.refl _ w1).drew)
  have hta : ∀ o : Obj, Tabs (w1.drew.alloc o) := fun o => ht1.keeps ((Only.refl _ w1.drew).alloc o)
  go_wp2_with fail
  go_region_held3 (fun u => u.cell? ⟨pb, 0, none⟩ = some (.slice (some ⟨g, 0, none⟩) 1 cap)) (first | exact hp1 | exact hpa _ _ (by assumption) | assumption) ((go_at_call 43; refine (hsplit _ (by first | exact ht1 | exact hta _)).mono ?_; rintro e wS ⟨rfl, rfl⟩))
  · have hE0 := ed_new ((w1.alloc (.cells #[.string ln] 9)).alloc (.cells #[.bool false] 4)) (.slice (some ⟨g, 0, none⟩) 1 cap) (.bool q) (.slice (some ⟨w1.heap.size, 0, none⟩) 1 1) (.slice (some ⟨w1.heap.size + 1, 0, none⟩) 1 1)
    simp only [World.size_alloc] at hE0
    have oW : Only (fun _ => False) w1 (((w1.alloc (.cells #[.string ln] 9)).alloc (.cells #[.bool false] 4)).alloc (.cells #[.slice (some ⟨g, 0, none⟩) 1 cap, .bool q, .slice (some ⟨w1.heap.size, 0, none⟩) 1 1, .int .i64 0, .slice none 0 0, .slice none 0 0, .slice none 0 0, .slice (some ⟨w1.heap.size + 1, 0, none⟩) 1 1, .bool false, .int .i64 0, .bool false, .bool false, .int .i64 0, .pointer none, .slice none 0 0, .int .i64 0] 108)).drew := ((((Only.refl _ w1).alloc _).alloc _).alloc _).drew
    have hE5 := hE0.keeps (S := fun _ => False) ((Only.refl _ (((w1.alloc (.cells #[.string ln] 9)).alloc (.cells #[.bool false] 4)).alloc (.cells #[.slice (some ⟨g, 0, none⟩) 1 cap, .bool q, .slice (some ⟨w1.heap.size, 0, none⟩) 1 1, .int .i64 0, .slice none 0 0, .slice none 0 0, .slice none 0 0, .slice (some ⟨w1.heap.size + 1, 0, none⟩) 1 1, .bool false, .int .i64 0, .bool false, .bool false, .int .i64 0, .pointer none, .slice none 0 0, .int .i64 0] 108))).drew) id (fun _ _ => id)
    have hln0 : ((w1.alloc (.cells #[.string ln] 9)).alloc (.cells #[.bool false] 4)).cell? ⟨w1.heap.size, 0, none⟩ = some (.string ln) := ((Only.refl (fun _ => False) (w1.alloc (.cells #[.string ln] 9))).alloc (.cells #[.bool false] 4)).keeps ((Cells.new w1 #[.string ln] 9) 0 _ rfl).1 id
    have hln : (((w1.alloc (.cells #[.string ln] 9)).alloc (.cells #[.bool false] 4)).alloc (.cells #[.slice (some ⟨g, 0, none⟩) 1 cap, .bool q, .slice (some ⟨w1.heap.size, 0, none⟩) 1 1, .int .i64 0, .slice none 0 0, .slice none 0 0, .slice none 0 0, .slice (some ⟨w1.heap.size + 1, 0, none⟩) 1 1, .bool false, .int .i64 0, .bool false, .bool false, .int .i64 0, .pointer none, .slice none 0 0, .int .i64 0] 108)).drew.cell? ⟨w1.heap.size, 0, none⟩ = some (.string ln) := (((Only.refl (fun _ => False) ((w1.alloc (.cells #[.string ln] 9)).alloc (.cells #[.bool false] 4))).alloc (.cells #[.slice (some ⟨g, 0, none⟩) 1 cap, .bool q, .slice (some ⟨w1.heap.size, 0, none⟩) 1 1, .int .i64 0, .slice none 0 0, .slice none 0 0, .slice none 0 0, .slice (some ⟨w1.heap.size + 1, 0, none⟩) 1 1, .bool false, .int .i64 0, .bool false, .bool false, .int .i64 0, .pointer none, .slice none 0 0, .int .i64 0] 108)).drew).keeps hln0 id
    have ow5 : Only (fun _ => False) w (((w1.alloc (.cells #[.string ln] 9)).alloc (.cells #[.bool false] 4)).alloc (.cells #[.slice (some ⟨g, 0, none⟩) 1 cap, .bool q, .slice (some ⟨w1.heap.size, 0, none⟩) 1 1, .int .i64 0, .slice none 0 0, .slice none 0 0, .slice none 0 0, .slice (some ⟨w1.heap.size + 1, 0, none⟩) 1 1, .bool false, .int .i64 0, .bool false, .bool false, .int .i64 0, .pointer none, .slice none 0 0, .int .i64 0] 108)).drew := o1.trans oW (fun _ e => e) (fun _ _ e => e)
    have hc5 := hc.keeps ow5 (fun _ _ => id) (fun _ _ => id) (fun _ _ => id) (fun _ _ => id)
    clear hE0 hln0 oW hsplit hta ht1 hpa hmk
    have e0 : [.slice (some ⟨g, 0, none⟩) 1 cap, .bool q, .slice (some ⟨w1.heap.size, 0, none⟩) 1 1, .int .i64 0, .slice none 0 0, .slice none 0 0, .slice none 0 0, .slice (some ⟨w1.heap.size + 1, 0, none⟩) 1 1, .bool false, .int .i64 0, .bool false, .bool false, .int .i64 0, .pointer none, .slice none 0 0, .int .i64 0][0]? = some (Value.slice (some ⟨g, 0, none⟩) 1 cap) := rfl
    have e1 : [.slice (some ⟨g, 0, none⟩) 1 cap, .bool q, .slice (some ⟨w1.heap.size, 0, none⟩) 1 1, .int .i64 0, .slice none 0 0, .slice none 0 0, .slice none 0 0, .slice (some ⟨w1.heap.size + 1, 0, none⟩) 1 1, .bool false, .int .i64 0, .bool false, .bool false, .int .i64 0, .pointer none, .slice none 0 0, .int .i64 0][1]? = some (Value.bool q) := rfl
    have e2 : [.slice (some ⟨g, 0, none⟩) 1 cap, .bool q, .slice (some ⟨w1.heap.size, 0, none⟩) 1 1, .int .i64 0, .slice none 0 0, .slice none 0 0, .slice none 0 0, .slice (some ⟨w1.heap.size + 1, 0, none⟩) 1 1, .bool false, .int .i64 0, .bool false, .bool false, .int .i64 0, .pointer none, .slice none 0 0, .int .i64 0][2]? = some (Value.slice (some ⟨w1.heap.size, 0, none⟩) 1 1) := rfl
    have e3 : [.slice (some ⟨g, 0, none⟩) 1 cap, .bool q, .slice (some ⟨w1.heap.size, 0, none⟩) 1 1, .int .i64 0, .slice none 0 0, .slice none 0 0, .slice none 0 0, .slice (some ⟨w1.heap.size + 1, 0, none⟩) 1 1, .bool false, .int .i64 0, .bool false, .bool false, .int .i64 0, .pointer none, .slice none 0 0, .int .i64 0][3]? = some (Value.int .i64 (0 : Nat)) := rfl
    have e5 : [.slice (some ⟨g, 0, none⟩) 1 cap, .bool q, .slice (some ⟨w1.heap.size, 0, none⟩) 1 1, .int .i64 0, .slice none 0 0, .slice none 0 0, .slice none 0 0, .slice (some ⟨w1.heap.size + 1, 0, none⟩) 1 1, .bool false, .int .i64 0, .bool false, .bool false, .int .i64 0, .pointer none, .slice none 0 0, .int .i64 0][5]? = some (Value.slice none 0 0) := rfl
    have e6 : [.slice (some ⟨g, 0, none⟩) 1 cap, .bool q, .slice (some ⟨w1.heap.size, 0, none⟩) 1 1, .int .i64 0, .slice none 0 0, .slice none 0 0, .slice none 0 0, .slice (some ⟨w1.heap.size + 1, 0, none⟩) 1 1, .bool false, .int .i64 0, .bool false, .bool false, .int .i64 0, .pointer none, .slice none 0 0, .int .i64 0][6]? = some (Value.slice none 0 0) := rfl
    have e8 : [.slice (some ⟨g, 0, none⟩) 1 cap, .bool q, .slice (some ⟨w1.heap.size, 0, none⟩) 1 1, .int .i64 0, .slice none 0 0, .slice none 0 0, .slice none 0 0, .slice (some ⟨w1.heap.size + 1, 0, none⟩) 1 1, .bool false, .int .i64 0, .bool false, .bool false, .int .i64 0, .pointer none, .slice none 0 0, .int .i64 0][8]? = some (Value.bool false) := rfl
    have e11 : [.slice (some ⟨g, 0, none⟩) 1 cap, .bool q, .slice (some ⟨w1.heap.size, 0, none⟩) 1 1, .int .i64 0, .slice none 0 0, .slice none 0 0, .slice none 0 0, .slice (some ⟨w1.heap.size + 1, 0, none⟩) 1 1, .bool false, .int .i64 0, .bool false, .bool false, .int .i64 0, .pointer none, .slice none 0 0, .int .i64 0][11]? = some (Value.bool false) := rfl
    have e12 : [.slice (some ⟨g, 0, none⟩) 1 cap, .bool q, .slice (some ⟨w1.heap.size, 0, none⟩) 1 1, .int .i64 0, .slice none 0 0, .slice none 0 0, .slice none 0 0, .slice (some ⟨w1.heap.size + 1, 0, none⟩) 1 1, .bool false, .int .i64 0, .bool false, .bool false, .int .i64 0, .pointer none, .slice none 0 0, .int .i64 0][12]? = some (Value.int .i64 (0 : Nat)) := rfl
    have e15 : [.slice (some ⟨g, 0, none⟩) 1 cap, .bool q, .slice (some ⟨w1.heap.size, 0, none⟩) 1 1, .int .i64 0, .slice none 0 0, .slice none 0 0, .slice none 0 0, .slice (some ⟨w1.heap.size + 1, 0, none⟩) 1 1, .bool false, .int .i64 0, .bool false, .bool false, .int .i64 0, .pointer none, .slice none 0 0, .int .i64 0][15]? = some (Value.int .i64 0) := rfl
    have hsz5 : w.heap.size ≤ w1.heap.size + 1 + 1 := by have := o1.size; omega
    generalize ([.slice (some ⟨g, 0, none⟩) 1 cap, .bool q, .slice (some ⟨w1.heap.size, 0, none⟩) 1 1, .int .i64 0, .slice none 0 0, .slice none 0 0, .slice none 0 0, .slice (some ⟨w1.heap.size + 1, 0, none⟩) 1 1, .bool false, .int .i64 0, .bool false, .bool false, .int .i64 0, .pointer none, .slice none 0 0, .int .i64 0] : List Value) = l at *
    generalize (((w1.alloc (.cells #[.string ln] 9)).alloc (.cells #[.bool false] 4)).alloc (.cells l.toArray 108)).drew = W5 at *
    go_wp2_with fail
    go_loopg [] 1 (fun k wr => (k = 1 ∧ wr = W5) ∨ (k = 0 ∧ ∃ l', Hid (Ed wr (w1.heap.size + 1 + 1) l' (Adz.told q [] (Adz.subst (Adz.runes ln) c))) ∧ Hid (l'[15]? = some (.int .i64 0)) ∧ Hid (l'[3]? = some (.int .i64 1)) ∧ Hid (l'[2]? = some (.slice (some ⟨w1.heap.size, 0, none⟩) 1 1)) ∧ Hid (l'[11]? = some (.bool false)) ∧ Hid (Only (fun _ => False) w wr)))
    case atStart => exact Or.inl ⟨rfl, rfl⟩
    case round =>
      rcases hrel with ⟨rfl, rfl⟩ | ⟨rfl, l', h1', h2', h3', h4', h5', h6'⟩
      · have d15 := (hE5.get 15 (by omega) _ e15).1
        have d11 := (hE5.get 11 (by omega) _ e11).1
        have d2 := (hE5.get 2 (by omega) _ e2).1
        have d3 := (hE5.get 3 (by omega) _ e3).1
        have hnx := hasNext_calls (w1.heap.size + 1 + 1) 0 1 1 (some ⟨w1.heap.size, 0, none⟩) wr d2 d3
        have hcy := fun (u : World) (ou : Only (fun _ => False) wr u) => cycle_s c g cap (w1.heap.size + 1 + 1) u l [] (hE5.keeps ou id (fun _ _ => id)) (hc5.keeps ou (fun _ _ => id) (fun _ _ => id) (fun _ _ => id) (fun _ _ => id)) e0 q e1 e15 0 e12 (by omega) none 0 0 e5 (by omega) none 0 e6 w1.heap.size 0 1 1 0 ln e2 e3 (by omega) (by omega) (ou.keeps (p := ⟨w1.heap.size, 0 + 0, none⟩) hln id) hl3 false e8 hfine (by simp only [List.length_nil]; omega)
        go_wp2_with fail
        refine (goesOn_calls (w1.heap.size + 1 + 1) _ 0 d15).mono ?_
        rintro e w3 ⟨rfl, rfl⟩
        go_wp2_with fail
        refine hnx.mono ?_
        clear hnx
        rintro e w4 ⟨rfl, o4⟩
        have hdec : decide (((0 : Nat) : Int) < ((1 : Nat) : Int)) = true := by decide
        rw [hdec]
        go_wp2_with fail
        refine (hcy w4 o4).mono ?_
        clear hcy
        rintro e w6 ⟨⟨v6, rfl⟩, l', r1, r2, r3, r4, r5, r6⟩
        have oF : Only (fun _ => False) w w6 := by
          have o5 := ow5.trans o4 (fun _ e => e) (fun _ _ e => e)
          refine o5.trans r6 (fun _ e => e.elim) (fun b hb e => ?_)
          rcases e with e | e | e
          · omega
          · have := e.2; omega
          · have := e.2; omega
        go_wp2
        go_roundg 0
        case measure => omega
        case rel => exact Or.inr ⟨rfl, l', r1, r2, r3, r4.trans e2, r5.trans e11, oF⟩
      · have hE6 : Ed wr (w1.heap.size + 1 + 1) l' (Adz.told q [] (Adz.subst (Adz.runes ln) c)) := h1'
        have d15 := (hE6.get 15 (by omega) _ h2'.out).1
        have d11 := (hE6.get 11 (by omega) _ h5'.out).1
        have d2 := (hE6.get 2 (by omega) _ h4'.out).1
        have d3 := (hE6.get 3 (by omega) _ h3'.out).1
        have hnx := hasNext_calls (w1.heap.size + 1 + 1) 1 1 1 (some ⟨w1.heap.size, 0, none⟩) wr d2 d3
        have hst := fun (u : World) (ou : Only (fun _ => False) wr u) => builderString_calls (w1.heap.size + 1 + 1) u l' _ (hE6.keeps ou id (fun _ _ => id))
        have d15' := fun (u : World) (ou : Only (fun _ => False) wr u) => ou.keeps d15 id
        clear h1' h2' h3' h4' h5' hln hfine hless
        go_wp2_with fail
        refine (goesOn_calls (w1.heap.size + 1 + 1) _ 0 d15).mono ?_
        rintro e w3 ⟨rfl, rfl⟩
        go_wp2_with fail
        refine hnx.mono ?_
        clear hnx
        rintro e w4 ⟨rfl, o4⟩
        have hdec : decide (((1 : Nat) : Int) < ((1 : Nat) : Int)) = false := by decide
        rw [hdec]
        have k15 := d15' w4 o4
        go_wp2_with fail
        refine (hst w4 o4).mono ?_
        rintro e w5 ⟨rfl, o5⟩
        go_wp2
        go_ret2
        refine ⟨rfl, ?_⟩
        have o64 := h6'.out.trans o4 (fun _ e => e) (fun _ _ e => e.elim)
        refine o64.trans o5 (fun _ e => e) (fun b hb e => ?_)
        omega
  · have hE0 := ed_new ((w1.alloc (.cells #[.bool false] 4)).alloc (.cells #[.string ln] 9)) (.slice (some ⟨g, 0, none⟩) 1 cap) (.bool q) (.slice (some ⟨(w1.heap.size + 1), 0, none⟩) 1 1) (.slice (some ⟨w1.heap.size, 0, none⟩) 1 1)
    simp only [World.size_alloc] at hE0
    have oW : Only (fun _ => False) w1 (((w1.alloc (.cells #[.bool false] 4)).alloc (.cells #[.string ln] 9)).alloc (.cells #[.slice (some ⟨g, 0, none⟩) 1 cap, .bool q, .slice (some ⟨(w1.heap.size + 1), 0, none⟩) 1 1, .int .i64 0, .slice none 0 0, .slice none 0 0, .slice none 0 0, .slice (some ⟨w1.heap.size, 0, none⟩) 1 1, .bool false, .int .i64 0, .bool false, .bool false, .int .i64 0, .pointer none, .slice none 0 0, .int .i64 0] 108)).drew := ((((Only.refl _ w1).alloc _).alloc _).alloc _).drew
    have hE5 := hE0.keeps (S := fun _ => False) ((Only.refl _ (((w1.alloc (.cells #[.bool false] 4)).alloc (.cells #[.string ln] 9)).alloc (.cells #[.slice (some ⟨g, 0, none⟩) 1 cap, .bool q, .slice (some ⟨(w1.heap.size + 1), 0, none⟩) 1 1, .int .i64 0, .slice none 0 0, .slice none 0 0, .slice none 0 0, .slice (some ⟨w1.heap.size, 0, none⟩) 1 1, .bool false, .int .i64 0, .bool false, .bool false, .int .i64 0, .pointer none, .slice none 0 0, .int .i64 0] 108))).drew) id (fun _ _ => id)
    have hln0 : ((w1.alloc (.cells #[.bool false] 4)).alloc (.cells #[.string ln] 9)).cell? ⟨(w1.heap.size + 1), 0, none⟩ = some (.string ln) := by have := ((Cells.new (w1.alloc (.cells #[.bool false] 4)) #[.string ln] 9) 0 _ rfl).1; simp only [World.size_alloc] at this; exact this
    have hln : (((w1.alloc (.cells #[.bool false] 4)).alloc (.cells #[.string ln] 9)).alloc (.cells #[.slice (some ⟨g, 0, none⟩) 1 cap, .bool q, .slice (some ⟨(w1.heap.size + 1), 0, none⟩) 1 1, .int .i64 0, .slice none 0 0, .slice none 0 0, .slice none 0 0, .slice (some ⟨w1.heap.size, 0, none⟩) 1 1, .bool false, .int .i64 0, .bool false, .bool false, .int .i64 0, .pointer none, .slice none 0 0, .int .i64 0] 108)).drew.cell? ⟨(w1.heap.size + 1), 0, none⟩ = some (.string ln) := (((Only.refl (fun _ => False) ((w1.alloc (.cells #[.bool false] 4)).alloc (.cells #[.string ln] 9))).alloc (.cells #[.slice (some ⟨g, 0, none⟩) 1 cap, .bool q, .slice (some ⟨(w1.heap.size + 1), 0, none⟩) 1 1, .int .i64 0, .slice none 0 0, .slice none 0 0, .slice none 0 0, .slice (some ⟨w1.heap.size, 0, none⟩) 1 1, .bool false, .int .i64 0, .bool false, .bool false, .int .i64 0, .pointer none, .slice none 0 0, .int .i64 0] 108)).drew).keeps hln0 id
    have ow5 : Only (fun _ => False) w (((w1.alloc (.cells #[.bool false] 4)).alloc (.cells #[.string ln] 9)).alloc (.cells #[.slice (some ⟨g, 0, none⟩) 1 cap, .bool q, .slice (some ⟨(w1.heap.size + 1), 0, none⟩) 1 1, .int .i64 0, .slice none 0 0, .slice none 0 0, .slice none 0 0, .slice (some ⟨w1.heap.size, 0, none⟩) 1 1, .bool false, .int .i64 0, .bool false, .bool false, .int .i64 0, .pointer none, .slice none 0 0, .int .i64 0] 108)).drew := o1.trans oW (fun _ e => e) (fun _ _ e => e)
    have hc5 := hc.keeps ow5 (fun _ _ => id) (fun _ _ => id) (fun _ _ => id) (fun _ _ => id)
    clear hE0 hln0 oW hsplit hta ht1 hpa hmk
    have e0 : [.slice (some ⟨g, 0, none⟩) 1 cap, .bool q, .slice (some ⟨(w1.heap.size + 1), 0, none⟩) 1 1, .int .i64 0, .slice none 0 0, .slice none 0 0, .slice none 0 0, .slice (some ⟨w1.heap.size, 0, none⟩) 1 1, .bool false, .int .i64 0, .bool false, .bool false, .int .i64 0, .pointer none, .slice none 0 0, .int .i64 0][0]? = some (Value.slice (some ⟨g, 0, none⟩) 1 cap) := rfl
    have e1 : [.slice (some ⟨g, 0, none⟩) 1 cap, .bool q, .slice (some ⟨(w1.heap.size + 1), 0, none⟩) 1 1, .int .i64 0, .slice none 0 0, .slice none 0 0, .slice none 0 0, .slice (some ⟨w1.heap.size, 0, none⟩) 1 1, .bool false, .int .i64 0, .bool false, .bool false, .int .i64 0, .pointer none, .slice none 0 0, .int .i64 0][1]? = some (Value.bool q) := rfl
    have e2 : [.slice (some ⟨g, 0, none⟩) 1 cap, .bool q, .slice (some ⟨(w1.heap.size + 1), 0, none⟩) 1 1, .int .i64 0, .slice none 0 0, .slice none 0 0, .slice none 0 0, .slice (some ⟨w1.heap.size, 0, none⟩) 1 1, .bool false, .int .i64 0, .bool false, .bool false, .int .i64 0, .pointer none, .slice none 0 0, .int .i64 0][2]? = some (Value.slice (some ⟨(w1.heap.size + 1), 0, none⟩) 1 1) := rfl
    have e3 : [.slice (some ⟨g, 0, none⟩) 1 cap, .bool q, .slice (some ⟨(w1.heap.size + 1), 0, none⟩) 1 1, .int .i64 0, .slice none 0 0, .slice none 0 0, .slice none 0 0, .slice (some ⟨w1.heap.size, 0, none⟩) 1 1, .bool false, .int .i64 0, .bool false, .bool false, .int .i64 0, .pointer none, .slice none 0 0, .int .i64 0][3]? = some (Value.int .i64 (0 : Nat)) := rfl
    have e5 : [.slice (some ⟨g, 0, none⟩) 1 cap, .bool q, .slice (some ⟨(w1.heap.size + 1), 0, none⟩) 1 1, .int .i64 0, .slice none 0 0, .slice none 0 0, .slice none 0 0, .slice (some ⟨w1.heap.size, 0, none⟩) 1 1, .bool false, .int .i64 0, .bool false, .bool false, .int .i64 0, .pointer none, .slice none 0 0, .int .i64 0][5]? = some (Value.slice none 0 0) := rfl
    have e6 : [.slice (some ⟨g, 0, none⟩) 1 cap, .bool q, .slice (some ⟨(w1.heap.size + 1), 0, none⟩) 1 1, .int .i64 0, .slice none 0 0, .slice none 0 0, .slice none 0 0, .slice (some ⟨w1.heap.size, 0, none⟩) 1 1, .bool false, .int .i64 0, .bool false, .bool false, .int .i64 0, .pointer none, .slice none 0 0, .int .i64 0][6]? = some (Value.slice none 0 0) := rfl
    have e8 : [.slice (some ⟨g, 0, none⟩) 1 cap, .bool q, .slice (some ⟨(w1.heap.size + 1), 0, none⟩) 1 1, .int .i64 0, .slice none 0 0, .slice none 0 0, .slice none 0 0, .slice (some ⟨w1.heap.size, 0, none⟩) 1 1, .bool false, .int .i64 0, .bool false, .bool false, .int .i64 0, .pointer none, .slice none 0 0, .int .i64 0][8]? = some (Value.bool false) := rfl
    have e11 : [.slice (some ⟨g, 0, none⟩) 1 cap, .bool q, .slice (some ⟨(w1.heap.size + 1), 0, none⟩) 1 1, .int .i64 0, .slice none 0 0, .slice none 0 0, .slice none 0 0, .slice (some ⟨w1.heap.size, 0, none⟩) 1 1, .bool false, .int .i64 0, .bool false, .bool false, .int .i64 0, .pointer none, .slice none 0 0, .int .i64 0][11]? = some (Value.bool false) := rfl
    have e12 : [.slice (some ⟨g, 0, none⟩) 1 cap, .bool q, .slice (some ⟨(w1.heap.size + 1), 0, none⟩) 1 1, .int .i64 0, .slice none 0 0, .slice none 0 0, .slice none 0 0, .slice (some ⟨w1.heap.size, 0, none⟩) 1 1, .bool false, .int .i64 0, .bool false, .bool false, .int .i64 0, .pointer none, .slice none 0 0, .int .i64 0][12]? = some (Value.int .i64 (0 : Nat)) := rfl
    have e15 : [.slice (some ⟨g, 0, none⟩) 1 cap, .bool q, .slice (some ⟨(w1.heap.size + 1), 0, none⟩) 1 1, .int .i64 0, .slice none 0 0, .slice none 0 0, .slice none 0 0, .slice (some ⟨w1.heap.size, 0, none⟩) 1 1, .bool false, .int .i64 0, .bool false, .bool false, .int .i64 0, .pointer none, .slice none 0 0, .int .i64 0][15]? = some (Value.int .i64 0) := rfl
    have hsz5 : w.heap.size ≤ w1.heap.size + 1 + 1 := by have := o1.size; omega
    generalize ([.slice (some ⟨g, 0, none⟩) 1 cap, .bool q, .slice (some ⟨(w1.heap.size + 1), 0, none⟩) 1 1, .int .i64 0, .slice none 0 0, .slice none 0 0, .slice none 0 0, .slice (some ⟨w1.heap.size, 0, none⟩) 1 1, .bool false, .int .i64 0, .bool false, .bool false, .int .i64 0, .pointer none, .slice none 0 0, .int .i64 0] : List Value) = l at *
    generalize (((w1.alloc (.cells #[.bool false] 4)).alloc (.cells #[.string ln] 9)).alloc (.cells l.toArray 108)).drew = W5 at *
    go_wp2_with fail
    go_loopg [] 1 (fun k wr => (k = 1 ∧ wr = W5) ∨ (k = 0 ∧ ∃ l', Hid (Ed wr (w1.heap.size + 1 + 1) l' (Adz.told q [] (Adz.subst (Adz.runes ln) c))) ∧ Hid (l'[15]? = some (.int .i64 0)) ∧ Hid (l'[3]? = some (.int .i64 1)) ∧ Hid (l'[2]? = some (.slice (some ⟨(w1.heap.size + 1), 0, none⟩) 1 1)) ∧ Hid (l'[11]? = some (.bool false)) ∧ Hid (Only (fun _ => False) w wr)))
    case atStart => exact Or.inl ⟨rfl, rfl⟩
    case round =>
      rcases hrel with ⟨rfl, rfl⟩ | ⟨rfl, l', h1', h2', h3', h4', h5', h6'⟩
      · have d15 := (hE5.get 15 (by omega) _ e15).1
        have d11 := (hE5.get 11 (by omega) _ e11).1
        have d2 := (hE5.get 2 (by omega) _ e2).1
        have d3 := (hE5.get 3 (by omega) _ e3).1
        have hnx := hasNext_calls (w1.heap.size + 1 + 1) 0 1 1 (some ⟨(w1.heap.size + 1), 0, none⟩) wr d2 d3
        have hcy := fun (u : World) (ou : Only (fun _ => False) wr u) => cycle_s c g cap (w1.heap.size + 1 + 1) u l [] (hE5.keeps ou id (fun _ _ => id)) (hc5.keeps ou (fun _ _ => id) (fun _ _ => id) (fun _ _ => id) (fun _ _ => id)) e0 q e1 e15 0 e12 (by omega) none 0 0 e5 (by omega) none 0 e6 (w1.heap.size + 1) 0 1 1 0 ln e2 e3 (by omega) (by omega) (ou.keeps (p := ⟨(w1.heap.size + 1), 0 + 0, none⟩) hln id) hl3 false e8 hfine (by simp only [List.length_nil]; omega)
        go_wp2_with fail
        refine (goesOn_calls (w1.heap.size + 1 + 1) _ 0 d15).mono ?_
        rintro e w3 ⟨rfl, rfl⟩
        go_wp2_with fail
        refine hnx.mono ?_
        clear hnx
        rintro e w4 ⟨rfl, o4⟩
        have hdec : decide (((0 : Nat) : Int) < ((1 : Nat) : Int)) = true := by decide
        rw [hdec]
        go_wp2_with fail
        refine (hcy w4 o4).mono ?_
        clear hcy
        rintro e w6 ⟨⟨v6, rfl⟩, l', r1, r2, r3, r4, r5, r6⟩
        have oF : Only (fun _ => False) w w6 := by
          have o5 := ow5.trans o4 (fun _ e => e) (fun _ _ e => e)
          refine o5.trans r6 (fun _ e => e.elim) (fun b hb e => ?_)
          rcases e with e | e | e
          · omega
          · have := e.2; omega
          · have := e.2; omega
        go_wp2
        go_roundg 0
        case measure => omega
        case rel => exact Or.inr ⟨rfl, l', r1, r2, r3, r4.trans e2, r5.trans e11, oF⟩
      · have hE6 : Ed wr (w1.heap.size + 1 + 1) l' (Adz.told q [] (Adz.subst (Adz.runes ln) c)) := h1'
        have d15 := (hE6.get 15 (by omega) _ h2'.out).1
        have d11 := (hE6.get 11 (by omega) _ h5'.out).1
        have d2 := (hE6.get 2 (by omega) _ h4'.out).1
        have d3 := (hE6.get 3 (by omega) _ h3'.out).1
        have hnx := hasNext_calls (w1.heap.size + 1 + 1) 1 1 1 (some ⟨(w1.heap.size + 1), 0, none⟩) wr d2 d3
        have hst := fun (u : World) (ou : Only (fun _ => False) wr u) => builderString_calls (w1.heap.size + 1 + 1) u l' _ (hE6.keeps ou id (fun _ _ => id))
        have d15' := fun (u : World) (ou : Only (fun _ => False) wr u) => ou.keeps d15 id
        clear h1' h2' h3' h4' h5' hln hfine hless
        go_wp2_with fail
        refine (goesOn_calls (w1.heap.size + 1 + 1) _ 0 d15).mono ?_
        rintro e w3 ⟨rfl, rfl⟩
        go_wp2_with fail
        refine hnx.mono ?_
        clear hnx
        rintro e w4 ⟨rfl, o4⟩
        have hdec : decide (((1 : Nat) : Int) < ((1 : Nat) : Int)) = false := by decide
        rw [hdec]
        have k15 := d15' w4 o4
        go_wp2_with fail
        refine (hst w4 o4).mono ?_
        rintro e w5 ⟨rfl, o5⟩
        go_wp2
        go_ret2
        refine ⟨rfl, ?_⟩
        have o64 := h6'.out.trans o4 (fun _ e => e) (fun _ _ e => e.elim)
        refine o64.trans o5 (fun _ e => e) (fun b hb e => ?_)
        omega
end Go.Proofs.YtbiobhghnldckaaGreatDoor
