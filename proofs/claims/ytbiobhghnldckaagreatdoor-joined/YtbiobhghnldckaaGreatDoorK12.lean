/- Proved: a run of the editor, by its cycles. Conditions: the program lies in memory; contracts of the text's lines and of the cycles. -/
import Derived.Test.YtbiobhghnldckaaGreatDoorK11
import Derived.Test.YtbiobhghnldckaaGreatDoorK9
import Derived.Test.YtbiobhghnldckaaGreatDoorK10
namespace Go.Proofs.YtbiobhghnldckaaGreatDoor
open Go.RowKit
set_option linter.unusedVariables false

/-- A cycle leads from a state to another. -/
def CycleOk (w0 : World) (eb : Nat) (X : Adz.Fx) (E E' : Adz.Es) : Prop := E.over = false ∧ E.line < X.lines.length ∧
  ∀ w, Only (fun _ => False) w0 w → EMx w eb X E → Calls Tryz.prog 46 #[.pointer (some ⟨eb, 0, none⟩)] w fun e w' => (∃ v, e = .returned v) ∧ EMx w' eb X E' ∧ Only (fun _ => False) w0 w'
def CyclesOk (w0 : World) (eb : Nat) (X : Adz.Fx) : Nat → Adz.Es → Adz.Es → Prop
  | 0, E, E' => E = E' ∧ (E.over = true ∨ X.lines.length ≤ E.line)
  | k + 1, E, E' => ∃ E1, CycleOk w0 eb X E E1 ∧ CyclesOk w0 eb X k E1 E'
/-- Lines, as they were just parted. -/
def NewLines (w : World) (la : Option Addr) (ls : List ByteArray) : Prop := ls = [] ∨ ∃ lb, la = some ⟨lb, 0, none⟩ ∧ lb < w.heap.size ∧ ∀ k (hk : k < ls.length), w.cell? ⟨lb, k, none⟩ = some (.string ls[k])
theorem NewLines.keeps {w w' : World} {la : Option Addr} {ls : List ByteArray} (h : NewLines w la ls) (o : Only (fun _ => False) w w') : NewLines w' la ls := by
  rcases h with h | ⟨lb, e, h1, h2⟩
  · exact Or.inl h
  · exact Or.inr ⟨lb, e, Nat.lt_of_lt_of_le h1 o.size, fun k hk => o.keeps (h2 k hk) id⟩
theorem NewLines.at {w : World} {la : Option Addr} {ls : List ByteArray} (h : NewLines w la ls) {w' : World} (o : Only (fun _ => False) w w') : LinesAt w' w.heap.size la ls := by
  rcases h with h | ⟨lb, e, h1, h2⟩
  · exact Or.inl h
  · exact Or.inr ⟨lb, e, h1, Nat.lt_of_lt_of_le h1 o.size, fun k hk => o.keeps (h2 k hk) id⟩

theorem made_false (n : Nat) : (madeCells (Value.bool false).cells n).toList = List.replicate n (.bool false) := by
  apply List.ext_getElem?
  intro k
  rw [List.getElem?_replicate, Array.getElem?_toList]
  unfold madeCells
  have e : (Value.bool false).cells = #[.bool false] := rfl
  rw [e]
  by_cases h : k < n
  · rw [if_pos h]
    simp [h, Nat.mod_one]
  · rw [if_neg h]
    simp; omega
set_option maxRecDepth 100000 in
theorem mk_opens (n : Nat) (hn : n ≤ 500) : ∃ oc : Array Value, oc.toList = List.replicate n (.bool false) ∧ ∀ u : World, (Instr.makeSlice 92 (.int .i64 n) (.int .i64 n)).run Tryz.prog u = .ok (.slice (some ⟨u.heap.size, 0, none⟩) n n) (u.alloc (.cells oc 4)) := by
  refine ⟨madeCells (Value.bool false).cells ((n : Int).toNat * 1), by rw [made_false, Int.toNat_natCast, Nat.mul_one], fun u => ?_⟩
  have h := run_make (P := Tryz.prog) (w := u) 92 4 _ (.bool false) (by rfl) (by rfl) (by rfl) .i64 .i64 n n (by omega) (by omega) (by show (1 : Int) * n ≤ _; omega) (by omega)
  have e : Tryz.prog.types[4].size = 1 := by rfl
  rw [h, e]
  rfl
theorem opens_new {u : World} {eb : Nat} {X : Adz.Fx} {n ob : Nat} (h : X.ov = .slice (some ⟨ob, 0, none⟩) n n) (h1 : ob < eb) (h2 : X.lo ≤ ob) (ht : Typ u ob 4) (hc : Cells u ob (List.replicate n (.bool false))) : OpensAt u eb X (List.replicate n false) := by
  refine Or.inr ⟨ob, n, by rw [h, List.length_replicate], h1, h2, ht, fun k b hk => ?_⟩
  rw [List.getElem?_replicate] at hk
  split at hk
  · rename_i hlt
    injection hk with hk
    subst hk
    exact hc k _ (by rw [List.getElem?_replicate, if_pos hlt])
  · cases hk

set_option maxRecDepth 100000 in
set_option maxHeartbeats 3200000 in
theorem runM (pb : Nat) (w : World) (ca : Option Addr) (n cc : Nat) (hp : w.cell? ⟨pb, 0, none⟩ = some (.slice ca n cc)) (hn : n ≤ 500) (s : ByteArray) (q : Bool) (hsz : s.size ≤ 3000)
    (hval : Calls Tryz.prog 42 #[.string s] w fun e w' => e = .returned (.bool true) ∧ Only (fun _ => False) w w') (ls : List ByteArray)
    (hsplit : ∀ u, Only (fun _ => False) w u → Calls Tryz.prog 43 #[.string s] u fun e w' => ∃ la lc, e = .returned (.slice la ls.length lc) ∧ NewLines w' la ls ∧ Only (fun _ => False) u w')
    (out : List UInt8) (hcy : ∀ eb X, w.heap.size ≤ eb → X.cv = .slice ca n cc → X.q = q → X.lines = ls → w.heap.size ≤ X.lo → ∃ k E', CyclesOk w eb X k { opens := List.replicate n false } E' ∧ E'.out = out) :
    Calls Tryz.prog 31 #[.pointer (some ⟨pb, 0, none⟩), .string s, .bool q] w fun e w' => e = .returned (.tuple #[.string ⟨out.toArray⟩, .int .i64 0]) ∧ Only (fun _ => False) w w' := by
  obtain ⟨oc, hoc, hmk⟩ := mk_opens n hn
  have HOC : Hid (oc.toList = List.replicate n (.bool false)) := hoc
  clear hoc
  have d1 : ¬ ((3000 : Int) < (s.size : Int)) := by omega
  have HCY : Hid _ := hcy
  clear hcy
  go_enter Tryz.func31, Tryz.ntmps31
  go_wp2_with fail
  refine hval.mono ?_
  clear hval
  rintro e w1 ⟨rfl, o1⟩
  have hp1 := o1.keeps hp id
  have lp : pb < w1.heap.size := World.block_lt_of_cell? w1 _ hp1
  have hpa : ∀ (u : World) (o : Obj), u.cell? ⟨pb, 0, none⟩ = some (.slice ca n cc) → (u.alloc o).cell? ⟨pb, 0, none⟩ = some (.slice ca n cc) := fun u o hu => by
    have oo : Only (fun _ => False) u (u.alloc o) := (Only.refl _ u).alloc o
    exact oo.keeps hu id
  have od : Only (fun _ => False) w w1.drew := o1.drew
  have oda : ∀ o : Obj, Only (fun _ => False) w (w1.drew.alloc o) := fun o => od.alloc o
  go_wp2_with fail
  go_region_held3 (fun u => u.cell? ⟨pb, 0, none⟩ = some (.slice ca n cc)) (first | exact hp1 | exact hpa _ _ (by assumption) | assumption) ((go_at_call 43; refine (hsplit _ (by first | exact od | exact oda _)).mono ?_; rintro e wS ⟨la, lc, rfl, hls, oS⟩; have hpS := oS.keeps (by first | exact hp1 | exact hpa _ _ hp1) id))
  · rename_i hHeld0
    have hu : Only (fun _ => False) wS (wS.alloc (.cells oc 4)) := (Only.refl _ wS).alloc _
    have hE0 := ed_new (wS.alloc (.cells oc 4)) (.slice ca n cc) (.bool q) (.slice la ls.length lc) (.slice (some ⟨wS.heap.size, 0, none⟩) n n)
    have oA : Only (fun _ => False) (wS.alloc (.cells oc 4)) ((wS.alloc (.cells oc 4)).alloc (.cells #[.slice ca n cc, .bool q, .slice la ls.length lc, .int .i64 0, .slice none 0 0, .slice none 0 0, .slice none 0 0, .slice (some ⟨wS.heap.size, 0, none⟩) n n, .bool false, .int .i64 0, .bool false, .bool false, .int .i64 0, .pointer none, .slice none 0 0, .int .i64 0] 108)) := (Only.refl _ _).alloc _
    have hlA := (hls.keeps hu).at oA
    simp only [World.size_alloc] at hE0 hlA
    have hM : EM ((wS.alloc (.cells oc 4)).alloc (.cells #[.slice ca n cc, .bool q, .slice la ls.length lc, .int .i64 0, .slice none 0 0, .slice none 0 0, .slice none 0 0, .slice (some ⟨wS.heap.size, 0, none⟩) n n, .bool false, .int .i64 0, .bool false, .bool false, .int .i64 0, .pointer none, .slice none 0 0, .int .i64 0] 108)) (wS.heap.size + 1) ⟨.slice ca n cc, q, la, lc, ls, .slice (some ⟨wS.heap.size, 0, none⟩) n n, w.heap.size⟩ { opens := List.replicate n false } none 0 none 0 none 0 :=
      ⟨hE0, World.ownsRow_nil _ _ _ _, World.ownsRow_nil _ _ _ _, World.ownsRow_nil _ _ _ _, fun b hb => by simp [Value.ownBlock] at hb, hlA, opens_new rfl (Nat.lt_succ_self _) (by
        have h1 := o1.size
        have h2 := oS.size
        simp only [World.drew] at h2
        show w.heap.size ≤ wS.heap.size
        omega) ((Typ.new wS oc _ (0, 0)).alloc _) (by rw [← HOC.out]; exact (Cells.new wS oc _).alloc _)⟩
    have oW : Only (fun _ => False) w ((wS.alloc (.cells oc 4)).alloc (.cells #[.slice ca n cc, .bool q, .slice la ls.length lc, .int .i64 0, .slice none 0 0, .slice none 0 0, .slice none 0 0, .slice (some ⟨wS.heap.size, 0, none⟩) n n, .bool false, .int .i64 0, .bool false, .bool false, .int .i64 0, .pointer none, .slice none 0 0, .int .i64 0] 108)) := ((od.trans oS (fun _ e => e) (fun _ _ e => e)).trans hu (fun _ e => e) (fun _ _ e => e)).trans oA (fun _ e => e) (fun _ _ e => e)
    have hge : w.heap.size ≤ wS.heap.size + 1 := by
      have h1 := o1.size
      have h2 := oS.size
      simp only [World.drew] at h2
      omega
    clear hE0 oA hlA hu
    go_wp2_with fail
    generalize hW5 : (wS.alloc (.cells oc 4)).alloc (.cells #[.slice ca n cc, .bool q, .slice la ls.length lc, .int .i64 0, .slice none 0 0, .slice none 0 0, .slice none 0 0, .slice (some ⟨wS.heap.size, 0, none⟩) n n, .bool false, .int .i64 0, .bool false, .bool false, .int .i64 0, .pointer none, .slice none 0 0, .int .i64 0] 108) = W5 at *
    obtain ⟨k, E', hcyk, hout⟩ := HCY.out _ ⟨.slice ca n cc, q, la, lc, ls, .slice (some ⟨wS.heap.size, 0, none⟩) n n, w.heap.size⟩ hge rfl rfl rfl (Nat.le_refl _)
    have HCK : Hid _ := hcyk
    clear hcyk
    go_loopg [] k (fun j wr => ∃ Ej, Hid (CyclesOk w (wS.heap.size + 1) ⟨.slice ca n cc, q, la, lc, ls, .slice (some ⟨wS.heap.size, 0, none⟩) n n, w.heap.size⟩ j Ej E') ∧ Hid (EMx wr (wS.heap.size + 1) ⟨.slice ca n cc, q, la, lc, ls, .slice (some ⟨wS.heap.size, 0, none⟩) n n, w.heap.size⟩ Ej) ∧ Hid (Only (fun _ => False) w wr))
    case atStart => exact ⟨_, HCK, ⟨_, _, _, _, _, _, hM⟩, oW⟩
    case round =>
      obtain ⟨Ej, hS, hX, hOj⟩ := hrel
      clear hM oW hHeld0 hls hpS oS hp1 hpa od oda HCY HCK
      obtain ⟨sa', sc', ha', hc', qa', qc', hM⟩ := hX.out
      have d15 := (hM.ed.get 15 (by omega) _ rfl).1
      have d11 := (hM.ed.get 11 (by omega) _ rfl).1
      cases gk with
      | succ gk =>
        obtain ⟨E1, ⟨hov, hln, hcyc⟩, hrest⟩ := hS.out
        have HR : Hid (CyclesOk w (wS.heap.size + 1) ⟨.slice ca n cc, q, la, lc, ls, .slice (some ⟨wS.heap.size, 0, none⟩) n n, w.heap.size⟩ gk E1 E') := hrest
        rw [hov] at d11
        have hnx := hasNextM wr _ _ _ _ _ _ _ _ _ hM
        have hdec : decide ((Ej.line : Int) < ls.length) = true := by simp; exact hln
        rw [show (Adz.Fx.lines ⟨.slice ca n cc, q, la, lc, ls, .slice (some ⟨wS.heap.size, 0, none⟩) n n, w.heap.size⟩).length = ls.length from rfl, hdec] at hnx
        clear hrest hS
        go_wp2_with fail
        refine (goesOn_calls _ _ 0 d15).mono ?_
        rintro e w3 ⟨rfl, rfl⟩
        go_wp2_with fail
        refine hnx.mono ?_
        clear hnx
        rintro e w4 ⟨rfl, o4⟩
        go_wp2_with fail
        refine (hcyc w4 (hOj.out.trans o4 (fun _ e => e) (fun _ _ e => e)) ⟨_, _, _, _, _, _, hM.quiet o4⟩).mono ?_
        rintro e w6 ⟨⟨v6, rfl⟩, r1, r2⟩
        go_wp2
        go_roundg gk
        case measure => omega
        case rel => exact ⟨E1, HR, r1, r2⟩
      | zero =>
        obtain ⟨rfl, hov⟩ := hS.out
        have hnx := hasNextM wr _ _ _ _ _ _ _ _ _ hM
        have hst := fun (u : World) (ou : Only (fun _ => False) wr u) => builderString_calls _ u _ _ (hM.quiet ou).ed
        have d15' := fun (u : World) (ou : Only (fun _ => False) wr u) => ou.keeps d15 id
        clear hS
        cases hv : Ej.over with
        | true =>
          rw [hv] at d11
          have hst' := hst wr (Only.refl _ _)
          go_wp2_with fail
          refine (goesOn_calls _ _ 0 d15).mono ?_
          rintro e w3 ⟨rfl, rfl⟩
          go_wp2_with fail
          refine hst'.mono ?_
          rintro e w5 ⟨rfl, o5⟩
          go_wp2
          go_ret2
          exact ⟨rfl, only_new hOj.out o5 hge (fun b e => e)⟩
        | false =>
          rw [hv] at d11
          have hle : ls.length ≤ Ej.line := by
            rcases hov with e | e
            · rw [hv] at e; cases e
            · exact e
          have hdec : decide ((Ej.line : Int) < ls.length) = false := by simp; omega
          rw [show (Adz.Fx.lines ⟨.slice ca n cc, q, la, lc, ls, .slice (some ⟨wS.heap.size, 0, none⟩) n n, w.heap.size⟩).length = ls.length from rfl, hdec] at hnx
          go_wp2_with fail
          refine (goesOn_calls _ _ 0 d15).mono ?_
          rintro e w3 ⟨rfl, rfl⟩
          go_wp2_with fail
          refine hnx.mono ?_
          clear hnx
          rintro e w4 ⟨rfl, o4⟩
          have k15 := d15' w4 o4
          have hst' := hst w4 o4
          go_wp2_with fail
          refine hst'.mono ?_
          rintro e w5 ⟨rfl, o5⟩
          go_wp2
          go_ret2
          exact ⟨rfl, only_new (hOj.out.trans o4 (fun _ e => e) (fun _ _ e => e)) o5 hge (fun b e => e)⟩
  · rename_i hHeld0
    have hu : Only (fun _ => False) wS wS := Only.refl _ wS
    have hE0 := ed_new wS (.slice ca n cc) (.bool q) (.slice la ls.length lc) (.slice (some ⟨w1.heap.size, 0, none⟩) n n)
    have oA : Only (fun _ => False) wS (wS.alloc (.cells #[.slice ca n cc, .bool q, .slice la ls.length lc, .int .i64 0, .slice none 0 0, .slice none 0 0, .slice none 0 0, .slice (some ⟨w1.heap.size, 0, none⟩) n n, .bool false, .int .i64 0, .bool false, .bool false, .int .i64 0, .pointer none, .slice none 0 0, .int .i64 0] 108)) := (Only.refl _ _).alloc _
    have hlA := (hls.keeps hu).at oA
    have hM : EM (wS.alloc (.cells #[.slice ca n cc, .bool q, .slice la ls.length lc, .int .i64 0, .slice none 0 0, .slice none 0 0, .slice none 0 0, .slice (some ⟨w1.heap.size, 0, none⟩) n n, .bool false, .int .i64 0, .bool false, .bool false, .int .i64 0, .pointer none, .slice none 0 0, .int .i64 0] 108)) (wS.heap.size) ⟨.slice ca n cc, q, la, lc, ls, .slice (some ⟨w1.heap.size, 0, none⟩) n n, w.heap.size⟩ { opens := List.replicate n false } none 0 none 0 none 0 :=
      ⟨hE0, World.ownsRow_nil _ _ _ _, World.ownsRow_nil _ _ _ _, World.ownsRow_nil _ _ _ _, fun b hb => by simp [Value.ownBlock] at hb, hlA, opens_new rfl (by
        have h2 := oS.size
        simp only [World.size_alloc, World.drew] at h2
        omega) (by
        have h1 := o1.size
        show w.heap.size ≤ w1.heap.size
        omega) (((Typ.new w1 oc _ (0, 0)).drew.keeps oS id).alloc _) (by rw [← HOC.out]; exact ((Cells.new w1 oc _).drew.keeps oS id).alloc _)⟩
    have oW : Only (fun _ => False) w (wS.alloc (.cells #[.slice ca n cc, .bool q, .slice la ls.length lc, .int .i64 0, .slice none 0 0, .slice none 0 0, .slice none 0 0, .slice (some ⟨w1.heap.size, 0, none⟩) n n, .bool false, .int .i64 0, .bool false, .bool false, .int .i64 0, .pointer none, .slice none 0 0, .int .i64 0] 108)) := ((((o1.alloc (.cells oc 4)).drew).trans oS (fun _ e => e) (fun _ _ e => e)).trans hu (fun _ e => e) (fun _ _ e => e)).trans oA (fun _ e => e) (fun _ _ e => e)
    have hge : w.heap.size ≤ wS.heap.size := by
      have h1 := o1.size
      have h2 := oS.size
      simp only [World.size_alloc, World.drew] at h2
      omega
    clear hE0 oA hlA hu
    go_wp2_with fail
    generalize hW5 : wS.alloc (.cells #[.slice ca n cc, .bool q, .slice la ls.length lc, .int .i64 0, .slice none 0 0, .slice none 0 0, .slice none 0 0, .slice (some ⟨w1.heap.size, 0, none⟩) n n, .bool false, .int .i64 0, .bool false, .bool false, .int .i64 0, .pointer none, .slice none 0 0, .int .i64 0] 108) = W5 at *
    obtain ⟨k, E', hcyk, hout⟩ := HCY.out _ ⟨.slice ca n cc, q, la, lc, ls, .slice (some ⟨w1.heap.size, 0, none⟩) n n, w.heap.size⟩ hge rfl rfl rfl (Nat.le_refl _)
    have HCK : Hid _ := hcyk
    clear hcyk
    go_loopg [] k (fun j wr => ∃ Ej, Hid (CyclesOk w (wS.heap.size) ⟨.slice ca n cc, q, la, lc, ls, .slice (some ⟨w1.heap.size, 0, none⟩) n n, w.heap.size⟩ j Ej E') ∧ Hid (EMx wr (wS.heap.size) ⟨.slice ca n cc, q, la, lc, ls, .slice (some ⟨w1.heap.size, 0, none⟩) n n, w.heap.size⟩ Ej) ∧ Hid (Only (fun _ => False) w wr))
    case atStart => exact ⟨_, HCK, ⟨_, _, _, _, _, _, hM⟩, oW⟩
    case round =>
      obtain ⟨Ej, hS, hX, hOj⟩ := hrel
      clear hM oW hHeld0 hls hpS oS hp1 hpa od oda HCY HCK
      obtain ⟨sa', sc', ha', hc', qa', qc', hM⟩ := hX.out
      have d15 := (hM.ed.get 15 (by omega) _ rfl).1
      have d11 := (hM.ed.get 11 (by omega) _ rfl).1
      cases gk with
      | succ gk =>
        obtain ⟨E1, ⟨hov, hln, hcyc⟩, hrest⟩ := hS.out
        have HR : Hid (CyclesOk w (wS.heap.size) ⟨.slice ca n cc, q, la, lc, ls, .slice (some ⟨w1.heap.size, 0, none⟩) n n, w.heap.size⟩ gk E1 E') := hrest
        rw [hov] at d11
        have hnx := hasNextM wr _ _ _ _ _ _ _ _ _ hM
        have hdec : decide ((Ej.line : Int) < ls.length) = true := by simp; exact hln
        rw [show (Adz.Fx.lines ⟨.slice ca n cc, q, la, lc, ls, .slice (some ⟨w1.heap.size, 0, none⟩) n n, w.heap.size⟩).length = ls.length from rfl, hdec] at hnx
        clear hrest hS
        go_wp2_with fail
        refine (goesOn_calls _ _ 0 d15).mono ?_
        rintro e w3 ⟨rfl, rfl⟩
        go_wp2_with fail
        refine hnx.mono ?_
        clear hnx
        rintro e w4 ⟨rfl, o4⟩
        go_wp2_with fail
        refine (hcyc w4 (hOj.out.trans o4 (fun _ e => e) (fun _ _ e => e)) ⟨_, _, _, _, _, _, hM.quiet o4⟩).mono ?_
        rintro e w6 ⟨⟨v6, rfl⟩, r1, r2⟩
        go_wp2
        go_roundg gk
        case measure => omega
        case rel => exact ⟨E1, HR, r1, r2⟩
      | zero =>
        obtain ⟨rfl, hov⟩ := hS.out
        have hnx := hasNextM wr _ _ _ _ _ _ _ _ _ hM
        have hst := fun (u : World) (ou : Only (fun _ => False) wr u) => builderString_calls _ u _ _ (hM.quiet ou).ed
        have d15' := fun (u : World) (ou : Only (fun _ => False) wr u) => ou.keeps d15 id
        clear hS
        cases hv : Ej.over with
        | true =>
          rw [hv] at d11
          have hst' := hst wr (Only.refl _ _)
          go_wp2_with fail
          refine (goesOn_calls _ _ 0 d15).mono ?_
          rintro e w3 ⟨rfl, rfl⟩
          go_wp2_with fail
          refine hst'.mono ?_
          rintro e w5 ⟨rfl, o5⟩
          go_wp2
          go_ret2
          exact ⟨rfl, only_new hOj.out o5 hge (fun b e => e)⟩
        | false =>
          rw [hv] at d11
          have hle : ls.length ≤ Ej.line := by
            rcases hov with e | e
            · rw [hv] at e; cases e
            · exact e
          have hdec : decide ((Ej.line : Int) < ls.length) = false := by simp; omega
          rw [show (Adz.Fx.lines ⟨.slice ca n cc, q, la, lc, ls, .slice (some ⟨w1.heap.size, 0, none⟩) n n, w.heap.size⟩).length = ls.length from rfl, hdec] at hnx
          go_wp2_with fail
          refine (goesOn_calls _ _ 0 d15).mono ?_
          rintro e w3 ⟨rfl, rfl⟩
          go_wp2_with fail
          refine hnx.mono ?_
          clear hnx
          rintro e w4 ⟨rfl, o4⟩
          have k15 := d15' w4 o4
          have hst' := hst w4 o4
          go_wp2_with fail
          refine hst'.mono ?_
          rintro e w5 ⟨rfl, o5⟩
          go_wp2
          go_ret2
          exact ⟨rfl, only_new (hOj.out.trans o4 (fun _ e => e) (fun _ _ e => e)) o5 hge (fun b e => e)⟩
end Go.Proofs.YtbiobhghnldckaaGreatDoor

/- Proved: a script is read and run over a text, by its commands and cycles. Conditions: what the script's runes are; contracts of its commands, of the text's lines and of the cycles. -/
namespace Go.Proofs.YtbiobhghnldckaaGreatDoor
open Go.RowKit
set_option linter.unusedVariables false

/-- The text is taken for what it is: valid, and parted into these lines, wherever that is done. -/
structure TextOk (w : World) (s : ByteArray) (ls : List ByteArray) : Prop where
  size : s.size ≤ 3000
  val : ∀ u, Only (fun _ => False) w u → Calls Tryz.prog 42 #[.string s] u fun e w' => e = .returned (.bool true) ∧ Only (fun _ => False) u w'
  split : ∀ u, Only (fun _ => False) w u → Calls Tryz.prog 43 #[.string s] u fun e w' => ∃ la lc, e = .returned (.slice la ls.length lc) ∧ NewLines w' la ls ∧ Only (fun _ => False) u w'
theorem TextOk.keeps {w w' : World} {s : ByteArray} {ls : List ByteArray} (h : TextOk w s ls) (o : Only (fun _ => False) w w') : TextOk w' s ls :=
  ⟨h.size, fun u ou => h.val u (o.trans ou (fun _ e => e) (fun _ _ e => e)), fun u ou => h.split u (o.trans ou (fun _ e => e) (fun _ _ e => e))⟩

set_option maxRecDepth 100000 in
set_option maxHeartbeats 1600000 in
theorem scriptEditM (cs : List Adz.Cmd) (sb : Nat) (w : World) (hs : ScriptAt w sb cs) (hn : cs.length ≤ 500) (s : ByteArray) (q : Bool) (ls : List ByteArray) (ht : TextOk w s ls) (out : List UInt8)
    (hcy : ∀ qv xs, w.ownsRow 0 167 14 qv cs.length xs → CmdsIn w cs xs → ∀ eb X, w.heap.size ≤ eb → X.cv = qv → X.q = q → X.lines = ls → w.heap.size ≤ X.lo → ∃ k E', CyclesOk w eb X k { opens := List.replicate cs.length false } E' ∧ E'.out = out) :
    Calls Tryz.prog 26 #[.pointer (some ⟨sb, 0, none⟩), .string s, .bool q] w fun e w' => e = .returned (.tuple #[.string ⟨out.toArray⟩, .int .i64 0]) ∧ Only (fun _ => False) w w' := by
  obtain ⟨pb, p1, qv, xs, q1, q2, q3, q4⟩ := hs.prog
  have hc2 := hcy qv xs q2 q3
  obtain ⟨ca, cc, rfl⟩ := row_shape q2
  have hcall := runM pb w ca cs.length cc q1 hn s q ht.size (ht.val w (Only.refl _ w)) ls ht.split out (fun eb X h1 h2 h3 h4 h5 => hc2 eb X h1 h2 h3 h4 h5)
  clear hc2 hcy
  generalize (⟨out.toArray⟩ : ByteArray) = res at *
  go_enter Tryz.func26, Tryz.ntmps26
  go_wp2_with fail
  refine hcall.mono ?_
  rintro e w1 ⟨rfl, o1⟩
  go_wp2
  go_ret2
  exact ⟨rfl, o1⟩

set_option maxRecDepth 100000 in
set_option maxHeartbeats 1600000 in
theorem editM_fin (sc : ByteArray) (L pl : List Int) (hd : Dec sc L pl) (N : Nat) (sf : Adz.Ps) (hwk : Walks L pl N ⟨0, [], [], []⟩ sf) (hend : Adz.peek L sf.i = -1) (cs : List Adz.Cmd) (hfin : FinOk sf cs) (hn : cs.length ≤ 500)
    (w : World) (s : ByteArray) (q : Bool) (ls : List ByteArray) (ht : TextOk w s ls) (out : List UInt8)
    (hcy : ∀ (u : World) qv xs, u.ownsRow 0 167 14 qv cs.length xs → CmdsIn u cs xs → ∀ eb X, u.heap.size ≤ eb → X.cv = qv → X.q = q → X.lines = ls → u.heap.size ≤ X.lo → ∃ k E', CyclesOk u eb X k { opens := List.replicate cs.length false } E' ∧ E'.out = out) :
    Calls Tryz.prog 20 #[.string sc, .string s, .bool q] w fun e w' => e = .returned (.tuple #[.string ⟨out.toArray⟩, .bool true]) ∧ Only (fun _ => False) w w' := by
  have hparse := parse_fin sc L pl hd N sf hwk hend cs hfin w
  have hedit := fun (u : World) (ou : Only (fun _ => False) w u) (sb : Nat) (hb : ScriptAt u sb cs) => scriptEditM cs sb u hb hn s q ls (ht.keeps ou) out (hcy u)
  clear hcy
  generalize (⟨out.toArray⟩ : ByteArray) = res at *
  go_enter Tryz.func20, Tryz.ntmps20
  go_wp2_with fail
  refine hparse.mono ?_
  rintro e w1 ⟨sb, rfl, hsb, o1, _⟩
  have hcall := hedit w1 o1 sb hsb
  clear hedit hparse
  go_wp2_with fail
  refine hcall.mono ?_
  rintro e w2 ⟨rfl, o2⟩
  go_wp2
  go_ret2
  exact ⟨rfl, o1.trans o2 (fun _ e => e.elim) (fun _ _ e => e)⟩
theorem editM (sc : ByteArray) (L pl : List Int) (hd : Dec sc L pl) (N : Nat) (sf : Adz.Ps) (hwk : Walks L pl N ⟨0, [], [], []⟩ sf) (hend : Adz.peek L sf.i = -1) (hop : sf.opens = []) (hkd : ∀ j (hj : j < sf.cmds.length), (Adz.behindKind (sf.cmds[j]).what).getD 0 ≠ 4) (hn : sf.cmds.length ≤ 500)
    (w : World) (s : ByteArray) (q : Bool) (ls : List ByteArray) (ht : TextOk w s ls) (out : List UInt8)
    (hcy : ∀ (u : World) qv xs, u.ownsRow 0 167 14 qv sf.cmds.length xs → CmdsIn u sf.cmds xs → ∀ eb X, u.heap.size ≤ eb → X.cv = qv → X.q = q → X.lines = ls → u.heap.size ≤ X.lo → ∃ k E', CyclesOk u eb X k { opens := List.replicate sf.cmds.length false } E' ∧ E'.out = out) (hlab : sf.labs = [] := by rfl) :
    Calls Tryz.prog 20 #[.string sc, .string s, .bool q] w fun e w' => e = .returned (.tuple #[.string ⟨out.toArray⟩, .bool true]) ∧ Only (fun _ => False) w w' :=
  editM_fin sc L pl hd N sf hwk hend sf.cmds (finOk_plain sf hop hlab hkd) hn w s q ls ht out hcy
end Go.Proofs.YtbiobhghnldckaaGreatDoor

/- Proved: a cycle, and steps to p and n, as relations between states. Conditions: the commands lie in memory ahead of the editor. -/
namespace Go.Proofs.YtbiobhghnldckaaGreatDoor
open Go.RowKit
set_option linter.unusedVariables false

theorem cycleOk_of (w0 : World) (eb : Nat) (hEb : w0.heap.size ≤ eb) (X : Adz.Fx) (E : Adz.Es) (hov : E.over = false) (hk : E.line < X.lines.length) (hl : X.lines.length ≤ 4000) (hs : X.lines[E.line].size ≤ 3000)
    (ca : Option Addr) (n cc : Nat) (hcv : X.cv = .slice ca n cc) (hn5 : n ≤ 500) (k : Nat) (E2 E3 : Adz.Es) (hst : StepsOk w0 eb X n k { E with line := E.line + 1, r8 := false, sp := Adz.runes X.lines[E.line], next := 0, drop := false } E2) (hend : EndsIn X E2 E3) : CycleOk w0 eb X E E3 :=
  ⟨hov, hk, fun w hO ⟨sa, sc, ha, hc, qa, qc, hM⟩ => cycleM w0 w hO eb hEb X E sa ha qa sc hc qc hM hk hl hs ca n cc hcv hn5 k E2 E3 hst hend⟩

theorem stepOk_p (w0 : World) (eb : Nat) (hEb : w0.heap.size ≤ eb) (X : Adz.Fx) (E : Adz.Es) (g n cap : Nat) (hcv : X.cv = .slice (some ⟨g, 0, none⟩) n cap) (hnx : E.next < n) (hn5 : n ≤ 500) (hst : E.steps < 5000) (hsp : E.sp.length ≤ 400) (hho : E.hold.length ≤ 400)
    (c : Adz.Cmd) (hC : CmdM w0 g (E.next * 14) c) (hg : g < w0.heap.size) (hca : c.addrs = []) (hcn : c.neg = false) (hw : c.what = 112) (hlen : (Adz.told false E.out E.sp).length ≤ 8000) :
    StepOk w0 eb X n E { E with steps := E.steps + 1, next := E.next + 1, out := Adz.told false E.out E.sp } := by
  refine ⟨hnx, fun w hO ⟨sa, sc, ha, hc, qa, qc, hM⟩ => ?_⟩
  refine (stepM w eb X E sa ha qa sc hc qc hM hsp hho g n cap hcv hnx hn5 hst c (hC.keeps hO id) (by omega) hca hcn (fun w' => EMx w' eb X { E with steps := E.steps + 1, next := E.next + 1, out := Adz.told false E.out E.sp } ∧ Only (fun _ => False) w0 w') ?_)
  intro u ou hMu
  have hu0 := only_new hO ou hEb (fun b e => by omega)
  have hcell := (hC.keeps hu0 id).what
  rw [hw] at hcell
  refine (do_p u eb X _ sa ha qa sc hc qc hMu g (E.next * 14) hcell hlen).mono ?_
  rintro e w' ⟨hv, hM', o'⟩
  exact ⟨hv, ⟨_, _, _, _, _, _, hM'⟩, only_new hu0 o' hEb (fun b e => by rcases e with e | e <;> omega)⟩

theorem stepOk_n (w0 : World) (eb : Nat) (hEb : w0.heap.size ≤ eb) (X : Adz.Fx) (E : Adz.Es) (g n cap : Nat) (hcv : X.cv = .slice (some ⟨g, 0, none⟩) n cap) (hnx : E.next < n) (hn5 : n ≤ 500) (hst : E.steps < 5000) (hsp : E.sp.length ≤ 400) (hho : E.hold.length ≤ 400)
    (c : Adz.Cmd) (hC : CmdM w0 g (E.next * 14) c) (hg : g < w0.heap.size) (hca : c.addrs = []) (hcn : c.neg = false) (hw : c.what = 110) (hlen : (Adz.outs (Adz.told X.q E.out E.sp) E.queue).length ≤ 8000) (hq : E.queue.length ≤ 100000)
    (hk : E.line < X.lines.length) (hl : X.lines.length ≤ 4000) (hs : X.lines[E.line].size ≤ 3000) :
    StepOk w0 eb X n E { E with steps := E.steps + 1, next := E.next + 1, queue := [], out := Adz.outs (Adz.told X.q E.out E.sp) E.queue, line := E.line + 1, r8 := false, sp := Adz.runes X.lines[E.line] } := by
  refine ⟨hnx, fun w hO ⟨sa, sc, ha, hc, qa, qc, hM⟩ => ?_⟩
  refine (stepM w eb X E sa ha qa sc hc qc hM hsp hho g n cap hcv hnx hn5 hst c (hC.keeps hO id) (by omega) hca hcn (fun w' => EMx w' eb X { E with steps := E.steps + 1, next := E.next + 1, queue := [], out := Adz.outs (Adz.told X.q E.out E.sp) E.queue, line := E.line + 1, r8 := false, sp := Adz.runes X.lines[E.line] } ∧ Only (fun _ => False) w0 w') ?_)
  intro u ou hMu
  have hu0 := only_new hO ou hEb (fun b e => by omega)
  have hcell := (hC.keeps hu0 id).what
  rw [hw] at hcell
  refine do_call hcell _ ?_
  refine (nextLineM u eb X _ sa ha qa sc hc qc hMu hsp hho hlen hq hk hl hs).mono ?_
  rintro e w' ⟨hv, ⟨b, rc, hM'⟩, o'⟩
  exact ⟨hv, ⟨_, _, _, _, _, _, hM'⟩, only_new hu0 o' hEb (fun b e => by rcases e with e | e <;> omega)⟩

theorem stepOk_n_last (w0 : World) (eb : Nat) (hEb : w0.heap.size ≤ eb) (X : Adz.Fx) (E : Adz.Es) (g n cap : Nat) (hcv : X.cv = .slice (some ⟨g, 0, none⟩) n cap) (hnx : E.next < n) (hn5 : n ≤ 500) (hst : E.steps < 5000) (hsp : E.sp.length ≤ 400) (hho : E.hold.length ≤ 400)
    (c : Adz.Cmd) (hC : CmdM w0 g (E.next * 14) c) (hg : g < w0.heap.size) (hca : c.addrs = []) (hcn : c.neg = false) (hw : c.what = 110) (hk : X.lines.length ≤ E.line) :
    StepOk w0 eb X n E { E with steps := E.steps + 1, next := n, over := true } := by
  refine ⟨hnx, fun w hO ⟨sa, sc, ha, hc, qa, qc, hM⟩ => ?_⟩
  refine (stepM w eb X E sa ha qa sc hc qc hM hsp hho g n cap hcv hnx hn5 hst c (hC.keeps hO id) (by omega) hca hcn (fun w' => EMx w' eb X { E with steps := E.steps + 1, next := n, over := true } ∧ Only (fun _ => False) w0 w') ?_)
  intro u ou hMu
  have hu0 := only_new hO ou hEb (fun b e => by omega)
  have hcell := (hC.keeps hu0 id).what
  rw [hw] at hcell
  refine do_call hcell _ ?_
  refine (nextLineM_last u eb X _ sa ha qa sc hc qc hMu (some ⟨g, 0, none⟩) n cap hcv hk).mono ?_
  rintro e w' ⟨hv, hM', o'⟩
  exact ⟨hv, ⟨_, _, _, _, _, _, hM'⟩, only_new hu0 o' hEb (fun b e => by omega)⟩
end Go.Proofs.YtbiobhghnldckaaGreatDoor

/- Proved: where a program lies in memory, each of its commands does; a step to a p and an n, given the program. Conditions: the program lies in memory. -/
namespace Go.Proofs.YtbiobhghnldckaaGreatDoor
open Go.RowKit
set_option linter.unusedVariables false

theorem cmdsIn_get {w : World} : ∀ {cs : List Adz.Cmd} {xs : List Value}, CmdsIn w cs xs → ∀ j (hj : j < cs.length), ∃ av iv rv fv tv, Deep w cs[j] av iv rv fv tv ∧ ∀ o, o < 14 → xs[j * 14 + o]? = (cmdCells cs[j] av iv rv fv tv)[o]?
  | [], [], _, j, hj => by simp at hj
  | c :: cs, x0 :: x1 :: x2 :: x3 :: x4 :: x5 :: x6 :: x7 :: x8 :: x9 :: x10 :: x11 :: x12 :: x13 :: xs, h, 0, _ => by
    obtain ⟨⟨av, iv, rv, fv, tv, e, d⟩, r⟩ := h
    refine ⟨av, iv, rv, fv, tv, d, fun o ho => ?_⟩
    show _ = (cmdCells c av iv rv fv tv)[o]?
    rw [← e, Nat.zero_mul, Nat.zero_add]
    have e2 : (x0 :: x1 :: x2 :: x3 :: x4 :: x5 :: x6 :: x7 :: x8 :: x9 :: x10 :: x11 :: x12 :: x13 :: xs) = [x0, x1, x2, x3, x4, x5, x6, x7, x8, x9, x10, x11, x12, x13] ++ xs := rfl
    rw [e2, List.getElem?_append_left (by simp; omega)]
  | c :: cs, x0 :: x1 :: x2 :: x3 :: x4 :: x5 :: x6 :: x7 :: x8 :: x9 :: x10 :: x11 :: x12 :: x13 :: xs, h, j + 1, hj => by
    obtain ⟨av, iv, rv, fv, tv, d, g⟩ := cmdsIn_get h.2 j (by simpa using hj)
    refine ⟨av, iv, rv, fv, tv, d, fun o ho => ?_⟩
    have e : (j + 1) * 14 + o = j * 14 + o + 1 + 1 + 1 + 1 + 1 + 1 + 1 + 1 + 1 + 1 + 1 + 1 + 1 + 1 := by omega
    rw [e]
    exact g o ho

theorem cmdM_of {w : World} {g cap : Nat} {cs : List Adz.Cmd} {xs : List Value} (hown : w.ownsRow 0 167 14 (.slice (some ⟨g, 0, none⟩) cs.length cap) cs.length xs) (hin : CmdsIn w cs xs) (j : Nat) (hj : j < cs.length) : CmdM w g (j * 14) cs[j] ∧ g < w.heap.size := by
  obtain ⟨av, iv, rv, fv, tv, d, hget⟩ := cmdsIn_get hin j hj
  rcases hown.2 with ⟨e, _⟩ | ⟨g', cap', cur, hv, _, hg, _, _, hsz, htake⟩
  · cases e
  · injection hv with e1 e2 e3
    injection e1 with e1
    injection e1 with e1
    subst e1
    have hcell : ∀ o u, o < 14 → (cmdCells cs[j] av iv rv fv tv)[o]? = some u → w.cell? ⟨g, j * 14 + o, none⟩ = some u := by
      intro o u ho hu
      rw [cell_of_row _ g (j * 14 + o) cur _ (0, 0) hg]
      rw [← hget o ho, ← htake, List.getElem?_take] at hu
      split at hu
      · rw [Array.getElem?_toList] at hu; exact hu
      · cases hu
    obtain ⟨ivs, a1, _⟩ := d.a
    obtain ⟨aa, ac, rfl⟩ := row_shape a1
    exact ⟨⟨hcell 0 _ (by omega) rfl, ⟨aa, ac, hcell 1 _ (by omega) rfl⟩, hcell 2 _ (by omega) rfl, hcell 3 _ (by omega) rfl⟩, (Array.getElem?_eq_some_iff.1 hg).1⟩
end Go.Proofs.YtbiobhghnldckaaGreatDoor

/- Proved: what scripts that say nothing, and p, make of lines. Conditions: the lines are short, and the program lies in memory. -/
namespace Go.Proofs.YtbiobhghnldckaaGreatDoor
open Go.RowKit
set_option linter.unusedVariables false

/-- A line that is short, and is what its runes say. -/
structure Short (l : ByteArray) : Prop where
  size : l.size ≤ 3000
  few : (Adz.runes l).length ≤ 400
  back : runesBytes (Adz.runes l) = l

theorem told_short {q : Bool} {out : List UInt8} {l : ByteArray} (h : Short l) : Adz.told q out (Adz.runes l) = Adz.outs out (if q then [] else [l]) := by
  cases q with
  | true => rfl
  | false =>
    show (out ++ (runesBytes (Adz.runes l)).data.toList) ++ [10] = _
    rw [h.back]
    rfl

theorem drop_line {ls : List ByteArray} {j : Nat} (hj : j < ls.length) : ls.drop j = ls[j] :: ls.drop (j + 1) := List.drop_eq_getElem_cons hj

/-- A program without commands tells the lines, or, quiet, nothing. -/
theorem cycles_none (w0 : World) (eb : Nat) (hEb : w0.heap.size ≤ eb) (X : Adz.Fx) (ca : Option Addr) (cc : Nat) (hcv : X.cv = .slice ca 0 cc) (hl : X.lines.length ≤ 4000) (hls : ∀ l ∈ X.lines, Short l) :
    ∀ (m : Nat) (E : Adz.Es), E.line + m = X.lines.length → E.over = false → E.queue = [] → E.hold = [] → (Adz.outs E.out (if X.q then [] else X.lines.drop E.line)).length ≤ 8000 →
      ∃ E', CyclesOk w0 eb X m E E' ∧ E'.out = Adz.outs E.out (if X.q then [] else X.lines.drop E.line)
  | 0, E, hm, ho, hq, hh, hb => by
    refine ⟨E, ⟨rfl, Or.inr (by omega)⟩, ?_⟩
    rw [List.drop_eq_nil_of_le (by omega)]
    cases X.q <;> rfl
  | m + 1, E, hm, ho, hq, hh, hb => by
    have hk : E.line < X.lines.length := by omega
    have hsh := hls X.lines[E.line] (List.getElem_mem hk)
    have hout : Adz.outs (Adz.told X.q E.out (Adz.runes X.lines[E.line])) [] = Adz.outs E.out (if X.q then [] else [X.lines[E.line]]) := told_short hsh
    have hall : Adz.outs E.out (if X.q then [] else X.lines.drop E.line) = Adz.outs (Adz.outs E.out (if X.q then [] else [X.lines[E.line]])) (if X.q then [] else X.lines.drop (E.line + 1)) := by
      rw [drop_line hk]
      cases X.q <;> rfl
    have hlen := Adz.outs_len (if X.q then [] else X.lines.drop (E.line + 1)) (Adz.outs E.out (if X.q then [] else [X.lines[E.line]]))
    rw [hall] at hb
    obtain ⟨E', h1, h2⟩ := cycles_none w0 eb hEb X ca cc hcv hl hls m { E with line := E.line + 1, r8 := false, sp := Adz.runes X.lines[E.line], next := 0, drop := false, queue := [], out := Adz.outs E.out (if X.q then [] else [X.lines[E.line]]) } (by show E.line + 1 + m = _; omega) ho rfl hh hb
    refine ⟨E', ⟨_, cycleOk_of w0 eb hEb X E ho hk hl hsh.size ca 0 cc hcv (by omega) 0 _ _ ⟨rfl, by simp⟩ (Or.inr ⟨rfl, hsh.few, by show E.hold.length ≤ 400; rw [hh]; simp, ?_, by show E.queue.length ≤ 100000; rw [hq]; simp, ?_⟩), h1⟩, by rw [h2, hall]⟩
    · show (Adz.outs (Adz.told X.q E.out (Adz.runes X.lines[E.line])) E.queue).length ≤ 8000
      rw [hq, hout]; omega
    · show _ = { E with line := E.line + 1, r8 := false, sp := Adz.runes X.lines[E.line], next := 0, drop := false, queue := [], out := Adz.outs (Adz.told X.q E.out (Adz.runes X.lines[E.line])) E.queue }
      rw [hq, hout]

/-- A program that is p tells each line twice, or, quiet, once. -/
theorem cycles_p (w0 : World) (eb : Nat) (hEb : w0.heap.size ≤ eb) (X : Adz.Fx) (g cap : Nat) (hcv : X.cv = .slice (some ⟨g, 0, none⟩) 1 cap) (c : Adz.Cmd) (hC : CmdM w0 g 0 c) (hg : g < w0.heap.size) (hca : c.addrs = []) (hcn : c.neg = false) (hw : c.what = 112) (hl : X.lines.length ≤ 4000) (hls : ∀ l ∈ X.lines, Short l) :
    ∀ (m : Nat) (E : Adz.Es), E.line + m = X.lines.length → E.over = false → E.queue = [] → E.hold = [] → E.steps + m ≤ 5000 → (Adz.outs E.out ((X.lines.drop E.line).flatMap fun l => if X.q then [l] else [l, l])).length ≤ 8000 →
      ∃ E', CyclesOk w0 eb X m E E' ∧ E'.out = Adz.outs E.out ((X.lines.drop E.line).flatMap fun l => if X.q then [l] else [l, l])
  | 0, E, hm, ho, hq, hh, hs, hb => by
    refine ⟨E, ⟨rfl, Or.inr (by omega)⟩, ?_⟩
    rw [List.drop_eq_nil_of_le (by omega)]
    rfl
  | m + 1, E, hm, ho, hq, hh, hs, hb => by
    have hk : E.line < X.lines.length := by omega
    have hsh := hls X.lines[E.line] (List.getElem_mem hk)
    have hout1 : Adz.told false E.out (Adz.runes X.lines[E.line]) = Adz.outs E.out [X.lines[E.line]] := told_short (q := false) hsh
    have hout : Adz.outs (Adz.told X.q (Adz.outs E.out [X.lines[E.line]]) (Adz.runes X.lines[E.line])) [] = Adz.outs E.out (if X.q then [X.lines[E.line]] else [X.lines[E.line], X.lines[E.line]]) := by
      show Adz.told X.q (Adz.outs E.out [X.lines[E.line]]) (Adz.runes X.lines[E.line]) = _
      rw [told_short hsh, ← Adz.outs_append]
      cases X.q <;> rfl
    have hall : Adz.outs E.out ((X.lines.drop E.line).flatMap fun l => if X.q then [l] else [l, l]) = Adz.outs (Adz.outs E.out (if X.q then [X.lines[E.line]] else [X.lines[E.line], X.lines[E.line]])) ((X.lines.drop (E.line + 1)).flatMap fun l => if X.q then [l] else [l, l]) := by
      rw [drop_line hk, List.flatMap_cons, Adz.outs_append]
    have hlen := Adz.outs_len ((X.lines.drop (E.line + 1)).flatMap fun l => if X.q then [l] else [l, l]) (Adz.outs E.out (if X.q then [X.lines[E.line]] else [X.lines[E.line], X.lines[E.line]]))
    rw [hall] at hb
    have hlen1 : (Adz.outs E.out [X.lines[E.line]]).length ≤ 8000 := by
      have h1 := Adz.outs_len [X.lines[E.line]] (Adz.outs E.out [X.lines[E.line]])
      rw [← Adz.outs_append] at h1
      have h2 : (Adz.outs E.out [X.lines[E.line]]).length ≤ (Adz.outs E.out (if X.q then [X.lines[E.line]] else [X.lines[E.line], X.lines[E.line]])).length := by
        cases X.q with
        | true => exact Nat.le_refl _
        | false => exact h1
      omega
    obtain ⟨E', h1, h2⟩ := cycles_p w0 eb hEb X g cap hcv c hC hg hca hcn hw hl hls m { E with line := E.line + 1, r8 := false, sp := Adz.runes X.lines[E.line], next := 1, steps := E.steps + 1, drop := false, queue := [], out := Adz.outs E.out (if X.q then [X.lines[E.line]] else [X.lines[E.line], X.lines[E.line]]) } (by show E.line + 1 + m = _; omega) ho rfl hh (by show E.steps + 1 + m ≤ 5000; omega) hb
    have hst := stepOk_p w0 eb hEb X { E with line := E.line + 1, r8 := false, sp := Adz.runes X.lines[E.line], next := 0, drop := false } g 1 cap hcv (by show 0 < 1; omega) (by omega) (by show E.steps < 5000; omega) hsh.few (by show E.hold.length ≤ 400; rw [hh]; simp) c (by show CmdM w0 g (0 * 14) c; rw [Nat.zero_mul]; exact hC) hg hca hcn hw (by show (Adz.told false E.out (Adz.runes X.lines[E.line])).length ≤ 8000; rw [hout1]; exact hlen1)
    refine ⟨E', ⟨_, cycleOk_of w0 eb hEb X E ho hk hl hsh.size (some ⟨g, 0, none⟩) 1 cap hcv (by omega) 1 _ _ ⟨_, hst, rfl, Nat.le_refl _⟩ (Or.inr ⟨rfl, hsh.few, by show E.hold.length ≤ 400; rw [hh]; simp, ?_, by show E.queue.length ≤ 100000; rw [hq]; simp, ?_⟩), h1⟩, by rw [h2, hall]⟩
    · show (Adz.outs (Adz.told X.q (Adz.told false E.out (Adz.runes X.lines[E.line])) (Adz.runes X.lines[E.line])) E.queue).length ≤ 8000
      rw [hq, hout1, hout]; omega
    · show _ = { E with line := E.line + 1, r8 := false, sp := Adz.runes X.lines[E.line], next := 0 + 1, steps := E.steps + 1, drop := false, queue := [], out := Adz.outs (Adz.told X.q (Adz.told false E.out (Adz.runes X.lines[E.line])) (Adz.runes X.lines[E.line])) E.queue }
      rw [hq, hout1, hout]
end Go.Proofs.YtbiobhghnldckaaGreatDoor

/- Proved: what n makes of lines. Conditions: the lines are short, and the program lies in memory. -/
namespace Go.Proofs.YtbiobhghnldckaaGreatDoor
open Go.RowKit
set_option linter.unusedVariables false

/-- A program that is n tells the lines. -/
theorem cycles_n (w0 : World) (eb : Nat) (hEb : w0.heap.size ≤ eb) (X : Adz.Fx) (hXq : X.q = false) (g cap : Nat) (hcv : X.cv = .slice (some ⟨g, 0, none⟩) 1 cap) (c : Adz.Cmd) (hC : CmdM w0 g 0 c) (hg : g < w0.heap.size) (hca : c.addrs = []) (hcn : c.neg = false) (hw : c.what = 110) (hl : X.lines.length ≤ 4000) (hls : ∀ l ∈ X.lines, Short l) :
    ∀ (m : Nat) (E : Adz.Es), E.line + m = X.lines.length → E.over = false → E.queue = [] → E.hold = [] → E.steps + m ≤ 5000 → (Adz.outs E.out (X.lines.drop E.line)).length ≤ 8000 →
      ∃ k E', CyclesOk w0 eb X k E E' ∧ E'.out = Adz.outs E.out (X.lines.drop E.line)
  | 0, E, hm, ho, hq, hh, hs, hb => by
    refine ⟨0, E, ⟨rfl, Or.inr (by omega)⟩, ?_⟩
    rw [List.drop_eq_nil_of_le (by omega)]
    rfl
  | 1, E, hm, ho, hq, hh, hs, hb => by
    have hk : E.line < X.lines.length := by omega
    have hsh := hls X.lines[E.line] (List.getElem_mem hk)
    have hall : Adz.outs E.out (X.lines.drop E.line) = Adz.outs E.out [X.lines[E.line]] := by
      rw [drop_line hk, List.drop_eq_nil_of_le (by omega)]
    have hout : Adz.outs (Adz.told X.q E.out (Adz.runes X.lines[E.line])) [] = Adz.outs E.out [X.lines[E.line]] := by
      rw [hXq]; exact told_short (q := false) hsh
    rw [hall] at hb
    have hst := stepOk_n_last w0 eb hEb X { E with line := E.line + 1, r8 := false, sp := Adz.runes X.lines[E.line], next := 0, drop := false } g 1 cap hcv (by show 0 < 1; omega) (by omega) (by show E.steps < 5000; omega) hsh.few (by show E.hold.length ≤ 400; rw [hh]; simp) c (by show CmdM w0 g (0 * 14) c; rw [Nat.zero_mul]; exact hC) hg hca hcn hw (by show X.lines.length ≤ E.line + 1; omega)
    refine ⟨1, { E with line := E.line + 1, r8 := false, sp := Adz.runes X.lines[E.line], next := 1, drop := false, over := true, steps := E.steps + 1, queue := [], out := Adz.outs E.out [X.lines[E.line]] }, ⟨_, cycleOk_of w0 eb hEb X E ho hk hl hsh.size (some ⟨g, 0, none⟩) 1 cap hcv (by omega) 1 _ _ ⟨_, hst, rfl, Nat.le_refl _⟩ (Or.inr ⟨rfl, hsh.few, by show E.hold.length ≤ 400; rw [hh]; simp, ?_, by show E.queue.length ≤ 100000; rw [hq]; simp, ?_⟩), rfl, Or.inl rfl⟩, by rw [hall]⟩
    · show (Adz.outs (Adz.told X.q E.out (Adz.runes X.lines[E.line])) E.queue).length ≤ 8000
      rw [hq, hout]; exact hb
    · show _ = { E with line := E.line + 1, r8 := false, sp := Adz.runes X.lines[E.line], next := 1, drop := false, over := true, steps := E.steps + 1, queue := [], out := Adz.outs (Adz.told X.q E.out (Adz.runes X.lines[E.line])) E.queue }
      rw [hq, hout]
  | m + 2, E, hm, ho, hq, hh, hs, hb => by
    have hk : E.line < X.lines.length := by omega
    have hk2 : E.line + 1 < X.lines.length := by omega
    have hsh := hls X.lines[E.line] (List.getElem_mem hk)
    have hsh2 := hls X.lines[E.line + 1] (List.getElem_mem hk2)
    have hall : Adz.outs E.out (X.lines.drop E.line) = Adz.outs (Adz.outs (Adz.outs E.out [X.lines[E.line]]) [X.lines[E.line + 1]]) (X.lines.drop (E.line + 2)) := by
      rw [drop_line hk, drop_line hk2]; rfl
    have hout : Adz.outs (Adz.told X.q E.out (Adz.runes X.lines[E.line])) [] = Adz.outs E.out [X.lines[E.line]] := by
      rw [hXq]; exact told_short (q := false) hsh
    have hout2 : Adz.outs (Adz.told X.q (Adz.outs E.out [X.lines[E.line]]) (Adz.runes X.lines[E.line + 1])) [] = Adz.outs (Adz.outs E.out [X.lines[E.line]]) [X.lines[E.line + 1]] := by
      rw [hXq]; exact told_short (q := false) hsh2
    have l1 := Adz.outs_len (X.lines.drop (E.line + 2)) (Adz.outs (Adz.outs E.out [X.lines[E.line]]) [X.lines[E.line + 1]])
    have l2 := Adz.outs_len [X.lines[E.line + 1]] (Adz.outs E.out [X.lines[E.line]])
    rw [hall] at hb
    obtain ⟨k, E', h1, h2⟩ := cycles_n w0 eb hEb X hXq g cap hcv c hC hg hca hcn hw hl hls m { E with line := E.line + 1 + 1, r8 := false, sp := Adz.runes X.lines[E.line + 1], next := 1, drop := false, steps := E.steps + 1, queue := [], out := Adz.outs (Adz.outs E.out [X.lines[E.line]]) [X.lines[E.line + 1]] } (by show E.line + 1 + 1 + m = _; omega) ho rfl hh (by show E.steps + 1 + m ≤ 5000; omega) hb
    have hst := stepOk_n w0 eb hEb X { E with line := E.line + 1, r8 := false, sp := Adz.runes X.lines[E.line], next := 0, drop := false } g 1 cap hcv (by show 0 < 1; omega) (by omega) (by show E.steps < 5000; omega) hsh.few (by show E.hold.length ≤ 400; rw [hh]; simp) c (by show CmdM w0 g (0 * 14) c; rw [Nat.zero_mul]; exact hC) hg hca hcn hw (by show (Adz.outs (Adz.told X.q E.out (Adz.runes X.lines[E.line])) E.queue).length ≤ 8000; rw [hq, hout]; omega) (by show E.queue.length ≤ 100000; rw [hq]; simp) hk2 hl hsh2.size
    refine ⟨k + 1, E', ⟨_, cycleOk_of w0 eb hEb X E ho hk hl hsh.size (some ⟨g, 0, none⟩) 1 cap hcv (by omega) 1 _ _ ⟨_, hst, rfl, Nat.le_refl _⟩ (Or.inr ⟨rfl, hsh2.few, by show E.hold.length ≤ 400; rw [hh]; simp, ?_, by simp, ?_⟩), h1⟩, by rw [h2, hall]⟩
    · show (Adz.outs (Adz.told X.q (Adz.outs (Adz.told X.q E.out (Adz.runes X.lines[E.line])) E.queue) (Adz.runes X.lines[E.line + 1])) []).length ≤ 8000
      rw [hq, hout, hout2]; omega
    · show _ = { E with line := E.line + 1 + 1, r8 := false, sp := Adz.runes X.lines[E.line + 1], next := 0 + 1, drop := false, steps := E.steps + 1, queue := [], out := Adz.outs (Adz.told X.q (Adz.outs (Adz.told X.q E.out (Adz.runes X.lines[E.line])) E.queue) (Adz.runes X.lines[E.line + 1])) [] }
      rw [hq, hout, hout2]
end Go.Proofs.YtbiobhghnldckaaGreatDoor

/- Proved: what adzekeep.edit makes of the scripts that are empty or gaps alone, p, and n, over any short lines. Conditions: the text is taken for these lines ('TextOk'). -/
namespace Go.Proofs.YtbiobhghnldckaaGreatDoor
open Go.RowKit
set_option linter.unusedVariables false

/-- A script that is gaps alone tells the lines, or, quiet, nothing. -/
theorem edit_gaps (sc : ByteArray) (L pl : List Int) (hd : Dec sc L pl) (N i : Nat) (hwk : Walks L pl N ⟨0, [], [], []⟩ ⟨i, [], [], []⟩) (hend : Adz.peek L i = -1) (w : World) (s : ByteArray) (q : Bool) (ls : List ByteArray) (ht : TextOk w s ls) (hl : ls.length ≤ 4000) (hls : ∀ l ∈ ls, Short l) (hb : (Adz.outs [] (if q then [] else ls)).length ≤ 8000) :
    Calls Tryz.prog 20 #[.string sc, .string s, .bool q] w fun e w' => e = .returned (.tuple #[.string ⟨(Adz.outs [] (if q then [] else ls)).toArray⟩, .bool true]) ∧ Only (fun _ => False) w w' := by
  refine editM sc L pl hd N ⟨i, [], [], []⟩ hwk hend rfl (fun j hj => by simp at hj) (by simp) w s q ls ht _ ?_
  intro u qv xs h1 h2 eb X hEb hcv hq hlines hlo
  obtain ⟨ca, cc, rfl⟩ := row_shape h1
  obtain ⟨E', h3, h4⟩ := cycles_none u eb hEb X ca cc hcv (by rw [hlines]; exact hl) (by rw [hlines]; exact hls) X.lines.length { opens := List.replicate 0 false } (by show 0 + _ = _; omega) rfl rfl rfl (by show (Adz.outs [] (if X.q then [] else X.lines.drop 0)).length ≤ 8000; rw [hq, hlines, List.drop_zero]; exact hb)
  refine ⟨_, E', h3, ?_⟩
  rw [h4]
  show Adz.outs [] (if X.q then [] else X.lines.drop 0) = _
  rw [hq, hlines, List.drop_zero]

/-- A script of one sign behind which nothing stands. -/
theorem walks_one (r : Int) (hk : Adz.behindKind r = some 0) (hb : Adz.isBlank r = false) (h10 : r ≠ 10) (h59 : r ≠ 59) (h125 : r ≠ 125) (hm : r ≠ -1) (h33 : r ≠ 33) (ha : Adz.atAddress [r] 0 = false) (h123 : r ≠ 123) : Walks [r] [0, 1] 1 ⟨0, [], [], []⟩ ⟨1, [{ what := r }], [], []⟩ := by
  refine ⟨⟨1, [{ what := r }], [], []⟩, fun g pp hL hpl _ => ?_, rfl⟩
  have hp0 : Adz.peek g.L 0 = r := by rw [hL]; rfl
  refine gap_cmd g pp ⟨0, [], [], []⟩ ⟨1, [{ what := r }], [], []⟩ r hp0 hb h10 h59 h125 hm (fun base w hP => ?_)
  have := command_ok hP {} 0 (headOk_plain g pp 0 (by rw [hL]; exact ha) (by rw [hp0]; exact h33)) 0 (by rw [hp0]; exact hk) (by decide) (by decide) (by simp) (by rw [hL]; simp) (Nat.le_refl _) { what := r } 1 1 (by rw [hp0]; exact behOk_0 g pp _ _ _ hk) (Nat.le_refl _) (by rw [hL, hpl]; rfl) h123
  exact this

theorem edit_p (w : World) (s : ByteArray) (q : Bool) (ls : List ByteArray) (ht : TextOk w s ls) (hl : ls.length ≤ 4000) (hls : ∀ l ∈ ls, Short l) (hb : (Adz.outs [] (ls.flatMap fun l => if q then [l] else [l, l])).length ≤ 8000) :
    Calls Tryz.prog 20 #[.string ⟨#[112]⟩, .string s, .bool q] w fun e w' => e = .returned (.tuple #[.string ⟨(Adz.outs [] (ls.flatMap fun l => if q then [l] else [l, l])).toArray⟩, .bool true]) ∧ Only (fun _ => False) w w' := by
  refine editM ⟨#[112]⟩ [112] [0, 1] (dec_of (by decide +kernel)) 1 ⟨1, [{ what := 112 }], [], []⟩ (walks_one 112 (by decide) (by decide) (by decide) (by decide) (by decide) (by decide) (by decide) (by decide) (by decide)) (by decide) rfl (fun j hj => by
    have : j = 0 := by simpa using hj
    subst this
    exact (show (Adz.behindKind 112).getD 0 ≠ 4 by decide)) (by simp) w s q ls ht _ ?_
  intro u qv xs h1 h2 eb X hEb hcv hq hlines hlo
  obtain ⟨ca, cc, rfl⟩ := row_shape h1
  obtain ⟨g, rfl⟩ : ∃ g, ca = some ⟨g, 0, none⟩ := by
    rcases h1.2 with ⟨_, e⟩ | ⟨g, cap, cur, e, _⟩
    · simp at e
    · injection e with e1; exact ⟨g, e1⟩
  obtain ⟨hC, hg⟩ := cmdM_of h1 h2 0 (by simp)
  obtain ⟨E', h3, h4⟩ := cycles_p u eb hEb X g cc hcv { what := 112 } (by simpa using hC) hg rfl rfl rfl (by rw [hlines]; exact hl) (by rw [hlines]; exact hls) X.lines.length { opens := List.replicate 1 false } (by show 0 + _ = _; omega) rfl rfl rfl (by show 0 + _ ≤ 5000; rw [hlines]; omega) (by show (Adz.outs [] ((X.lines.drop 0).flatMap fun l => if X.q then [l] else [l, l])).length ≤ 8000; rw [hq, hlines, List.drop_zero]; exact hb)
  refine ⟨_, E', h3, ?_⟩
  rw [h4]
  show Adz.outs [] ((X.lines.drop 0).flatMap fun l => if X.q then [l] else [l, l]) = _
  rw [hq, hlines, List.drop_zero]

theorem edit_n (w : World) (s : ByteArray) (ls : List ByteArray) (ht : TextOk w s ls) (hl : ls.length ≤ 4000) (hls : ∀ l ∈ ls, Short l) (hb : (Adz.outs [] ls).length ≤ 8000) :
    Calls Tryz.prog 20 #[.string ⟨#[110]⟩, .string s, .bool false] w fun e w' => e = .returned (.tuple #[.string ⟨(Adz.outs [] ls).toArray⟩, .bool true]) ∧ Only (fun _ => False) w w' := by
  refine editM ⟨#[110]⟩ [110] [0, 1] (dec_of (by decide +kernel)) 1 ⟨1, [{ what := 110 }], [], []⟩ (walks_one 110 (by decide) (by decide) (by decide) (by decide) (by decide) (by decide) (by decide) (by decide) (by decide)) (by decide) rfl (fun j hj => by
    have : j = 0 := by simpa using hj
    subst this
    exact (show (Adz.behindKind 110).getD 0 ≠ 4 by decide)) (by simp) w s false ls ht _ ?_
  intro u qv xs h1 h2 eb X hEb hcv hq hlines hlo
  obtain ⟨ca, cc, rfl⟩ := row_shape h1
  obtain ⟨g, rfl⟩ : ∃ g, ca = some ⟨g, 0, none⟩ := by
    rcases h1.2 with ⟨_, e⟩ | ⟨g, cap, cur, e, _⟩
    · simp at e
    · injection e with e1; exact ⟨g, e1⟩
  obtain ⟨hC, hg⟩ := cmdM_of h1 h2 0 (by simp)
  obtain ⟨k, E', h3, h4⟩ := cycles_n u eb hEb X hq g cc hcv { what := 110 } (by simpa using hC) hg rfl rfl rfl (by rw [hlines]; exact hl) (by rw [hlines]; exact hls) X.lines.length { opens := List.replicate 1 false } (by show 0 + _ = _; omega) rfl rfl rfl (by show 0 + _ ≤ 5000; rw [hlines]; omega) (by show (Adz.outs [] (X.lines.drop 0)).length ≤ 8000; rw [hlines, List.drop_zero]; exact hb)
  refine ⟨k, E', h3, ?_⟩
  rw [h4]
  show Adz.outs [] (X.lines.drop 0) = _
  rw [hlines, List.drop_zero]

theorem walks_none : Walks [] [0] 0 ⟨0, [], [], []⟩ ⟨0, [], [], []⟩ := rfl
theorem walks_gap : Walks [32, 59, 10] [0, 1, 2, 3] 3 ⟨0, [], [], []⟩ ⟨3, [], [], []⟩ :=
  ⟨_, fun g pp hL _ _ => gap_skip g pp ⟨0, [], [], []⟩ 32 (by rw [hL]; rfl) (by decide), _, fun g pp hL _ _ => gap_skip g pp ⟨1, [], [], []⟩ 59 (by rw [hL]; rfl) (by decide), _, fun g pp hL _ _ => gap_skip g pp ⟨2, [], [], []⟩ 10 (by rw [hL]; rfl) (by decide), rfl⟩
end Go.Proofs.YtbiobhghnldckaaGreatDoor
