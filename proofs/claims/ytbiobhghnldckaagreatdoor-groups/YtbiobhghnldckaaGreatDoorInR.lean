/- Proved: laws of our own on a range over a function: a round's region by a walk outside of a round; an iterator that writes cells of a type of its own. No condition. -/
import Derived.Test.YtbiobhghnldckaaGreatDoorMemJ
import Derived.RangeFuncNested
import Derived.RangeFuncBound
import Derived.RangeFuncCalls
import Derived.RangeFuncLeaves
import Derived.OwnWalkIn
import Derived.TacticsInMore
import Derived.LoopIn
import Derived.OrdersHeld
import Derived.Deep.MidRow
namespace Go.Proofs.YtbiobhghnldckaaGreatDoor
open Go.RowKit

/-- Operations that were walked outside of a round are carried out so in a round. -/
theorem ops_inRound {P : Program} {ops : Array Oper} {Q : Exit → Act → World → Prop} (l n : Nat) (hd : ∀ (i : Nat) o, ops[i]? = some o → ∀ c, o.op ≠ .defer c) (hQ : ¬ LetsOut Q) :
    ∀ (is : List Nat) (a : Act) (w : World), wpOps P ops Q is a w → wpOpsIn (Fence.wide.inRound l) n P ops Q is a w
  | [], a, w, h => h
  | i :: is, a, w, h => by
    have ih := ops_inRound (P := P) l n hd hQ is
    unfold wpOps at h
    unfold wpOpsIn
    cases ho : ops[i]? with
    | none => rw [ho] at h; exact ih a w h
    | some o =>
      rw [ho] at h
      simp only at h ⊢
      split
      · rename_i hw
        rw [if_pos hw] at h
        rcases h with h | ⟨_, h⟩
        · refine ⟨fun _ _ => trivial, ?_⟩
          show o.uponIn _ n P a _ Q ((o.semAt (some l) a.eval).run P w)
          rw [Oper.semAt_some l a.eval o (hd i o ho)]
          unfold Oper.wp at h
          generalize (execOp a.eval o).run P w = r at h ⊢
          cases r with
          | ok x w' =>
            cases x with
            | value v => exact ih _ _ h
            | skip => exact ih _ _ h
            | defer d => exact ih _ _ h
            | enter f args =>
              refine ⟨fun e => by simp [Fence.inRound, Fence.wide] at e, CallsIn.inRound l (callsIn_wide.2 (Calls.mono h ?_))⟩
              intro e w2 he
              cases e with
              | returned v => exact ih _ _ he
              | panicked ch => exact he
              | outgrown => exact he
            | row row args =>
              refine ⟨fun e => by simp [Fence.inRound, Fence.wide] at e, ?_⟩
              intro c cs _
              obtain ⟨v, w2, hv, hs⟩ := h c cs
              exact ⟨v, w2, ih _ _ hv, stepsIn_wide.2 hs⟩
            | round l' f tmps assign body => exact h.elim
            | _ => exact h.elim
          | halt x w' =>
            cases x <;> first | exact h | exact h.elim
        · exact absurd h hQ
      · rename_i hw
        rw [if_neg hw] at h
        exact ⟨fun _ _ => trivial, ih _ _ h⟩

/-- A plain region, in a round. -/
theorem region_inRound {P : Program} {ops : List Oper} {Q : Exit → Act → World → Prop} {l n id : Nat} {a : Act} {w : World} (hd : ops.all (fun o => match o.op with | .defer _ => false | _ => true) = true) (hQ : ¬ LetsOut Q)
    (h : wpList P ops.toArray Q ops a w) : (Code.region id ops.toArray false).wpIn (Fence.wide.inRound l) n P Q a w := by
  refine wpIn_region (ops_inRound l n (fun i o ho c hc => ?_) hQ _ _ _ ?_)
  · have hm : o ∈ ops := by simp at ho; exact List.mem_of_getElem? ho
    have := List.all_eq_true.1 hd o hm
    rw [hc] at this
    simp at this
  · have e := wpOps_eq_wpList (P := P) (ops := ops.toArray) (Q := Q) ops 0 (by simp)
    rw [List.range_eq_range', List.size_toArray, e]
    exact h
/-- A region that draws its order, in a round. -/
theorem region_inRound_any {P : Program} {ops : List Oper} {Q : Exit → Act → World → Prop} {l n id : Nat} {a : Act} {w : World} (hm : P.follows .mixedOrders = true) (hd : ops.all (fun o => match o.op with | .defer _ => false | _ => true) = true) (hQ : ¬ LetsOut Q)
    (h : wpAny P .any ops.toArray Q ops.toArray.size (Array.replicate ops.toArray.size false) a w.drew) : (Code.region id ops.toArray true).wpIn (Fence.wide.inRound l) n P Q a w := by
  refine wpIn_region_draw fun t => ops_inRound l n (fun i o ho c hc => ?_) hQ _ _ _ ?_
  · have hmm : o ∈ ops := by simp at ho; exact List.mem_of_getElem? ho
    have := List.all_eq_true.1 hd o hmm
    rw [hc] at this
    simp at this
  · simp only [Region.schedule, hm, Bool.true_or, if_true]
    exact wpAny_sound ops.toArray.size t _ a _ h

/-- What abides the turn of blocks of type T that are made from B on. -/
def LetsT {β : Type} (T : TypeId) (B : Nat) (J : β → World → Prop) : Prop := ∀ s W W', J s W → Only (fun b => Typ W b T ∧ B ≤ b) W W' → J s W'
/-- .. and that of two blocks more. -/
def LetsB {β : Type} (T : TypeId) (B : Nat) (I : β → World → Prop) : Prop := ∀ s W W', I s W → Only (fun b => (Typ W b T ∧ B ≤ b) ∨ b = B ∨ b = B + 1) W W' → I s W'

/-- How the body of a round may be left. -/
def myPost {α : Type} (B : Nat) (Kp : World → World → Prop) (I : List α → World → Prop) (Ix : Code → List α → World → Prop) (xs : List α) (W : World) : Exit → Act → World → Prop
  | .normal, _, W' => (W'.heap[B]? = W.heap[B]? ∧ W'.heap[B + 1]? = W.heap[B + 1]?) ∧ Kp W W' ∧ I xs W'
  | .ret, _, W' => (W'.heap[B]? = W.heap[B]? ∧ W'.heap[B + 1]? = W.heap[B + 1]?) ∧ Ix .ret xs W'
  | .exit id, _, W' => (W'.heap[B]? = W.heap[B]? ∧ W'.heap[B + 1]? = W.heap[B + 1]?) ∧ Ix (.exit id) xs W'
  | .goto t, _, W' => (W'.heap[B]? = W.heap[B]? ∧ W'.heap[B + 1]? = W.heap[B + 1]?) ∧ Ix (.goto t) xs W'
  | .panic _, _, _ => False
  | .outgrown, _, _ => False

theorem only_putObj (W : World) (b : Nat) (o : Obj) : Only (· = b) W (W.putObj b o) :=
  ⟨rfl, rfl, rfl, by simp, fun k _ hk => World.putObj_heap_other hk⟩

theorem range_law {α : Type} {P : Program} {g : Operand} {ps : Array Tmp} {assign body : Code} {Q : Exit → Act → World → Prop} {a : Act} {w : World}
    {gf : Nat} {lb : Array Value} (hg : a.eval g = .func (.func gf) #[] lb) (eg : ∀ args w, (callFunc gf args).run P w = .ok (.enter gf args) w)
    {encs : α → Array Value} (hps : ∀ x, (encs x).size = ps.size) (T : TypeId) {S Sp Ok : List α → Prop} {Kp : World → World → Prop}
    (hseq : ∀ (l : Nat) (J Jx : List α → World → Prop) (W : World), Only (fun _ => False) w W → LetsT T w.heap.size J → LetsT T w.heap.size Jx →
      (∀ pre x W1, J pre W1 → Ok (pre ++ [x]) → YieldAt Fence.wide 0 P l (encs x) W1 fun e W' => (e = .returned (.bool true) ∧ J (pre ++ [x]) W' ∧ Kp W1 W') ∨ (e = .returned (.bool false) ∧ Jx (pre ++ [x]) W')) → J [] W →
      CallsIn Fence.wide 0 P gf (#[.func (.yield l) #[] #[]] ++ lb) W fun e W' => (∃ v, e = .returned v) ∧ ((∃ xs, S xs ∧ J xs W') ∨ (∃ pre, Sp pre ∧ Jx pre W')))
    (hKt : ∀ {A B C : World}, Kp A B → Kp B C → Kp A C) (hKb : ∀ (W : World) (r : Loop) (o : Obj), W.heap[w.heap.size + 1]? = some (.loop r) → Kp W (W.putObj (w.heap.size + 1) o))
    (I : List α → World → Prop) (Ix : Code → List α → World → Prop) (hI : LetsB T w.heap.size I) (hIx : ∀ c, LetsB T w.heap.size (Ix c)) (h0 : I [] w)
    (hround : ∀ (pre : List α) (x : α) (W : World) (r : Loop), I pre W → Ok (pre ++ [x]) → W.heap[w.heap.size + 1]? = some (.loop r) →
      assign.wpIn (Fence.wide.inRound (w.heap.size + 1)) 0 P (Exit.then (fun a₁ W₁ => (W₁.heap[w.heap.size]? = W.heap[w.heap.size]? ∧ W₁.heap[w.heap.size + 1]? = W.heap[w.heap.size + 1]?) ∧ Kp W W₁ ∧ ∀ r' : Loop,
          body.wpIn (Fence.wide.inRound (w.heap.size + 1)) 0 P (myPost w.heap.size Kp I Ix (pre ++ [x]) (W₁.putObj (w.heap.size + 1) (.loop r'))) a₁ (W₁.putObj (w.heap.size + 1) (.loop r'))) (fun _ _ _ => False))
        { tmps := (ps.zip (encs x)).foldl (fun t (p, v) => t.setIfInBounds p v) a.tmps, defers := [] } W)
    (hdone : ∀ (xs : List α) (W : World), S xs → I xs W → W.heap[w.heap.size]? = some (.deferred (some [])) → Q .normal { a with defers := { target := .collected w.heap.size, args := #[] } :: a.defers } W)
    (hstop : ∀ (c : Code) (pre : List α) (W : World), Sp pre → Ix c pre W → W.heap[w.heap.size]? = some (.deferred (some [])) → c.wpIn Fence.wide 0 P Q { a with defers := { target := .collected w.heap.size, args := #[] } :: a.defers } W) :
    (Code.rangeFunc g ps assign body).wpIn Fence.wide 0 P Q a w := by
  refine wpIn_rangeFunc ?_
  intro fn hfn
  obtain ⟨rec, hrec⟩ : ∃ rec : LoopState → Option Code → Loop, rec = fun st pe => { state := st, pending := pe, fn, tmps := a.tmps, params := ps, assign, body, defers := w.heap.size } := ⟨_, rfl⟩
  obtain ⟨W1, hW1⟩ : ∃ W1, (w.alloc (.deferred (some []))).alloc (.loop (rec .ready none)) = W1 := ⟨_, rfl⟩
  have hO1 : Only (fun _ => False) w W1 := by rw [← hW1]; exact ((Only.refl _ w).alloc _).alloc _
  have hL1 : W1.heap[w.heap.size + 1]? = some (.loop (rec .ready none)) := by
    rw [← hW1]; have := World.alloc_heap_new (w.alloc (.deferred (some []))) (.loop (rec .ready none)); rwa [World.size_alloc] at this
  have hK1 : W1.heap[w.heap.size]? = some (.deferred (some [])) := by
    rw [← hW1]; exact (Below.heap_alloc _ _ _ (by simp)).trans (World.alloc_heap_new w _)
  have nt : ∀ {A : World} {b : Nat} {o : Obj}, A.heap[b]? = some o → o.isCells = false → ¬ Typ A b T := fun h hc ⟨cur, fz, e⟩ => by
    rw [h] at e; cases e; simp [Obj.isCells] at hc
  have hlet : ∀ {β : Type} {I : β → World → Prop}, LetsB T w.heap.size I → ∀ {s W o}, I s W → I s (W.putObj (w.heap.size + 1) o) := fun h s W o hs =>
    h s W _ hs ((only_putObj W _ o).mono (fun _ _ e => Or.inr (Or.inr e)))
  refine ⟨w.heap.size + 1, [{ target := .collected w.heap.size, args := #[] }], W1, { target := .fn (.func gf) lb, args := #[.func (.yield (w.heap.size + 1)) #[] #[]] }, W1, gf,
    #[.func (.yield (w.heap.size + 1)) #[] #[]] ++ lb, W1, ?_, ?_, fun _ _ => trivial, ?_, fun e => by simp [Fence.wide] at e, ?_⟩
  · rw [← hW1, hrec]; exact run_enterLoop_outer _ _ _ _ _
  · simp only [resolve, hg]
    simp [go_sem]
  · simp [invoke, go_sem, eg]
  · refine (hseq (w.heap.size + 1)
      (fun pre W => I pre W ∧ W.heap[w.heap.size + 1]? = some (.loop (rec .ready none)) ∧ W.heap[w.heap.size]? = some (.deferred (some [])))
      (fun pre W => ∃ c, Ix c pre W ∧ W.heap[w.heap.size + 1]? = some (.loop (rec .done (some c))) ∧ W.heap[w.heap.size]? = some (.deferred (some [])))
      W1 hO1 ?_ ?_ ?_ ⟨?_, hL1, hK1⟩).mono ?_
    · rintro s A B ⟨hs, h1, h2⟩ ho
      exact ⟨hI s A B hs (ho.mono (fun _ _ e => Or.inl e)), (ho.block _ (Array.getElem?_eq_some_iff.1 h1).1 (fun e => nt h1 rfl e.1)).trans h1, (ho.block _ (Array.getElem?_eq_some_iff.1 h2).1 (fun e => nt h2 rfl e.1)).trans h2⟩
    · rintro s A B ⟨c, hs, h1, h2⟩ ho
      exact ⟨c, hIx c s A B hs (ho.mono (fun _ _ e => Or.inl e)), (ho.block _ (Array.getElem?_eq_some_iff.1 h1).1 (fun e => nt h1 rfl e.1)).trans h1, (ho.block _ (Array.getElem?_eq_some_iff.1 h2).1 (fun e => nt h2 rfl e.1)).trans h2⟩
    · rintro pre x W ⟨hi, hl, hk⟩ hok
      have hlt : w.heap.size + 1 < W.heap.size := (Array.getElem?_eq_some_iff.1 hl).1
      have hy := run_yield (P := P) (args := encs x) hl (by rw [hrec]; exact hps x)
      rw [hrec] at hy
      refine ⟨fn, _, assign, body, hy, roundIn_of_wpIn hfn (wpIn_mono (hround pre x W _ hi hok hl) ?_)⟩
      rintro e0 a' W' hp0
      cases e0 with
      | exit _ => exact hp0.elim
      | goto _ => exact hp0.elim
      | ret => exact hp0.elim
      | panic _ => exact hp0.elim
      | outgrown => exact hp0.elim
      | normal => ?_
      obtain ⟨⟨k1, k2⟩, hkp, hb0⟩ := hp0
      have hl' := k2.trans hl
      have hk' := k1.trans hk
      have hlt' : w.heap.size + 1 < W'.heap.size := (Array.getElem?_eq_some_iff.1 hl').1
      refine ⟨_, run_beginRound hl' (by rw [hrec]), ?_⟩
      have hl2 : (W'.putObj (w.heap.size + 1) (.loop { rec .ready none with state := .busy })).heap[w.heap.size + 1]? = some (.loop { rec .ready none with state := .busy }) := World.putObj_heap_same hlt'
      have hk2 : (W'.putObj (w.heap.size + 1) (.loop { rec .ready none with state := .busy })).heap[w.heap.size]? = some (.deferred (some [])) := (World.putObj_heap_other (by omega)).trans hk'
      refine wpIn_mono (hb0 { rec .ready none with state := .busy }) ?_
      have fin : ∀ (jump : Option Code) (W3 : World), W3.heap[w.heap.size]? = (W'.putObj (w.heap.size + 1) (.loop { rec .ready none with state := .busy })).heap[w.heap.size]? ∧ W3.heap[w.heap.size + 1]? = (W'.putObj (w.heap.size + 1) (.loop { rec .ready none with state := .busy })).heap[w.heap.size + 1]? →
          (Instr.endRound (w.heap.size + 1) jump).run P W3 = .ok (.bool jump.isNone) (W3.putObj (w.heap.size + 1) (.loop (rec (if jump.isNone then .ready else .done) jump))) ∧
          (W3.putObj (w.heap.size + 1) (.loop (rec (if jump.isNone then .ready else .done) jump))).heap[w.heap.size + 1]? = some (.loop (rec (if jump.isNone then .ready else .done) jump)) ∧
          (W3.putObj (w.heap.size + 1) (.loop (rec (if jump.isNone then .ready else .done) jump))).heap[w.heap.size]? = some (.deferred (some [])) := fun jump W3 hk3 => by
        have hl3 := hk3.2.trans hl2
        have := run_endRound (P := P) jump hl3
        rw [hrec] at this ⊢
        exact ⟨this, World.putObj_heap_same (Array.getElem?_eq_some_iff.1 hl3).1, (World.putObj_heap_other (by omega)).trans (hk3.1.trans hk2)⟩
      rintro e a3 W3 hp
      cases e with
      | normal =>
        obtain ⟨hk3, hkp3, hi3⟩ := hp
        obtain ⟨hr, hl4, hk4⟩ := fin none W3 hk3
        exact ⟨_, _, hr, .inl ⟨rfl, ⟨hlet hI hi3, hl4, hk4⟩, hKt (hKt (hKt hkp (hKb _ _ _ hl')) hkp3) (hKb _ _ _ (hk3.2.trans hl2))⟩⟩
      | ret =>
        obtain ⟨hk3, hi3⟩ := hp
        obtain ⟨hr, hl4, hk4⟩ := fin (some .ret) W3 hk3
        exact ⟨_, _, hr, .inr ⟨rfl, .ret, hlet (hIx _) hi3, hl4, hk4⟩⟩
      | exit id =>
        obtain ⟨hk3, hi3⟩ := hp
        obtain ⟨hr, hl4, hk4⟩ := fin (some (.exit id)) W3 hk3
        exact ⟨_, _, hr, .inr ⟨rfl, .exit id, hlet (hIx _) hi3, hl4, hk4⟩⟩
      | goto t =>
        obtain ⟨hk3, hi3⟩ := hp
        obtain ⟨hr, hl4, hk4⟩ := fin (some (.goto t)) W3 hk3
        exact ⟨_, _, hr, .inr ⟨rfl, .goto t, hlet (hIx _) hi3, hl4, hk4⟩⟩
      | panic ch => exact hp.elim
      | outgrown => exact hp.elim
    · exact hI _ _ _ h0 (hO1.mono (fun _ _ e => e.elim))
    · rintro e W2 ⟨⟨v, rfl⟩, (⟨xs, hS, hi, hl, hk⟩ | ⟨pre, hSp, c, hi, hl, hk⟩)⟩
      · exact ⟨none, _, by have := run_endLoop (P := P) hl (by rw [hrec]; simp); rw [hrec] at this; exact this, hdone xs _ hS (hlet hI hi) ((World.putObj_heap_other (by omega)).trans hk)⟩
      · exact ⟨some c, _, by have := run_endLoop (P := P) hl (by rw [hrec]; simp); rw [hrec] at this; exact this, hstop c pre _ hSp (hlet (hIx c) hi) ((World.putObj_heap_other (by omega)).trans hk)⟩

/-- A store of a row of cells, inside a fence. -/
theorem wpListIn_store_mid {F : Fence} {n : Nat} {P : Program} (hro : F.round = none) {ops : Array Oper} {rest : List Oper} {op : Oper} {a : Act} {w : World} {Q : Exit → Act → World → Prop} (hgd : op.guard = none) (ty : TypeId) (x y : Operand) (ho : op.op = .store ty x y)
    (b o : Nat) (cells : Array Value) (hx : a.eval x = .pointer (some ⟨b, o, none⟩)) (hy : a.eval y = .agg cells)
    (ht : w.there b o cells.size) (hi : (P.info? ty).map (·.size) = some cells.size) (h1 : cells.all (·.oneCell') = true)
    (h : wpListIn F n P ops Q rest (a.put op.dst undef) (w.setCells b o cells.toList)) : wpListIn F n P ops Q (op :: rest) a w :=
  wpListIn_plain hgd fun K hK => by
    refine ⟨fun f hf => by simp [Oper.about, ho] at hf, ?_⟩
    have e : op.semAt F.round a.eval = execOp a.eval op := by
      rw [hro]; unfold Oper.semAt; split <;> simp_all
    rw [e]
    have hw : op.wp P a w K Q := wp_store_mid ty x y ho b o cells hx hy ht hi h1 (hK _ _ h)
    unfold Oper.wp at hw
    unfold execOp at hw ⊢
    simp only [ho, hx, hy, Instr.storeAt, Instr.sureAddr, Sem.run_bind, Sem.run_pure, Result.andThen_ok, run_storeVar_mid w b o ty cells ht hi h1] at hw ⊢
    exact hw
/-- A load of one. -/
theorem wpListIn_load_mid {F : Fence} {n : Nat} {P : Program} (hro : F.round = none) {ops : Array Oper} {rest : List Oper} {op : Oper} {a : Act} {w : World} {Q : Exit → Act → World → Prop} (hgd : op.guard = none) (ty : TypeId) (x : Operand) (ho : op.op = .load ty x)
    (b o : Nat) (hx : a.eval x = .pointer (some ⟨b, o, none⟩)) (cs : List Value) (d : TypeDesc) (hc : w.rangeAt b o cs)
    (hu : P.underlying ty = some d) (hd : d.isRow = true) (hi : (P.info? ty).map (·.size) = some cs.length)
    (h : wpListIn F n P ops Q rest (a.put op.dst (.agg cs.toArray)) w) : wpListIn F n P ops Q (op :: rest) a w :=
  wpListIn_plain hgd fun K hK => by
    refine ⟨fun f hf => by simp [Oper.about, ho] at hf, ?_⟩
    have e : op.semAt F.round a.eval = execOp a.eval op := by
      rw [hro]; unfold Oper.semAt; split <;> simp_all
    rw [e]
    unfold execOp
    simp only [ho, hx, Instr.loadAt, Instr.sureAddr, Sem.run_bind, Sem.run_pure, Result.andThen_ok, run_loadVar_mid w b o ty cs d hc hu hd hi]
    exact hK _ _ h
end Go.Proofs.YtbiobhghnldckaaGreatDoor
