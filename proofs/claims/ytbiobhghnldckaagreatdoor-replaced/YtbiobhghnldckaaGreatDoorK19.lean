/- Proved: adzekeep.digits of a number below a hundred; the command '=' is done. Conditions: as told. -/
import Derived.Test.YtbiobhghnldckaaGreatDoorK18
import Derived.Test.YtbiobhghnldckaaGreatDoorK17
import Derived.Test.YtbiobhghnldckaaGreatDoorShelf2
import Derived.Deep.RegionWith
namespace Go.Proofs.YtbiobhghnldckaaGreatDoor
open Go.RowKit
set_option linter.unusedVariables false

/-- A number's digits. -/
def digR (n : Nat) : List Int := if n < 10 then [48 + (n : Int)] else [48 + ((n / 10 : Nat) : Int), 48 + ((n % 10 : Nat) : Int)]
theorem digR_ok {n : Nat} (h : n < 100) : ∀ r ∈ digR n, Adz.isDigit r = true := by
  have : ∀ n, n < 100 → ((digR n).all fun r => Adz.isDigit r) = true := by decide +kernel
  exact List.all_eq_true.1 (this n h)
theorem digR_okr {n : Nat} (h : n < 100) : ∀ r ∈ digR n, Okr r := fun r hr => by
  have := digR_ok h r hr
  simp only [Adz.isDigit, Bool.and_eq_true, decide_eq_true_eq] at this
  exact Or.inl (by omega)
theorem digR_dec {n : Nat} (h : n < 100) : (⟨(Lib.decDigits n).toArray⟩ : ByteArray) = tx (digR n) := by
  by_cases h1 : n < 10
  · apply ba_ext2
    rw [tx_list]
    unfold Lib.decDigits digR
    rw [dif_pos h1, if_pos h1]
    have : ∀ m, m < 10 → [UInt8.ofNat (48 + m)] = encL [48 + (m : Int)] := by decide +kernel
    exact this n h1
  · apply ba_ext2
    rw [tx_list]
    have e1 : Lib.decDigits n = [UInt8.ofNat (48 + n / 10), UInt8.ofNat (48 + n % 10)] := by
      rw [Lib.decDigits, dif_neg h1, Lib.decDigits, dif_pos (by omega)]
      rfl
    rw [e1]
    unfold digR
    rw [if_neg h1]
    have : ∀ m, m < 100 → [UInt8.ofNat (48 + m / 10), UInt8.ofNat (48 + m % 10)] = encL [48 + ((m / 10 : Nat) : Int), 48 + ((m % 10 : Nat) : Int)] := by decide +kernel
    exact this n h
theorem digR_len (n : Nat) : 1 ≤ (digR n).length ∧ (digR n).length ≤ 2 := by unfold digR; split <;> simp

set_option maxRecDepth 100000 in
set_option maxHeartbeats 1600000 in
theorem digits_one (n : Nat) (hn : n < 10) (w : World) : Calls Tryz.prog 23 #[.int .i64 n] w fun e w' => e = .returned (.string (tx (digR n))) ∧ Only (fun _ => False) w w' := by
  have d1 : (n : Int) < 10 := by omega
  have hw : IntKind.i64.wrap (48 + (n : Int)) = 48 + (n : Int) := by rw [IntKind.wrap_i64]; omega
  have ht : tx (digR n) = ⟨#[UInt8.ofNat (48 + n)]⟩ := by
    have : ∀ m, m < 10 → tx (digR m) = ⟨#[UInt8.ofNat (48 + m)]⟩ := by decide +kernel
    exact this n hn
  have hcv : (convert 64 9 (.slice (some ⟨w.heap.size, 0, none⟩) 1 1)).run Tryz.prog (w.alloc (.cells #[.int .u8 (48 + (n : Int))] 5)) = .ok (.string (tx (digR n))) (w.alloc (.cells #[.int .u8 (48 + (n : Int))] 5)) := by
    have := run_convert_bytes_back (P := Tryz.prog) (w.alloc (.cells #[.int .u8 (48 + (n : Int))] 5)) 64 9 5 ⟨w.heap.size, 0, none⟩ 1 [UInt8.ofNat (48 + n)] Tryz.underlying64 Tryz.underlying5 Tryz.underlying9 (fun i hi => by
      have : i = 0 := by simp at hi; omega
      subst this
      have e : ((UInt8.ofNat (48 + n)).toNat : Int) = 48 + (n : Int) := by rw [UInt8.toNat_ofNat']; omega
      rw [show (⟨w.heap.size, 0, none⟩ : Addr).add 0 = ⟨w.heap.size, 0, none⟩ from rfl, (Cells.new w #[.int .u8 (48 + (n : Int))] 5 0 _ rfl).1]
      show some (Value.int .u8 (48 + (n : Int))) = some (.int .u8 ((UInt8.ofNat (48 + n)).toNat : Int))
      rw [e])
    rw [ht]
    exact this
  generalize tx (digR n) = T at *
  clear ht
  go_enter Tryz.func23, Tryz.ntmps23
  go_wp2
  go_ret
  exact ⟨rfl, (Only.refl _ w).alloc _⟩

set_option maxRecDepth 100000 in
set_option maxHeartbeats 1600000 in
theorem digits_calls (n : Nat) (hn : n < 100) (w : World) : Calls Tryz.prog 23 #[.int .i64 n] w fun e w' => e = .returned (.string (tx (digR n))) ∧ Only (fun _ => False) w w' := by
  by_cases h1 : n < 10
  · exact digits_one n h1 w
  · have d1 : ¬ ((n : Int) < 10) := by omega
    have c1 := digits_one (n / 10) (by omega) w
    have c2 := fun u : World => digits_one (n % 10) (by omega) u
    have e1 := tx_append (digR (n / 10)) (digR (n % 10))
    have e2 : digR (n / 10) ++ digR (n % 10) = digR n := by
      unfold digR
      rw [if_pos (by omega), if_pos (by omega), if_neg h1]
      rfl
    rw [e2] at e1
    have s1 := tx_bound (digR n) 2 (digR_len n).2
    have s2 := tx_bound (digR (n / 10)) 2 (digR_len _).2
    have s3 := tx_bound (digR (n % 10)) 2 (digR_len _).2
    have hq : IntKind.i64.wrap ((n : Int).tdiv 10) = ((n / 10 : Nat) : Int) := by
      rw [Int.tdiv_eq_ediv_of_nonneg (by omega), IntKind.wrap_i64]; omega
    generalize tx (digR (n / 10)) = A at *
    generalize tx (digR (n % 10)) = B at *
    generalize tx (digR n) = C at *
    clear e2
    go_enter Tryz.func23, Tryz.ntmps23
    go_wp2_with fail
    refine c1.mono ?_
    rintro e w1 ⟨rfl, o1⟩
    go_wp2_with fail
    refine (c2 w1).mono ?_
    rintro e w2 ⟨rfl, o2⟩
    go_wp2
    go_ret
    exact ⟨rfl, o1.trans o2 (fun _ e => e) (fun _ _ e => e)⟩

set_option maxRecDepth 100000 in
set_option maxHeartbeats 1600000 in
theorem do_eq (w : World) (eb : Nat) (X : Adz.Fx) (E : Adz.Es) (sa ha qa : Option Addr) (sc hc qc : Nat) (h : EM w eb X E sa sc ha hc qa qc) (g o : Nat) (hC : w.cell? ⟨g, o, none⟩ = some (.int .i32 61)) (hl : E.line < 100) (hlen : (Adz.outs E.out [tx (digR E.line)]).length ≤ 8000) :
    Calls Tryz.prog 96 #[.pointer (some ⟨eb, 0, none⟩), .pointer (some ⟨g, o, none⟩)] w fun e w' => (∃ v, e = .returned v) ∧ EM w' eb X { E with out := Adz.outs E.out [tx (digR E.line)] } sa sc ha hc qa qc ∧ Only (fun b => b = eb ∨ (Typ w b 5 ∧ eb ≤ b)) w w' := by
  have hit := fun u : World => Tryz.strconv_Itoa_small E.line hl u
  rw [digR_dec hl] at hit
  have q3 := (h.ed.get 3 (by omega) _ rfl).1
  have hb2 : E.out.length + (tx (digR E.line)).size + 1 ≤ 8000 := by
    have hlen' : ((E.out ++ (tx (digR E.line)).data.toList) ++ [(10 : UInt8)]).length ≤ 8000 := hlen
    simp only [List.length_append, List.length_singleton, Array.length_toList] at hlen'
    have : (tx (digR E.line)).size = (tx (digR E.line)).data.size := rfl
    omega
  generalize tx (digR E.line) = t at *
  go_enter Tryz.func96, Tryz.ntmps96
  go_wp2_with fail
  refine (hit w).mono ?_
  clear hit
  rintro e w1 ⟨rfl, rfl⟩
  go_wp2_with fail
  refine (print_ok eb w1 _ _ h.ed rfl t hb2).mono ?_
  rintro e w2 ⟨⟨v2, rfl⟩, hE2, o2⟩
  have hM2 : EM w2 eb X { E with out := Adz.outs E.out [t] } sa sc ha hc qa qc := h.turned o2 hE2 rfl rfl rfl
  go_wp2
  go_end0
  exact ⟨⟨_, rfl⟩, hM2, o2⟩
theorem doOk_eq {w0 : World} {eb : Nat} {X : Adz.Fx} {n g : Nat} {E : Adz.Es} {c : Adz.Cmd} (h : AtCmd w0 eb X n g E c) (hw : c.what = 61) (E1 : Adz.Es) (hl : E1.line < 100) (hlen : (Adz.outs E1.out [tx (digR E1.line)]).length ≤ 8000) : DoOk w0 eb X g (E.next * 14) E1 { E1 with out := Adz.outs E1.out [tx (digR E1.line)] } := fun w hO ⟨sa, sc, ha, hc, qa, qc, hM⟩ => by
  have hX := h.cmd.keeps hO
  have hwh := hX.what
  rw [hw] at hwh
  refine (do_eq w eb X E1 sa ha qa sc hc qc hM g _ hwh hl hlen).mono ?_
  rintro e w' ⟨hv, hM', o'⟩
  exact ⟨hv, ⟨_, _, _, _, _, _, hM'⟩, only_new hO o' h.eb (fun b e => by rcases e with e | e <;> omega)⟩
end Go.Proofs.YtbiobhghnldckaaGreatDoor

/- Proved: a command with two addresses that are numbers: whether it means the line, and whether it is open then. Conditions: the editor lies in memory as 'EM' says, and the command. -/
namespace Go.Proofs.YtbiobhghnldckaaGreatDoor
open Go.RowKit
set_option linter.unusedVariables false
attribute [local go_sem ↓] Go.wp_at_zero Go.wp_at_succ

set_option maxRecDepth 100000 in
set_option maxHeartbeats 800000 in
theorem isPassedM (w : World) (eb : Nat) (X : Adz.Fx) (E : Adz.Es) (sa ha qa : Option Addr) (sc hc qc : Nat) (h : EM w eb X E sa sc ha hc qa qc) (ab ao : Nat) (n2 : Int) (h0 : w.cell? ⟨ab, ao, none⟩ = some (.int .i64 0)) (h1 : w.cell? ⟨ab, ao + 1, none⟩ = some (.int .i64 n2)) :
    Calls Tryz.prog 125 #[.pointer (some ⟨eb, 0, none⟩), .pointer (some ⟨ab, ao, none⟩)] w fun e w' => e = .returned (.bool (decide (n2 ≤ (E.line : Int)))) ∧ ∃ n, w' = w.drewN n := by
  have q3 := (h.ed.get 3 (by omega) _ rfl).1
  clear h
  go_enter Tryz.func125, Tryz.ntmps125
  go_wp2_with fail
  go_quiet (fail)
  go_wp2
  go_ret
  exact ⟨rfl, _, rfl⟩

set_option maxRecDepth 100000 in
set_option maxHeartbeats 800000 in
theorem isClosedM (w : World) (eb : Nat) (X : Adz.Fx) (E : Adz.Es) (sa ha qa : Option Addr) (sc hc qc : Nat) (h : EM w eb X E sa sc ha hc qa qc) (ab ao : Nat) (n2 : Int) (h0 : w.cell? ⟨ab, ao, none⟩ = some (.int .i64 0)) (h1 : w.cell? ⟨ab, ao + 1, none⟩ = some (.int .i64 n2)) :
    Calls Tryz.prog 124 #[.pointer (some ⟨eb, 0, none⟩), .pointer (some ⟨ab, ao, none⟩)] w fun e w' => e = .returned (.bool (decide (n2 ≤ (E.line : Int)))) ∧ ∃ n, w' = w.drewN n := by
  have c1 := isPassedM w eb X E sa ha qa sc hc qc h ab ao n2 h0 h1
  by_cases hp : n2 ≤ (E.line : Int)
  · rw [decide_eq_true hp] at c1 ⊢
    go_enter Tryz.func124, Tryz.ntmps124
    go_wp2_with fail
    refine c1.mono ?_
    rintro e w1 ⟨rfl, n1, rfl⟩
    go_wp2
    go_ret
    exact ⟨rfl, _, rfl⟩
  · rw [decide_eq_false hp] at c1 ⊢
    have c2 := fun k => isMeantM (w.drewN k) eb X E sa ha qa sc hc qc (h.quiet ((Only.refl _ w).drewN k)) ab ao ⟨0, n2, ⟨[], 0⟩⟩ (Or.inl rfl) h0 h1
    have hm : meant1 X E ⟨0, n2, ⟨[], 0⟩⟩ = false := by
      show decide ((E.line : Int) = n2) = false
      exact decide_eq_false (by omega)
    rw [hm] at c2
    go_enter Tryz.func124, Tryz.ntmps124
    go_wp2_with fail
    refine c1.mono ?_
    rintro e w1 ⟨rfl, n1, rfl⟩
    go_wp2_with fail
    refine (c2 n1).mono ?_
    rintro e w2 ⟨rfl, n2', rfl⟩
    go_wp2
    go_ret
    exact ⟨rfl, _, rfl⟩

/-- Its two addresses. -/
theorem CmdX.ad2 {w : World} {g o : Nat} {c : Adz.Cmd} (h : CmdX w g o c) {a b : Adz.Ad} (ha : c.addrs = [a, b]) : ∃ ab ac, w.cell? ⟨g, o + 1, none⟩ = some (.slice (some ⟨ab, 0, none⟩) 2 ac) ∧ w.cell? ⟨ab, 0, none⟩ = some (.int .i64 a.kind) ∧ w.cell? ⟨ab, 1, none⟩ = some (.int .i64 a.number) ∧ w.cell? ⟨ab, 4, none⟩ = some (.int .i64 b.kind) ∧ w.cell? ⟨ab, 5, none⟩ = some (.int .i64 b.number) := by
  obtain ⟨av, iv, rv, fv, tv, h1, h2⟩ := h.deep
  obtain ⟨ivs, a1, a2⟩ := h2.a
  have hc := h1 1 _ rfl
  rw [ha] at a1 a2
  rcases a1.2 with ⟨_, e⟩ | ⟨ab, ac, cur, rfl, _, hg, _, _, hsz, htake⟩
  · simp at e
  · match ivs, a2 with
    | [i0, i1], a2 =>
      have key : ∀ k v, k < 8 → (adsCells [a, b] [i0, i1])[k]? = some v → w.cell? ⟨ab, k, none⟩ = some v := by
        intro k v hk hv
        rw [cell_of_row _ ab k cur _ (0, 0) hg]
        rw [← htake, List.getElem?_take, if_pos (by simp only [List.length_cons, List.length_nil]; omega), Array.getElem?_toList] at hv
        exact hv
      exact ⟨ab, ac, hc, key 0 _ (by omega) rfl, key 1 _ (by omega) rfl, key 4 _ (by omega) rfl, key 5 _ (by omega) rfl⟩

/-- The editor, with another word on whether a command is open. -/
theorem EM.opened {w : World} {eb : Nat} {X : Adz.Fx} {E : Adz.Es} {sa ha qa : Option Addr} {sc hc qc : Nat} (h : EM w eb X E sa sc ha hc qa qc) {ob c : Nat} (hov : X.ov = .slice (some ⟨ob, 0, none⟩) E.opens.length c) (h1 : ob < eb) (h2 : X.lo ≤ ob) (ht : Typ w ob 4) (hc' : ∀ k b, E.opens[k]? = some b → w.cell? ⟨ob, k, none⟩ = some (.bool b) ∧ w.frozen? ⟨ob, k, none⟩ = false) (at_ : Nat) (hat : at_ < E.opens.length) (b : Bool) :
    EM (w.setCell ⟨ob, at_, none⟩ (.bool b)) eb X { E with opens := E.opens.set at_ b } sa sc ha hc qa qc := by
  have o := only_set w ob at_ (.bool b)
  have n : ∀ {x : Nat} {T : TypeId}, Typ w x T → T ≠ 4 → ¬ x = ob := fun hx n1 e => by subst e; exact n1 (hx.one ht)
  have f := Field.setCell w ob at_ (.bool b)
  refine ⟨h.ed.keeps o (n h.ed.typ (by decide)) (fun x hx => n hx (by decide)), row_keeps h.sp o (fun x hx => n (Typ.of_row h.sp hx) (by decide)), h.hold.keeps o (fun x hx => n hx (by decide)), row_keeps h.queue o (fun x hx => n (Typ.of_row h.queue hx) (by decide)), h.apart, ?_, Or.inr ⟨ob, c, by rw [hov, List.length_set], h1, h2, ht.setCell _ _, fun k v hk => ?_⟩⟩
  · rcases h.lines with e | ⟨lb, e, g1, g2, g3⟩
    · exact Or.inl e
    · by_cases hls : X.lines = []
      · exact Or.inl hls
      · have h0 := g3 0 (List.length_pos_iff.2 hls)
        have hb0 := (hc' 0 _ (List.getElem?_eq_getElem (by omega))).1
        have hne : lb ≠ ob := fun e => by rw [e, hb0] at h0; cases h0
        exact Or.inr ⟨lb, e, g1, Nat.lt_of_lt_of_le g2 o.size, fun k hk => o.keeps (g3 k hk) hne⟩
  · by_cases e : k = at_
    · subst e
      rw [List.getElem?_set_self hat] at hk
      injection hk with hk
      subst hk
      have := hc' k _ (List.getElem?_eq_getElem hat)
      exact ⟨World.cell?_setCell_same _ _ _ this.1, (f.frozen k).trans this.2⟩
    · rw [List.getElem?_set_ne (Ne.symm e)] at hk
      exact ⟨(f.others k e).trans (hc' k v hk).1, (f.frozen k).trans (hc' k v hk).2⟩

/-- Does a command with two numbers mean the line; and is it open then? -/
def means2 (E : Adz.Es) (n1 n2 : Int) (o : Bool) : Bool := o || decide ((E.line : Int) = n1)
def opens2 (E : Adz.Es) (n1 n2 : Int) (o : Bool) : Bool := if o || decide ((E.line : Int) = n1) then !decide (n2 ≤ (E.line : Int)) else false

set_option maxRecDepth 100000 in
set_option maxHeartbeats 1600000 in
theorem means2M (w : World) (eb : Nat) (X : Adz.Fx) (E : Adz.Es) (sa ha qa : Option Addr) (sc hc qc : Nat) (h : EM w eb X E sa sc ha hc qa qc) (g n cap at_ : Nat) (hcv : X.cv = .slice (some ⟨g, 0, none⟩) n cap) (hat : at_ < n) (hn : n ≤ 500) (c : Adz.Cmd) (hC : CmdX w g (at_ * 14) c) (n1 n2 : Int) (h1 : c.addrs = [⟨0, n1, ⟨[], 0⟩⟩, ⟨0, n2, ⟨[], 0⟩⟩]) (o : Bool) (ho : E.opens[at_]? = some o) (hol : E.opens.length = n) :
    Calls Tryz.prog 95 #[.pointer (some ⟨eb, 0, none⟩), .int .i64 at_] w fun e w' => e = .returned (.bool (means2 E n1 n2 o)) ∧ EM w' eb X { E with opens := E.opens.set at_ (opens2 E n1 n2 o) } sa sc ha hc qa qc ∧ Only (fun b => b < eb ∧ X.lo ≤ b) w w' := by
  have hat1 : (at_ : Int) < n := by omega
  have q0 := (h.ed.get 0 (by omega) _ rfl).1
  rw [hcv] at q0
  obtain ⟨ab, ac, ha1, k0, k1, k4, k5⟩ := hC.ad2 h1
  obtain ⟨ob, oc, hov, b1, b2, b3, b4⟩ : ∃ ob c, X.ov = .slice (some ⟨ob, 0, none⟩) E.opens.length c ∧ ob < eb ∧ X.lo ≤ ob ∧ Typ w ob 4 ∧ ∀ k b, E.opens[k]? = some b → w.cell? ⟨ob, k, none⟩ = some (.bool b) ∧ w.frozen? ⟨ob, k, none⟩ = false := by
    rcases h.opens with e | e
    · rw [e] at ho; simp at ho
    · exact e
  have q7 := (h.ed.get 7 (by omega) _ rfl).1
  rw [hov, hol] at q7
  have qo := (b4 at_ o ho).1
  have fo := (b4 at_ o ho).2
  have od : Only (fun _ => False) w w.drew := (Only.refl _ w).drew
  have hlt : at_ < E.opens.length := by omega
  have hset := fun (u : World) (ou : Only (fun _ => False) w u) (b : Bool) => (h.quiet ou).opened (w := u) hov b1 b2 (b3.keeps ou id) (fun k b hk => ⟨ou.keeps (b4 k b hk).1 id, ou.keepsFrozen (b4 k b hk).1 (b4 k b hk).2 id⟩) at_ hlt b
  have hoS := fun (u : World) (ou : Only (fun _ => False) w u) (b : Bool) => (ou.trans (only_set u ob at_ (.bool b)) (fun _ e => e.elim) (fun x _ e => by subst e; exact ⟨b1, b2⟩) : Only (fun b => b < eb ∧ X.lo ≤ b) w (u.setCell ⟨ob, at_, none⟩ (.bool b)))
  cases o with
  | true =>
    have hm : means2 E n1 n2 true = true := rfl
    have hop : opens2 E n1 n2 true = !decide (n2 ≤ (E.line : Int)) := rfl
    rw [hm, hop]
    have cc : Calls Tryz.prog 124 #[.pointer (some ⟨eb, 0, none⟩), .pointer (some ⟨ab, 4, none⟩)] w.drew fun e w' => e = .returned (.bool (decide (n2 ≤ (E.line : Int)))) ∧ Only (fun _ => False) w w' := (isClosedM w.drew eb X E sa ha qa sc hc qc (h.quiet od) ab 4 n2 k4 k5).mono (fun e w' ⟨he, k, hk⟩ => ⟨he, by rw [hk]; exact od.drewN k⟩)
    generalize decide (n2 ≤ (E.line : Int)) = bp at *
    have HS : Hid _ := hset
    have HO : Hid _ := hoS
    clear hset hoS hm hop h hC b4 ho h1 hov
    go_enter Tryz.func95, Tryz.ntmps95
    go_wp2_with fail
    go_region_with (go_at_call 124; refine cc.mono ?_; rintro e w1 ⟨rfl, o1⟩; have y7 := o1.keeps q7 id; have yo := o1.keeps qo id; have yf := o1.keepsFrozen qo fo id)
    all_goals
      have hx := HS.out w1 o1 (!bp)
      have hy := HO.out w1 o1 (!bp)
      have HX : Hid _ := hx
      have HY : Hid _ := hy
      clear hx hy HS HO cc
      go_wp2
      go_ret
      exact ⟨rfl, HX.out, HY.out⟩
  | false =>
    by_cases hl : (E.line : Int) = n1
    · have hm : means2 E n1 n2 false = true := by simp [means2, hl]
      have hop : opens2 E n1 n2 false = !decide (n2 ≤ (E.line : Int)) := by simp [opens2, hl]
      rw [hm, hop]
      have c1 := isMeantM w eb X E sa ha qa sc hc qc h ab 0 ⟨0, n1, ⟨[], 0⟩⟩ (Or.inl rfl) k0 k1
      have hmm : meant1 X E ⟨0, n1, ⟨[], 0⟩⟩ = true := by
        show decide ((E.line : Int) = n1) = true
        exact decide_eq_true hl
      rw [hmm] at c1
      have cc : ∀ u : World, Only (fun _ => False) w u → Calls Tryz.prog 125 #[.pointer (some ⟨eb, 0, none⟩), .pointer (some ⟨ab, 4, none⟩)] u.drew fun e w' => e = .returned (.bool (decide (n2 ≤ (E.line : Int)))) ∧ Only (fun _ => False) w w' := fun u ou => (isPassedM u.drew eb X E sa ha qa sc hc qc (h.quiet ou.drew) ab 4 n2 (ou.keeps k4 id) (ou.keeps k5 id)).mono (fun e w' ⟨he, k, hk⟩ => ⟨he, by rw [hk]; exact ou.drew.drewN k⟩)
      generalize decide (n2 ≤ (E.line : Int)) = bp at *
      have HS : Hid _ := hset
      have HO : Hid _ := hoS
      clear hset hoS hm hop h hC b4 ho h1 hov hl hmm
      go_enter Tryz.func95, Tryz.ntmps95
      go_wp2_with fail
      refine c1.mono ?_
      clear c1
      rintro e w1 ⟨rfl, m1, hw1⟩
      have o1 : Only (fun _ => False) w w1 := by rw [hw1]; exact (Only.refl _ w).drewN m1
      have cc1 := cc w1 o1
      have z7 := o1.keeps q7 id
      have z0 := o1.keeps q0 id
      clear hw1 cc
      go_wp2_with fail
      go_region_with (go_at_call 125; refine cc1.mono ?_; rintro e w2 ⟨rfl, o2⟩; have y7 := o2.keeps q7 id; have yo := o2.keeps qo id; have yf := o2.keepsFrozen qo fo id)
      all_goals
        have hx := HS.out w2 o2 (!bp)
        have hy := HO.out w2 o2 (!bp)
        have HX : Hid _ := hx
        have HY : Hid _ := hy
        clear hx hy HS HO cc1
        go_wp2
        go_ret
        exact ⟨rfl, HX.out, HY.out⟩
    · have hm : means2 E n1 n2 false = false := by simp [means2, hl]
      have hop : opens2 E n1 n2 false = false := by simp [opens2, hl]
      rw [hm, hop]
      have c1 := isMeantM w eb X E sa ha qa sc hc qc h ab 0 ⟨0, n1, ⟨[], 0⟩⟩ (Or.inl rfl) k0 k1
      have hmm : meant1 X E ⟨0, n1, ⟨[], 0⟩⟩ = false := by
        show decide ((E.line : Int) = n1) = false
        exact decide_eq_false hl
      rw [hmm] at c1
      have hsame : E.opens.set at_ false = E.opens := by
        have := List.getElem?_eq_some_iff.1 ho
        rw [← this.2]
        exact List.set_getElem_self this.1
      rw [hsame]
      have HM : Hid _ := h
      clear hset hoS hm hop h hC b4 ho h1 hov hl hmm hsame
      go_enter Tryz.func95, Tryz.ntmps95
      go_wp2_with fail
      refine c1.mono ?_
      clear c1
      rintro e w1 ⟨rfl, m1, rfl⟩
      go_wp2
      go_ret
      exact ⟨rfl, HM.out.quiet ((Only.refl _ w).drewN m1), (Only.refl _ w).drewN m1⟩
end Go.Proofs.YtbiobhghnldckaaGreatDoor

/- Proved: a step to a command with two addresses that are numbers. Conditions: the editor lies in memory as 'EM' says, and the commands. -/
namespace Go.Proofs.YtbiobhghnldckaaGreatDoor
open Go.RowKit
set_option linter.unusedVariables false

set_option maxRecDepth 100000 in
set_option maxHeartbeats 1600000 in
theorem stepG2 (w : World) (eb : Nat) (X : Adz.Fx) (E : Adz.Es) (sa ha qa : Option Addr) (sc hc qc : Nat) (h : EM w eb X E sa sc ha hc qa qc) (hn : E.sp.length ≤ 400) (hm : E.hold.length ≤ 400) (g n cap : Nat) (hcv : X.cv = .slice (some ⟨g, 0, none⟩) n cap) (hnx : E.next < n) (hn5 : n ≤ 500) (hst : E.steps < 5000)
    (c : Adz.Cmd) (hC : CmdM w g (E.next * 14) c) (hg : g < eb) (hgl : g < X.lo) (hw : c.what ≠ 123) (b : Bool) (E2 : Adz.Es) (Q : World → Prop)
    (hme : ∀ u, Only (· = eb) w u → EM u eb X { E with steps := E.steps + 1, next := E.next + 1 } sa sc ha hc qa qc → Calls Tryz.prog 95 #[.pointer (some ⟨eb, 0, none⟩), .int .i64 E.next] u fun e w' => e = .returned (.bool b) ∧ EM w' eb X E2 sa sc ha hc qa qc ∧ Only (fun x => x < eb ∧ X.lo ≤ x) u w')
    (hdo : (b != c.neg) = true → ∀ u, Only (fun x => x = eb ∨ (x < eb ∧ X.lo ≤ x)) w u → EM u eb X E2 sa sc ha hc qa qc → Calls Tryz.prog 96 #[.pointer (some ⟨eb, 0, none⟩), .pointer (some ⟨g, E.next * 14, none⟩)] u fun e w' => (∃ v, e = .returned v) ∧ Q w')
    (hno : (b != c.neg) = false → ∀ u, Only (fun x => x = eb ∨ (x < eb ∧ X.lo ≤ x)) w u → EM u eb X E2 sa sc ha hc qa qc → Q u) :
    Calls Tryz.prog 71 #[.pointer (some ⟨eb, 0, none⟩)] w fun e w' => (∃ v, e = .returned v) ∧ Q w' := by
  go_enter Tryz.func71, Tryz.ntmps71
  go_wp2_with fail
  refine (checkSpace_ok eb w _ _ h.ed rfl sa ha E.sp.length E.hold.length sc hc rfl rfl hn hm).mono ?_
  rintro e w1 ⟨⟨v1, rfl⟩, o1⟩
  have hM1 := h.quiet o1
  go_wp2_with fail
  refine (countStep_ok eb w1 _ _ hM1.ed rfl E.steps rfl hst).mono ?_
  rintro e w2 ⟨⟨v2, rfl⟩, hE2, o2⟩
  have hM2 : EM w2 eb X { E with steps := E.steps + 1 } sa sc ha hc qa qc := hM1.cells o2 hE2 rfl rfl rfl
  have c15 := (hM2.ed.get 15 (by omega) _ rfl).1
  have q9 := (hM2.ed.get 9 (by omega) _ rfl).1
  have f9 := (hM2.ed.get 9 (by omega) _ rfl).2
  have c0 := (hM2.ed.get 0 (by omega) _ rfl).1
  rw [hcv] at c0
  have hE3 := hM2.ed.set 9 (by omega) (.int .i64 ((E.next : Int) + 1))
  have hw9 : IntKind.i64.wrap ((E.next : Int) + 1) = (E.next : Int) + 1 := by rw [IntKind.wrap_i64]; omega
  have hnx1 : (E.next : Int) < n := by omega
  have o3 := only_set w2 eb 9 (.int .i64 ((E.next : Int) + 1))
  have hM3 : EM (w2.setCell ⟨eb, 9, none⟩ (.int .i64 ((E.next : Int) + 1))) eb X { E with steps := E.steps + 1, next := E.next + 1 } sa sc ha hc qa qc := hM2.cells o3 hE3 rfl rfl rfl
  have o13 : Only (· = eb) w (w2.setCell ⟨eb, 9, none⟩ (.int .i64 ((E.next : Int) + 1))) := o1.trans (only2 o2 o3) (fun _ e => e.elim) (fun _ _ e => e)
  have hC3 := hC.keeps o13 (by omega)
  clear hE2 hE3 hC
  go_wp2_with fail
  refine (goesOn_calls eb _ 0 c15).mono ?_
  rintro e w3 ⟨rfl, rfl⟩
  go_wp2_with fail
  generalize w3.setCell ⟨eb, 9, none⟩ (.int .i64 ((E.next : Int) + 1)) = u at *
  have hmm := hme u.drew o13.drew (hM3.quiet (Only.refl _ u).drew)
  have hn2 := hC3.neg
  have hwh := hC3.what
  have hSg : ¬ (g < eb ∧ X.lo ≤ g) := by omega
  have hwb : (c.what == 123) = false := by simpa using hw
  have HDO : Hid _ := hdo
  have HNO : Hid _ := hno
  clear hme hdo hno c0 q9 f9 c15 hM3 hM2 hM1 h hC3
  go_region_with (go_at_call 95; refine hmm.mono ?_; rintro e w4 ⟨rfl, hM4, o4⟩; have y2 := o4.keeps hn2 hSg)
  all_goals
    have y0 := o4.keeps hwh hSg
    have o14 : Only (fun x => x = eb ∨ (x < eb ∧ X.lo ≤ x)) w w4 := o13.drew.trans o4 (fun _ e => Or.inl e) (fun _ _ e => Or.inr e)
    clear hmm hn2 hwh
    obtain ⟨bb, hbb⟩ : ∃ bb : Bool, (!(b == c.neg)) = bb := ⟨_, rfl⟩
    try rw [hbb]
    cases bb with
    | true =>
      have hcall := HDO.out hbb w4 o14 hM4
      clear HDO HNO
      go_wp2_with fail
      refine hcall.mono ?_
      rintro e w5 ⟨⟨v5, rfl⟩, hQ⟩
      go_wp2
      go_end0
      exact ⟨⟨_, rfl⟩, hQ⟩
    | false =>
      have hQ := HNO.out hbb w4 o14 hM4
      have HQ : Hid _ := hQ
      clear HDO HNO hQ hw
      generalize c.what = wh at *
      go_wp2
      go_end0
      exact ⟨⟨_, rfl⟩, HQ.out⟩

/-- A step to a command with two numbers. -/
theorem stepOk_2 {w0 : World} {eb : Nat} {X : Adz.Fx} {n g : Nat} {E : Adz.Es} {c : Adz.Cmd} (h : AtCmd w0 eb X n g E c) (hlo : w0.heap.size ≤ X.lo) (n1 n2 : Int) (h1 : c.addrs = [⟨0, n1, ⟨[], 0⟩⟩, ⟨0, n2, ⟨[], 0⟩⟩]) (o : Bool) (ho : E.opens[E.next]? = some o) (hol : E.opens.length = n) (hw : c.what ≠ 123) (E' : Adz.Es)
    (hdo : means2 E n1 n2 o ≠ c.neg → DoOk w0 eb X g (E.next * 14) { E with steps := E.steps + 1, next := E.next + 1, opens := E.opens.set E.next (opens2 E n1 n2 o) } E')
    (hno : means2 E n1 n2 o = c.neg → E' = { E with steps := E.steps + 1, next := E.next + 1, opens := E.opens.set E.next (opens2 E n1 n2 o) }) : StepOk w0 eb X n E E' := by
  obtain ⟨cap, hcv⟩ := h.cv
  refine ⟨h.nx, fun w hO ⟨sa, sc, ha, hc, qa, qc, hM⟩ => ?_⟩
  have hX := h.cmd.keeps hO
  have hEb := h.eb
  have hgl := h.cmd.lt
  have key : ∀ u, Only (fun x => x = eb ∨ (x < eb ∧ X.lo ≤ x)) w u → Only (fun _ => False) w0 u := fun u ou => hO.trans ou (fun _ e => e) (fun b hb e => by omega)
  refine stepG2 w eb X E sa ha qa sc hc qc hM h.sp h.ho g n cap hcv h.nx h.n5 h.st c hX.m (by omega) (by omega) hw (means2 E n1 n2 o) { E with steps := E.steps + 1, next := E.next + 1, opens := E.opens.set E.next (opens2 E n1 n2 o) } (fun w' => EMx w' eb X E' ∧ Only (fun _ => False) w0 w') ?_ ?_ ?_
  · intro u ou hMu
    have hu0 := only_new hO ou hEb (fun b e => by omega)
    exact means2M u eb X _ sa ha qa sc hc qc hMu g n cap E.next hcv h.nx h.n5 c (h.cmd.keeps hu0) n1 n2 h1 o ho hol
  · intro hb u ou hMu
    exact hdo (by simpa using hb) u (key u ou) ⟨_, _, _, _, _, _, hMu⟩
  · intro hb u ou hMu
    rw [hno (by simpa using hb)]
    exact ⟨⟨_, _, _, _, _, _, hMu⟩, key u ou⟩
end Go.Proofs.YtbiobhghnldckaaGreatDoor

/- Proved: the scripts of adzekeep.Numbered are read. No condition but those told. -/
namespace Go.Proofs.YtbiobhghnldckaaGreatDoor
open Go.RowKit
set_option linter.unusedVariables false

namespace Adz
theorem digits_at {L A B : List Int} {n i : Nat} (hn : n < 100) (h : L = A ++ (digR n ++ B)) (hi : i = A.length) (hB : ∀ b, B.head? = some b → isDigit b = false) : digitsOf L i = digR n := by
  unfold digitsOf
  rw [h, hi, drop_at, List.takeWhile_append_of_pos (digR_ok hn)]
  cases B with
  | nil => simp
  | cons b B => rw [List.takeWhile_cons, if_neg (by rw [hB b rfl]; simp)]; simp
theorem number_at {L A B pl : List Int} {n i : Nat} (hn : n < 100) (hn1 : 1 ≤ n) (h : L = A ++ (digR n ++ B)) (hi : i = A.length) (hB : ∀ b, B.head? = some b → isDigit b = false) : number L pl i = .ok ((n : Int), i + (digR n).length) := by
  unfold number
  rw [digits_at hn h hi hB]
  have key : ∀ m, m < 100 → ((digR m).foldl (fun n d => min (n * 10 + (d - 48)) 10000) 0) = (m : Int) := by decide +kernel
  simp only [key n hn]
  rw [if_neg (by simp; omega)]
end Adz
theorem dig_peek {L A B : List Int} {n i : Nat} (hn : n < 100) (h : L = A ++ (digR n ++ B)) (hi : i = A.length) : Adz.isDigit (Adz.peek L i) = true := by
  have hl := (digR_len n).1
  cases hd : digR n with
  | nil => rw [hd] at hl; simp at hl
  | cons r t =>
    rw [hd] at h
    rw [Adz.peekAt (A := A) (r := r) (B := t ++ B) (by rw [h]; rfl) hi]
    exact digR_ok hn r (by rw [hd]; simp)
theorem dig_good {r : Int} (h : Adz.isDigit r = true) : Adz.isBlank r = false ∧ r ≠ 10 ∧ r ≠ 59 ∧ r ≠ 125 ∧ r ≠ -1 := by
  simp only [Adz.isDigit, Bool.and_eq_true, decide_eq_true_eq] at h
  refine ⟨?_, by omega, by omega, by omega, by omega⟩
  simp only [Adz.isBlank, Bool.or_eq_false_iff, beq_eq_false_iff_ne]
  omega

def numC1 : List Adz.Cmd := [{ what := 61 }]
theorem walks_num1 : Walks [61] [0, 1] 1 ⟨0, [], [], []⟩ ⟨1, numC1, [], []⟩ := by
  refine ⟨⟨1, numC1, [], []⟩, fun g pp hL hpl hcap => ?_, rfl⟩
  exact gapOk_0 g pp ⟨0, [], [], []⟩ {} 0 (headPlain g pp 0 61 (by rw [hL]; rfl) (by decide)) (Nat.le_refl _) 61 (by rw [hL]; rfl) (by decide) 61 (by rw [hL]; rfl) (by decide) (by decide) (by simp) (Or.inr (Or.inr (by rw [hL]; rfl)))

def numL2 (a b : Nat) : List Int := digR a ++ ([32, 44, 32] ++ (digR b ++ [33, 100]))
def numC2 (a b : Nat) : List Adz.Cmd := [{ what := 100, addrs := [⟨0, a, ⟨[], 0⟩⟩, ⟨0, b, ⟨[], 0⟩⟩], neg := true }]
theorem walks_num2 (a b : Nat) (ha : a < 100) (ha1 : 1 ≤ a) (hb : b < 100) (hb1 : 1 ≤ b) : Walks (numL2 a b) (plc (numL2 a b)) 1 ⟨0, [], [], []⟩ ⟨(numL2 a b).length, numC2 a b, [], []⟩ := by
  refine ⟨⟨(numL2 a b).length, numC2 a b, [], []⟩, fun g pp hL hpl hcap => ?_, rfl⟩
  have e0 : g.L = [] ++ (digR a ++ ([32, 44, 32] ++ (digR b ++ [33, 100]))) := hL
  have e1 : g.L = (digR a ++ [32, 44, 32]) ++ (digR b ++ [33, 100]) := by rw [hL]; simp [numL2]
  have hd0 := dig_peek ha e0 rfl
  have hlen : (numL2 a b).length = (digR a).length + 3 + (digR b).length + 2 := by simp [numL2]; omega
  have p1 : Adz.peek g.L (digR a).length = 32 := Adz.peekAt (A := digR a) hL rfl
  have p2 : Adz.peek g.L ((digR a).length + 1) = 44 := Adz.peekAt (A := digR a ++ [32]) (by rw [hL]; simp [numL2] <;> rfl) (by simp)
  have p3 : Adz.peek g.L ((digR a).length + 1 + 1) = 32 := Adz.peekAt (A := digR a ++ [32, 44]) (by rw [hL]; simp [numL2] <;> rfl) (by simp)
  have p4 := dig_peek (i := (digR a).length + 1 + 1 + 1) hb e1 (by simp)
  have p5 : Adz.peek g.L ((digR a).length + 3 + (digR b).length) = 33 := Adz.peekAt (A := digR a ++ [32, 44, 32] ++ digR b) (by rw [hL]; simp [numL2] <;> rfl) (by simp; omega)
  have p6 : Adz.peek g.L ((digR a).length + 3 + (digR b).length + 1) = 100 := Adz.peekAt (A := digR a ++ [32, 44, 32] ++ digR b ++ [33]) (by rw [hL]; simp [numL2] <;> rfl) (by simp; omega)
  have p7 : Adz.peek g.L ((digR a).length + 3 + (digR b).length + 1 + 1) = -1 := Adz.peekEnd (by rw [hL, hlen])
  have hA := addrOk_num g pp 0 hd0 a _ (Adz.number_at ha ha1 e0 rfl (by simp [Adz.isDigit]))
  have b1 : Adz.blanks g.L (0 + (digR a).length) = (digR a).length + 1 := by
    rw [Nat.zero_add, Adz.blanks_one (Adz.lt_of_peek (by rw [p1]; decide)) (by rw [p1]; decide), Adz.blanks_none (by rw [p2]; decide)]
  rw [b1] at hA
  have b2 : Adz.blanks g.L ((digR a).length + 1 + 1) = (digR a).length + 3 := by
    rw [Adz.blanks_one (Adz.lt_of_peek (by rw [p3]; decide)) (by rw [p3]; decide), Adz.blanks_none (dig_good p4).1]
  have hB := addrOk_num g pp ((digR a).length + 3) p4 b _ (Adz.number_at hb hb1 e1 (by simp) (by simp [Adz.isDigit]))
  rw [Adz.blanks_none (by rw [p5]; decide)] at hB
  have hAs := addrsOk_two g pp 0 _ _ _ _ hA p2 (by rw [b2]; exact hB)
  have hH := headOk_not g pp 0 _ _ hAs (Or.inl hd0) p5
  rw [Adz.blanks_none (by rw [p6]; decide)] at hH
  have := gapOk_0 g pp ⟨0, [], [], []⟩ _ _ hH (Nat.zero_le _) _ rfl (dig_good hd0) 100 p6 (by decide) (by decide) (by simp) (Or.inr (Or.inr p7))
  have e : (digR a).length + 3 + (digR b).length + 1 + 1 = (numL2 a b).length := by rw [hlen]
  rw [e] at this
  exact this

def numL3 (a b : Nat) : List Int := digR a ++ ([44] ++ (digR b ++ [32, 100]))
def numC3 (a b : Nat) : List Adz.Cmd := [{ what := 100, addrs := [⟨0, a, ⟨[], 0⟩⟩, ⟨0, b, ⟨[], 0⟩⟩] }]
theorem walks_num3 (a b : Nat) (ha : a < 100) (ha1 : 1 ≤ a) (hb : b < 100) (hb1 : 1 ≤ b) : Walks (numL3 a b) (plc (numL3 a b)) 1 ⟨0, [], [], []⟩ ⟨(numL3 a b).length, numC3 a b, [], []⟩ := by
  refine ⟨⟨(numL3 a b).length, numC3 a b, [], []⟩, fun g pp hL hpl hcap => ?_, rfl⟩
  have e0 : g.L = [] ++ (digR a ++ ([44] ++ (digR b ++ [32, 100]))) := hL
  have e1 : g.L = (digR a ++ [44]) ++ (digR b ++ [32, 100]) := by rw [hL]; simp [numL3]
  have hd0 := dig_peek ha e0 rfl
  have hlen : (numL3 a b).length = (digR a).length + 1 + (digR b).length + 2 := by simp [numL3]; omega
  have p1 : Adz.peek g.L (digR a).length = 44 := Adz.peekAt (A := digR a) hL rfl
  have p4 := dig_peek (i := (digR a).length + 1) hb e1 (by simp)
  have p5 : Adz.peek g.L ((digR a).length + 1 + (digR b).length) = 32 := Adz.peekAt (A := digR a ++ [44] ++ digR b) (by rw [hL]; simp [numL3] <;> rfl) (by simp; omega)
  have p6 : Adz.peek g.L ((digR a).length + 1 + (digR b).length + 1) = 100 := Adz.peekAt (A := digR a ++ [44] ++ digR b ++ [32]) (by rw [hL]; simp [numL3] <;> rfl) (by simp; omega)
  have p7 : Adz.peek g.L ((digR a).length + 1 + (digR b).length + 1 + 1) = -1 := Adz.peekEnd (by rw [hL, hlen])
  have hA := addrOk_num g pp 0 hd0 a _ (Adz.number_at ha ha1 e0 rfl (by simp [Adz.isDigit]))
  rw [Nat.zero_add, Adz.blanks_none (by rw [p1]; decide)] at hA
  have b2 : Adz.blanks g.L ((digR a).length + 1) = (digR a).length + 1 := Adz.blanks_none (dig_good p4).1
  have hB := addrOk_num g pp ((digR a).length + 1) p4 b _ (Adz.number_at hb hb1 e1 (by simp) (by simp [Adz.isDigit]))
  have b3 : Adz.blanks g.L ((digR a).length + 1 + (digR b).length) = (digR a).length + 1 + (digR b).length + 1 := by
    rw [Adz.blanks_one (Adz.lt_of_peek (by rw [p5]; decide)) (by rw [p5]; decide), Adz.blanks_none (by rw [p6]; decide)]
  rw [b3] at hB
  have hAs := addrsOk_two g pp 0 _ _ _ _ hA p1 (by rw [b2]; exact hB)
  have hH := headOk_addr g pp 0 _ _ hAs (Or.inl hd0) (by rw [p6]; decide)
  have := gapOk_0 g pp ⟨0, [], [], []⟩ _ _ hH (Nat.zero_le _) _ rfl (dig_good hd0) 100 p6 (by decide) (by decide) (by simp) (Or.inr (Or.inr p7))
  have e : (digR a).length + 1 + (digR b).length + 1 + 1 = (numL3 a b).length := by rw [hlen]
  rw [e] at this
  exact this

def numL4 (a : Nat) : List Int := digR a ++ [113]
def numC4 (a : Nat) : List Adz.Cmd := [{ what := 113, addrs := [⟨0, a, ⟨[], 0⟩⟩] }]
theorem walks_num4 (a : Nat) (ha : a < 100) (ha1 : 1 ≤ a) : Walks (numL4 a) (plc (numL4 a)) 1 ⟨0, [], [], []⟩ ⟨(numL4 a).length, numC4 a, [], []⟩ := by
  refine ⟨⟨(numL4 a).length, numC4 a, [], []⟩, fun g pp hL hpl hcap => ?_, rfl⟩
  have e0 : g.L = [] ++ (digR a ++ [113]) := hL
  have hd0 := dig_peek ha e0 rfl
  have p1 : Adz.peek g.L (digR a).length = 113 := Adz.peekAt (A := digR a) hL rfl
  have p7 : Adz.peek g.L ((digR a).length + 1) = -1 := Adz.peekEnd (by rw [hL]; simp [numL4])
  have hH := headNum g pp 0 (0 + (digR a).length) 0 a hd0 (Adz.number_at ha ha1 e0 rfl (by simp [Adz.isDigit])) (by rw [Nat.zero_add, p1]; decide) (by rw [Nat.zero_add, p1]; decide) (by rw [Nat.zero_add, p1]; decide)
  rw [Nat.zero_add] at hH
  have := gapOk_0 g pp ⟨0, [], [], []⟩ _ _ hH (Nat.zero_le _) _ rfl (dig_good hd0) 113 p1 (by decide) (by decide) (by simp) (Or.inr (Or.inr p7))
  have e : (digR a).length + 1 = (numL4 a).length := by simp [numL4]
  rw [e] at this
  exact this

def numC5 : List Adz.Cmd := [{ what := 100, addrs := [⟨1, 0, ⟨[], 0⟩⟩], neg := true }]
theorem walks_num5 : Walks [36, 33, 100] [0, 1, 2, 3] 1 ⟨0, [], [], []⟩ ⟨3, numC5, [], []⟩ := by
  refine ⟨⟨3, numC5, [], []⟩, fun g pp hL hpl hcap => ?_, rfl⟩
  exact gapOk_0 g pp ⟨0, [], [], []⟩ _ 2 (headLastNot g pp 0 (by rw [hL]; rfl) (by rw [hL]; rfl) (by rw [hL]; rfl)) (by decide) 36 (by rw [hL]; rfl) (by decide) 100 (by rw [hL]; rfl) (by decide) (by decide) (by simp) (Or.inr (Or.inr (by rw [hL]; rfl)))
end Go.Proofs.YtbiobhghnldckaaGreatDoor

/- Proved: what adzekeep.edit makes of the scripts of adzekeep.Numbered, over any short lines. Conditions: what the library's variables hold. -/
namespace Go.Proofs.YtbiobhghnldckaaGreatDoor
open Go.RowKit
set_option linter.unusedVariables false

/-- What is told, line by line. -/
def accJ (f : Nat → List Int → List (List Int)) (ls : List (List Int)) : Nat → List (List Int)
  | 0 => []
  | j + 1 => accJ f ls j ++ f (j + 1) (ls.getD j [])
theorem accJ_succ (f : Nat → List Int → List (List Int)) (ls : List (List Int)) (j : Nat) (hj : j < ls.length) : accJ f ls (j + 1) = accJ f ls j ++ f (j + 1) ls[j] := by
  show accJ f ls j ++ f (j + 1) (ls.getD j []) = _
  rw [List.getD_eq_getElem?_getD, List.getElem?_eq_getElem hj]
  rfl
/-- Lines and numbers are short, and not many. -/
structure Few (f : Nat → List Int → List (List Int)) : Prop where
  len : ∀ n l, (f n l).length ≤ 2
  short : ∀ n l, l.length ≤ 8 → ∀ x ∈ f n l, x.length ≤ 8
theorem accJ_bound {f : Nat → List Int → List (List Int)} (hf : Few f) {ls : List (List Int)} (h : ∀ l ∈ ls, LineOk l) : ∀ j, j ≤ ls.length → (txtR (accJ f ls j)).length ≤ 18 * j
  | 0, _ => by simp [accJ, txtR]
  | j + 1, hj => by
    have ih := accJ_bound hf h j (by omega)
    rw [accJ_succ f ls j (by omega), txtR_append, List.length_append]
    have h1 := txtR_bound (f (j + 1) ls[j]) 8 (hf.short _ _ (h _ (List.getElem_mem (by omega))).2)
    have h2 := hf.len (j + 1) ls[j]
    omega
theorem accJ_out {f : Nat → List Int → List (List Int)} (hf : Few f) {ls : List (List Int)} (h : ∀ l ∈ ls, LineOk l) (h40 : ls.length ≤ 40) (j : Nat) (hj : j ≤ ls.length) : (encL (txtR (accJ f ls j))).length ≤ 1440 := by
  have h1 := accJ_bound hf h j hj
  have h2 := (encL_len (txtR (accJ f ls j))).2
  omega

/-- One line, by a program that is one command. -/
theorem cycle1 {w0 : World} {eb : Nat} {X : Adz.Fx} {g : Nat} {c : Adz.Cmd} (hP : ProgOk w0 eb X g [c]) (hq : X.q = false) (ls : List (List Int)) (hls : ∀ l ∈ ls, LineOk l) (hlines : X.lines = ls.map tx) (h40 : ls.length ≤ 40) (E : Adz.Es) (j : Nat) (hj : j < ls.length) (e1 : E.line = j) (e2 : E.over = false) (E1 : Adz.Es) (hst : StepOk w0 eb X 1 (lineStart E (tx ls[j])) E1) (hn : E1.next = 1) :
    (E1.drop = true → CycleOk w0 eb X E E1) ∧ (E1.drop = false → E1.sp = ls[j] → E1.hold = [] → E1.queue = [] → (E1.out ++ encL (ls[j] ++ [10])).length ≤ 8000 → CycleOk w0 eb X E { E1 with queue := [], out := E1.out ++ encL (ls[j] ++ [10]) }) := by
  have hXl : X.lines.length = ls.length := by rw [hlines, List.length_map]
  have hjX : E.line < X.lines.length := by rw [hXl]; omega
  have hXj : X.lines[E.line] = tx ls[j] := by
    have : X.lines[E.line]? = some (tx ls[j]) := by rw [hlines, List.getElem?_map, e1, List.getElem?_eq_getElem hj]; rfl
    exact (List.getElem?_eq_some_iff.1 this).2
  have hl := hls ls[j] (List.getElem_mem hj)
  have hts : (tx ls[j]).size ≤ 3000 := by have := lineOk_size hl; omega
  have hsteps : StepsOk w0 eb X [c].length 1 (lineStart E X.lines[E.line]) E1 := by
    rw [hXj]
    exact ⟨E1, hst, rfl, by show 1 ≤ E1.next; omega⟩
  refine ⟨fun hd => cycleOk_prog hP E e2 hjX (by rw [hXl]; omega) (by rw [hXj]; exact hts) 1 E1 E1 hsteps (Or.inl ⟨hd, rfl⟩), fun hd hsp hho hqu hb => ?_⟩
  have htold : Adz.told X.q E1.out E1.sp = E1.out ++ encL (ls[j] ++ [10]) := by rw [hq, hsp]; exact told_ok hl.ln.ok _
  refine cycleOk_prog hP E e2 hjX (by rw [hXl]; omega) (by rw [hXj]; exact hts) 1 E1 _ hsteps (Or.inr ⟨hd, by rw [hsp]; have := hl.2; omega, by rw [hho]; simp, ?_, by rw [hqu]; simp, ?_⟩)
  · rw [htold, hqu]
    exact hb
  · rw [htold, hqu]
    rfl
theorem starts {E : Adz.Es} {l : List Int} (h : Ln l) : (lineStart E (tx l)).sp = l := runes_ok h.ok

theorem out_snoc (a b : List (List Int)) : encL (txtR (a ++ b)) = encL (txtR a) ++ encL (txtR b) := by rw [txtR_append, encL_append]
theorem out_one (l : List Int) : encL (txtR [l]) = encL (l ++ [10]) := by simp [txtR]

/-- '=': each line behind its number. -/
theorem cycles_num1 (w0 : World) (eb : Nat) (X : Adz.Fx) (g : Nat) (hP : ProgOk w0 eb X g numC1) (hq : X.q = false) (ls : List (List Int)) (hls : ∀ l ∈ ls, LineOk l) (h40 : ls.length ≤ 40) (hlines : X.lines = ls.map tx) (E0 : Adz.Es) (hE0 : E0.line = 0 ∧ E0.over = false ∧ E0.queue = [] ∧ E0.hold = [] ∧ E0.steps = 0 ∧ E0.out = []) :
    ∃ k E', CyclesOk w0 eb X k E0 E' ∧ E'.out = encL (txtR (accJ (fun n l => [digR n, l]) ls ls.length)) := by
  have hXl : X.lines.length = ls.length := by rw [hlines, List.length_map]
  have hf : Few (fun n l => [digR n, l]) := ⟨fun n l => by simp, fun n l hl x hx => by
    simp at hx
    rcases hx with rfl | rfl
    · have := (digR_len n).2; omega
    · exact hl⟩
  obtain ⟨E', h1, h2⟩ := cycles_by w0 eb X ls.length (fun j E => E.line = j ∧ E.over = false ∧ E.queue = [] ∧ E.hold = [] ∧ E.steps = j ∧ E.out = encL (txtR (accJ (fun n l => [digR n, l]) ls j)))
    (fun j E hj ⟨e1, e2, e3, e4, e5, e6⟩ => by
      have hl := hls ls[j] (List.getElem_mem hj)
      have hat := hP.at (lineStart E (tx ls[j])) 0 _ rfl rfl (by show E.steps < 5000; omega) (by rw [starts hl.ln]; have := hl.2; omega) (by show E.hold.length ≤ 400; rw [e4]; simp)
      have hb := accJ_out hf hls h40 (j + 1) (by omega)
      have hb0 := accJ_out hf hls h40 j (by omega)
      have hacc : encL (txtR (accJ (fun n l => [digR n, l]) ls (j + 1))) = (E.out ++ encL (digR (j + 1) ++ [10])) ++ encL (ls[j] ++ [10]) := by
        rw [accJ_succ _ _ _ hj, out_snoc, ← e6, List.append_assoc]
        show _ ++ encL (txtR ([digR (j + 1)] ++ [ls[j]])) = _
        rw [out_snoc, out_one, out_one]
      have houts : Adz.outs E.out [tx (digR (j + 1))] = E.out ++ encL (digR (j + 1) ++ [10]) := by
        show (E.out ++ (tx (digR (j + 1))).data.toList) ++ [10] = _
        rw [tx_list, encL_append, List.append_assoc]
        rfl
      rw [hacc] at hb
      have hb1 : (E.out ++ encL (digR (j + 1) ++ [10])).length ≤ 8000 := by rw [List.length_append] at hb; omega
      have hst := stepOk_do hat (by simp) (by simp) (by simp [means1]) _ (doOk_eq hat rfl { lineStart E (tx ls[j]) with steps := E.steps + 1, next := 1 } (by show E.line + 1 < 100; omega) (by show (Adz.outs E.out [tx (digR (E.line + 1))]).length ≤ 8000; rw [e1, houts]; exact hb1))
      have hc := (cycle1 hP hq ls hls hlines h40 E j hj e1 e2 _ hst rfl).2 rfl (starts (E := E) hl.ln) e4 e3 (by show (Adz.outs E.out [tx (digR (E.line + 1))] ++ encL (ls[j] ++ [10])).length ≤ 8000; rw [e1, houts]; omega)
      refine ⟨_, hc, by show E.line + 1 = _; omega, e2, rfl, e4, by show E.steps + 1 = _; omega, ?_⟩
      show Adz.outs E.out [tx (digR (E.line + 1))] ++ encL (ls[j] ++ [10]) = _
      rw [e1, houts, hacc])
    (fun E ⟨e1, _⟩ => Or.inr (by rw [hXl]; omega)) ls.length 0 E0 (by omega) ⟨hE0.1, hE0.2.1, hE0.2.2.1, hE0.2.2.2.1, hE0.2.2.2.2.1, by rw [hE0.2.2.2.2.2]; rfl⟩
  exact ⟨_, E', h1, h2.2.2.2.2.2⟩

/-- The lines of some numbers. -/
def sel (p : Nat → Bool) : Nat → List Int → List (List Int) := fun n l => if p n then [l] else []
theorem few_sel (p : Nat → Bool) : Few (sel p) := ⟨fun n l => by unfold sel; split <;> simp, fun n l hl x hx => by
  unfold sel at hx
  split at hx
  · rw [List.mem_singleton.1 hx]; exact hl
  · simp at hx⟩
theorem sel_yes {p : Nat → Bool} {ls : List (List Int)} {j : Nat} (hj : j < ls.length) (h : p (j + 1) = true) : encL (txtR (accJ (sel p) ls (j + 1))) = encL (txtR (accJ (sel p) ls j)) ++ encL (ls[j] ++ [10]) := by
  rw [accJ_succ _ _ _ hj, out_snoc]
  unfold sel
  rw [if_pos h, out_one]
theorem sel_no {p : Nat → Bool} {ls : List (List Int)} {j : Nat} (hj : j < ls.length) (h : p (j + 1) = false) : encL (txtR (accJ (sel p) ls (j + 1))) = encL (txtR (accJ (sel p) ls j)) := by
  rw [accJ_succ _ _ _ hj, out_snoc]
  unfold sel
  rw [if_neg (by rw [h]; simp)]
  simp [txtR, encL]

/-- From one to another. -/
def insP (a b n : Nat) : Bool := decide (n = a) || (decide (a < n) && decide (n ≤ b))
def opnP (a b n : Nat) : Bool := decide (a ≤ n) && decide (n < b)
theorem ins_means (a b j : Nat) (E : Adz.Es) (hE : E.line = j + 1) : means2 E a b (opnP a b j) = insP a b (j + 1) ∧ opens2 E a b (opnP a b j) = opnP a b (j + 1) := by
  unfold means2 opens2 insP opnP
  rw [hE]
  constructor
  · rw [Bool.eq_iff_iff]
    simp
    omega
  · rw [Bool.eq_iff_iff]
    simp
    omega

/-- 'd' with two numbers, with or without '!'. -/
theorem cycles_num2 (w0 : World) (eb : Nat) (X : Adz.Fx) (g : Nat) (a b : Nat) (ha1 : 1 ≤ a) (neg : Bool) (hP : ProgOk w0 eb X g [{ what := 100, addrs := [⟨0, a, ⟨[], 0⟩⟩, ⟨0, b, ⟨[], 0⟩⟩], neg := neg }]) (hlo : w0.heap.size ≤ X.lo) (hq : X.q = false) (ls : List (List Int)) (hls : ∀ l ∈ ls, LineOk l) (h40 : ls.length ≤ 40) (hlines : X.lines = ls.map tx) (E0 : Adz.Es) (hE0 : E0.line = 0 ∧ E0.over = false ∧ E0.queue = [] ∧ E0.hold = [] ∧ E0.steps = 0 ∧ E0.out = [] ∧ E0.opens = [false]) :
    ∃ k E', CyclesOk w0 eb X k E0 E' ∧ E'.out = encL (txtR (accJ (sel fun n => insP a b n == neg) ls ls.length)) := by
  have hXl : X.lines.length = ls.length := by rw [hlines, List.length_map]
  have hf := few_sel (fun n => insP a b n == neg)
  obtain ⟨E', h1, h2⟩ := cycles_by w0 eb X ls.length (fun j E => E.line = j ∧ E.over = false ∧ E.queue = [] ∧ E.hold = [] ∧ E.steps = j ∧ E.out = encL (txtR (accJ (sel fun n => insP a b n == neg) ls j)) ∧ E.opens = [opnP a b j])
    (fun j E hj ⟨e1, e2, e3, e4, e5, e6, e7⟩ => by
      have hl := hls ls[j] (List.getElem_mem hj)
      have hat := hP.at (lineStart E (tx ls[j])) 0 _ rfl rfl (by show E.steps < 5000; omega) (by rw [starts hl.ln]; have := hl.2; omega) (by show E.hold.length ≤ 400; rw [e4]; simp)
      have hb := accJ_out hf hls h40 (j + 1) (by omega)
      have hb0 := accJ_out hf hls h40 j (by omega)
      obtain ⟨hm, hop⟩ := ins_means a b j (lineStart E (tx ls[j])) (by show E.line + 1 = _; omega)
      have hopens : (lineStart E (tx ls[j])).opens = [opnP a b j] := e7
      cases hp : (insP a b (j + 1) == neg) with
      | true =>
        have hp' : insP a b (j + 1) = neg := by simpa using hp
        have hs := sel_yes (p := fun n => insP a b n == neg) hj hp
        have hst := stepOk_2 hat hlo a b rfl (opnP a b j) (by rw [hopens]; rfl) (by rw [hopens]; rfl) (show (100 : Int) ≠ 123 by decide) { lineStart E (tx ls[j]) with steps := E.steps + 1, next := 1, opens := [opnP a b (j + 1)] } (fun hne => absurd (hm.trans hp') hne) (fun _ => by
          rw [hop, hopens]
          rfl)
        rw [hs] at hb
        have hc := (cycle1 hP hq ls hls hlines h40 E j hj e1 e2 _ hst rfl).2 rfl (starts (E := E) hl.ln) e4 e3 (by show (E.out ++ encL (ls[j] ++ [10])).length ≤ 8000; rw [e6]; omega)
        refine ⟨_, hc, by show E.line + 1 = _; omega, e2, rfl, e4, by show E.steps + 1 = _; omega, ?_, rfl⟩
        show E.out ++ encL (ls[j] ++ [10]) = _
        rw [e6, hs]
      | false =>
        have hp' : insP a b (j + 1) ≠ neg := by simpa using hp
        have hs := sel_no (p := fun n => insP a b n == neg) hj hp
        have hst := stepOk_2 hat hlo a b rfl (opnP a b j) (by rw [hopens]; rfl) (by rw [hopens]; rfl) (show (100 : Int) ≠ 123 by decide) { lineStart E (tx ls[j]) with steps := E.steps + 1, next := 1, opens := [opnP a b (j + 1)], queue := [], out := Adz.outs E.out E.queue, drop := true } (fun _ => by
          have hd := doOk_d hat rfl { lineStart E (tx ls[j]) with steps := E.steps + 1, next := 1, opens := [opnP a b (j + 1)] } (by show (Adz.outs E.out E.queue).length ≤ 8000; rw [e3, e6]; show (encL (txtR (accJ (sel fun n => insP a b n == neg) ls j))).length ≤ 8000; omega) (by show E.queue.length ≤ 100000; rw [e3]; simp)
          rw [hop, hopens]
          exact hd) (fun he => absurd (hm.symm.trans he) hp')
        have hc := (cycle1 hP hq ls hls hlines h40 E j hj e1 e2 _ hst rfl).1 rfl
        refine ⟨_, hc, by show E.line + 1 = _; omega, e2, rfl, e4, by show E.steps + 1 = _; omega, ?_, rfl⟩
        show Adz.outs E.out E.queue = _
        rw [e3, hs, ← e6]
        rfl)
    (fun E ⟨e1, _⟩ => Or.inr (by rw [hXl]; omega)) ls.length 0 E0 (by omega) ⟨hE0.1, hE0.2.1, hE0.2.2.1, hE0.2.2.2.1, hE0.2.2.2.2.1, by rw [hE0.2.2.2.2.2.1]; rfl, by
      rw [hE0.2.2.2.2.2.2]
      congr 1
      unfold opnP
      rw [decide_eq_false (by omega)]
      rfl⟩
  exact ⟨_, E', h1, h2.2.2.2.2.2.1⟩

/-- 'q' at a number: the first lines alone. -/
theorem cycles_num4 (w0 : World) (eb : Nat) (X : Adz.Fx) (g : Nat) (a : Nat) (ha1 : 1 ≤ a) (hP : ProgOk w0 eb X g (numC4 a)) (hq : X.q = false) (ls : List (List Int)) (hls : ∀ l ∈ ls, LineOk l) (h40 : ls.length ≤ 40) (hlines : X.lines = ls.map tx) (E0 : Adz.Es) (hE0 : E0.line = 0 ∧ E0.over = false ∧ E0.queue = [] ∧ E0.hold = [] ∧ E0.steps = 0 ∧ E0.out = []) :
    ∃ k E', CyclesOk w0 eb X k E0 E' ∧ E'.out = encL (txtR (accJ (sel fun n => decide (n ≤ a)) ls (min a ls.length))) := by
  have hXl : X.lines.length = ls.length := by rw [hlines, List.length_map]
  have hf := few_sel (fun n => decide (n ≤ a))
  obtain ⟨E', h1, h2⟩ := cycles_by w0 eb X (min a ls.length) (fun j E => E.line = j ∧ E.over = decide (j = a) ∧ E.queue = [] ∧ E.hold = [] ∧ E.steps = j ∧ E.out = encL (txtR (accJ (sel fun n => decide (n ≤ a)) ls j)))
    (fun j E hj' ⟨e1, e2, e3, e4, e5, e6⟩ => by
      have hj : j < ls.length := by omega
      have hja : j < a := by omega
      have e2' : E.over = false := by rw [e2]; exact decide_eq_false (by omega)
      have hl := hls ls[j] (List.getElem_mem hj)
      have hat := hP.at (lineStart E (tx ls[j])) 0 _ rfl rfl (by show E.steps < 5000; omega) (by rw [starts hl.ln]; have := hl.2; omega) (by show E.hold.length ≤ 400; rw [e4]; simp)
      have hb := accJ_out hf hls h40 (j + 1) (by omega)
      have hs := sel_yes (p := fun n => decide (n ≤ a)) hj (decide_eq_true (by omega))
      rw [hs] at hb
      by_cases hja1 : j + 1 = a
      · have hst := stepOk_do hat (by simp) (by simp) (by
          show decide (((E.line + 1 : Nat) : Int) = (a : Int)) ≠ false
          rw [decide_eq_true (by omega)]; decide) _ (doOk_q hat rfl { lineStart E (tx ls[j]) with steps := E.steps + 1, next := 1 })
        have hc := (cycle1 hP hq ls hls hlines h40 E j hj e1 e2' _ hst rfl).2 rfl (starts (E := E) hl.ln) e4 e3 (by show (E.out ++ encL (ls[j] ++ [10])).length ≤ 8000; rw [e6]; omega)
        refine ⟨_, hc, by show E.line + 1 = _; omega, (decide_eq_true hja1).symm, rfl, e4, by show E.steps + 1 = _; omega, ?_⟩
        show E.out ++ encL (ls[j] ++ [10]) = _
        rw [e6, hs]
      · have hst := stepOk_not hat (by simp) (by simp) (by
          show decide (((E.line + 1 : Nat) : Int) = (a : Int)) = false
          exact decide_eq_false (by omega)) (show (113 : Int) ≠ 123 by decide)
        have hc := (cycle1 hP hq ls hls hlines h40 E j hj e1 e2' _ hst rfl).2 rfl (starts (E := E) hl.ln) e4 e3 (by show (E.out ++ encL (ls[j] ++ [10])).length ≤ 8000; rw [e6]; omega)
        refine ⟨_, hc, by show E.line + 1 = _; omega, e2'.trans (decide_eq_false hja1).symm, rfl, e4, by show E.steps + 1 = _; omega, ?_⟩
        show E.out ++ encL (ls[j] ++ [10]) = _
        rw [e6, hs])
    (fun E ⟨e1, e2, _⟩ => by
      by_cases h : a ≤ ls.length
      · exact Or.inl (by rw [e2]; exact decide_eq_true (by omega))
      · exact Or.inr (by rw [hXl]; omega)) (min a ls.length) 0 E0 (by omega) ⟨hE0.1, by rw [hE0.2.1]; exact (decide_eq_false (by omega)).symm, hE0.2.2.1, hE0.2.2.2.1, hE0.2.2.2.2.1, by rw [hE0.2.2.2.2.2]; rfl⟩
  exact ⟨_, E', h1, h2.2.2.2.2.2⟩

/-- '$!d': the last line alone. -/
theorem cycles_num5 (w0 : World) (eb : Nat) (X : Adz.Fx) (g : Nat) (hP : ProgOk w0 eb X g numC5) (hq : X.q = false) (ls : List (List Int)) (hls : ∀ l ∈ ls, LineOk l) (h40 : ls.length ≤ 40) (hlines : X.lines = ls.map tx) (E0 : Adz.Es) (hE0 : E0.line = 0 ∧ E0.over = false ∧ E0.queue = [] ∧ E0.hold = [] ∧ E0.steps = 0 ∧ E0.out = []) :
    ∃ k E', CyclesOk w0 eb X k E0 E' ∧ E'.out = encL (txtR (accJ (sel fun n => decide (ls.length ≤ n)) ls ls.length)) := by
  have hXl : X.lines.length = ls.length := by rw [hlines, List.length_map]
  have hf := few_sel (fun n => decide (ls.length ≤ n))
  obtain ⟨E', h1, h2⟩ := cycles_by w0 eb X ls.length (fun j E => E.line = j ∧ E.over = false ∧ E.queue = [] ∧ E.hold = [] ∧ E.steps = j ∧ E.out = encL (txtR (accJ (sel fun n => decide (ls.length ≤ n)) ls j)))
    (fun j E hj ⟨e1, e2, e3, e4, e5, e6⟩ => by
      have hl := hls ls[j] (List.getElem_mem hj)
      have hat := hP.at (lineStart E (tx ls[j])) 0 _ rfl rfl (by show E.steps < 5000; omega) (by rw [starts hl.ln]; have := hl.2; omega) (by show E.hold.length ≤ 400; rw [e4]; simp)
      have hb := accJ_out hf hls h40 (j + 1) (by omega)
      have hb0 := accJ_out hf hls h40 j (by omega)
      by_cases hlast : j + 1 = ls.length
      · have hs := sel_yes (p := fun n => decide (ls.length ≤ n)) hj (decide_eq_true (by omega))
        rw [hs] at hb
        have hst := stepOk_not hat (by simp) (by simp) (by
          show decide (X.lines.length ≤ E.line + 1) = true
          exact decide_eq_true (by omega)) (show (100 : Int) ≠ 123 by decide)
        have hc := (cycle1 hP hq ls hls hlines h40 E j hj e1 e2 _ hst rfl).2 rfl (starts (E := E) hl.ln) e4 e3 (by show (E.out ++ encL (ls[j] ++ [10])).length ≤ 8000; rw [e6]; omega)
        refine ⟨_, hc, by show E.line + 1 = _; omega, e2, rfl, e4, by show E.steps + 1 = _; omega, ?_⟩
        show E.out ++ encL (ls[j] ++ [10]) = _
        rw [e6, hs]
      · have hs := sel_no (p := fun n => decide (ls.length ≤ n)) hj (decide_eq_false (by omega))
        have hst := stepOk_do hat (by simp) (by simp) (by
          show decide (X.lines.length ≤ E.line + 1) ≠ true
          rw [decide_eq_false (by omega)]; decide) _ (doOk_d hat rfl { lineStart E (tx ls[j]) with steps := E.steps + 1, next := 1 } (by show (Adz.outs E.out E.queue).length ≤ 8000; rw [e3, e6]; show (encL (txtR (accJ (sel fun n => decide (ls.length ≤ n)) ls j))).length ≤ 8000; omega) (by show E.queue.length ≤ 100000; rw [e3]; simp))
        have hc := (cycle1 hP hq ls hls hlines h40 E j hj e1 e2 _ hst rfl).1 rfl
        refine ⟨_, hc, by show E.line + 1 = _; omega, e2, rfl, e4, by show E.steps + 1 = _; omega, ?_⟩
        show Adz.outs E.out E.queue = _
        rw [e3, hs, ← e6]
        rfl)
    (fun E ⟨e1, _⟩ => Or.inr (by rw [hXl]; omega)) ls.length 0 E0 (by omega) ⟨hE0.1, hE0.2.1, hE0.2.2.1, hE0.2.2.2.1, hE0.2.2.2.2.1, by rw [hE0.2.2.2.2.2]; rfl⟩
  exact ⟨_, E', h1, h2.2.2.2.2.2⟩
end Go.Proofs.YtbiobhghnldckaaGreatDoor

/- Proved: what adzekeep.edit makes of the five scripts of adzekeep.Numbered, over any short lines. Conditions: what the library's variables hold. -/
namespace Go.Proofs.YtbiobhghnldckaaGreatDoor
open Go.RowKit
set_option linter.unusedVariables false

theorem acc_first (a : Nat) (ls : List (List Int)) : ∀ j, accJ (sel fun n => decide (n ≤ a)) ls (min a j) = accJ (sel fun n => decide (n ≤ a)) ls j
  | 0 => by rw [Nat.min_zero]
  | j + 1 => by
    by_cases h : j + 1 ≤ a
    · rw [Nat.min_eq_right h]
    · have h2 : min a (j + 1) = min a j := by omega
      rw [h2, acc_first a ls j]
      show _ = accJ (sel fun n => decide (n ≤ a)) ls j ++ sel (fun n => decide (n ≤ a)) (j + 1) (ls.getD j [])
      unfold sel
      rw [if_neg (by simp; omega), List.append_nil]
theorem acc_last (ls : List (List Int)) (N : Nat) : ∀ j, j < N → accJ (sel fun n => decide (N ≤ n)) ls j = []
  | 0, _ => rfl
  | j + 1, h => by
    show accJ (sel fun n => decide (N ≤ n)) ls j ++ sel (fun n => decide (N ≤ n)) (j + 1) (ls.getD j []) = []
    rw [acc_last ls N j (by omega)]
    unfold sel
    rw [if_neg (by simp; omega)]
    rfl
theorem acc_lastL (ls : List (List Int)) (h : 0 < ls.length) : accJ (sel fun n => decide (ls.length ≤ n)) ls ls.length = [ls[ls.length - 1]] := by
  obtain ⟨k, hk⟩ : ∃ k, ls.length = k + 1 := ⟨ls.length - 1, by omega⟩
  have h1 : accJ (sel fun n => decide (ls.length ≤ n)) ls (k + 1) = accJ (sel fun n => decide (ls.length ≤ n)) ls k ++ sel (fun n => decide (ls.length ≤ n)) (k + 1) ls[k] := accJ_succ _ _ _ (by omega)
  have h2 : accJ (sel fun n => decide (ls.length ≤ n)) ls ls.length = accJ (sel fun n => decide (ls.length ≤ n)) ls (k + 1) := by rw [hk]
  rw [h2, h1, acc_last ls ls.length k (by omega)]
  unfold sel
  rw [if_pos (decide_eq_true (by omega))]
  simp [hk]

theorem okr_low {r : Int} (a : 0 ≤ r) (b : r < 128) : Okr r := Or.inl ⟨a, b⟩
set_option maxRecDepth 100000 in
/-- What Numbered asks of its five scripts. -/
theorem num_edits (w : World) (ht : Tabs w) (ls : List (List Int)) (h : ∀ l ∈ ls, LineOk l) (h40 : ls.length ≤ 40) (a b : Nat) (ha1 : 1 ≤ a) (ha : a < 100) (hb1 : 1 ≤ b) (hb : b < 100) :
    (Calls Tryz.prog 20 #[.string ⟨#[61]⟩, .string (tx (txtR ls)), .bool false] w fun e w' => e = .returned (.tuple #[.string (tx (txtR (accJ (fun n l => [digR n, l]) ls ls.length))), .bool true]) ∧ Only (fun _ => False) w w') ∧
    (Calls Tryz.prog 20 #[.string (tx (numL2 a b)), .string (tx (txtR ls)), .bool false] w fun e w' => e = .returned (.tuple #[.string (tx (txtR (accJ (sel fun n => insP a b n == true) ls ls.length))), .bool true]) ∧ Only (fun _ => False) w w') ∧
    (Calls Tryz.prog 20 #[.string (tx (numL3 a b)), .string (tx (txtR ls)), .bool false] w fun e w' => e = .returned (.tuple #[.string (tx (txtR (accJ (sel fun n => insP a b n == false) ls ls.length))), .bool true]) ∧ Only (fun _ => False) w w') ∧
    (Calls Tryz.prog 20 #[.string (tx (numL4 a)), .string (tx (txtR ls)), .bool false] w fun e w' => e = .returned (.tuple #[.string (tx (txtR (accJ (sel fun n => decide (n ≤ a)) ls ls.length))), .bool true]) ∧ Only (fun _ => False) w w') ∧
    (Calls Tryz.prog 20 #[.string ⟨#[36, 33, 100]⟩, .string (tx (txtR ls)), .bool false] w fun e w' => e = .returned (.tuple #[.string (tx (txtR (accJ (sel fun n => decide (ls.length ≤ n)) ls ls.length))), .bool true]) ∧ Only (fun _ => False) w w') := by
  have ht1 := textOk_l ht h h40
  have hda := digR_okr ha
  have hdb := digR_okr hb
  have hla := (digR_len a).2
  have hlb := (digR_len b).2
  refine ⟨?_, ?_, ?_, ?_, ?_⟩
  · exact editP ⟨#[61]⟩ _ _ (dec_of (by decide +kernel)) 1 ⟨1, numC1, [], []⟩ walks_num1 (by decide) rfl (by decide) (by decide) (by decide) w _ false _ ht1 _ (fun u eb X g hP hq hlines _ => cycles_num1 u eb X g hP hq ls h h40 hlines _ ⟨rfl, rfl, rfl, rfl, rfl, rfl⟩)
  · have hq : ∀ r ∈ numL2 a b, Okr r := by
      intro r hr
      simp only [numL2, List.mem_append, List.mem_cons, List.not_mem_nil, or_false] at hr
      rcases hr with e | (e | e | e) | e | e | e
      all_goals first | exact hda r e | exact hdb r e | (subst e; exact okr_low (by decide) (by decide))
    exact editP (tx (numL2 a b)) _ _ (dec_tx hq (by simp [numL2]; omega)) 1 ⟨(numL2 a b).length, numC2 a b, [], []⟩ (walks_num2 a b ha ha1 hb hb1) (Adz.peekEnd rfl) rfl (by
      intro c hc
      simp only [numC2, List.mem_cons, List.not_mem_nil, or_false] at hc
      subst hc
      exact (show (Adz.behindKind 100).getD 0 ≠ 4 by decide)) (by simp [numC2]) (by simp [numC2]) w _ false _ ht1 _ (fun u eb X g hP hq hlines hlo => cycles_num2 u eb X g a b ha1 true hP hlo hq ls h h40 hlines _ ⟨rfl, rfl, rfl, rfl, rfl, rfl, rfl⟩)
  · have hq : ∀ r ∈ numL3 a b, Okr r := by
      intro r hr
      simp only [numL3, List.mem_append, List.mem_cons, List.not_mem_nil, or_false] at hr
      rcases hr with e | e | e | e | e
      all_goals first | exact hda r e | exact hdb r e | (subst e; exact okr_low (by decide) (by decide))
    exact editP (tx (numL3 a b)) _ _ (dec_tx hq (by simp [numL3]; omega)) 1 ⟨(numL3 a b).length, numC3 a b, [], []⟩ (walks_num3 a b ha ha1 hb hb1) (Adz.peekEnd rfl) rfl (by
      intro c hc
      simp only [numC3, List.mem_cons, List.not_mem_nil, or_false] at hc
      subst hc
      exact (show (Adz.behindKind 100).getD 0 ≠ 4 by decide)) (by simp [numC3]) (by simp [numC3]) w _ false _ ht1 _ (fun u eb X g hP hq hlines hlo => cycles_num2 u eb X g a b ha1 false hP hlo hq ls h h40 hlines _ ⟨rfl, rfl, rfl, rfl, rfl, rfl, rfl⟩)
  · have hq : ∀ r ∈ numL4 a, Okr r := by
      intro r hr
      simp only [numL4, List.mem_append, List.mem_cons, List.not_mem_nil, or_false] at hr
      rcases hr with e | e
      all_goals first | exact hda r e | (subst e; exact okr_low (by decide) (by decide))
    rw [← acc_first a ls ls.length]
    exact editP (tx (numL4 a)) _ _ (dec_tx hq (by simp [numL4]; omega)) 1 ⟨(numL4 a).length, numC4 a, [], []⟩ (walks_num4 a ha ha1) (Adz.peekEnd rfl) rfl (by
      intro c hc
      simp only [numC4, List.mem_cons, List.not_mem_nil, or_false] at hc
      subst hc
      exact (show (Adz.behindKind 113).getD 0 ≠ 4 by decide)) (by simp [numC4]) (by simp [numC4]) w _ false _ ht1 _ (fun u eb X g hP hq hlines hlo => cycles_num4 u eb X g a ha1 hP hq ls h h40 hlines _ ⟨rfl, rfl, rfl, rfl, rfl, rfl⟩)
  · exact editP ⟨#[36, 33, 100]⟩ _ _ (dec_of (by decide +kernel)) 1 ⟨3, numC5, [], []⟩ walks_num5 (by decide) rfl (by decide) (by decide) (by decide) w _ false _ ht1 _ (fun u eb X g hP hq hlines _ => cycles_num5 u eb X g hP hq ls h h40 hlines _ ⟨rfl, rfl, rfl, rfl, rfl, rfl⟩)
end Go.Proofs.YtbiobhghnldckaaGreatDoor
