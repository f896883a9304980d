/- Proved: texts of ASCII and of the rune that is 195, 169: their bytes, their runes, that they are valid. No condition. -/
import Derived.Test.YtbiobhghnldckaaGreatDoorK9
import Derived.Laws.Cover4
import Derived.Test.YtbiobhghnldckaaGreatDoorK12
import Derived.Deep.AppendLies
import Derived.Deep.RegionWith
namespace Go.Proofs.YtbiobhghnldckaaGreatDoor
open Go.RowKit
set_option linter.unusedVariables false

/-- A rune of the texts: ASCII, or the one that is 195, 169. -/
def Okr (r : Int) : Prop := (0 ≤ r ∧ r < 128) ∨ r = 233
def encR (r : Int) : List UInt8 := if r = 233 then [195, 169] else [UInt8.ofNat r.toNat]
def encL (l : List Int) : List UInt8 := l.flatMap encR
/-- The text of runes. -/
def tx (l : List Int) : ByteArray := ⟨(encL l).toArray⟩
theorem encL_append (a b : List Int) : encL (a ++ b) = encL a ++ encL b := by simp [encL]
theorem encL_cons (r : Int) (l : List Int) : encL (r :: l) = encR r ++ encL l := by simp [encL]
theorem encL_nil : encL [] = [] := rfl
theorem encR_low {r : Int} (h : 0 ≤ r ∧ r < 128) : encR r = [UInt8.ofNat r.toNat] := by
  unfold encR; rw [if_neg (by omega)]
theorem encR_len (r : Int) : 1 ≤ (encR r).length ∧ (encR r).length ≤ 2 := by
  unfold encR; split <;> simp
theorem encL_len : ∀ l : List Int, l.length ≤ (encL l).length ∧ (encL l).length ≤ 2 * l.length
  | [] => by simp [encL]
  | r :: l => by
    have := encL_len l
    have h2 := encR_len r
    rw [encL_cons, List.length_append, List.length_cons]
    omega
theorem encode_ok {r : Int} (h : Okr r) : (Utf8.encode r).data.toList = encR r := by
  rcases h with h | rfl
  · rw [encR_low h]
    unfold Utf8.encode
    have hv : Utf8.valid r = true := by simp [Utf8.valid]; omega
    simp only [hv, if_true]
    rw [if_pos (by omega)]
  · decide +kernel
theorem runesBytes_go : ∀ (l : List Int) (a : ByteArray), (∀ r ∈ l, Okr r) → (l.foldl (fun r n => r ++ Utf8.encode n) a).data.toList = a.data.toList ++ encL l
  | [], a, _ => by simp [encL]
  | r :: l, a, h => by
    rw [List.foldl_cons, runesBytes_go l _ (fun x hx => h x (List.mem_cons_of_mem _ hx)), encL_cons]
    rw [ByteArray.data_append, Array.toList_append, encode_ok (h r (by simp))]
    simp
theorem ba_ext2 {a b : ByteArray} (h : a.data.toList = b.data.toList) : a = b := by
  obtain ⟨⟨a⟩⟩ := a
  obtain ⟨⟨b⟩⟩ := b
  simp at h
  rw [h]
theorem runesBytes_ok {l : List Int} (h : ∀ r ∈ l, Okr r) : runesBytes l = tx l := by
  apply ba_ext2
  unfold runesBytes
  rw [runesBytes_go l _ h]
  show [] ++ encL l = (encL l).toArray.toList
  simp
theorem get_list (s : ByteArray) (i : Nat) : s.get! i = (s.data.toList[i]?).getD 0 := by
  obtain ⟨⟨l⟩⟩ := s
  show (⟨l⟩ : Array UInt8)[i]! = _
  rw [getElem!_def]
  simp only [List.getElem?_toArray]
  cases l[i]? <;> rfl
theorem decode_ok (s : ByteArray) (A B : List UInt8) (r : Int) (h : Okr r) (hs : s.data.toList = A ++ (encR r ++ B)) : Utf8.decode s A.length = (r.toNat, (encR r).length) := by
  have hsz : s.size = A.length + ((encR r).length + B.length) := by
    have : s.size = s.data.toList.length := Array.length_toList.symm
    rw [this, hs, List.length_append, List.length_append]
  unfold Utf8.decode
  simp only [get_list, hs, Nat.add_zero]
  rcases h with h | rfl
  · rw [encR_low h] at *
    have e0 : ((A ++ ([UInt8.ofNat r.toNat] ++ B))[A.length]?).getD 0 = UInt8.ofNat r.toNat := by simp
    rw [e0]
    have e1 : (UInt8.ofNat r.toNat).toNat = r.toNat := by simp; omega
    rw [e1, if_pos (by omega)]
    rfl
  · have er : encR 233 = [195, 169] := by decide
    rw [er] at hsz
    rw [er] at hs ⊢
    have e0 : ((A ++ ([(195 : UInt8), 169] ++ B))[A.length]?).getD 0 = 195 := by simp
    have e1 : ((A ++ ([(195 : UInt8), 169] ++ B))[A.length + 1]?).getD 0 = 169 := by
      rw [List.getElem?_append_right (by omega)]
      simp
    rw [e0, e1]
    have h2 : A.length + 1 < s.size := by rw [hsz]; simp; omega
    simp [h2]
theorem tx_list (l : List Int) : (tx l).data.toList = encL l := by simp [tx]
theorem tx_size (l : List Int) : (tx l).size = (encL l).length := by rw [← tx_list, Array.length_toList]; rfl
theorem simple_ok : ∀ (l : List Int), (∀ r ∈ l, Okr r) → simple (encL l) = true
  | [], _ => rfl
  | r :: l, h => by
    have ih := simple_ok l (fun x hx => h x (List.mem_cons_of_mem _ hx))
    rw [encL_cons]
    rcases h r (by simp) with e | rfl
    · rw [encR_low e]
      have e1 : (UInt8.ofNat r.toNat).toNat = r.toNat := by simp; omega
      have ne : UInt8.ofNat r.toNat ≠ 195 := fun he => by rw [he] at e1; simp at e1; omega
      show simple (UInt8.ofNat r.toNat :: encL l) = true
      rw [simple.eq_def]
      split
      · rfl
      · rename_i e2; injection e2 with e2 _; exact absurd e2 ne
      · rename_i e2
        injection e2 with e2 e3
        subst e2; subst e3
        rw [ih, e1]
        simp; omega
    · show simple (195 :: 169 :: encL l) = true
      rw [simple.eq_def]
      exact ih
theorem mem10 {l : List Int} (h : ∀ r ∈ l, Okr r) (h10 : (10 : Int) ∉ l) : (10 : UInt8) ∉ encL l := by
  intro hm
  obtain ⟨r, hr, hb⟩ := List.mem_flatMap.1 hm
  rcases h r hr with e | rfl
  · rw [encR_low e] at hb
    have hb : (10 : UInt8) = UInt8.ofNat r.toNat := by simpa using hb
    have e1 : (UInt8.ofNat r.toNat).toNat = r.toNat := by simp; omega
    rw [← hb] at e1
    have : r = 10 := by simp at e1; omega
    exact h10 (this ▸ hr)
  · have hb : (10 : UInt8) ∈ [195, 169] := hb
    simp at hb
end Go.Proofs.YtbiobhghnldckaaGreatDoor

/- Proved: texts of ASCII and of the rune that is 195, 169: their runes; such a line is short. No condition. -/
namespace Go.Proofs.YtbiobhghnldckaaGreatDoor
open Go.RowKit
set_option linter.unusedVariables false

theorem runesGo_ok (s : ByteArray) : ∀ (l : List Int) (A : List UInt8) (b : Nat), (∀ r ∈ l, Okr r) → s.data.toList = A ++ encL l → l.length ≤ b → Adz.runesGo s b A.length = l
  | [], A, b, _, hs, _ => by
    have hsz : s.size = A.length := by
      have : s.size = s.data.toList.length := Array.length_toList.symm
      rw [this, hs]; simp [encL]
    cases b with
    | zero => rfl
    | succ b => unfold Adz.runesGo; rw [if_neg (by omega)]
  | r :: l, A, 0, _, _, hb => by simp at hb
  | r :: l, A, b + 1, h, hs, hb => by
    rw [encL_cons] at hs
    have hsz : s.size = A.length + ((encR r).length + (encL l).length) := by
      have : s.size = s.data.toList.length := Array.length_toList.symm
      rw [this, hs, List.length_append, List.length_append]
    have h1 := (encR_len r).1
    have hr := h r (by simp)
    have h0 : 0 ≤ r := by rcases hr with e | e <;> omega
    unfold Adz.runesGo
    rw [if_pos (by omega), decode_ok s A (encL l) r hr hs]
    have ih := runesGo_ok s l (A ++ encR r) b (fun x hx => h x (List.mem_cons_of_mem _ hx)) (by rw [hs, List.append_assoc]) (by simpa using hb)
    rw [List.length_append] at ih
    rw [ih]
    congr 1
    simp; omega
theorem runes_ok {l : List Int} (h : ∀ r ∈ l, Okr r) : Adz.runes (tx l) = l := by
  unfold Adz.runes
  exact runesGo_ok (tx l) l [] _ h (by rw [tx_list]; rfl) (by rw [tx_size]; exact (encL_len l).1)
theorem short_tx {l : List Int} (h : ∀ r ∈ l, Okr r) (hl : l.length ≤ 400) : Short (tx l) :=
  ⟨by rw [tx_size]; have := (encL_len l).2; omega, by rw [runes_ok h]; exact hl, by rw [runes_ok h]; exact runesBytes_ok h⟩
end Go.Proofs.YtbiobhghnldckaaGreatDoor

/- Proved: adzekeep.line makes a text of at most eight runes of its own sixteen. Condition: the number is an int. -/
namespace Go.Proofs.YtbiobhghnldckaaGreatDoor
open Go.RowKit
set_option linter.unusedVariables false

set_option maxRecDepth 100000 in
set_option maxHeartbeats 1600000 in
theorem pick_any (c : Int) (n : Nat) (w : World) (hc : -9223372036854775808 ≤ c ∧ c ≤ 9223372036854775807) (hn : 0 < n) (hn2 : n ≤ 4294967296) :
    Calls Tryz.prog 22 #[.int .i64 c, .int .i64 n] w fun e w' => ∃ r : Nat, e = .returned (.int .i64 r) ∧ r < n ∧ w' = w := by
  have hn0 : (n : Int) ≠ 0 := by omega
  have key : ∀ a : Int, 0 ≤ a → ∃ r : Nat, a.tmod n = r ∧ r < n := fun a ha => by
    have h1 := Int.tmod_nonneg (n : Int) ha
    have h2 := Int.tmod_lt_of_pos a (show (0 : Int) < n by omega)
    exact ⟨(a.tmod n).toNat, by omega, by omega⟩
  by_cases h0 : c < 0
  · have w1 : IntKind.i64.wrap (c + 1) = c + 1 := by rw [IntKind.wrap_i64]; omega
    have w2 : IntKind.i64.wrap (-(c + 1)) = -(c + 1) := by rw [IntKind.wrap_i64]; omega
    obtain ⟨r, hr, hr2⟩ := key (-(c + 1)) (by omega)
    have w3 : IntKind.i64.wrap ((-(c + 1)).tmod n) = r := by rw [hr, IntKind.wrap_i64]; omega
    go_enter Tryz.func22, Tryz.ntmps22
    go_wp2
    go_ret
    exact ⟨r, rfl, hr2, rfl⟩
  · obtain ⟨r, hr, hr2⟩ := key c (by omega)
    have w3 : IntKind.i64.wrap (c.tmod n) = r := by rw [hr, IntKind.wrap_i64]; omega
    go_enter Tryz.func22, Tryz.ntmps22
    go_wp2
    go_ret
    exact ⟨r, rfl, hr2, rfl⟩

/-- The runes that a line is made of. -/
def alpha : List Int := [97, 98, 99, 97, 233, 32, 47, 92, 38, 46, 42, 91, 93, 94, 36, 49]
/-- .. as texts. -/
def alphaS : List ByteArray := [⟨#[97]⟩, ⟨#[98]⟩, ⟨#[99]⟩, ⟨#[97]⟩, ⟨#[195, 169]⟩, ⟨#[32]⟩, ⟨#[47]⟩, ⟨#[92]⟩, ⟨#[38]⟩, ⟨#[46]⟩, ⟨#[42]⟩, ⟨#[91]⟩, ⟨#[93]⟩, ⟨#[94]⟩, ⟨#[36]⟩, ⟨#[49]⟩]
theorem alpha_tx : alphaS = alpha.map fun r => tx [r] := by decide +kernel
theorem alpha_ok : ∀ r ∈ alpha, Okr r := by
  intro r hr
  simp [alpha] at hr
  unfold Okr
  omega
theorem tx_append (a b : List Int) : tx a ++ tx b = tx (a ++ b) := by
  apply ba_ext2
  rw [ByteArray.data_append, Array.toList_append, tx_list, tx_list, tx_list, encL_append]

set_option maxRecDepth 100000 in
set_option maxHeartbeats 1600000 in
theorem line_calls (c : Int) (w : World) (hc : -9223372036854775808 ≤ c ∧ c ≤ 9223372036854775807) :
    Calls Tryz.prog 21 #[.int .i64 c] w fun e w' => ∃ l : List Int, e = .returned (.string (tx l)) ∧ (∀ r ∈ l, r ∈ alpha) ∧ l.length ≤ 8 ∧ Only (fun _ => False) w w' := by
  go_enter Tryz.func21, Tryz.ntmps21
  go_wp2_with fail
  refine (pick_any c 1073741824 w hc (by omega) (by omega)).mono ?_
  rintro e w1 ⟨m, rfl, hm, rfl⟩
  go_wp2_with fail
  go_loopg [0, 3] 8 (fun k a b wr => ∃ (n : Nat) (l : List Int), a = .int .i64 n ∧ b = .string (tx l) ∧ Hid (n < 16 ^ k ∧ (∀ r ∈ l, r ∈ alpha) ∧ l.length + k = 8 ∧ Only (fun _ => False) w1 wr))
  case atStart => exact ⟨m, [], rfl, rfl, ⟨by have : (16 : Nat) ^ 8 = 4294967296 := by decide
                                              omega, by simp, rfl, Only.refl _ _⟩⟩
  case round =>
    obtain ⟨n, l, rfl, rfl, H⟩ := hrel
    by_cases h0 : 0 < n
    · obtain ⟨k, rfl⟩ : ∃ k, gk = k + 1 := by
        cases gk with
        | zero => have := H.out.1; simp at this; omega
        | succ k => exact ⟨k, rfl⟩
      have hnk : n / 16 < 16 ^ k := by
        have := H.out.1
        rw [Nat.pow_succ] at this
        exact Nat.div_lt_of_lt_mul (by omega)
      have hnb : n < 4294967296 := by
        have h1 := H.out.1
        have h2 : (16 : Nat) ^ (k + 1) ≤ 16 ^ 8 := Nat.pow_le_pow_right (by omega) (by have := H.out.2.2.1; omega)
        have h3 : (16 : Nat) ^ 8 = 4294967296 := by decide
        omega
      have hj16 : n % 16 < 16 := Nat.mod_lt _ (by omega)
      obtain ⟨r, hr⟩ : ∃ r, alpha[n % 16]? = some r := ⟨alpha[n % 16]'(by simpa [alpha] using hj16), List.getElem?_eq_getElem _⟩
      have hra : r ∈ alpha := List.mem_of_getElem? hr
      have hcell : (wr.alloc (.cells (alphaS.map Value.string).toArray 9)).cell? ⟨wr.heap.size, n % 16, none⟩ = some (.string (tx [r])) := by
        refine (Cells.new wr (alphaS.map Value.string).toArray 9 (n % 16) _ ?_).1
        rw [alpha_tx]
        simp [hr]
      have wq : IntKind.i64.wrap ((n : Int).tdiv 16) = ((n / 16 : Nat) : Int) := by
        rw [Int.tdiv_eq_ediv_of_nonneg (by omega), IntKind.wrap_i64]; omega
      have d0 : (0 : Int) < (n : Int) := by omega
      have hl8 : l.length ≤ 8 := by have := H.out.2.2.1; omega
      have e1 := tx_append l [r]
      have hsz : (tx (l ++ [r])).size ≤ 100 := by
        rw [tx_size]
        have := (encL_len (l ++ [r])).2
        simp at this
        simp; omega
      have hs1 : (tx l).size ≤ 100 := by
        rw [tx_size]
        have := (encL_len l).2
        omega
      have hs2 : (tx [r]).size ≤ 100 := by
        rw [tx_size]
        have := (encL_len [r]).2
        simp at this
        omega
      have HO : Hid (Only (fun _ => False) w1 (wr.alloc (.cells (alphaS.map Value.string).toArray 9))) := H.out.2.2.2.alloc _
      have HA : Hid ((∀ x ∈ l, x ∈ alpha) ∧ l.length + (k + 1) = 8) := ⟨H.out.2.1, H.out.2.2.1⟩
      clear H hr
      have hv : (alphaS.map Value.string).toArray = #[.string ⟨#[97]⟩, .string ⟨#[98]⟩, .string ⟨#[99]⟩, .string ⟨#[97]⟩, .string ⟨#[195, 169]⟩, .string ⟨#[32]⟩, .string ⟨#[47]⟩, .string ⟨#[92]⟩, .string ⟨#[38]⟩, .string ⟨#[46]⟩, .string ⟨#[42]⟩, .string ⟨#[91]⟩, .string ⟨#[93]⟩, .string ⟨#[94]⟩, .string ⟨#[36]⟩, .string ⟨#[49]⟩] := rfl
      rw [hv] at hcell HO
      clear hv
      generalize hX : tx (l ++ [r]) = X at *
      generalize tx [r] = Y at *
      go_wp2
      go_roundg k
      case measure => omega
      case rel => exact ⟨n / 16, l ++ [r], rfl, by rw [hX], ⟨hnk, fun x hx => by
        rcases List.mem_append.1 hx with h | h
        · exact HA.out.1 x h
        · rw [List.mem_singleton.1 h]; exact hra, by have := HA.out.2; simp; omega, HO.out⟩⟩
    · have d0 : ¬ ((0 : Int) < (n : Int)) := by omega
      have HL : Hid (l.length ≤ 8) := by have := H.out.2.2.1; exact (by omega : l.length ≤ 8)
      go_wp2
      go_ret
      exact ⟨l, rfl, H.out.2.1, HL.out, H.out.2.2.2⟩
end Go.Proofs.YtbiobhghnldckaaGreatDoor

/- Proved: adzekeep.lines makes at most forty such lines of raw numbers, and their text. Condition: the raw numbers lie in memory. -/
namespace Go.Proofs.YtbiobhghnldckaaGreatDoor
open Go.RowKit
set_option linter.unusedVariables false

theorem row_cell {w : World} {base : Nat} {T : TypeId} {a : Option Addr} {n c : Nat} {xs : List Value} (h : w.ownsRow base T 1 (.slice a n c) n xs) (hn : 0 < n) : ∃ g, a = some ⟨g, 0, none⟩ ∧ base ≤ g ∧ Typ w g T ∧ ∀ k v, xs[k]? = some v → w.cell? ⟨g, k, none⟩ = some v := by
  rcases h.2 with ⟨_, e⟩ | ⟨g, cap, cur, hv, hb, hg, _, _, hsz, htake⟩
  · omega
  · injection hv with e1 e2 e3
    refine ⟨g, e1, hb, ⟨cur, (0, 0), hg⟩, fun k v hk => ?_⟩
    rw [cell_of_row _ g k cur _ (0, 0) hg]
    rw [← htake, List.getElem?_take] at hk
    split at hk
    · rw [Array.getElem?_toList] at hk; exact hk
    · cases hk

theorem row_at {w : World} {base : Nat} {T : TypeId} {g n c : Nat} {xs : List Value} (h : w.ownsRow base T 1 (.slice (some ⟨g, 0, none⟩) n c) n xs) (k : Nat) (v : Value) (hk : xs[k]? = some v) : w.cell? ⟨g, k, none⟩ = some v := by
  have hl := h.1
  rcases Nat.eq_zero_or_pos n with e | e
  · subst e
    have : xs = [] := List.eq_nil_of_length_eq_zero (by simpa using hl)
    subst this
    simp at hk
  · obtain ⟨g', e1, _, _, hc⟩ := row_cell h e
    injection e1 with e1
    injection e1 with e1
    subst e1
    exact hc k v hk

/-- Raw numbers, as they lie in memory. -/
structure RawAt (w : World) (a : Option Addr) (zs : List Int) : Prop where
  cell : ∀ k (hk : k < zs.length), ∃ b o, a = some ⟨b, o, none⟩ ∧ w.cell? ⟨b, o + k, none⟩ = some (.int .i64 zs[k])
  ok : ∀ z ∈ zs, -9223372036854775808 ≤ z ∧ z ≤ 9223372036854775807
theorem RawAt.keeps {w w' : World} {a : Option Addr} {zs : List Int} (h : RawAt w a zs) (o : Only (fun _ => False) w w') : RawAt w' a zs :=
  ⟨fun k hk => by obtain ⟨b, off, e, hc⟩ := h.cell k hk; exact ⟨b, off, e, o.keeps hc id⟩, h.ok⟩
/-- A line as adzekeep.line makes it. -/
def LineOk (l : List Int) : Prop := (∀ r ∈ l, r ∈ alpha) ∧ l.length ≤ 8
/-- The runes of lines, each with its end. -/
def txtR (ls : List (List Int)) : List Int := ls.flatMap fun l => l ++ [10]
theorem txtR_snoc (ls : List (List Int)) (l : List Int) : txtR (ls ++ [l]) = txtR ls ++ (l ++ [10]) := by simp [txtR]
theorem txtR_len : ∀ (ls : List (List Int)), (∀ l ∈ ls, LineOk l) → (txtR ls).length ≤ 9 * ls.length
  | [], _ => by simp [txtR]
  | l :: ls, h => by
    have ih := txtR_len ls (fun x hx => h x (List.mem_cons_of_mem _ hx))
    have h1 := (h l (by simp)).2
    simp only [txtR, List.flatMap_cons, List.length_append, List.length_cons, List.length_nil] at ih ⊢
    omega
theorem tx_bound (l : List Int) (n : Nat) (h : l.length ≤ n) : (tx l).size ≤ 2 * n := by
  rw [tx_size]; have := (encL_len l).2; omega
theorem infoStr : (Tryz.prog.info? 9).map (fun i => (i.zero, i.size, i.bytes)) = some (some (.string ⟨#[]⟩), 1, 16) := by kernel_rfl

set_option maxRecDepth 100000 in
set_option maxHeartbeats 1600000 in
theorem lines_calls (a : Option Addr) (cap : Nat) (zs : List Int) (w : World) (hr : RawAt w a zs) (hzn : zs.length ≤ 9223372036854775807) :
    Calls Tryz.prog 19 #[.slice a zs.length cap] w fun e w' => ∃ (ls : List (List Int)) (v : Value), e = .returned (.tuple #[v, .string (tx (txtR ls))]) ∧ w'.ownsRow w.heap.size 9 1 v ls.length (ls.map fun l => .string (tx l)) ∧ (∀ l ∈ ls, LineOk l) ∧ ls.length ≤ 40 ∧ Only (fun _ => False) w w' := by
  obtain ⟨i0, hi, hz0, hz1, hz2⟩ := info_parts infoStr
  go_enter Tryz.func19, Tryz.ntmps19
  go_wp2_with fail
  go_loopg [4, 5, 6] 40 (fun k lv sv iv wr => ∃ ls : List (List Int), sv = .string (tx (txtR ls)) ∧ iv = .int .i64 ls.length ∧ ls.length ≤ 40 ∧ ls.length ≤ zs.length ∧ Hid (ls.length + k = 40 ∧ wr.ownsRow w.heap.size 9 1 lv ls.length (ls.map fun l => .string (tx l)) ∧ (∀ l ∈ ls, LineOk l) ∧ Only (fun _ => False) w wr))
  case atStart => exact ⟨[], rfl, rfl, by simp, by simp, ⟨rfl, World.ownsRow_nil _ _ _ _, by simp, Only.refl _ _⟩⟩
  case round =>
    obtain ⟨ls, rfl, rfl, h40, hlz, H⟩ := hrel
    by_cases hgo : ls.length < zs.length ∧ ls.length < 40
    · obtain ⟨g1, g2⟩ := hgo
      have d1 : (ls.length : Int) < (zs.length : Int) := by omega
      have d2 : (ls.length : Int) < 40 := by omega
      have d1' : decide ((ls.length : Int) < (zs.length : Int)) = true := by simp; omega
      obtain ⟨ca, cc, rfl⟩ := row_shape H.out.2.1
      obtain ⟨b, o, rfl, hcell⟩ := (hr.keeps H.out.2.2.2).cell ls.length g1
      have hz := hr.ok zs[ls.length] (List.getElem_mem g1)
      have hln := line_calls zs[ls.length] wr hz
      generalize zs[ls.length] = z at *
      go_wp2_with fail
      refine hln.mono ?_
      clear hln
      rintro e w1 ⟨l, rfl, hl1, hl2, o1⟩
      have hown := row_keeps H.out.2.1 o1 (fun _ _ => id)
      have oa : Only (fun _ => False) w1 (w1.alloc (.cells #[.string (tx l)] 9)) := (Only.refl _ w1).alloc _
      have ga := row_keeps hown oa (fun _ _ => id)
      have hblk := heap_alloc_new w1 (.cells #[.string (tx l)] 9)
      have hwz : w.heap.size ≤ w1.heap.size := Nat.le_trans H.out.2.2.2.size o1.size
      have hsz1 := tx_bound (txtR ls) 360 (by have := txtR_len ls H.out.2.2.1; omega)
      have hsz2 := tx_bound l 8 hl2
      have e1 := tx_append (txtR ls) l
      have e2 : tx (txtR ls ++ l) ++ ⟨#[10]⟩ = tx (txtR (ls ++ [l])) := by
        rw [txtR_snoc, ← List.append_assoc]
        exact tx_append (txtR ls ++ l) [10]
      have hsz3 := tx_bound (txtR ls ++ l) 368 (by have := txtR_len ls H.out.2.2.1; rw [List.length_append]; omega)
      have hsz4 : (tx (txtR (ls ++ [l]))).size ≤ 800 := by
        have := tx_bound (txtR (ls ++ [l])) 369 (by rw [txtR_snoc]; have := txtR_len ls H.out.2.2.1; simp; omega)
        omega
      have hw6 : IntKind.i64.wrap ((ls.length : Int) + 1) = (ls.length : Int) + 1 := by rw [IntKind.wrap_i64]; omega
      generalize hT0 : tx (txtR ls) = T0 at *
      generalize hT1 : tx (txtR ls ++ l) = T1 at *
      generalize hT2 : tx (txtR (ls ++ [l])) = T2 at *
      generalize hT3 : tx l = T3 at *
      go_wp2_with (at_builtin; refine wpList_append_lies _ (by rfl) _ _ _ (by rfl) w.heap.size 9 i0 _ 1 16 Tryz.underlying37 hi hz0 hz1 hz2 rfl (by omega) (.slice ca ls.length cc) ls.length (ls.map fun l => .string (tx l)) (by rfl) ga ⟨w1.heap.size, 0, none⟩ 1 1 [.string T3] (by rfl) (by rfl) (World.news_of_block (cs := #[.string T3]) (t := 9) (fr := (0, 0)) hblk) (by simp [Value.oneCell']) (by omega) (by unfold maxLen; omega) (by omega) (by simp only [World.size_alloc]; omega) (w1.heap.size + 1) (by simp) ?_; intro g cap2 w2 hown2 hgrow hat hlt2; have hc2 : w2.cell? ⟨g, ls.length, none⟩ = some (.string T3) := row_at hown2 ls.length _ (by simp))
      have oA : Only (fun _ => False) w w2 := by
        have h1 := H.out.2.2.2.trans (o1.trans oa (fun _ e => e) (fun _ _ e => e)) (fun _ e => e) (fun _ _ e => e)
        refine h1.trans (Only.of_grown hgrow) (fun _ e => e) (fun b hb e => ?_)
        have := (H.out.2.1.lt b e).1
        omega
      go_roundg (gk - 1)
      case measure => have := H.out.1; omega
      case rel => exact ⟨ls ++ [l], by rw [hT2], by simp, by simp; omega, by simp; omega, ⟨by have := H.out.1; simp; omega, by
        have e3 : (ls ++ [l]).map (fun l => Value.string (tx l)) = ls.map (fun l => Value.string (tx l)) ++ [.string T3] := by rw [List.map_append, ← hT3]; rfl
        rw [e3, List.length_append]; exact hown2, fun x hx => by
        rcases List.mem_append.1 hx with h | h
        · exact H.out.2.2.1 x h
        · rw [List.mem_singleton.1 h]; exact ⟨hl1, hl2⟩, oA⟩⟩
    · have d12 : (decide ((ls.length : Int) < (zs.length : Int)) = true ∧ ¬ ((ls.length : Int) < 40)) ∨ decide ((ls.length : Int) < (zs.length : Int)) = false := by
        by_cases h : ls.length < zs.length
        · exact Or.inl ⟨by simp; omega, by omega⟩
        · exact Or.inr (by simp; omega)
      obtain ⟨ca, cc, rfl⟩ := row_shape H.out.2.1
      rcases d12 with ⟨d1, d2⟩ | d1
      · have d1' := of_decide_eq_true d1
        go_wp2
        go_ret2
        exact ⟨ls, _, rfl, H.out.2.1, H.out.2.2.1, h40, H.out.2.2.2⟩
      · have d1' := of_decide_eq_false d1
        go_wp2
        go_ret2
        exact ⟨ls, _, rfl, H.out.2.1, H.out.2.2.1, h40, H.out.2.2.2⟩
end Go.Proofs.YtbiobhghnldckaaGreatDoor

/- Proved: a text that is lines, each with its end, is parted into them. Conditions: no line holds a line's end. -/
namespace Go.Proofs.YtbiobhghnldckaaGreatDoor
open Go.RowKit
set_option linter.unusedVariables false

theorem index10_none : ∀ (l : List UInt8), (10 : UInt8) ∉ l → Lib.index l [10] = -1
  | [], _ => rfl
  | b :: l, h => by
    have h1 : b ≠ 10 := fun e => h (by rw [e]; simp)
    have h2 := index10_none l (fun e => h (List.mem_cons_of_mem _ e))
    have hp : ([(10 : UInt8)].isPrefixOf (b :: l)) = false := by simp [List.isPrefixOf, Ne.symm h1]
    unfold Lib.index
    rw [hp, h2]
    rfl
theorem index10_at : ∀ (l t : List UInt8), (10 : UInt8) ∉ l → Lib.index (l ++ 10 :: t) [10] = l.length
  | [], t, _ => by simp [Lib.index, List.isPrefixOf]
  | b :: l, t, h => by
    have h1 : b ≠ 10 := fun e => h (by rw [e]; simp)
    have h2 := index10_at l t (fun e => h (List.mem_cons_of_mem _ e))
    have hp : ([(10 : UInt8)].isPrefixOf (b :: (l ++ 10 :: t))) = false := by simp [List.isPrefixOf, Ne.symm h1]
    show Lib.index (b :: (l ++ 10 :: t)) [10] = _
    unfold Lib.index
    rw [hp, h2]
    have : ((l.length : Int) == -1) = false := by simp
    simp [this]

/-- Lines, with their ends between them. -/
def joinL : List ByteArray → List UInt8
  | [] => []
  | [l] => l.data.toList
  | l :: ls => l.data.toList ++ 10 :: joinL ls
theorem ba_ext {a b : ByteArray} (h : a.data.toList = b.data.toList) : a = b := by
  obtain ⟨⟨a⟩⟩ := a
  obtain ⟨⟨b⟩⟩ := b
  simp at h
  rw [h]
theorem join_split : ∀ (ls : List ByteArray), ls ≠ [] → (∀ l ∈ ls, (10 : UInt8) ∉ l.data.toList) → Lib.countB ⟨(joinL ls).toArray⟩ ⟨#[10]⟩ + 1 = ls.length ∧ Lib.splitB ⟨#[10]⟩ 0 (Lib.countB ⟨(joinL ls).toArray⟩ ⟨#[10]⟩) ⟨(joinL ls).toArray⟩ = ls
  | [], h, _ => absurd rfl h
  | [l], _, h => by
    have hi : Lib.indexB ⟨(joinL [l]).toArray⟩ ⟨#[10]⟩ = -1 := index10_none _ (h l (by simp))
    rw [Lib.countB_miss _ _ hi]
    exact ⟨rfl, by rw [Lib.splitB_zero]; exact congrArg (fun x => [x]) (ba_ext rfl)⟩
  | l :: l2 :: ls, _, h => by
    obtain ⟨h1, h2⟩ := join_split (l2 :: ls) (by simp) (fun x hx => h x (List.mem_cons_of_mem _ hx))
    have hi : Lib.indexB ⟨(joinL (l :: l2 :: ls)).toArray⟩ ⟨#[10]⟩ = (l.data.toList.length : Nat) := index10_at _ _ (h l (by simp))
    have hsz : (⟨(joinL (l :: l2 :: ls)).toArray⟩ : ByteArray).size = (joinL (l :: l2 :: ls)).length := by simp [ByteArray.size]
    have hz : (⟨#[10]⟩ : ByteArray).size = 1 := rfl
    have e1 : (⟨(joinL (l :: l2 :: ls)).toArray⟩ : ByteArray).extract (l.data.toList.length + (⟨#[10]⟩ : ByteArray).size) (⟨(joinL (l :: l2 :: ls)).toArray⟩ : ByteArray).size = ⟨(joinL (l2 :: ls)).toArray⟩ := by
      apply ba_ext
      rw [extract_list, hz]
      show (l.data.toList ++ 10 :: joinL (l2 :: ls)).drop (l.data.toList.length + 1) = _
      simp [List.drop_append]
    have e2 : (⟨(joinL (l :: l2 :: ls)).toArray⟩ : ByteArray).extract 0 (l.data.toList.length + 0) = l := by
      apply ba_ext
      rw [Lib.extract_from_zero, Nat.add_zero]
      show (l.data.toList ++ 10 :: joinL (l2 :: ls)).take l.data.toList.length = _
      simp
    have hc := Lib.countB_hit _ ⟨#[10]⟩ _ (by rw [hz]; omega) hi
    rw [e1] at hc
    rw [hc, Nat.add_comm 1, Lib.splitB_hit _ _ _ _ _ hi, e1, e2, h2]
    exact ⟨by simp only [List.length_cons] at h1 ⊢; omega, rfl⟩
end Go.Proofs.YtbiobhghnldckaaGreatDoor

/- Proved: edit.split of a text that is lines. Conditions: no line holds a line's end; what bytealg.MaxLen's cell holds is an int. -/
namespace Go.Proofs.YtbiobhghnldckaaGreatDoor
open Go.RowKit
set_option linter.unusedVariables false

set_option maxRecDepth 100000 in
set_option maxHeartbeats 1600000 in
theorem split_many (s : ByteArray) (ls : List ByteArray) (hne : ls ≠ []) (hno : ∀ l ∈ ls, (10 : UInt8) ∉ l.data.toList) (htrim : Lib.trimSuffix s.data.toList [10] = joinL ls) (h0 : 0 < s.size) (hs : s.size ≤ 3000) (w : World) (ht : Tabs w) :
    Calls Tryz.prog 43 #[.string s] w fun e w' => ∃ la lc, e = .returned (.slice la ls.length lc) ∧ NewLines w' la ls ∧ Only (fun _ => False) w w' := by
  obtain ⟨m, hm⟩ := ht.m
  obtain ⟨j1, j2⟩ := join_split ls hne hno
  have hlen : (joinL ls).length ≤ s.size := by
    have hl : s.data.toList.length = s.size := Array.length_toList
    rw [← htrim, ← hl]
    unfold Lib.trimSuffix
    split
    · rw [List.length_take]
      exact Nat.min_le_right _ _
    · exact Nat.le_refl _
  have hne2 : s.toList.isEmpty = false := by
    rw [Lib.toList_data]
    cases hd : s.data.toList with
    | nil => have : s.data.toList.length = s.size := Array.length_toList; rw [hd] at this; simp at this; omega
    | cons b t => rfl
  have c1 := Tryz.strings_TrimSuffix s ⟨#[10]⟩ w (by omega)
  have e1 : (⟨(Lib.trimSuffix s.data.toList (⟨#[10]⟩ : ByteArray).data.toList).toArray⟩ : ByteArray) = ⟨(joinL ls).toArray⟩ := congrArg (fun x : List UInt8 => (⟨x.toArray⟩ : ByteArray)) htrim
  rw [e1] at c1
  have hsz : (⟨(joinL ls).toArray⟩ : ByteArray).size ≤ 3000 := by simp [ByteArray.size]; omega
  have c2 := Tryz.strings_Split ⟨(joinL ls).toArray⟩ ⟨#[10]⟩ m w (by omega) hm (by decide)
  rw [j2, j1] at c2
  generalize (⟨(joinL ls).toArray⟩ : ByteArray) = jl at *
  have hcells := Cells.new w (ls.map Value.string).toArray 9
  have HN : Hid (NewLines (w.alloc (.cells (ls.map Value.string).toArray 9)) (some ⟨w.heap.size, 0, none⟩) ls) := by
    refine Or.inr ⟨w.heap.size, rfl, by simp, fun k hk => (hcells k _ ?_).1⟩
    rw [List.getElem?_map, List.getElem?_eq_getElem hk]
    rfl
  clear e1 hcells j1 j2 htrim hno
  go_enter Tryz.func43, Tryz.ntmps43
  go_wp2_with fail
  refine c1.mono ?_
  rintro e w1 ⟨rfl, rfl⟩
  go_wp2_with fail
  refine c2.mono ?_
  rintro e w2 ⟨rfl, rfl⟩
  go_wp2
  go_ret
  exact ⟨_, _, rfl, HN.out, (Only.refl _ _).alloc _⟩

set_option maxRecDepth 100000 in
set_option maxHeartbeats 800000 in
theorem split_none (w : World) :
    Calls Tryz.prog 43 #[.string ⟨#[]⟩] w fun e w' => ∃ la lc, e = .returned (.slice la ([] : List ByteArray).length lc) ∧ NewLines w' la [] ∧ Only (fun _ => False) w w' := by
  go_enter Tryz.func43, Tryz.ntmps43
  go_wp2
  go_ret
  exact ⟨none, 0, rfl, Or.inl rfl, Only.refl _ _⟩

/-- Lines, each with its end. -/
def txt : List ByteArray → List UInt8
  | [] => []
  | l :: ls => l.data.toList ++ 10 :: txt ls
theorem txt_join : ∀ (ls : List ByteArray), ls ≠ [] → txt ls = joinL ls ++ [10]
  | [], h => absurd rfl h
  | [l], _ => rfl
  | l :: l2 :: ls, _ => by
    show l.data.toList ++ 10 :: txt (l2 :: ls) = (l.data.toList ++ 10 :: joinL (l2 :: ls)) ++ [10]
    rw [txt_join (l2 :: ls) (by simp)]
    simp
theorem trim_txt (ls : List ByteArray) (h : ls ≠ []) : Lib.trimSuffix (txt ls) [10] = joinL ls := by
  rw [txt_join ls h]
  unfold Lib.trimSuffix
  have : Lib.hasSuffix (joinL ls ++ [10]) [10] = true := by simp [Lib.hasSuffix]
  rw [this]
  simp
theorem txt_outs : ∀ (ls : List ByteArray) (out : List UInt8), Adz.outs out ls = out ++ txt ls
  | [], out => by simp [Adz.outs, txt]
  | l :: ls, out => by
    show Adz.outs ((out ++ l.data.toList) ++ [10]) ls = out ++ (l.data.toList ++ 10 :: txt ls)
    rw [txt_outs ls]
    simp
end Go.Proofs.YtbiobhghnldckaaGreatDoor

/- Proved: utf8.ValidString of any text of ASCII and of one other rune (195, 169). Conditions: what three places of the library's tables hold. -/
namespace Go.Proofs.YtbiobhghnldckaaGreatDoor
open Go.RowKit
set_option linter.unusedVariables false

def wordOf (r : ByteArray) : Nat := word8 (byteAt r 0) (byteAt r 1) (byteAt r 2) (byteAt r 3) (byteAt r 4) (byteAt r 5) (byteAt r 6) (byteAt r 7)
theorem wordOf_lt (r : ByteArray) : wordOf r < 18446744073709551616 := word8_lt (byteAt_lt r 0) (byteAt_lt r 1) (byteAt_lt r 2) (byteAt_lt r 3) (byteAt_lt r 4) (byteAt_lt r 5) (byteAt_lt r 6) (byteAt_lt r 7)
theorem wordOf_low {r : ByteArray} (h : wordOf r &&& mask8 = 0) (i : Nat) (hi : i < 8) : byteAt r i < 128 := by
  have hlo := word8_low (byteAt_lt r 0) (byteAt_lt r 1) (byteAt_lt r 2) (byteAt_lt r 3) (byteAt_lt r 4) (byteAt_lt r 5) (byteAt_lt r 6) (byteAt_lt r 7) h
  have : i = 0 ∨ i = 1 ∨ i = 2 ∨ i = 3 ∨ i = 4 ∨ i = 5 ∨ i = 6 ∨ i = 7 := by omega
  rcases this with rfl | rfl | rfl | rfl | rfl | rfl | rfl | rfl
  · exact hlo.1
  · exact hlo.2.1
  · exact hlo.2.2.1
  · exact hlo.2.2.2.1
  · exact hlo.2.2.2.2.1
  · exact hlo.2.2.2.2.2.1
  · exact hlo.2.2.2.2.2.2.1
  · exact hlo.2.2.2.2.2.2.2
theorem byteAt_extract (r : ByteArray) (k i : Nat) : byteAt (r.extract k r.size) i = byteAt r (k + i) := by
  rw [byteAt_list, byteAt_list, extract_list, List.getElem?_drop]
theorem low_part {r : ByteArray} {k : Nat} (h : wordOf (r.extract k r.size) &&& mask8 = 0) (i : Nat) (h1 : k ≤ i) (h2 : i < k + 8) : byteAt r i < 128 := by
  have := wordOf_low h (i - k) (by omega)
  rwa [byteAt_extract, show k + (i - k) = i by omega] at this
theorem simple_cut {r : ByteArray} {k : Nat} (hs : simple r.data.toList = true) (hk : k ≤ r.size) (hl : ∀ i, i < k → byteAt r i < 128) : simple (r.extract k r.size).data.toList = true := by
  rw [extract_list]
  refine simple_drop k _ hs (by rw [Array.length_toList]; exact hk) (fun i hi => ?_)
  rw [← byteAt_list]
  exact hl i hi
theorem or_test (a b : Nat) (ha : a < 18446744073709551616) (hb : b < 18446744073709551616) : ∃ u : Nat, bits .or .u64 (a : Int) (b : Int) = (u : Int) ∧ u < 18446744073709551616 ∧ (u &&& mask8 = 0 → a &&& mask8 = 0 ∧ b &&& mask8 = 0) := by
  refine ⟨a ||| b, bits_or_u64_nat a b ha hb, or_lt ha hb, fun h => ?_⟩
  rw [Nat.and_or_distrib_right, Nat.or_eq_zero_iff] at h
  exact h
theorem and_test (u : Nat) (hu : u < 18446744073709551616) : ∃ b : Bool, (bits .and .u64 (u : Int) 9259542123273814144 == 0) = b ∧ (b = true → u &&& mask8 = 0) := by
  refine ⟨_, rfl, fun h => ?_⟩
  have hand : bits .and .u64 (u : Int) 9259542123273814144 = ((u &&& mask8 : Nat) : Int) := bits_and_u64_nat u mask8 hu (by decide)
  rw [hand] at h
  have := eq_of_beq h
  omega
theorem wordOf_calls (s : ByteArray) (w : World) (h : 8 ≤ s.size) :
    Calls Tryz.prog 67 #[.string s] w fun e w' => e = .returned (.int .u64 (wordOf s : Nat)) ∧ ∃ k, w' = w.drewN k := word_calls s w h

set_option maxRecDepth 100000 in
set_option maxHeartbeats 12800000 in
theorem validString_any (s : ByteArray) (w : World) (hs : simple s.data.toList = true) (hn : s.size ≤ 100000) (hF : w.cell? ⟨0, 195, none⟩ = some (.int .u8 2)) (hR0 : w.cell? ⟨1, 0, none⟩ = some (.int .u8 128)) (hR1 : w.cell? ⟨1, 1, none⟩ = some (.int .u8 191)) :
    Calls Tryz.prog 42 #[.string s] w fun e w' => e = .returned (.bool true) ∧ Only (fun _ => False) w w' := by
  have l0 : 0 < w.heap.size := World.block_lt_of_cell? w _ hF
  have l1 : 1 < w.heap.size := World.block_lt_of_cell? w _ hR0
  go_enter Tryz.func42, Tryz.ntmps42
  go_wp2_with fail
  go_loopg [0] (s.size + 1) (fun k v wr => ∃ r : ByteArray, v = .string r ∧ r.size < k ∧ r.size ≤ 100000 ∧ Hid (simple r.data.toList = true) ∧ Hid (Only (fun _ => False) w wr))
  case atStart => exact ⟨s, rfl, by omega, hn, hs, Only.refl _ _⟩
  case round =>
    obtain ⟨r, rfl, hk, hr, hS, hO⟩ := hrel
    have hO' : Only (fun _ => False) w wr := hO
    by_cases h0 : 0 < r.size
    · obtain ⟨b, t, hbt⟩ : ∃ b t, r.data.toList = b :: t := by
        cases hd : r.data.toList with
        | nil => have : r.data.toList.length = r.size := Array.length_toList; rw [hd] at this; simp at this; omega
        | cons b t => exact ⟨b, t, rfl⟩
      have hb0 : byteAt r 0 = b.toNat := by rw [byteAt_list, hbt]; rfl
      have x0 : ∀ u, (Instr.index 9 (.string r) (.int .i64 0)).run Tryz.prog u = .ok (.int .u8 (byteAt r 0)) u := fun u => idx r 0 u (by omega) (by omega)
      have hS' := hS.out
      rw [hbt] at hS'
      have d0 : (0 : Int) < (r.size : Int) := by omega
      by_cases hlow : b.toNat < 128
      · have dl : (byteAt r 0 : Int) < 128 := by rw [hb0]; omega
        have hst := simple_low hS' hlow
        have hst1 : simple (r.extract 1 r.size).data.toList = true := by rw [extract_list, hbt]; exact hst
        have hz1 := extract_size r 1
        have h1r : 1 ≤ r.size := by omega
        have HS1 : Hid _ := hst1
        clear hst1 hst hS' hbt hb0 hS
        generalize hr1 : r.extract 1 r.size = r1 at *
        have hr1s : r1.size ≤ 100000 := by omega
        have hr1r : r1.size < r.size := by omega
        clear hz1
        by_cases h8 : 8 < r1.size
        · have d8 : (8 : Int) < (r1.size : Int) := by omega
          have hc := wordOf_calls r1 wr (by omega)
          obtain ⟨bt, hbt, hbz⟩ := and_test (wordOf r1) (wordOf_lt r1)
          have HBZ : Hid (bt = true → ∀ i, i < 8 → byteAt r1 i < 128) := fun e i hi => wordOf_low (hbz e) i hi
          clear hbz
          generalize wordOf r1 = W at *
          cases bt with
          | true =>
            have hz2 : simple (r1.extract 8 r1.size).data.toList = true := simple_cut HS1.out (by omega) (HBZ.out rfl)
            have HZ2 : Hid _ := hz2
            have hzs := extract_size r1 8
            have h8r : 8 ≤ r1.size := by omega
            clear hz2 HBZ
            generalize hr2 : r1.extract 8 r1.size = r2 at *
            have hr2r : r2.size < r.size := by omega
            have hr2s : r2.size ≤ 100000 := by omega
            clear hzs
            by_cases h16 : 16 < r2.size
            · have d16 : (16 : Int) < (r2.size : Int) := by omega
              have d16' : decide ((16 : Int) < (r2.size : Int)) = true := by simp; omega
              have ha1 := fun u : World => wordOf_calls r2 u (by omega)
              have ha2 := fun u : World => wordOf_calls (r2.extract 8 r2.size) u (by rw [extract_size]; omega)
              obtain ⟨U, hU, hUl, hUz⟩ := or_test _ _ (wordOf_lt r2) (wordOf_lt (r2.extract 8 r2.size))
              obtain ⟨b2, hb2, hb2z⟩ := and_test U hUl
              have HB2 : Hid (b2 = true → ∀ i, i < 16 → byteAt r2 i < 128) := fun e i hi => by
                obtain ⟨q1, q2⟩ := hUz (hb2z e)
                by_cases hi8 : i < 8
                · exact wordOf_low q1 i hi8
                · exact low_part q2 i (by omega) (by omega)
              clear hUz hb2z hUl
              have h8r2 : 8 ≤ r2.size := by omega
              generalize hr2b : r2.extract 8 r2.size = r2b at *
              generalize wordOf r2 = W1 at *
              generalize wordOf r2b = W2 at *
              cases b2 with
              | false =>
                clear HB2
                go_wp2_with fail
                refine hc.mono ?_
                clear hc
                rintro e wr2 ⟨rfl, k2, hw2⟩
                have hO2 : Hid (Only (fun _ => False) w wr2) := by rw [hw2]; exact hO'.drewN _
                clear hw2
                go_wp2_with fail
                go_quiet (first | (go_at_call_of 67 r2b; exact Calls.quiet_of (ha2 _)) | (go_at_call_of 67 r2; exact Calls.quiet_of (ha1 _)))
                go_wp2
                go_roundg (gk - 1)
                case measure => omega
                case rel => exact ⟨r2, rfl, by omega, by omega, HZ2, hO2.out.drewN _⟩
              | true =>
                have hz3 : simple (r2.extract 16 r2.size).data.toList = true := simple_cut HZ2.out (by omega) (HB2.out rfl)
                have HZ3 : Hid _ := hz3
                have hzs3 := extract_size r2 16
                have h16r : 16 ≤ r2.size := by omega
                clear hz3 HB2
                generalize hr3 : r2.extract 16 r2.size = r3 at *
                have hr3r : r3.size < r.size := by omega
                have hr3s : r3.size ≤ 100000 := by omega
                clear hzs3
                go_wp2_with fail
                refine hc.mono ?_
                clear hc
                rintro e wr2 ⟨rfl, k2, hw2⟩
                have hO2 : Hid (Only (fun _ => False) w wr2) := by rw [hw2]; exact hO'.drewN _
                clear hw2
                go_wp2_with fail
                go_quiet (first | (go_at_call_of 67 r2b; exact Calls.quiet_of (ha2 _)) | (go_at_call_of 67 r2; exact Calls.quiet_of (ha1 _)))
                have hO3 : Hid (Only (fun _ => False) w (wr2.drewN nq)) := hO2.out.drewN _
                generalize wr2.drewN nq = wr3 at *
                clear ha1 ha2 hU hb2 hbt hO2 HZ2 HS1
                go_wp2_with fail
                generalize hG : gk = G at *
                clear hG
                go_loopg [0] (r3.size + 1) (fun k v wi => ∃ q : ByteArray, v = .string q ∧ q.size < k ∧ q.size < r.size ∧ Hid (simple q.data.toList = true) ∧ Hid (Only (fun _ => False) w wi))
                case atStart => exact ⟨r3, rfl, by omega, hr3r, HZ3, hO3⟩
                case round =>
                  obtain ⟨q, rfl, hqk, hqr, hQS, hQO⟩ := hrel
                  clear hO3 HZ3
                  by_cases h32 : 32 < q.size
                  · have d32 : (32 : Int) < (q.size : Int) := by omega
                    have d32' : decide ((32 : Int) < (q.size : Int)) = true := by simp; omega
                    have hq1 := fun u : World => wordOf_calls q u (by omega)
                    have hq2 := fun u : World => wordOf_calls (q.extract 8 q.size) u (by rw [extract_size]; omega)
                    have hq3 := fun u : World => wordOf_calls (q.extract 16 q.size) u (by rw [extract_size]; omega)
                    have hq4 := fun u : World => wordOf_calls (q.extract 24 q.size) u (by rw [extract_size]; omega)
                    obtain ⟨U1, hU1, hUl1, hUz1⟩ := or_test _ _ (wordOf_lt q) (wordOf_lt (q.extract 8 q.size))
                    obtain ⟨U2, hU2, hUl2, hUz2⟩ := or_test _ _ (wordOf_lt (q.extract 16 q.size)) (wordOf_lt (q.extract 24 q.size))
                    obtain ⟨U3, hU3, hUl3, hUz3⟩ := or_test _ _ hUl1 hUl2
                    obtain ⟨b4, hb4, hb4z⟩ := and_test U3 hUl3
                    have HB4 : Hid (b4 = true → ∀ i, i < 32 → byteAt q i < 128) := fun e i hi => by
                      obtain ⟨z1, z2⟩ := hUz3 (hb4z e)
                      obtain ⟨y1, y2⟩ := hUz1 z1
                      obtain ⟨y3, y4⟩ := hUz2 z2
                      by_cases hi8 : i < 8
                      · exact wordOf_low y1 i hi8
                      · by_cases hi16 : i < 16
                        · exact low_part y2 i (by omega) (by omega)
                        · by_cases hi24 : i < 24
                          · exact low_part y3 i (by omega) (by omega)
                          · exact low_part y4 i (by omega) (by omega)
                    clear hUz1 hUz2 hUz3 hb4z hUl1 hUl2 hUl3
                    have g8 : 8 ≤ q.size := by omega
                    have g16 : 16 ≤ q.size := by omega
                    have g24 : 24 ≤ q.size := by omega
                    have g32 : 32 ≤ q.size := by omega
                    generalize hqa : q.extract 8 q.size = qa at *
                    generalize hqb : q.extract 16 q.size = qb at *
                    generalize hqc : q.extract 24 q.size = qc at *
                    generalize wordOf q = V1 at *
                    generalize wordOf qa = V2 at *
                    generalize wordOf qb = V3 at *
                    generalize wordOf qc = V4 at *
                    cases b4 with
                    | true =>
                      have hz4 : simple (q.extract 32 q.size).data.toList = true := simple_cut hQS.out (by omega) (HB4.out rfl)
                      have HZ4 : Hid _ := hz4
                      have hzs4 := extract_size q 32
                      clear hz4 HB4
                      generalize hqd : q.extract 32 q.size = qd at *
                      have hqd2 : qd.size < q.size := by omega
                      clear hzs4
                      go_wp2_with fail
                      go_quiet (first | (go_at_call_of 67 qa; exact Calls.quiet_of (hq2 _)) | (go_at_call_of 67 qb; exact Calls.quiet_of (hq3 _)) | (go_at_call_of 67 qc; exact Calls.quiet_of (hq4 _)) | (go_at_call_of 67 q; exact Calls.quiet_of (hq1 _)))
                      go_wp2
                      go_roundg (gk - 1)
                      case measure => omega
                      case rel => exact ⟨qd, rfl, by omega, by omega, HZ4, hQO.out.drewN _⟩
                    | false =>
                      clear HB4
                      go_wp2_with fail
                      go_quiet (first | (go_at_call_of 67 qa; exact Calls.quiet_of (hq2 _)) | (go_at_call_of 67 qb; exact Calls.quiet_of (hq3 _)) | (go_at_call_of 67 qc; exact Calls.quiet_of (hq4 _)) | (go_at_call_of 67 q; exact Calls.quiet_of (hq1 _)))
                      go_wp2
                      go_roundg (G - 1)
                      case measure => omega
                      case rel => exact ⟨q, rfl, by omega, by omega, hQS, hQO.out.drewN _⟩
                  · have d32 : ¬ ((32 : Int) < (q.size : Int)) := by omega
                    have d32' : decide ((32 : Int) < (q.size : Int)) = false := by simp; omega
                    go_wp2_with fail
                    go_quiet (fail)
                    go_wp2
                    go_roundg (G - 1)
                    case measure => omega
                    case rel => exact ⟨q, rfl, by omega, by omega, hQS, hQO.out.drewN _⟩
            · have d16 : ¬ ((16 : Int) < (r2.size : Int)) := by omega
              have d16' : decide ((16 : Int) < (r2.size : Int)) = false := by simp; omega
              go_wp2_with fail
              refine hc.mono ?_
              clear hc
              rintro e wr2 ⟨rfl, k2, rfl⟩
              go_wp2_with fail
              go_quiet (fail)
              go_wp2
              go_roundg (gk - 1)
              case measure => omega
              case rel => exact ⟨r2, rfl, by omega, by omega, HZ2, ((hO'.drewN _).drewN _)⟩
          | false =>
            clear HBZ
            go_wp2_with fail
            refine hc.mono ?_
            clear hc
            rintro e wr2 ⟨rfl, k2, rfl⟩
            go_wp2
            go_roundg (gk - 1)
            case measure => omega
            case rel => exact ⟨r1, rfl, by omega, by omega, HS1, (hO'.drewN _)⟩
        · have d8 : ¬ ((8 : Int) < (r1.size : Int)) := by omega
          go_wp2
          go_roundg (gk - 1)
          case measure => omega
          case rel => exact ⟨r1, rfl, by omega, by omega, HS1, hO'⟩
      · obtain ⟨rfl, t', rfl, hst⟩ := simple_high hS' hlow
        have hln : r.data.toList.length = r.size := Array.length_toList
        have h2r : 2 ≤ r.size := by rw [hbt] at hln; simp at hln; omega
        have hb1 : byteAt r 1 = 169 := by rw [byteAt_list, hbt]; rfl
        have x1 : ∀ u, (Instr.index 9 (.string r) (.int .i64 1)).run Tryz.prog u = .ok (.int .u8 169) u := fun u => by have := idx r 1 u (by omega) (by omega); rw [show (1 : Int).toNat = 1 from rfl, hb1] at this; exact this
        have hb0' : byteAt r 0 = 195 := hb0
        rw [hb0'] at x0
        have hst2 : simple (r.extract 2 r.size).data.toList = true := by rw [extract_list, hbt]; exact hst
        have hzs := extract_size r 2
        have HS2 : Hid _ := hst2
        have dn2 : ¬ ((r.size : Int) < 2) := by omega
        have dn2' : decide ((r.size : Int) < 2) = false := by simp; omega
        have q0 := hO'.keeps hF id
        have q1 := hO'.keeps hR0 id
        have q2 := hO'.keeps hR1 id
        have lr0 : 0 < wr.heap.size := World.block_lt_of_cell? wr _ q0
        have lr1 : 1 < wr.heap.size := World.block_lt_of_cell? wr _ q1
        have hn0 : 0 ≠ wr.heap.size := by omega
        have hn1 : 1 ≠ wr.heap.size := by omega
        clear hst2 hst hS' hbt hb0 hb0' hb1 hS hln hlow
        generalize hr2 : r.extract 2 r.size = r2 at *
        have hr2r : r2.size < r.size := by omega
        have hr2s : r2.size ≤ 100000 := by omega
        clear hzs
        go_wp2_with fail
        go_quiet (fail)
        go_wp2
        go_roundg (gk - 1)
        case measure => omega
        case rel => exact ⟨r2, rfl, by omega, by omega, HS2, ((hO'.alloc _).drewN _)⟩
    · have e0 : r.size = 0 := by omega
      have d0 : ¬ ((0 : Int) < (r.size : Int)) := by omega
      clear hS hO
      go_wp2
      go_ret
      exact ⟨rfl, hO'⟩
end Go.Proofs.YtbiobhghnldckaaGreatDoor

/- Proved: a text of such lines is taken for what it is: valid, and parted into them. Conditions: what the library's variables hold. -/
namespace Go.Proofs.YtbiobhghnldckaaGreatDoor
open Go.RowKit
set_option linter.unusedVariables false

/-- A line that may be: runes of ours, no line's end. -/
structure Ln (l : List Int) : Prop where
  ok : ∀ r ∈ l, Okr r
  no : (10 : Int) ∉ l
theorem LineOk.ln {l : List Int} (h : LineOk l) : Ln l :=
  ⟨fun r hr => alpha_ok r (h.1 r hr), fun hm => absurd (h.1 10 hm) (by decide)⟩
theorem txtR_cons (l : List Int) (ls : List (List Int)) : txtR (l :: ls) = l ++ 10 :: txtR ls := by simp [txtR]
theorem txtR_append (a b : List (List Int)) : txtR (a ++ b) = txtR a ++ txtR b := by simp [txtR]
theorem txtR_ok {ls : List (List Int)} (h : ∀ l ∈ ls, Ln l) : ∀ r ∈ txtR ls, Okr r := by
  intro r hr
  obtain ⟨l, hl, hb⟩ := List.mem_flatMap.1 hr
  rcases List.mem_append.1 hb with e | e
  · exact (h l hl).ok r e
  · rw [List.mem_singleton.1 e]; exact Or.inl (by omega)
theorem encL_ten (l : List Int) : encL (10 :: l) = 10 :: encL l := by rw [encL_cons]; rfl
theorem txt_tx : ∀ (ls : List (List Int)), txt (ls.map tx) = encL (txtR ls)
  | [] => rfl
  | l :: ls => by
    rw [txtR_cons, encL_append, encL_ten, List.map_cons]
    show (tx l).data.toList ++ 10 :: txt (ls.map tx) = _
    rw [tx_list, txt_tx ls]
theorem outs_tx (ls : List (List Int)) : Adz.outs [] (ls.map tx) = encL (txtR ls) := by rw [txt_outs, txt_tx]; rfl
theorem outs_mk (ls : List (List Int)) : (⟨(Adz.outs [] (ls.map tx)).toArray⟩ : ByteArray) = tx (txtR ls) := by rw [outs_tx]; rfl
theorem joinL_snoc : ∀ (ls : List ByteArray) (x : ByteArray), joinL (ls ++ [x]) = txt ls ++ x.data.toList
  | [], x => rfl
  | [l], x => by simp [joinL, txt]
  | l :: l2 :: ls, x => by
    show l.data.toList ++ 10 :: joinL ((l2 :: ls) ++ [x]) = _
    rw [joinL_snoc (l2 :: ls) x]
    simp [txt]
theorem noTen {ls : List (List Int)} (h : ∀ l ∈ ls, Ln l) : ∀ l ∈ ls.map tx, (10 : UInt8) ∉ l.data.toList := by
  intro l hl
  obtain ⟨x, hx, rfl⟩ := List.mem_map.1 hl
  rw [tx_list]
  exact mem10 (h x hx).ok (h x hx).no
theorem hasSuffix_no {l : List UInt8} (h : l.getLast? ≠ some 10) : Lib.hasSuffix l [10] = false := by
  unfold Lib.hasSuffix
  cases hb : ([(10 : UInt8)].isSuffixOf l) with
  | false => rfl
  | true =>
    obtain ⟨t, ht⟩ := List.isSuffixOf_iff_suffix.1 hb
    rw [← ht] at h
    simp at h

theorem textOk_val {w : World} (ht : Tabs w) {l : List Int} (h : ∀ r ∈ l, Okr r) (hl : l.length ≤ 1500) : ∀ u, Only (fun _ => False) w u → Calls Tryz.prog 42 #[.string (tx l)] u fun e w' => e = .returned (.bool true) ∧ Only (fun _ => False) u w' := fun u o =>
  validString_any (tx l) u (by rw [tx_list]; exact simple_ok l h) (by have := tx_bound l 1500 hl; omega) (ht.keeps o).f (ht.keeps o).r0 (ht.keeps o).r1
/-- Lines, each with its end. -/
theorem textOk_lines {w : World} (ht : Tabs w) {ls : List (List Int)} (h : ∀ l ∈ ls, Ln l) (hl : (txtR ls).length ≤ 1500) : TextOk w (tx (txtR ls)) (ls.map tx) := by
  refine ⟨by have := tx_bound (txtR ls) 1500 hl; omega, textOk_val ht (txtR_ok h) hl, fun u o => ?_⟩
  by_cases e : ls = []
  · subst e
    exact split_none u
  · have hne : ls.map tx ≠ [] := by simpa using e
    have h1 := (encL_len (txtR ls)).1
    have h2 : 0 < (txtR ls).length := by
      cases ls with
      | nil => exact absurd rfl e
      | cons l ls => rw [txtR_cons]; simp; omega
    exact split_many (tx (txtR ls)) (ls.map tx) hne (noTen h) (by rw [tx_list, ← txt_tx]; exact trim_txt _ hne) (by rw [tx_size]; omega) (by have := tx_bound (txtR ls) 1500 hl; omega) u (ht.keeps o)
/-- .. and a last one without its end, which is not empty. -/
theorem textOk_open {w : World} (ht : Tabs w) {ls : List (List Int)} (h : ∀ l ∈ ls, Ln l) {x : List Int} (hx : Ln x) (hx0 : x ≠ []) (hl : (txtR ls ++ x).length ≤ 1500) : TextOk w (tx (txtR ls ++ x)) ((ls ++ [x]).map tx) := by
  have hok : ∀ r ∈ txtR ls ++ x, Okr r := fun r hr => by
    rcases List.mem_append.1 hr with e | e
    · exact txtR_ok h r e
    · exact hx.ok r e
  refine ⟨by have := tx_bound (txtR ls ++ x) 1500 hl; omega, textOk_val ht hok hl, fun u o => ?_⟩
  have h1 := (encL_len (txtR ls ++ x)).1
  have h2 : 0 < x.length := by cases x with
    | nil => exact absurd rfl hx0
    | cons a b => simp
  rw [List.length_append] at h1
  have hj : joinL ((ls ++ [x]).map tx) = encL (txtR ls ++ x) := by
    rw [List.map_append, List.map_cons, List.map_nil, joinL_snoc, txt_tx, tx_list, encL_append]
  refine split_many _ _ (by simp) (noTen (fun l hm => ?_)) ?_ (by rw [tx_size]; omega) (by have := tx_bound (txtR ls ++ x) 1500 hl; omega) u (ht.keeps o)
  · rcases List.mem_append.1 hm with e | e
    · exact h l e
    · rw [List.mem_singleton.1 e]; exact hx
  · rw [tx_list, hj]
    unfold Lib.trimSuffix
    rw [hasSuffix_no]
    · rfl
    · rw [encL_append]
      intro e
      have hne : encL x ≠ [] := fun e2 => by
        have := (encL_len x).1
        rw [e2] at this
        simp at this
        exact hx0 this
      rw [List.getLast?_append] at e
      cases hg : (encL x).getLast? with
      | none => exact hne (List.getLast?_eq_none_iff.1 hg)
      | some b =>
        rw [hg] at e
        simp at e
        exact mem10 hx.ok hx.no (e ▸ List.mem_of_getLast? hg)
theorem short_ln {l : List Int} (h : Ln l) (hl : l.length ≤ 400) : Short (tx l) := short_tx h.ok hl
theorem shorts {ls : List (List Int)} (h : ∀ l ∈ ls, Ln l) (hl : ∀ l ∈ ls, l.length ≤ 400) : ∀ l ∈ ls.map tx, Short l := by
  intro l hm
  obtain ⟨x, hx, rfl⟩ := List.mem_map.1 hm
  exact short_ln (h x hx) (hl x hx)
end Go.Proofs.YtbiobhghnldckaaGreatDoor
