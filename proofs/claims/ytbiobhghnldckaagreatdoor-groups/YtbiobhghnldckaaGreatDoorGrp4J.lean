/- Proved: what the scripts of adzekeep.Groups make of its texts: reckoned by the kernel, one after the other. No condition. -/
import Derived.Test.YtbiobhghnldckaaGreatDoorGrp1J
namespace Go.Proofs.YtbiobhghnldckaaGreatDoor
open Go.RowKit
set_option linter.unusedVariables false

def gX (i : Nat) : ByteArray := (⟨#[97, 97, 97, 97, 97, 97, 97, 97, 97, 97, 97, 97]⟩ : ByteArray).extract 0 i
def gY (j : Nat) : ByteArray := (⟨#[97, 97, 97, 97]⟩ : ByteArray).extract 0 j
def gScript (j : Nat) : ByteArray := (⟨#[115, 47, 94, 40, 97, 42, 41, 40]⟩ ++ gY j) ++ ⟨#[41, 36, 47, 91, 92, 49, 124, 92, 50, 93, 47]⟩
def gWant (i j : Nat) : ByteArray := if j ≤ i then ((((⟨#[91]⟩ ++ (gX i).extract 0 (i - j)) ++ ⟨#[124]⟩) ++ (gX i).extract (i - j) i) ++ ⟨#[93]⟩) else gX i
def gScript2 : ByteArray := ⟨#[115, 47, 94, 40, 97, 42, 41, 195, 169, 40, 46, 42, 41, 36, 47, 92, 50, 195, 169, 92, 49, 47]⟩
def gIn2 (i j : Nat) : ByteArray := ((gX i ++ ⟨#[195, 169]⟩) ++ gY j) ++ ⟨#[195, 169, 10]⟩
def gWant2 (i j : Nat) : ByteArray := ((gY j ++ ⟨#[195, 169, 195, 169]⟩) ++ gX i) ++ ⟨#[10]⟩

theorem table1 : ((List.range 13).all fun i => (List.range 4).all fun j => allB (gScript j) (gX i ++ ⟨#[10]⟩) false (gWant i j ++ ⟨#[10]⟩).data.toList) = true := by decide +kernel
theorem table2 : ((List.range 13).all fun i => (List.range 4).all fun j => allB gScript2 (gIn2 i j) false (gWant2 i j).data.toList) = true := by decide +kernel
theorem case1 (i j : Nat) (hi : i < 13) (hj : j < 4) : allB (gScript j) (gX i ++ ⟨#[10]⟩) false (gWant i j ++ ⟨#[10]⟩).data.toList = true :=
  List.all_eq_true.1 (List.all_eq_true.1 table1 i (List.mem_range.2 hi)) j (List.mem_range.2 hj)
theorem case2 (i j : Nat) (hi : i < 13) (hj : j < 4) : allB gScript2 (gIn2 i j) false (gWant2 i j).data.toList = true :=
  List.all_eq_true.1 (List.all_eq_true.1 table2 i (List.mem_range.2 hi)) j (List.mem_range.2 hj)
end Go.Proofs.YtbiobhghnldckaaGreatDoor

/- Proved: a call of adzekeep.Groups returns true and turns nothing of what was there. Conditions: what the library's variables hold. -/
namespace Go.Proofs.YtbiobhghnldckaaGreatDoor
open Go.RowKit
set_option linter.unusedVariables false

theorem gX_size (i : Nat) (hi : i < 13) : (gX i).size = i := by
  unfold gX
  rw [ByteArray.size_extract]
  show min i 12 - 0 = i
  omega
theorem gY_size (j : Nat) (hj : j < 4) : (gY j).size = j := by
  unfold gY
  rw [ByteArray.size_extract]
  show min j 4 - 0 = j
  omega

set_option maxRecDepth 100000 in
set_option maxHeartbeats 3200000 in
theorem groups_calls (c n : Int) (hc : -9223372036854775808 ≤ c ∧ c ≤ 9223372036854775807) (hn : -9223372036854775808 ≤ n ∧ n ≤ 9223372036854775807) (w : World) (ht : Tabs w) :
    Calls Tryz.prog 9 #[.int .i64 c, .int .i64 n] w fun e w' => e = .returned (.bool true) ∧ Only (fun _ => False) w w' := by
  have p1 := fun u : World => pick_calls c 13 u hc (by omega) (by omega)
  have p2 := fun u : World => pick_calls n 4 u hn (by omega) (by omega)
  have c0 := opened_calls w ht
  go_enter Tryz.func9, Tryz.ntmps9
  go_wp2_with fail
  refine c0.mono ?_
  clear c0
  rintro e w1 ⟨rfl, o1⟩
  go_wp2_with fail
  refine (p1 w1).mono ?_
  clear p1
  rintro e w2 ⟨i, rfl, hi, rfl⟩
  have hX := gX_size i hi
  have hi1 : (i : Int) ≤ 12 := by omega
  have T1 := fun (j : Nat) (hj : j < 4) (u : World) (hu : Tabs u) => edit_all _ _ _ _ (case1 i j hi hj) u hu
  have T2 := fun (j : Nat) (hj : j < 4) (u : World) (hu : Tabs u) => edit_all _ _ _ _ (case2 i j hi hj) u hu
  unfold gWant gScript at T1
  unfold gWant2 gScript2 gIn2 at T2
  have eX : (⟨#[97, 97, 97, 97, 97, 97, 97, 97, 97, 97, 97, 97]⟩ : ByteArray).extract 0 i = gX i := rfl
  have HX : Hid _ := eX
  clear eX
  go_wp2_with fail
  rw [HX.out]
  clear HX
  generalize gX i = X at *
  refine (p2 w2).mono ?_
  clear p2
  rintro e w3 ⟨j, rfl, hj, rfl⟩
  have hY := gY_size j hj
  have C1 := T1 j hj w3 (ht.keeps o1)
  have C2 := fun u (o : Only (fun _ => False) w u) => T2 j hj u (ht.keeps o)
  clear T1 T2
  have eY : (⟨#[97, 97, 97, 97]⟩ : ByteArray).extract 0 j = gY j := rfl
  have HY : Hid _ := eY
  clear eY
  have hj1 : (j : Int) ≤ 4 := by omega
  have eW : ∀ W : ByteArray, (⟨W.data.toList.toArray⟩ : ByteArray) = W := fun _ => rfl
  rw [eW] at C1
  simp only [eW] at C2
  clear eW
  by_cases hji : j ≤ i
  · rw [if_pos hji] at C1
    have d1 : (j : Int) ≤ (i : Int) := by omega
    have w1' : IntKind.i64.wrap ((i : Int) - (j : Int)) = ((i - j : Nat) : Int) := by rw [IntKind.wrap_i64]; omega
    have d2 : (i - j : Nat) ≤ i := by omega
    go_wp2_with fail
    rw [HY.out]
    clear HY
    generalize gY j = Y at *
    have hV : ((((⟨#[91]⟩ ++ X.extract 0 (i - j)) ++ ⟨#[124]⟩) ++ X.extract (i - j) i) ++ ⟨#[93]⟩ : ByteArray).size ≤ 100 := by
      have e1 : (⟨#[91]⟩ : ByteArray).size = 1 := rfl
      have e2 : (⟨#[124]⟩ : ByteArray).size = 1 := rfl
      have e3 : (⟨#[93]⟩ : ByteArray).size = 1 := rfl
      simp only [ByteArray.size_append, ByteArray.size_extract, e1, e2, e3]
      omega
    generalize ((((⟨#[91]⟩ ++ X.extract 0 (i - j)) ++ ⟨#[124]⟩) ++ X.extract (i - j) i) ++ ⟨#[93]⟩ : ByteArray) = V at *
    refine C1.mono ?_
    clear C1
    rintro e w4 ⟨rfl, o4⟩
    have o14 := o1.trans o4 (fun _ e => e) (fun _ _ e => e)
    have C3 := C2 w4 o14
    clear C2
    go_wp2_with fail
    refine C3.mono ?_
    clear C3
    rintro e w5 ⟨rfl, o5⟩
    go_wp2
    go_ret
    exact ⟨rfl, o14.trans o5 (fun _ e => e) (fun _ _ e => e)⟩
  · rw [if_neg hji] at C1
    have d1 : ¬ (j : Int) ≤ (i : Int) := by omega
    have d1' : decide ((j : Int) ≤ (i : Int)) = false := by simp; omega
    go_wp2_with fail
    rw [HY.out]
    clear HY
    generalize gY j = Y at *
    refine C1.mono ?_
    clear C1
    rintro e w4 ⟨rfl, o4⟩
    have o14 := o1.trans o4 (fun _ e => e) (fun _ _ e => e)
    have C3 := C2 w4 o14
    clear C2
    go_wp2_with fail
    refine C3.mono ?_
    clear C3
    rintro e w5 ⟨rfl, o5⟩
    go_wp2
    go_ret
    exact ⟨rfl, o14.trans o5 (fun _ e => e) (fun _ _ e => e)⟩
end Go.Proofs.YtbiobhghnldckaaGreatDoor
