/-
  The document's answers for keys; arrays of thirty-two bytes compared; a zero array behind a guard.
-/
import Derived.Test.YteijlgifcmlkoaaDoorHn
namespace Go.Proofs.YteijlgifcmlkoaaDoor
open Go.ChangeShapes Go.WideShapes Go.ChangeAt Go.RowKit
set_option linter.unusedVariables false
set_option linter.unusedSimpArgs false

theorem wpList_builtW {P : Program} {ops : Array Oper} {rest : List Oper} {o : Oper} {a : Act} {w : World} {Q : Exit → Act → World → Prop} (hw : Region.wanted o (yielded ops a.tmps) = true) (t : TypeId) (parts : Array (Nat × Operand)) (ho : o.op = .build t parts) (X : Array Value)
    (hf : P.built t (parts.map fun (i, x) => (i, a.eval x)).toList = some X)
    (h : wpList P ops Q rest (a.put o.dst (.agg X)) w) : wpList P ops Q (o :: rest) a w :=
  BigFrame.wpList_want hw fun K hK => wp_build t parts ho (by rw [hf]; rfl) (by rw [hf]; exact hK _ _ h)
theorem eqlB32 (l m : List UInt8) (hl : l.length = 32) (hm : m.length = 32) (W : World) :
    (binOp .eql 32 (.agg (rowOf l)) (.agg (rowOf m))).run Tryd.prog W = .ok (.bool (l == m)) W := by
  have hs : ∀ W : World, (sizeOf 5).run Tryd.prog W = .ok 1 W := fun W => by
    obtain ⟨i, hi, hz, hsize, hby⟩ := info_parts info8
    simp [sizeOf, typeInfo, hi, hsize]
  exact run_eql_bytes W 32 5 32 Tryd.underlying32 Tryd.underlying5 hs l m hl hm
theorem eqIB32 (l m : List UInt8) (hl : l.length = 32) (hm : m.length = 32) (W : World) :
    (Op.equalIn 10000 32 (.agg (rowOf l)) (.agg (rowOf m))).run Tryd.prog W = .ok (l == m) W := by
  have hs : ∀ W : World, (sizeOf 5).run Tryd.prog W = .ok 1 W := fun W => by
    obtain ⟨i, hi, hz, hsize, hby⟩ := info_parts info8
    simp [sizeOf, typeInfo, hi, hsize]
  exact run_equalIn_bytes W 9998 32 5 32 Tryd.underlying32 Tryd.underlying5 hs l m hl hm

set_option maxRecDepth 100000 in
set_option maxHeartbeats 1000000 in
theorem refEpoch_any (w : World) (z : Int) (b : Bool) (hb : b = decide (1 ≤ z ∧ z ≤ 1048576)) : Calls Tryd.prog 16 #[.int .i64 z] w fun e w' => e = .returned (.bool b) ∧ w = w' := by
  by_cases h1 : 1 ≤ z
  · have d1 : decide (1 ≤ z) = true := decide_eq_true h1
    by_cases h2 : z ≤ 1048576
    · have d2 : decide (z ≤ 1048576) = true := decide_eq_true h2
      obtain rfl : b = true := by rw [hb]; exact decide_eq_true ⟨h1, h2⟩
      clear hb
      go_enter Tryd.func16, Tryd.ntmps16
      go_wp2
      go_ret
      exact ⟨rfl, rfl⟩
    · have d2 : decide (z ≤ 1048576) = false := decide_eq_false h2
      obtain rfl : b = false := by rw [hb]; exact decide_eq_false (fun h => h2 h.2)
      clear hb
      go_enter Tryd.func16, Tryd.ntmps16
      go_wp2
      go_ret
      exact ⟨rfl, rfl⟩
  · have d1 : decide (1 ≤ z) = false := decide_eq_false h1
    obtain rfl : b = false := by rw [hb]; exact decide_eq_false (fun h => h1 h.1)
    clear hb
    go_enter Tryd.func16, Tryd.ntmps16
    go_wp2
    go_ret
    exact ⟨rfl, rfl⟩

set_option maxRecDepth 100000 in
set_option maxHeartbeats 1000000 in
theorem refName_any (w : World) (z : Int) (b : Bool) (hb : b = decide (1 ≤ z ∧ z ≤ 64)) : Calls Tryd.prog 13 #[.int .i64 z] w fun e w' => e = .returned (.bool b) ∧ w = w' := by
  by_cases h1 : 1 ≤ z
  · have d1 : decide (1 ≤ z) = true := decide_eq_true h1
    by_cases h2 : z ≤ 64
    · have d2 : decide (z ≤ 64) = true := decide_eq_true h2
      obtain rfl : b = true := by rw [hb]; exact decide_eq_true ⟨h1, h2⟩
      clear hb
      go_enter Tryd.func13, Tryd.ntmps13
      go_wp2
      go_ret
      exact ⟨rfl, rfl⟩
    · have d2 : decide (z ≤ 64) = false := decide_eq_false h2
      obtain rfl : b = false := by rw [hb]; exact decide_eq_false (fun h => h2 h.2)
      clear hb
      go_enter Tryd.func13, Tryd.ntmps13
      go_wp2
      go_ret
      exact ⟨rfl, rfl⟩
  · have d1 : decide (1 ≤ z) = false := decide_eq_false h1
    obtain rfl : b = false := by rw [hb]; exact decide_eq_false (fun h => h1 h.1)
    clear hb
    go_enter Tryd.func13, Tryd.ntmps13
    go_wp2
    go_ret
    exact ⟨rfl, rfl⟩

set_option maxRecDepth 100000 in
set_option maxHeartbeats 2000000 in
theorem refSealK_any (w : World) (M : List UInt8) (hm : M.length = 32) (k : Nat) (hk : k ≤ 1048576) : Calls Tryd.prog 17 #[.string (strOf M), .int .i64 (k : Int)] w fun e w' => e = .returned (.string (strOf (sealK M k))) ∧ Below w.heap.size w w' := by
  have c1 := fun W => refPut_any k 8 8 true (by omega) (by omega) (by omega) (.inr (.inl ⟨by omega, by omega, rfl⟩)) W
  have hw1 : IntKind.u64.wrap (k : Int) = (k : Int) := IntWalk.u64_in _ (by omega)
  have ha : (⟨#[115, 101, 97, 108]⟩ : ByteArray) ++ strOf (putB true 8 k) = strOf (sealUse k) := strOf_append sealU (highB 8 k)
  have hs : (strOf (putB true 8 k)).size = 8 := by rw [strOf_size, putB_len]
  have hsz : (⟨#[115, 101, 97, 108]⟩ : ByteArray).size + (strOf (putB true 8 k)).size ≤ 9223372036854775807 := by rw [hs]; show 4 + 8 ≤ _; omega
  have c2 : ∀ W, Calls Tryd.prog 10 #[.string (strOf M), .string (strOf (sealUse k)), .int .i64 32] W fun e w' => e = .returned (.string (strOf (sealK M k))) ∧ Below W.heap.size W w' := fun W => refExpand_any W M (sealUse k) (by omega) (by rw [sealUse_len]; omega) 32 (by omega)
  generalize putB true 8 k = X at *
  generalize sealUse k = U at *
  generalize sealK M k = L at *
  go_enter Tryd.func17, Tryd.ntmps17
  go_wp2_with (first
    | (go_at_call 25; ((with_reducible refine (c1 _).mono ?_); rintro e w2 ⟨rfl, hb⟩; have B2 := hidn_ hb; clear hb))
    | (go_at_call 10; ((with_reducible refine (c2 _).mono ?_); rintro e w3 ⟨rfl, hb⟩; have B3 := hidn_ (B2.out.trans (hb.mono B2.out.size)); clear hb)))
  go_ret
  exact ⟨rfl, B3.out⟩
set_option maxRecDepth 100000 in
set_option maxHeartbeats 2000000 in
theorem refBlindK_any (w : World) (M name : List UInt8) (hm : M.length = 32) (hn : name.length ≤ 1000) : Calls Tryd.prog 14 #[.string (strOf M), .string (strOf name)] w fun e w' => e = .returned (.string (strOf (blindK M name))) ∧ Below w.heap.size w w' := by
  have c1 : ∀ W, Calls Tryd.prog 10 #[.string (strOf M), .string ⟨#[98, 108, 105, 110, 100]⟩, .int .i64 32] W fun e w' => e = .returned (.string (strOf (expandB M blindU 32))) ∧ Below W.heap.size W w' := fun W => refExpand_any W M blindU (by omega) (by simp [blindU]) 32 (by omega)
  have c2 : ∀ W, Calls Tryd.prog 9 #[.string (strOf (expandB M blindU 32)), .string (strOf name)] W fun e w' => e = .returned (.string (strOf (blindK M name))) ∧ Below W.heap.size W w' := fun W => refHmac_any W _ name (by rw [expandB_len _ _ _ (by omega)]; omega) (by omega)
  generalize expandB M blindU 32 = U at *
  generalize blindK M name = L at *
  go_enter Tryd.func14, Tryd.ntmps14
  go_wp2_with (first
    | (go_at_call 10; ((with_reducible refine (c1 _).mono ?_); rintro e w2 ⟨rfl, hb⟩; have B2 := hidn_ hb; clear hb))
    | (go_at_call 9; ((with_reducible refine (c2 _).mono ?_); rintro e w3 ⟨rfl, hb⟩; have B3 := hidn_ (B2.out.trans (hb.mono B2.out.size)); clear hb)))
  go_ret
  exact ⟨rfl, B3.out⟩
end Go.Proofs.YteijlgifcmlkoaaDoor
