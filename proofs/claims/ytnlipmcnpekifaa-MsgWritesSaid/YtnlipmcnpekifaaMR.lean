/-
  Merged: Mor Mos.
-/
import Derived.Test.YtnlipmcnpekifaaMoqw
import Derived.Test.YtnlipmcnpekifaaMol
import Derived.Test.YtnlipmcnpekifaaMoq
namespace Go.Proofs.Ytnlipmcnpekifaa
set_option maxRecDepth 100000
open Go.RowKit
set_option linter.unusedVariables false
set_option linter.unusedSimpArgs false

set_option maxRecDepth 100000 in
set_option maxHeartbeats 4000000 in
theorem key_r (w : World) (l : List UInt8) (hl : l.length ≤ 140737488355328) : Calls Try.prog 47 #[.string (strOf l)] w fun e w' => e = .returned (.string (strOf (pad32 l))) ∧ Below w.heap.size w w' := by
  obtain ⟨w1, hw1⟩ : ∃ x, w.alloc (.cells (rowOf (zbytes 32)) 5) = x := ⟨_, rfl⟩
  have B1 := hidm_ (show Below w.heap.size w w1 by rw [← hw1]; exact (Below.refl _ _).alloc (Nat.le_refl _) _)
  have P1 := hidm_ (show Bk w1 w.heap.size 5 (rowOf (zbytes 32)) by rw [← hw1]; exact Bk.new w _ _)
  have hmk : (Instr.makeSlice 30 (.int .i64 32) (.int .i64 32)).run Try.prog w = .ok (.slice (some ⟨w.heap.size, 0, none⟩) 32 32) w1 := by rw [← hw1]; exact mk8 32 (by omega) w
  have hcv := conv_strn (rd_bk0 P1.out) 32 32 (zbytes_len 32)
  have hap := strOf_append l (zbytes 32)
  have hto : ∀ W : World, (Instr.slice 9 (.string (strOf (l ++ zbytes 32))) none (some (.int .i64 32)) none).run Try.prog W = .ok (.string (strOf (pad32 l))) W := fun W => str_to (l ++ zbytes 32) _ 32 rfl (by rw [List.length_append, zbytes_len]; omega) W
  obtain ⟨n, hn⟩ : ∃ n, l.length = n := ⟨_, rfl⟩
  have hs1 : (strOf l).size = n := by rw [strOf_size, hn]
  have hs2 : (strOf (zbytes 32)).size = 32 := by rw [strOf_size, zbytes_len]
  rw [hn] at hl
  clear hn
  go_enter Try.func47, Try.ntmps47
  go_wp2
  go_ret
  exact ⟨rfl, B1.out⟩
theorem run_load_subm {P : Program} {w : World} (ty : TypeId) (g off : Nat) (cs : Array Value) (hc : ∀ j, j < cs.size → w.cell? ⟨g, off + j, none⟩ = cs[j]?) (d : TypeDesc)
    (hu : P.underlying ty = some d) (hd : (match d with | .struct _ | .array _ _ => true | _ => false) = true) (hi : (P.info? ty).map (·.size) = some cs.size) : (loadVar ty ⟨g, off, none⟩).run P w = .ok (.agg cs) w := by
  have hl : (loadCells ⟨g, off, none⟩ cs.toList.length).run P w = .ok cs.toList.toArray w :=
    run_loadCells_list (P := P) w ⟨g, off, none⟩ cs.toList (fun j v hv => by
      have hadd : (⟨g, off, none⟩ : Addr).add j = ⟨g, off + j, none⟩ := by unfold Addr.add; split <;> simp_all
      have hj : j < cs.size := by
        have := (List.getElem?_eq_some_iff.1 hv).1
        simpa using this
      rw [hadd, hc j hj]
      simpa using hv)
  cases hq : P.info? ty with
  | none => simp [hq] at hi
  | some i =>
    have hs : i.size = cs.size := by simpa [hq] using hi
    have hagg : (isAgg ty).run P w = .ok true w := by
      unfold isAgg
      rw [Sem.run_bind, run_underlying hu w]
      cases d <;> simp_all
    simp only [Array.length_toList, Array.toArray_toList] at hl
    simp [loadVar, Sem.run_bind, hagg, sizeOf, typeInfo, hq, hs, hl]

set_option maxRecDepth 100000 in
theorem eqRowm (x y : List UInt8) (W : World) : (Op.equalIn 10000 23 (.agg (rr x y)) (.agg (rr x y))).run Try.prog W = .ok true W := by
  have ht : Try.prog.underlying 23 = some (.struct (Try.prog.fieldsOf 23)) := by kernel_rfl
  have hp : Try.prog.stoodInHeld 23 = false := by kernel_rfl
  rw [run_equalIn_struct W 9999 23 _ _ ht hp]
  have pe : ∀ (n : Nat) (x : List UInt8), (Op.equalIn (n + 1) 9 (.string (strOf x)) (.string (strOf x))).run Try.prog W = .ok true W := fun n x => by
    rw [run_equalIn_string W n 9 _ _ Try.underlying9]
    simp
  obtain ⟨fs, hfs⟩ : ∃ fs, (Try.prog.fieldsOf 23).toList = fs := ⟨_, rfl⟩
  have hff : ∃ f1 f2, fs = [f1, f2] ∧ f1.name ≠ "_" ∧ f1.type = 9 ∧ f1.offset = 0 ∧ f2.name ≠ "_" ∧ f2.type = 9 ∧ f2.offset = 1 := by
    rw [← hfs]
    exact ⟨_, _, rfl, by decide, rfl, rfl, by decide, rfl, rfl⟩
  obtain ⟨f1, f2, e, n1, t1, o1, n2, t2, o2⟩ := hff
  rw [hfs, e]
  have p1 : (part 9 (rr x y) 0).run Try.prog W = .ok (.string (strOf x)) W := by kernel_rfl
  have p2 : (part 9 (rr x y) 1).run Try.prog W = .ok (.string (strOf y)) W := by kernel_rfl
  simp only [Op.eqFields, n1, n2, t1, t2, o1, o2, ne_eq, not_false_eq_true, if_true, Sem.run_bind, p1, p2, pe 9998, Result.andThen_ok]
  simp [Sem.run_bind, p2, pe 9998]
theorem neRowm (x y : List UInt8) (W : World) : (binOp .neq 23 (.agg (rr x y)) (.agg (rr x y))).run Try.prog W = .ok (.bool false) W := by
  rw [run_neq_struct, eqRowm x y W]
  rfl
set_option maxRecDepth 100000 in
set_option maxHeartbeats 16000000 in
theorem same_r (w : World) (a b : RmV) (ha : a.Ok w w.heap.size) (hb : b.Ok w w.heap.size) (h : nrm a.v = nrm b.v) (hka : a.key.length ≤ 140737488355328) (hkb : b.key.length ≤ 140737488355328) (hla : a.ats.length ≤ 1000) (hld : a.digs.length ≤ 1000) (hlr : a.rows.length ≤ 1000) :
    Calls Try.prog 13 #[.agg (rmC a), .agg (rmC b)] w fun e w' => e = .returned (.bool true) ∧ Below w.heap.size w w' := by
  obtain ⟨k, f, q, er, fo, lv, ka, sa, xs, A1, c1, ds, A2, c2, rs, A3, c3⟩ := a
  obtain ⟨k', f', q', er', fo', lv', kb, sa', xs', B1, d1, ds', B2, d2, rs', B3, d3⟩ := b
  unfold nrm RmV.v at h
  simp only [MgV.mk.injEq, KrV.mk.injEq] at h
  obtain ⟨rfl, rfl, rfl, rfl, rfl, rfl, ⟨hk, rfl⟩, rfl, rfl, rfl⟩ := h
  obtain ⟨g, hg⟩ : ∃ g, w.heap.size = g := ⟨_, rfl⟩
  obtain ⟨w1, hw1⟩ : ∃ x, w.alloc (.cells (rmC (⟨k, f, q, er, fo, lv, ka, sa, xs, A1, c1, ds, A2, c2, rs, A3, c3⟩ : RmV)) 28) = x := ⟨_, rfl⟩
  obtain ⟨w2, hw2⟩ : ∃ x, w1.alloc (.cells (rmC (⟨k, f, q, er, fo, lv, kb, sa, xs, B1, d1, ds, B2, d2, rs, B3, d3⟩ : RmV)) 28) = x := ⟨_, rfl⟩
  have S1 : w1.heap.size = g + 1 := by rw [← hw1, ← hg]; simp
  have B1_ := show Below w.heap.size w w1 by rw [← hw1]; exact (Below.refl _ _).alloc (Nat.le_refl _) _
  have B2_ := show Below w1.heap.size w1 w2 by rw [← hw2]; exact (Below.refl _ _).alloc (Nat.le_refl _) _
  have S2 := hidm_ (show w2.heap.size = g + 2 by rw [← hw2]; simp [S1])
  have M1 := hidm_ (show Bk w2 g 28 (rmC (⟨k, f, q, er, fo, lv, ka, sa, xs, A1, c1, ds, A2, c2, rs, A3, c3⟩ : RmV)) by
    have h0 : Bk w1 g 28 (rmC (⟨k, f, q, er, fo, lv, ka, sa, xs, A1, c1, ds, A2, c2, rs, A3, c3⟩ : RmV)) := by rw [← hw1, ← hg]; exact Bk.new w _ _
    exact h0.below B2_ h0.lt)
  have M2 := hidm_ (show Bk w2 (g + 1) 28 (rmC (⟨k, f, q, er, fo, lv, kb, sa, xs, B1, d1, ds, B2, d2, rs, B3, d3⟩ : RmV)) by rw [← hw2, ← S1]; exact Bk.new w1 _ _)
  have X2 := hidm_ (show Below g w w2 by rw [← hg]; exact B1_.trans (B2_.mono (by omega)))
  rw [hg] at ha hb
  have HA := hidm_ ha
  have HB := hidm_ hb
  have HG := hidm_ hg
  have HK := hidm_ hk
  have KB := hidm_ hkb
  have KA := hidm_ hka
  obtain ⟨nA, hnA⟩ : ∃ n, xs.length = n := ⟨_, rfl⟩
  obtain ⟨nD, hnD⟩ : ∃ n, ds.length = n := ⟨_, rfl⟩
  obtain ⟨nR, hnR⟩ : ∃ n, rs.length = n := ⟨_, rfl⟩
  have fA : nA ≤ 1000 := by rw [← hnA]; exact hla
  have fD : nD ≤ 1000 := by rw [← hnD]; exact hld
  have fR : nR ≤ 1000 := by rw [← hnR]; exact hlr
  have HNA := hidm_ hnA
  have HND := hidm_ hnD
  have HNR := hidm_ hnR
  have LA := hidm_ (show ∀ W, Below (g + 2) w2 W → ∀ i v, (rmC (⟨k, f, q, er, fo, lv, ka, sa, xs, A1, c1, ds, A2, c2, rs, A3, c3⟩ : RmV))[i]? = some v → W.cell? ⟨g, i, none⟩ = some v from fun W h i v hv => ((M1.out.below h (by omega)).cell i).trans hv)
  have LB := hidm_ (show ∀ W, Below (g + 2) w2 W → ∀ i v, (rmC (⟨k, f, q, er, fo, lv, kb, sa, xs, B1, d1, ds, B2, d2, rs, B3, d3⟩ : RmV))[i]? = some v → W.cell? ⟨g + 1, i, none⟩ = some v from fun W h i v hv => ((M2.out.below h (by omega)).cell i).trans hv)
  clear ha hb hk hka hkb hnA hnD hnR hla hld hlr B1_ B2_
  go_enter Try.func13, Try.ntmps13
  go_upto_region 1 with fail
  rename_i K9 hK9
  clear hw1 hw2 hg S1
  refine region_byJF [8, 9, 10, 11, 12, 13, 14, 15, 16, 17, 18, 19, 20, 21, 22, 23, 24, 25, 26, 27, 28, 29, 30, 31, 32, 33, 34, 35, 36, 37, 38, 39, 40, 41, 42, 43, 44, 45, 46, 47, 48, 49, 50, 51, 52, 53, 54, 55, 56, 57, 58, 59, 60, 61, 62, 63, 64, 65, 66, 67, 68, 69, 70, 71, 72, 73, 74, 75, 76, 77, 78, 79, 80, 81, 82, 83, 84, 85, 86, 87, 88, 89, 90, 91, 92, 93, 94] (fun _ => True) (fun _ _ => True) (fun jR_ vR_ (wR_ : World) => (match jR_ with | 0 => vR_ = .pointer (some ⟨g, 0, none⟩) | 1 => vR_ = .int .i64 k | 2 => vR_ = .pointer (some ⟨g + 1, 0, none⟩) | 3 => vR_ = .int .i64 k | 4 => vR_ = .bool false | 5 => vR_ = .bool false | 6 => vR_ = .pointer (some ⟨g, 1, none⟩) | 7 => vR_ = .int .i64 f | 8 => vR_ = .pointer (some ⟨g + 1, 1, none⟩) | 9 => vR_ = .int .i64 f | 10 => vR_ = .bool false | 11 => vR_ = .bool false | 12 => vR_ = .bool false | 13 => vR_ = .pointer (some ⟨g, 2, none⟩) | 14 => vR_ = .int .i64 q | 15 => vR_ = .pointer (some ⟨g + 1, 2, none⟩) | 16 => vR_ = .int .i64 q | 17 => vR_ = .bool false | 18 => vR_ = .bool false | 19 => vR_ = .bool false | 20 => vR_ = .pointer (some ⟨g, 3, none⟩) | 21 => vR_ = .int .i64 er | 22 => vR_ = .pointer (some ⟨g + 1, 3, none⟩) | 23 => vR_ = .int .i64 er | 24 => vR_ = .bool false | 25 => vR_ = .bool false | 26 => vR_ = .bool false | 27 => vR_ = .pointer (some ⟨g, 4, none⟩) | 28 => vR_ = .int .i64 fo | 29 => vR_ = .pointer (some ⟨g + 1, 4, none⟩) | 30 => vR_ = .int .i64 fo | 31 => vR_ = .bool false | 32 => vR_ = .bool false | 33 => vR_ = .bool false | 34 => vR_ = .pointer (some ⟨g, 5, none⟩) | 35 => vR_ = .int .i64 lv | 36 => vR_ = .pointer (some ⟨g + 1, 5, none⟩) | 37 => vR_ = .int .i64 lv | 38 => vR_ = .bool false | 39 => vR_ = .bool false | 40 => vR_ = .bool false | 41 => vR_ = .pointer (some ⟨g, 6, none⟩) | 42 => vR_ = .pointer (some ⟨g, 7, none⟩) | 43 => vR_ = .string (strOf sa) | 44 => vR_ = .pointer (some ⟨g + 1, 6, none⟩) | 45 => vR_ = .pointer (some ⟨g + 1, 7, none⟩) | 46 => vR_ = .string (strOf sa) | 47 => vR_ = .bool false | 48 => vR_ = .bool false | 49 => vR_ = .bool false | 50 => vR_ = .pointer (some ⟨g, 8, none⟩) | 51 => vR_ = .slice A1 nA c1 | 52 => vR_ = .int .i64 (nA : Int) | 53 => vR_ = .pointer (some ⟨g + 1, 8, none⟩) | 54 => vR_ = .slice B1 nA d1 | 55 => vR_ = .int .i64 (nA : Int) | 56 => vR_ = .bool false | 57 => vR_ = .bool false | 58 => vR_ = .bool false | 59 => vR_ = .pointer (some ⟨g, 9, none⟩) | 60 => vR_ = .slice A2 nD c2 | 61 => vR_ = .int .i64 (nD : Int) | 62 => vR_ = .pointer (some ⟨g + 1, 9, none⟩) | 63 => vR_ = .slice B2 nD d2 | 64 => vR_ = .int .i64 (nD : Int) | 65 => vR_ = .bool false | 66 => vR_ = .bool false | 67 => vR_ = .bool false | 68 => vR_ = .pointer (some ⟨g, 10, none⟩) | 69 => vR_ = .slice A3 nR c3 | 70 => vR_ = .int .i64 (nR : Int) | 71 => vR_ = .pointer (some ⟨g + 1, 10, none⟩) | 72 => vR_ = .slice B3 nR d3 | 73 => vR_ = .int .i64 (nR : Int) | 74 => vR_ = .bool false | 75 => vR_ = .bool false | 76 => vR_ = .bool false | 77 => vR_ = .pointer (some ⟨g, 6, none⟩) | 78 => vR_ = .pointer (some ⟨g, 6, none⟩) | 79 => vR_ = .string (strOf ka) | 80 => vR_ = .string (strOf (pad32 kb)) | 81 => vR_ = .pointer (some ⟨g + 1, 6, none⟩) | 82 => vR_ = .pointer (some ⟨g + 1, 6, none⟩) | 83 => vR_ = .string (strOf kb) | 84 => vR_ = .string (strOf (pad32 kb)) | 85 => vR_ = .bool false | 86 => vR_ = .bool false | _ => True)) (fun D _ W => Below (g + 2) w2 W) (by kernel_rfl) (by kernel_rfl) (by kernel_rfl) (by kernel_rfl) (fun j v w w' hT hr => hr) (fun j v w hlt hj _ => ?_) trivial ?_ (below_drewN (Below.refl _ _) 1) ?_
  · rcases j with _ | _ | _ | _ | _ | _ | _ | _ | _ | _ | _ | _ | _ | _ | _ | _ | _ | _ | _ | _ | _ | _ | _ | _ | _ | _ | _ | _ | _ | _ | _ | _ | _ | _ | _ | _ | _ | _ | _ | _ | _ | _ | _ | _ | _ | _ | _ | _ | _ | _ | _ | _ | _ | _ | _ | _ | _ | _ | _ | _ | _ | _ | _ | _ | _ | _ | _ | _ | _ | _ | _ | _ | _ | _ | _ | _ | _ | _ | _ | _ | _ | _ | _ | _ | _ | _ | _ | j
    all_goals first
      | (exfalso; simp [dstOf] at hj; done)
      | trivial
  · refine ⟨fun D a9 W hC hd hsz hf hv hJ hL hW K8 hK => ?_, fun D a9 W hC hd hsz hf hv hJ hL hW K8 hK => ?_, fun D a9 W hC hd hsz hf hv hJ hL hW K8 hK => ?_, fun D a9 W hC hd hsz hf hv hJ hL hW K8 hK => ?_, fun D a9 W hC hd hsz hf hv hJ hL hW K8 hK => ?_, fun D a9 W hC hd hsz hf hv hJ hL hW K8 hK => ?_, fun D a9 W hC hd hsz hf hv hJ hL hW K8 hK => ?_, fun D a9 W hC hd hsz hf hv hJ hL hW K8 hK => ?_, fun D a9 W hC hd hsz hf hv hJ hL hW K8 hK => ?_, fun D a9 W hC hd hsz hf hv hJ hL hW K8 hK => ?_, fun D a9 W hC hd hsz hf hv hJ hL hW K8 hK => ?_, fun D a9 W hC hd hsz hf hv hJ hL hW K8 hK => ?_, fun D a9 W hC hd hsz hf hv hJ hL hW K8 hK => ?_, fun D a9 W hC hd hsz hf hv hJ hL hW K8 hK => ?_, fun D a9 W hC hd hsz hf hv hJ hL hW K8 hK => ?_, fun D a9 W hC hd hsz hf hv hJ hL hW K8 hK => ?_, fun D a9 W hC hd hsz hf hv hJ hL hW K8 hK => ?_, fun D a9 W hC hd hsz hf hv hJ hL hW K8 hK => ?_, fun D a9 W hC hd hsz hf hv hJ hL hW K8 hK => ?_, fun D a9 W hC hd hsz hf hv hJ hL hW K8 hK => ?_, fun D a9 W hC hd hsz hf hv hJ hL hW K8 hK => ?_, fun D a9 W hC hd hsz hf hv hJ hL hW K8 hK => ?_, fun D a9 W hC hd hsz hf hv hJ hL hW K8 hK => ?_, fun D a9 W hC hd hsz hf hv hJ hL hW K8 hK => ?_, fun D a9 W hC hd hsz hf hv hJ hL hW K8 hK => ?_, fun D a9 W hC hd hsz hf hv hJ hL hW K8 hK => ?_, fun D a9 W hC hd hsz hf hv hJ hL hW K8 hK => ?_, fun D a9 W hC hd hsz hf hv hJ hL hW K8 hK => ?_, fun D a9 W hC hd hsz hf hv hJ hL hW K8 hK => ?_, fun D a9 W hC hd hsz hf hv hJ hL hW K8 hK => ?_, fun D a9 W hC hd hsz hf hv hJ hL hW K8 hK => ?_, fun D a9 W hC hd hsz hf hv hJ hL hW K8 hK => ?_, fun D a9 W hC hd hsz hf hv hJ hL hW K8 hK => ?_, fun D a9 W hC hd hsz hf hv hJ hL hW K8 hK => ?_, fun D a9 W hC hd hsz hf hv hJ hL hW K8 hK => ?_, fun D a9 W hC hd hsz hf hv hJ hL hW K8 hK => ?_, fun D a9 W hC hd hsz hf hv hJ hL hW K8 hK => ?_, fun D a9 W hC hd hsz hf hv hJ hL hW K8 hK => ?_, fun D a9 W hC hd hsz hf hv hJ hL hW K8 hK => ?_, fun D a9 W hC hd hsz hf hv hJ hL hW K8 hK => ?_, fun D a9 W hC hd hsz hf hv hJ hL hW K8 hK => ?_, fun D a9 W hC hd hsz hf hv hJ hL hW K8 hK => ?_, fun D a9 W hC hd hsz hf hv hJ hL hW K8 hK => ?_, fun D a9 W hC hd hsz hf hv hJ hL hW K8 hK => ?_, fun D a9 W hC hd hsz hf hv hJ hL hW K8 hK => ?_, fun D a9 W hC hd hsz hf hv hJ hL hW K8 hK => ?_, fun D a9 W hC hd hsz hf hv hJ hL hW K8 hK => ?_, fun D a9 W hC hd hsz hf hv hJ hL hW K8 hK => ?_, fun D a9 W hC hd hsz hf hv hJ hL hW K8 hK => ?_, fun D a9 W hC hd hsz hf hv hJ hL hW K8 hK => ?_, fun D a9 W hC hd hsz hf hv hJ hL hW K8 hK => ?_, fun D a9 W hC hd hsz hf hv hJ hL hW K8 hK => ?_, fun D a9 W hC hd hsz hf hv hJ hL hW K8 hK => ?_, fun D a9 W hC hd hsz hf hv hJ hL hW K8 hK => ?_, fun D a9 W hC hd hsz hf hv hJ hL hW K8 hK => ?_, fun D a9 W hC hd hsz hf hv hJ hL hW K8 hK => ?_, fun D a9 W hC hd hsz hf hv hJ hL hW K8 hK => ?_, fun D a9 W hC hd hsz hf hv hJ hL hW K8 hK => ?_, fun D a9 W hC hd hsz hf hv hJ hL hW K8 hK => ?_, fun D a9 W hC hd hsz hf hv hJ hL hW K8 hK => ?_, fun D a9 W hC hd hsz hf hv hJ hL hW K8 hK => ?_, fun D a9 W hC hd hsz hf hv hJ hL hW K8 hK => ?_, fun D a9 W hC hd hsz hf hv hJ hL hW K8 hK => ?_, fun D a9 W hC hd hsz hf hv hJ hL hW K8 hK => ?_, fun D a9 W hC hd hsz hf hv hJ hL hW K8 hK => ?_, fun D a9 W hC hd hsz hf hv hJ hL hW K8 hK => ?_, fun D a9 W hC hd hsz hf hv hJ hL hW K8 hK => ?_, fun D a9 W hC hd hsz hf hv hJ hL hW K8 hK => ?_, fun D a9 W hC hd hsz hf hv hJ hL hW K8 hK => ?_, fun D a9 W hC hd hsz hf hv hJ hL hW K8 hK => ?_, fun D a9 W hC hd hsz hf hv hJ hL hW K8 hK => ?_, fun D a9 W hC hd hsz hf hv hJ hL hW K8 hK => ?_, fun D a9 W hC hd hsz hf hv hJ hL hW K8 hK => ?_, fun D a9 W hC hd hsz hf hv hJ hL hW K8 hK => ?_, fun D a9 W hC hd hsz hf hv hJ hL hW K8 hK => ?_, fun D a9 W hC hd hsz hf hv hJ hL hW K8 hK => ?_, fun D a9 W hC hd hsz hf hv hJ hL hW K8 hK => ?_, fun D a9 W hC hd hsz hf hv hJ hL hW K8 hK => ?_, fun D a9 W hC hd hsz hf hv hJ hL hW K8 hK => ?_, fun D a9 W hC hd hsz hf hv hJ hL hW K8 hK => ?_, fun D a9 W hC hd hsz hf hv hJ hL hW K8 hK => ?_, fun D a9 W hC hd hsz hf hv hJ hL hW K8 hK => ?_, fun D a9 W hC hd hsz hf hv hJ hL hW K8 hK => ?_, fun D a9 W hC hd hsz hf hv hJ hL hW K8 hK => ?_, fun D a9 W hC hd hsz hf hv hJ hL hW K8 hK => ?_, fun D a9 W hC hd hsz hf hv hJ hL hW K8 hK => ?_, fun D a9 W hC hd hsz hf hv hJ hL hW K8 hK => ?_, trivial⟩
    · clear hsz
      have eS1_ := slot_of (a := a9) (s := 2) (v := .pointer (some ⟨g, 0, none⟩)) (hf 2 (by kernel_rfl))
      refine step_run (wanted_none rfl) (v := .pointer (some ⟨g, 0, none⟩)) (w' := W) ?_ (hK _ _ trivial trivial rfl (hJ))
      go_simp
    · clear hsz
      have eS1_ := slot_of (a := a9) (s := 8) (v := .pointer (some ⟨g, 0, none⟩)) (hv 0 (by kernel_rfl))
      have hc9 := LA.out W hJ 0 (.int .i64 k) rfl
      refine step_run (wanted_none rfl) (v := .int .i64 k) (w' := W) ?_ (hK _ _ trivial trivial rfl (hJ))
      go_simp
    · clear hsz
      have eS1_ := slot_of (a := a9) (s := 3) (v := .pointer (some ⟨g + 1, 0, none⟩)) (hf 3 (by kernel_rfl))
      refine step_run (wanted_none rfl) (v := .pointer (some ⟨g + 1, 0, none⟩)) (w' := W) ?_ (hK _ _ trivial trivial rfl (hJ))
      go_simp
    · clear hsz
      have eS1_ := slot_of (a := a9) (s := 10) (v := .pointer (some ⟨g + 1, 0, none⟩)) (hv 2 (by kernel_rfl))
      have hc9 := LB.out W hJ 0 (.int .i64 k) rfl
      refine step_run (wanted_none rfl) (v := .int .i64 k) (w' := W) ?_ (hK _ _ trivial trivial rfl (hJ))
      go_simp
    · clear hsz
      have eS1_ := slot_of (a := a9) (s := 9) (v := .int .i64 k) (hv 1 (by kernel_rfl))
      have eS2_ := slot_of (a := a9) (s := 11) (v := .int .i64 k) (hv 3 (by kernel_rfl))
      refine step_run (wanted_none rfl) (v := .bool false) (w' := W) ?_ (hK _ _ trivial trivial rfl (hJ))
      go_simp
    · clear hsz
      have eS1_ := slot_of (a := a9) (s := 12) (v := .bool false) (hv 4 (by kernel_rfl))
      refine step_run (wanted_none rfl) (v := .bool false) (w' := W) ?_ (hK _ _ trivial trivial rfl (hJ))
      go_simp
    · clear hsz
      have eS1_ := slot_of (a := a9) (s := 2) (v := .pointer (some ⟨g, 0, none⟩)) (hf 2 (by kernel_rfl))
      refine step_run (wanted_at (j := 5) (s := 13) (b := false) rfl (by kernel_rfl) (hv 5 (by kernel_rfl))) (v := .pointer (some ⟨g, 1, none⟩)) (w' := W) ?_ (hK _ _ trivial trivial rfl (hJ))
      go_simp
    · clear hsz
      have eS1_ := slot_of (a := a9) (s := 14) (v := .pointer (some ⟨g, 1, none⟩)) (hv 6 (by kernel_rfl))
      have hc9 := LA.out W hJ 1 (.int .i64 f) rfl
      refine step_run (wanted_at (j := 5) (s := 13) (b := false) rfl (by kernel_rfl) (hv 5 (by kernel_rfl))) (v := .int .i64 f) (w' := W) ?_ (hK _ _ trivial trivial rfl (hJ))
      go_simp
    · clear hsz
      have eS1_ := slot_of (a := a9) (s := 3) (v := .pointer (some ⟨g + 1, 0, none⟩)) (hf 3 (by kernel_rfl))
      refine step_run (wanted_at (j := 5) (s := 13) (b := false) rfl (by kernel_rfl) (hv 5 (by kernel_rfl))) (v := .pointer (some ⟨g + 1, 1, none⟩)) (w' := W) ?_ (hK _ _ trivial trivial rfl (hJ))
      go_simp
    · clear hsz
      have eS1_ := slot_of (a := a9) (s := 16) (v := .pointer (some ⟨g + 1, 1, none⟩)) (hv 8 (by kernel_rfl))
      have hc9 := LB.out W hJ 1 (.int .i64 f) rfl
      refine step_run (wanted_at (j := 5) (s := 13) (b := false) rfl (by kernel_rfl) (hv 5 (by kernel_rfl))) (v := .int .i64 f) (w' := W) ?_ (hK _ _ trivial trivial rfl (hJ))
      go_simp
    · clear hsz
      have eS1_ := slot_of (a := a9) (s := 15) (v := .int .i64 f) (hv 7 (by kernel_rfl))
      have eS2_ := slot_of (a := a9) (s := 17) (v := .int .i64 f) (hv 9 (by kernel_rfl))
      refine step_run (wanted_at (j := 5) (s := 13) (b := false) rfl (by kernel_rfl) (hv 5 (by kernel_rfl))) (v := .bool false) (w' := W) ?_ (hK _ _ trivial trivial rfl (hJ))
      go_simp
    · clear hsz
      have eS1_ := slot_of (a := a9) (s := 13) (v := .bool false) (hv 5 (by kernel_rfl))
      have eS2_ := slot_of (a := a9) (s := 18) (v := .bool false) (hv 10 (by kernel_rfl))
      refine step_run (wanted_none rfl) (v := .bool false) (w' := W) ?_ (hK _ _ trivial trivial rfl (hJ))
      go_simp
    · clear hsz
      have eS1_ := slot_of (a := a9) (s := 19) (v := .bool false) (hv 11 (by kernel_rfl))
      refine step_run (wanted_none rfl) (v := .bool false) (w' := W) ?_ (hK _ _ trivial trivial rfl (hJ))
      go_simp
    · clear hsz
      have eS1_ := slot_of (a := a9) (s := 2) (v := .pointer (some ⟨g, 0, none⟩)) (hf 2 (by kernel_rfl))
      refine step_run (wanted_at (j := 12) (s := 20) (b := false) rfl (by kernel_rfl) (hv 12 (by kernel_rfl))) (v := .pointer (some ⟨g, 2, none⟩)) (w' := W) ?_ (hK _ _ trivial trivial rfl (hJ))
      go_simp
    · clear hsz
      have eS1_ := slot_of (a := a9) (s := 21) (v := .pointer (some ⟨g, 2, none⟩)) (hv 13 (by kernel_rfl))
      have hc9 := LA.out W hJ 2 (.int .i64 q) rfl
      refine step_run (wanted_at (j := 12) (s := 20) (b := false) rfl (by kernel_rfl) (hv 12 (by kernel_rfl))) (v := .int .i64 q) (w' := W) ?_ (hK _ _ trivial trivial rfl (hJ))
      go_simp
    · clear hsz
      have eS1_ := slot_of (a := a9) (s := 3) (v := .pointer (some ⟨g + 1, 0, none⟩)) (hf 3 (by kernel_rfl))
      refine step_run (wanted_at (j := 12) (s := 20) (b := false) rfl (by kernel_rfl) (hv 12 (by kernel_rfl))) (v := .pointer (some ⟨g + 1, 2, none⟩)) (w' := W) ?_ (hK _ _ trivial trivial rfl (hJ))
      go_simp
    · clear hsz
      have eS1_ := slot_of (a := a9) (s := 23) (v := .pointer (some ⟨g + 1, 2, none⟩)) (hv 15 (by kernel_rfl))
      have hc9 := LB.out W hJ 2 (.int .i64 q) rfl
      refine step_run (wanted_at (j := 12) (s := 20) (b := false) rfl (by kernel_rfl) (hv 12 (by kernel_rfl))) (v := .int .i64 q) (w' := W) ?_ (hK _ _ trivial trivial rfl (hJ))
      go_simp
    · clear hsz
      have eS1_ := slot_of (a := a9) (s := 22) (v := .int .i64 q) (hv 14 (by kernel_rfl))
      have eS2_ := slot_of (a := a9) (s := 24) (v := .int .i64 q) (hv 16 (by kernel_rfl))
      refine step_run (wanted_at (j := 12) (s := 20) (b := false) rfl (by kernel_rfl) (hv 12 (by kernel_rfl))) (v := .bool false) (w' := W) ?_ (hK _ _ trivial trivial rfl (hJ))
      go_simp
    · clear hsz
      have eS1_ := slot_of (a := a9) (s := 20) (v := .bool false) (hv 12 (by kernel_rfl))
      have eS2_ := slot_of (a := a9) (s := 25) (v := .bool false) (hv 17 (by kernel_rfl))
      refine step_run (wanted_none rfl) (v := .bool false) (w' := W) ?_ (hK _ _ trivial trivial rfl (hJ))
      go_simp
    · clear hsz
      have eS1_ := slot_of (a := a9) (s := 26) (v := .bool false) (hv 18 (by kernel_rfl))
      refine step_run (wanted_none rfl) (v := .bool false) (w' := W) ?_ (hK _ _ trivial trivial rfl (hJ))
      go_simp
    · clear hsz
      have eS1_ := slot_of (a := a9) (s := 2) (v := .pointer (some ⟨g, 0, none⟩)) (hf 2 (by kernel_rfl))
      refine step_run (wanted_at (j := 19) (s := 27) (b := false) rfl (by kernel_rfl) (hv 19 (by kernel_rfl))) (v := .pointer (some ⟨g, 3, none⟩)) (w' := W) ?_ (hK _ _ trivial trivial rfl (hJ))
      go_simp
    · clear hsz
      have eS1_ := slot_of (a := a9) (s := 28) (v := .pointer (some ⟨g, 3, none⟩)) (hv 20 (by kernel_rfl))
      have hc9 := LA.out W hJ 3 (.int .i64 er) rfl
      refine step_run (wanted_at (j := 19) (s := 27) (b := false) rfl (by kernel_rfl) (hv 19 (by kernel_rfl))) (v := .int .i64 er) (w' := W) ?_ (hK _ _ trivial trivial rfl (hJ))
      go_simp
    · clear hsz
      have eS1_ := slot_of (a := a9) (s := 3) (v := .pointer (some ⟨g + 1, 0, none⟩)) (hf 3 (by kernel_rfl))
      refine step_run (wanted_at (j := 19) (s := 27) (b := false) rfl (by kernel_rfl) (hv 19 (by kernel_rfl))) (v := .pointer (some ⟨g + 1, 3, none⟩)) (w' := W) ?_ (hK _ _ trivial trivial rfl (hJ))
      go_simp
    · clear hsz
      have eS1_ := slot_of (a := a9) (s := 30) (v := .pointer (some ⟨g + 1, 3, none⟩)) (hv 22 (by kernel_rfl))
      have hc9 := LB.out W hJ 3 (.int .i64 er) rfl
      refine step_run (wanted_at (j := 19) (s := 27) (b := false) rfl (by kernel_rfl) (hv 19 (by kernel_rfl))) (v := .int .i64 er) (w' := W) ?_ (hK _ _ trivial trivial rfl (hJ))
      go_simp
    · clear hsz
      have eS1_ := slot_of (a := a9) (s := 29) (v := .int .i64 er) (hv 21 (by kernel_rfl))
      have eS2_ := slot_of (a := a9) (s := 31) (v := .int .i64 er) (hv 23 (by kernel_rfl))
      refine step_run (wanted_at (j := 19) (s := 27) (b := false) rfl (by kernel_rfl) (hv 19 (by kernel_rfl))) (v := .bool false) (w' := W) ?_ (hK _ _ trivial trivial rfl (hJ))
      go_simp
    · clear hsz
      have eS1_ := slot_of (a := a9) (s := 27) (v := .bool false) (hv 19 (by kernel_rfl))
      have eS2_ := slot_of (a := a9) (s := 32) (v := .bool false) (hv 24 (by kernel_rfl))
      refine step_run (wanted_none rfl) (v := .bool false) (w' := W) ?_ (hK _ _ trivial trivial rfl (hJ))
      go_simp
    · clear hsz
      have eS1_ := slot_of (a := a9) (s := 33) (v := .bool false) (hv 25 (by kernel_rfl))
      refine step_run (wanted_none rfl) (v := .bool false) (w' := W) ?_ (hK _ _ trivial trivial rfl (hJ))
      go_simp
    · clear hsz
      have eS1_ := slot_of (a := a9) (s := 2) (v := .pointer (some ⟨g, 0, none⟩)) (hf 2 (by kernel_rfl))
      refine step_run (wanted_at (j := 26) (s := 34) (b := false) rfl (by kernel_rfl) (hv 26 (by kernel_rfl))) (v := .pointer (some ⟨g, 4, none⟩)) (w' := W) ?_ (hK _ _ trivial trivial rfl (hJ))
      go_simp
    · clear hsz
      have eS1_ := slot_of (a := a9) (s := 35) (v := .pointer (some ⟨g, 4, none⟩)) (hv 27 (by kernel_rfl))
      have hc9 := LA.out W hJ 4 (.int .i64 fo) rfl
      refine step_run (wanted_at (j := 26) (s := 34) (b := false) rfl (by kernel_rfl) (hv 26 (by kernel_rfl))) (v := .int .i64 fo) (w' := W) ?_ (hK _ _ trivial trivial rfl (hJ))
      go_simp
    · clear hsz
      have eS1_ := slot_of (a := a9) (s := 3) (v := .pointer (some ⟨g + 1, 0, none⟩)) (hf 3 (by kernel_rfl))
      refine step_run (wanted_at (j := 26) (s := 34) (b := false) rfl (by kernel_rfl) (hv 26 (by kernel_rfl))) (v := .pointer (some ⟨g + 1, 4, none⟩)) (w' := W) ?_ (hK _ _ trivial trivial rfl (hJ))
      go_simp
    · clear hsz
      have eS1_ := slot_of (a := a9) (s := 37) (v := .pointer (some ⟨g + 1, 4, none⟩)) (hv 29 (by kernel_rfl))
      have hc9 := LB.out W hJ 4 (.int .i64 fo) rfl
      refine step_run (wanted_at (j := 26) (s := 34) (b := false) rfl (by kernel_rfl) (hv 26 (by kernel_rfl))) (v := .int .i64 fo) (w' := W) ?_ (hK _ _ trivial trivial rfl (hJ))
      go_simp
    · clear hsz
      have eS1_ := slot_of (a := a9) (s := 36) (v := .int .i64 fo) (hv 28 (by kernel_rfl))
      have eS2_ := slot_of (a := a9) (s := 38) (v := .int .i64 fo) (hv 30 (by kernel_rfl))
      refine step_run (wanted_at (j := 26) (s := 34) (b := false) rfl (by kernel_rfl) (hv 26 (by kernel_rfl))) (v := .bool false) (w' := W) ?_ (hK _ _ trivial trivial rfl (hJ))
      go_simp
    · clear hsz
      have eS1_ := slot_of (a := a9) (s := 34) (v := .bool false) (hv 26 (by kernel_rfl))
      have eS2_ := slot_of (a := a9) (s := 39) (v := .bool false) (hv 31 (by kernel_rfl))
      refine step_run (wanted_none rfl) (v := .bool false) (w' := W) ?_ (hK _ _ trivial trivial rfl (hJ))
      go_simp
    · clear hsz
      have eS1_ := slot_of (a := a9) (s := 40) (v := .bool false) (hv 32 (by kernel_rfl))
      refine step_run (wanted_none rfl) (v := .bool false) (w' := W) ?_ (hK _ _ trivial trivial rfl (hJ))
      go_simp
    · clear hsz
      have eS1_ := slot_of (a := a9) (s := 2) (v := .pointer (some ⟨g, 0, none⟩)) (hf 2 (by kernel_rfl))
      refine step_run (wanted_at (j := 33) (s := 41) (b := false) rfl (by kernel_rfl) (hv 33 (by kernel_rfl))) (v := .pointer (some ⟨g, 5, none⟩)) (w' := W) ?_ (hK _ _ trivial trivial rfl (hJ))
      go_simp
    · clear hsz
      have eS1_ := slot_of (a := a9) (s := 42) (v := .pointer (some ⟨g, 5, none⟩)) (hv 34 (by kernel_rfl))
      have hc9 := LA.out W hJ 5 (.int .i64 lv) rfl
      refine step_run (wanted_at (j := 33) (s := 41) (b := false) rfl (by kernel_rfl) (hv 33 (by kernel_rfl))) (v := .int .i64 lv) (w' := W) ?_ (hK _ _ trivial trivial rfl (hJ))
      go_simp
    · clear hsz
      have eS1_ := slot_of (a := a9) (s := 3) (v := .pointer (some ⟨g + 1, 0, none⟩)) (hf 3 (by kernel_rfl))
      refine step_run (wanted_at (j := 33) (s := 41) (b := false) rfl (by kernel_rfl) (hv 33 (by kernel_rfl))) (v := .pointer (some ⟨g + 1, 5, none⟩)) (w' := W) ?_ (hK _ _ trivial trivial rfl (hJ))
      go_simp
    · clear hsz
      have eS1_ := slot_of (a := a9) (s := 44) (v := .pointer (some ⟨g + 1, 5, none⟩)) (hv 36 (by kernel_rfl))
      have hc9 := LB.out W hJ 5 (.int .i64 lv) rfl
      refine step_run (wanted_at (j := 33) (s := 41) (b := false) rfl (by kernel_rfl) (hv 33 (by kernel_rfl))) (v := .int .i64 lv) (w' := W) ?_ (hK _ _ trivial trivial rfl (hJ))
      go_simp
    · clear hsz
      have eS1_ := slot_of (a := a9) (s := 43) (v := .int .i64 lv) (hv 35 (by kernel_rfl))
      have eS2_ := slot_of (a := a9) (s := 45) (v := .int .i64 lv) (hv 37 (by kernel_rfl))
      refine step_run (wanted_at (j := 33) (s := 41) (b := false) rfl (by kernel_rfl) (hv 33 (by kernel_rfl))) (v := .bool false) (w' := W) ?_ (hK _ _ trivial trivial rfl (hJ))
      go_simp
    · clear hsz
      have eS1_ := slot_of (a := a9) (s := 41) (v := .bool false) (hv 33 (by kernel_rfl))
      have eS2_ := slot_of (a := a9) (s := 46) (v := .bool false) (hv 38 (by kernel_rfl))
      refine step_run (wanted_none rfl) (v := .bool false) (w' := W) ?_ (hK _ _ trivial trivial rfl (hJ))
      go_simp
    · clear hsz
      have eS1_ := slot_of (a := a9) (s := 47) (v := .bool false) (hv 39 (by kernel_rfl))
      refine step_run (wanted_none rfl) (v := .bool false) (w' := W) ?_ (hK _ _ trivial trivial rfl (hJ))
      go_simp
    · clear hsz
      have eS1_ := slot_of (a := a9) (s := 2) (v := .pointer (some ⟨g, 0, none⟩)) (hf 2 (by kernel_rfl))
      refine step_run (wanted_at (j := 40) (s := 48) (b := false) rfl (by kernel_rfl) (hv 40 (by kernel_rfl))) (v := .pointer (some ⟨g, 6, none⟩)) (w' := W) ?_ (hK _ _ trivial trivial rfl (hJ))
      go_simp
    · clear hsz
      have eS1_ := slot_of (a := a9) (s := 49) (v := .pointer (some ⟨g, 6, none⟩)) (hv 41 (by kernel_rfl))
      refine step_run (wanted_at (j := 40) (s := 48) (b := false) rfl (by kernel_rfl) (hv 40 (by kernel_rfl))) (v := .pointer (some ⟨g, 7, none⟩)) (w' := W) ?_ (hK _ _ trivial trivial rfl (hJ))
      go_simp
    · clear hsz
      have eS1_ := slot_of (a := a9) (s := 50) (v := .pointer (some ⟨g, 7, none⟩)) (hv 42 (by kernel_rfl))
      have hc9 := LA.out W hJ 7 (.string (strOf sa)) rfl
      refine step_run (wanted_at (j := 40) (s := 48) (b := false) rfl (by kernel_rfl) (hv 40 (by kernel_rfl))) (v := .string (strOf sa)) (w' := W) ?_ (hK _ _ trivial trivial rfl (hJ))
      go_simp
    · clear hsz
      have eS1_ := slot_of (a := a9) (s := 3) (v := .pointer (some ⟨g + 1, 0, none⟩)) (hf 3 (by kernel_rfl))
      refine step_run (wanted_at (j := 40) (s := 48) (b := false) rfl (by kernel_rfl) (hv 40 (by kernel_rfl))) (v := .pointer (some ⟨g + 1, 6, none⟩)) (w' := W) ?_ (hK _ _ trivial trivial rfl (hJ))
      go_simp
    · clear hsz
      have eS1_ := slot_of (a := a9) (s := 52) (v := .pointer (some ⟨g + 1, 6, none⟩)) (hv 44 (by kernel_rfl))
      refine step_run (wanted_at (j := 40) (s := 48) (b := false) rfl (by kernel_rfl) (hv 40 (by kernel_rfl))) (v := .pointer (some ⟨g + 1, 7, none⟩)) (w' := W) ?_ (hK _ _ trivial trivial rfl (hJ))
      go_simp
    · clear hsz
      have eS1_ := slot_of (a := a9) (s := 53) (v := .pointer (some ⟨g + 1, 7, none⟩)) (hv 45 (by kernel_rfl))
      have hc9 := LB.out W hJ 7 (.string (strOf sa)) rfl
      refine step_run (wanted_at (j := 40) (s := 48) (b := false) rfl (by kernel_rfl) (hv 40 (by kernel_rfl))) (v := .string (strOf sa)) (w' := W) ?_ (hK _ _ trivial trivial rfl (hJ))
      go_simp
    · clear hsz
      have eS1_ := slot_of (a := a9) (s := 51) (v := .string (strOf sa)) (hv 43 (by kernel_rfl))
      have eS2_ := slot_of (a := a9) (s := 54) (v := .string (strOf sa)) (hv 46 (by kernel_rfl))
      refine step_run (wanted_at (j := 40) (s := 48) (b := false) rfl (by kernel_rfl) (hv 40 (by kernel_rfl))) (v := .bool false) (w' := W) ?_ (hK _ _ trivial trivial rfl (hJ))
      go_simp
    · clear hsz
      have eS1_ := slot_of (a := a9) (s := 48) (v := .bool false) (hv 40 (by kernel_rfl))
      have eS2_ := slot_of (a := a9) (s := 55) (v := .bool false) (hv 47 (by kernel_rfl))
      refine step_run (wanted_none rfl) (v := .bool false) (w' := W) ?_ (hK _ _ trivial trivial rfl (hJ))
      go_simp
    · clear hsz
      have eS1_ := slot_of (a := a9) (s := 56) (v := .bool false) (hv 48 (by kernel_rfl))
      refine step_run (wanted_none rfl) (v := .bool false) (w' := W) ?_ (hK _ _ trivial trivial rfl (hJ))
      go_simp
    · clear hsz
      have eS1_ := slot_of (a := a9) (s := 2) (v := .pointer (some ⟨g, 0, none⟩)) (hf 2 (by kernel_rfl))
      refine step_run (wanted_at (j := 49) (s := 57) (b := false) rfl (by kernel_rfl) (hv 49 (by kernel_rfl))) (v := .pointer (some ⟨g, 8, none⟩)) (w' := W) ?_ (hK _ _ trivial trivial rfl (hJ))
      go_simp
    · clear hsz
      have eS1_ := slot_of (a := a9) (s := 58) (v := .pointer (some ⟨g, 8, none⟩)) (hv 50 (by kernel_rfl))
      have hc9 := LA.out W hJ 8 (.slice A1 nA c1) (by rw [← HNA.out]; rfl)
      refine step_run (wanted_at (j := 49) (s := 57) (b := false) rfl (by kernel_rfl) (hv 49 (by kernel_rfl))) (v := .slice A1 nA c1) (w' := W) ?_ (hK _ _ trivial trivial rfl (hJ))
      go_simp
    · clear hsz
      have eS1_ := slot_of (a := a9) (s := 59) (v := .slice A1 nA c1) (hv 51 (by kernel_rfl))
      refine step_run (wanted_at (j := 49) (s := 57) (b := false) rfl (by kernel_rfl) (hv 49 (by kernel_rfl))) (v := .int .i64 (nA : Int)) (w' := W) ?_ (hK _ _ trivial trivial rfl (hJ))
      go_simp
    · clear hsz
      have eS1_ := slot_of (a := a9) (s := 3) (v := .pointer (some ⟨g + 1, 0, none⟩)) (hf 3 (by kernel_rfl))
      refine step_run (wanted_at (j := 49) (s := 57) (b := false) rfl (by kernel_rfl) (hv 49 (by kernel_rfl))) (v := .pointer (some ⟨g + 1, 8, none⟩)) (w' := W) ?_ (hK _ _ trivial trivial rfl (hJ))
      go_simp
    · clear hsz
      have eS1_ := slot_of (a := a9) (s := 61) (v := .pointer (some ⟨g + 1, 8, none⟩)) (hv 53 (by kernel_rfl))
      have hc9 := LB.out W hJ 8 (.slice B1 nA d1) (by rw [← HNA.out]; rfl)
      refine step_run (wanted_at (j := 49) (s := 57) (b := false) rfl (by kernel_rfl) (hv 49 (by kernel_rfl))) (v := .slice B1 nA d1) (w' := W) ?_ (hK _ _ trivial trivial rfl (hJ))
      go_simp
    · clear hsz
      have eS1_ := slot_of (a := a9) (s := 62) (v := .slice B1 nA d1) (hv 54 (by kernel_rfl))
      refine step_run (wanted_at (j := 49) (s := 57) (b := false) rfl (by kernel_rfl) (hv 49 (by kernel_rfl))) (v := .int .i64 (nA : Int)) (w' := W) ?_ (hK _ _ trivial trivial rfl (hJ))
      go_simp
    · clear hsz
      have eS1_ := slot_of (a := a9) (s := 60) (v := .int .i64 (nA : Int)) (hv 52 (by kernel_rfl))
      have eS2_ := slot_of (a := a9) (s := 63) (v := .int .i64 (nA : Int)) (hv 55 (by kernel_rfl))
      refine step_run (wanted_at (j := 49) (s := 57) (b := false) rfl (by kernel_rfl) (hv 49 (by kernel_rfl))) (v := .bool false) (w' := W) ?_ (hK _ _ trivial trivial rfl (hJ))
      go_simp
    · clear hsz
      have eS1_ := slot_of (a := a9) (s := 57) (v := .bool false) (hv 49 (by kernel_rfl))
      have eS2_ := slot_of (a := a9) (s := 64) (v := .bool false) (hv 56 (by kernel_rfl))
      refine step_run (wanted_none rfl) (v := .bool false) (w' := W) ?_ (hK _ _ trivial trivial rfl (hJ))
      go_simp
    · clear hsz
      have eS1_ := slot_of (a := a9) (s := 65) (v := .bool false) (hv 57 (by kernel_rfl))
      refine step_run (wanted_none rfl) (v := .bool false) (w' := W) ?_ (hK _ _ trivial trivial rfl (hJ))
      go_simp
    · clear hsz
      have eS1_ := slot_of (a := a9) (s := 2) (v := .pointer (some ⟨g, 0, none⟩)) (hf 2 (by kernel_rfl))
      refine step_run (wanted_at (j := 58) (s := 66) (b := false) rfl (by kernel_rfl) (hv 58 (by kernel_rfl))) (v := .pointer (some ⟨g, 9, none⟩)) (w' := W) ?_ (hK _ _ trivial trivial rfl (hJ))
      go_simp
    · clear hsz
      have eS1_ := slot_of (a := a9) (s := 67) (v := .pointer (some ⟨g, 9, none⟩)) (hv 59 (by kernel_rfl))
      have hc9 := LA.out W hJ 9 (.slice A2 nD c2) (by rw [← HND.out]; rfl)
      refine step_run (wanted_at (j := 58) (s := 66) (b := false) rfl (by kernel_rfl) (hv 58 (by kernel_rfl))) (v := .slice A2 nD c2) (w' := W) ?_ (hK _ _ trivial trivial rfl (hJ))
      go_simp
    · clear hsz
      have eS1_ := slot_of (a := a9) (s := 68) (v := .slice A2 nD c2) (hv 60 (by kernel_rfl))
      refine step_run (wanted_at (j := 58) (s := 66) (b := false) rfl (by kernel_rfl) (hv 58 (by kernel_rfl))) (v := .int .i64 (nD : Int)) (w' := W) ?_ (hK _ _ trivial trivial rfl (hJ))
      go_simp
    · clear hsz
      have eS1_ := slot_of (a := a9) (s := 3) (v := .pointer (some ⟨g + 1, 0, none⟩)) (hf 3 (by kernel_rfl))
      refine step_run (wanted_at (j := 58) (s := 66) (b := false) rfl (by kernel_rfl) (hv 58 (by kernel_rfl))) (v := .pointer (some ⟨g + 1, 9, none⟩)) (w' := W) ?_ (hK _ _ trivial trivial rfl (hJ))
      go_simp
    · clear hsz
      have eS1_ := slot_of (a := a9) (s := 70) (v := .pointer (some ⟨g + 1, 9, none⟩)) (hv 62 (by kernel_rfl))
      have hc9 := LB.out W hJ 9 (.slice B2 nD d2) (by rw [← HND.out]; rfl)
      refine step_run (wanted_at (j := 58) (s := 66) (b := false) rfl (by kernel_rfl) (hv 58 (by kernel_rfl))) (v := .slice B2 nD d2) (w' := W) ?_ (hK _ _ trivial trivial rfl (hJ))
      go_simp
    · clear hsz
      have eS1_ := slot_of (a := a9) (s := 71) (v := .slice B2 nD d2) (hv 63 (by kernel_rfl))
      refine step_run (wanted_at (j := 58) (s := 66) (b := false) rfl (by kernel_rfl) (hv 58 (by kernel_rfl))) (v := .int .i64 (nD : Int)) (w' := W) ?_ (hK _ _ trivial trivial rfl (hJ))
      go_simp
    · clear hsz
      have eS1_ := slot_of (a := a9) (s := 69) (v := .int .i64 (nD : Int)) (hv 61 (by kernel_rfl))
      have eS2_ := slot_of (a := a9) (s := 72) (v := .int .i64 (nD : Int)) (hv 64 (by kernel_rfl))
      refine step_run (wanted_at (j := 58) (s := 66) (b := false) rfl (by kernel_rfl) (hv 58 (by kernel_rfl))) (v := .bool false) (w' := W) ?_ (hK _ _ trivial trivial rfl (hJ))
      go_simp
    · clear hsz
      have eS1_ := slot_of (a := a9) (s := 66) (v := .bool false) (hv 58 (by kernel_rfl))
      have eS2_ := slot_of (a := a9) (s := 73) (v := .bool false) (hv 65 (by kernel_rfl))
      refine step_run (wanted_none rfl) (v := .bool false) (w' := W) ?_ (hK _ _ trivial trivial rfl (hJ))
      go_simp
    · clear hsz
      have eS1_ := slot_of (a := a9) (s := 74) (v := .bool false) (hv 66 (by kernel_rfl))
      refine step_run (wanted_none rfl) (v := .bool false) (w' := W) ?_ (hK _ _ trivial trivial rfl (hJ))
      go_simp
    · clear hsz
      have eS1_ := slot_of (a := a9) (s := 2) (v := .pointer (some ⟨g, 0, none⟩)) (hf 2 (by kernel_rfl))
      refine step_run (wanted_at (j := 67) (s := 75) (b := false) rfl (by kernel_rfl) (hv 67 (by kernel_rfl))) (v := .pointer (some ⟨g, 10, none⟩)) (w' := W) ?_ (hK _ _ trivial trivial rfl (hJ))
      go_simp
    · clear hsz
      have eS1_ := slot_of (a := a9) (s := 76) (v := .pointer (some ⟨g, 10, none⟩)) (hv 68 (by kernel_rfl))
      have hc9 := LA.out W hJ 10 (.slice A3 nR c3) (by rw [← HNR.out]; rfl)
      refine step_run (wanted_at (j := 67) (s := 75) (b := false) rfl (by kernel_rfl) (hv 67 (by kernel_rfl))) (v := .slice A3 nR c3) (w' := W) ?_ (hK _ _ trivial trivial rfl (hJ))
      go_simp
    · clear hsz
      have eS1_ := slot_of (a := a9) (s := 77) (v := .slice A3 nR c3) (hv 69 (by kernel_rfl))
      refine step_run (wanted_at (j := 67) (s := 75) (b := false) rfl (by kernel_rfl) (hv 67 (by kernel_rfl))) (v := .int .i64 (nR : Int)) (w' := W) ?_ (hK _ _ trivial trivial rfl (hJ))
      go_simp
    · clear hsz
      have eS1_ := slot_of (a := a9) (s := 3) (v := .pointer (some ⟨g + 1, 0, none⟩)) (hf 3 (by kernel_rfl))
      refine step_run (wanted_at (j := 67) (s := 75) (b := false) rfl (by kernel_rfl) (hv 67 (by kernel_rfl))) (v := .pointer (some ⟨g + 1, 10, none⟩)) (w' := W) ?_ (hK _ _ trivial trivial rfl (hJ))
      go_simp
    · clear hsz
      have eS1_ := slot_of (a := a9) (s := 79) (v := .pointer (some ⟨g + 1, 10, none⟩)) (hv 71 (by kernel_rfl))
      have hc9 := LB.out W hJ 10 (.slice B3 nR d3) (by rw [← HNR.out]; rfl)
      refine step_run (wanted_at (j := 67) (s := 75) (b := false) rfl (by kernel_rfl) (hv 67 (by kernel_rfl))) (v := .slice B3 nR d3) (w' := W) ?_ (hK _ _ trivial trivial rfl (hJ))
      go_simp
    · clear hsz
      have eS1_ := slot_of (a := a9) (s := 80) (v := .slice B3 nR d3) (hv 72 (by kernel_rfl))
      refine step_run (wanted_at (j := 67) (s := 75) (b := false) rfl (by kernel_rfl) (hv 67 (by kernel_rfl))) (v := .int .i64 (nR : Int)) (w' := W) ?_ (hK _ _ trivial trivial rfl (hJ))
      go_simp
    · clear hsz
      have eS1_ := slot_of (a := a9) (s := 78) (v := .int .i64 (nR : Int)) (hv 70 (by kernel_rfl))
      have eS2_ := slot_of (a := a9) (s := 81) (v := .int .i64 (nR : Int)) (hv 73 (by kernel_rfl))
      refine step_run (wanted_at (j := 67) (s := 75) (b := false) rfl (by kernel_rfl) (hv 67 (by kernel_rfl))) (v := .bool false) (w' := W) ?_ (hK _ _ trivial trivial rfl (hJ))
      go_simp
    · clear hsz
      have eS1_ := slot_of (a := a9) (s := 75) (v := .bool false) (hv 67 (by kernel_rfl))
      have eS2_ := slot_of (a := a9) (s := 82) (v := .bool false) (hv 74 (by kernel_rfl))
      refine step_run (wanted_none rfl) (v := .bool false) (w' := W) ?_ (hK _ _ trivial trivial rfl (hJ))
      go_simp
    · clear hsz
      have eS1_ := slot_of (a := a9) (s := 83) (v := .bool false) (hv 75 (by kernel_rfl))
      refine step_run (wanted_none rfl) (v := .bool false) (w' := W) ?_ (hK _ _ trivial trivial rfl (hJ))
      go_simp
    · clear hsz
      have eS1_ := slot_of (a := a9) (s := 2) (v := .pointer (some ⟨g, 0, none⟩)) (hf 2 (by kernel_rfl))
      refine step_run (wanted_at (j := 76) (s := 84) (b := false) rfl (by kernel_rfl) (hv 76 (by kernel_rfl))) (v := .pointer (some ⟨g, 6, none⟩)) (w' := W) ?_ (hK _ _ trivial trivial rfl (hJ))
      go_simp
    · clear hsz
      have eS1_ := slot_of (a := a9) (s := 85) (v := .pointer (some ⟨g, 6, none⟩)) (hv 77 (by kernel_rfl))
      refine step_run (wanted_at (j := 76) (s := 84) (b := false) rfl (by kernel_rfl) (hv 76 (by kernel_rfl))) (v := .pointer (some ⟨g, 6, none⟩)) (w' := W) ?_ (hK _ _ trivial trivial rfl (hJ))
      go_simp
    · clear hsz
      have eS1_ := slot_of (a := a9) (s := 86) (v := .pointer (some ⟨g, 6, none⟩)) (hv 78 (by kernel_rfl))
      have hc9 := LA.out W hJ 6 (.string (strOf ka)) rfl
      refine step_run (wanted_at (j := 76) (s := 84) (b := false) rfl (by kernel_rfl) (hv 76 (by kernel_rfl))) (v := .string (strOf ka)) (w' := W) ?_ (hK _ _ trivial trivial rfl (hJ))
      go_simp
    · clear hsz
      have eS1_ := slot_of (a := a9) (s := 87) (v := .string (strOf ka)) (hv 79 (by kernel_rfl))
      refine step_callx 47 #[.string (strOf ka)] (wanted_at (j := 76) (s := 84) (b := false) rfl (by kernel_rfl) (hv 76 (by kernel_rfl))) (w' := W) ?_ ((key_r W ka KA.out).mono fun e W2 hh => ?_)
      · go_simp
      · obtain ⟨rfl, hB⟩ := hh
        rw [HK.out]
        exact ⟨_, rfl, hK _ _ trivial trivial rfl (show Below (g + 2) w2 W2 from hJ.trans (hB.mono (by have := S2.out; have := hJ.size; omega)))⟩
    · clear hsz
      have eS1_ := slot_of (a := a9) (s := 3) (v := .pointer (some ⟨g + 1, 0, none⟩)) (hf 3 (by kernel_rfl))
      refine step_run (wanted_at (j := 76) (s := 84) (b := false) rfl (by kernel_rfl) (hv 76 (by kernel_rfl))) (v := .pointer (some ⟨g + 1, 6, none⟩)) (w' := W) ?_ (hK _ _ trivial trivial rfl (hJ))
      go_simp
    · clear hsz
      have eS1_ := slot_of (a := a9) (s := 89) (v := .pointer (some ⟨g + 1, 6, none⟩)) (hv 81 (by kernel_rfl))
      refine step_run (wanted_at (j := 76) (s := 84) (b := false) rfl (by kernel_rfl) (hv 76 (by kernel_rfl))) (v := .pointer (some ⟨g + 1, 6, none⟩)) (w' := W) ?_ (hK _ _ trivial trivial rfl (hJ))
      go_simp
    · clear hsz
      have eS1_ := slot_of (a := a9) (s := 90) (v := .pointer (some ⟨g + 1, 6, none⟩)) (hv 82 (by kernel_rfl))
      have hc9 := LB.out W hJ 6 (.string (strOf kb)) rfl
      refine step_run (wanted_at (j := 76) (s := 84) (b := false) rfl (by kernel_rfl) (hv 76 (by kernel_rfl))) (v := .string (strOf kb)) (w' := W) ?_ (hK _ _ trivial trivial rfl (hJ))
      go_simp
    · clear hsz
      have eS1_ := slot_of (a := a9) (s := 91) (v := .string (strOf kb)) (hv 83 (by kernel_rfl))
      refine step_callx 47 #[.string (strOf kb)] (wanted_at (j := 76) (s := 84) (b := false) rfl (by kernel_rfl) (hv 76 (by kernel_rfl))) (w' := W) ?_ ((key_r W kb KB.out).mono fun e W2 hh => ?_)
      · go_simp
      · obtain ⟨rfl, hB⟩ := hh
        exact ⟨_, rfl, hK _ _ trivial trivial rfl (show Below (g + 2) w2 W2 from hJ.trans (hB.mono (by have := S2.out; have := hJ.size; omega)))⟩
    · clear hsz
      have eS1_ := slot_of (a := a9) (s := 88) (v := .string (strOf (pad32 kb))) (hv 80 (by kernel_rfl))
      have eS2_ := slot_of (a := a9) (s := 92) (v := .string (strOf (pad32 kb))) (hv 84 (by kernel_rfl))
      refine step_run (wanted_at (j := 76) (s := 84) (b := false) rfl (by kernel_rfl) (hv 76 (by kernel_rfl))) (v := .bool false) (w' := W) ?_ (hK _ _ trivial trivial rfl (hJ))
      go_simp
    · clear hsz
      have eS1_ := slot_of (a := a9) (s := 84) (v := .bool false) (hv 76 (by kernel_rfl))
      have eS2_ := slot_of (a := a9) (s := 93) (v := .bool false) (hv 85 (by kernel_rfl))
      refine step_run (wanted_none rfl) (v := .bool false) (w' := W) ?_ (hK _ _ trivial trivial rfl (hJ))
      go_simp
  · intro f9 w4 hC6 hv6 D6 hD6 hJ6
    obtain ⟨a6, hJ, _⟩ := hJ6
    have X4 := hidm_ hJ
    have e10 : f9 94 = .bool false := hv6 86 (by decide)
    clear hv6 hD6 hC6 hJ
    simp only [framed, List.foldl_cons, List.foldl_nil, List.setIfInBounds_toArray, List.set_cons_succ, List.set_cons_zero]
    rw [e10]
    clear e10
    refine hK9 _ _ ?_
    clear hK9
    go_wp2
    go_loopw [5] (fun i wr => ∃ k : Nat, i = .int .i64 k ∧ k ≤ nA ∧ Hid (Below (g + 2) w2 wr)) (fun i _ => nA - (intOf i).toNat)
    case atStart => exact ⟨0, rfl, Nat.zero_le _, X4⟩
    case round =>
      obtain ⟨k, rfl, hk, HBW⟩ := hrel
      clear X4
      have h8 := LA.out wr HBW.out 8 (.slice A1 nA c1) (by rw [← HNA.out]; rfl)
      have g8 := LB.out wr HBW.out 8 (.slice B1 nA d1) (by rw [← HNA.out]; rfl)
      by_cases hlt : k < nA
      · have tl : (k : Int) < (nA : Int) := by omega
        have hlk : k < xs.length := by rw [HNA.out]; exact hlt
        obtain ⟨bb, off, hA, hbl, hcb⟩ := HA.out.ats (show 0 < xs.length by omega)
        obtain ⟨bb2, off2, hB, hbl2, hcb2⟩ := HB.out.ats (show 0 < xs.length by omega)
        have hA : A1 = some ⟨bb, off, none⟩ := hA
        have hB : B1 = some ⟨bb2, off2, none⟩ := hB
        obtain ⟨z, hz9⟩ : ∃ z, xs[k] = z := ⟨_, rfl⟩
        rw [hA] at h8
        rw [hB] at g8
        go_upto_region 6 with fail
        rename_i K7 hK7
        obtain ⟨wd, hwd⟩ : ∃ W, wr.drew = W := ⟨_, rfl⟩
        have BWD := hidm_ (show Below (g + 2) w2 wd by rw [← hwd]; exact below_drewN HBW.out 1)
        have h8 : wd.cell? ⟨g, 8, none⟩ = some (.slice (some ⟨bb, off, none⟩) nA c1) := by rw [← hA]; exact LA.out wd BWD.out 8 (.slice A1 nA c1) (by rw [← HNA.out]; rfl)
        have g8 : wd.cell? ⟨g + 1, 8, none⟩ = some (.slice (some ⟨bb2, off2, none⟩) nA d1) := by rw [← hB]; exact LB.out wd BWD.out 8 (.slice B1 nA d1) (by rw [← HNA.out]; rfl)
        have E1 : wd.cell? ⟨bb, off + k, none⟩ = some (.int .i64 z) := ((BWD.out.cell (p := ⟨bb, _, none⟩) (show bb < g + 2 by omega)).trans (X2.out.cell (p := ⟨bb, _, none⟩) hbl)).trans (by have hx := hcb k hlk 0 (by decide); rw [hz9] at hx; rw [show off + k = off + k * 1 + 0 by omega]; exact hx)
        have E2 : wd.cell? ⟨bb2, off2 + k, none⟩ = some (.int .i64 z) := ((BWD.out.cell (p := ⟨bb2, _, none⟩) (show bb2 < g + 2 by omega)).trans (X2.out.cell (p := ⟨bb2, _, none⟩) hbl2)).trans (by have hx := hcb2 k hlk 0 (by decide); rw [hz9] at hx; rw [show off2 + k = off2 + k * 1 + 0 by omega]; exact hx)
        clear hA hB hcb hcb2 hz9 hbl hbl2
        refine region_byJF [102, 103, 104, 105, 106, 107, 108, 109, 110, 111, 112] (fun _ => True) (fun _ _ => True) (fun jR_ vR_ (wR_ : World) => (match jR_ with | 0 => vR_ = .pointer (some ⟨g, 8, none⟩) | 1 => vR_ = .slice (some ⟨bb, off, none⟩) nA c1 | 2 => vR_ = .int .i64 (k : Int) | 3 => vR_ = .pointer (some ⟨bb, off + k, none⟩) | 4 => vR_ = .int .i64 z | 5 => vR_ = .pointer (some ⟨g + 1, 8, none⟩) | 6 => vR_ = .slice (some ⟨bb2, off2, none⟩) nA d1 | 7 => vR_ = .int .i64 (k : Int) | 8 => vR_ = .pointer (some ⟨bb2, off2 + k, none⟩) | 9 => vR_ = .int .i64 z | 10 => vR_ = .bool false | _ => True)) (fun D _ W => W = wd) (by kernel_rfl) (by kernel_rfl) (by kernel_rfl) (by kernel_rfl) (fun j v w w' hT hr => hr) (fun j v w hlt hj _ => ?_) trivial ?_ hwd ?_
        · rcases j with _ | _ | _ | _ | _ | _ | _ | _ | _ | _ | _ | j
          all_goals first
            | (exfalso; simp [dstOf] at hj; done)
            | trivial
        · refine ⟨fun D a9 W hC hd hsz hf hv hJ hL hW K8 hK => ?_, fun D a9 W hC hd hsz hf hv hJ hL hW K8 hK => ?_, fun D a9 W hC hd hsz hf hv hJ hL hW K8 hK => ?_, fun D a9 W hC hd hsz hf hv hJ hL hW K8 hK => ?_, fun D a9 W hC hd hsz hf hv hJ hL hW K8 hK => ?_, fun D a9 W hC hd hsz hf hv hJ hL hW K8 hK => ?_, fun D a9 W hC hd hsz hf hv hJ hL hW K8 hK => ?_, fun D a9 W hC hd hsz hf hv hJ hL hW K8 hK => ?_, fun D a9 W hC hd hsz hf hv hJ hL hW K8 hK => ?_, fun D a9 W hC hd hsz hf hv hJ hL hW K8 hK => ?_, fun D a9 W hC hd hsz hf hv hJ hL hW K8 hK => ?_, trivial⟩
          · clear hsz
            have eS1_ := slot_of (a := a9) (s := 2) (v := .pointer (some ⟨g, 0, none⟩)) (hf 2 (by kernel_rfl))
            obtain rfl := hJ
            refine step_run (wanted_none rfl) (v := .pointer (some ⟨g, 8, none⟩)) (w' := W) ?_ (hK _ _ trivial trivial rfl (rfl))
            go_simp
          · clear hsz
            have eS1_ := slot_of (a := a9) (s := 102) (v := .pointer (some ⟨g, 8, none⟩)) (hv 0 (by kernel_rfl))
            obtain rfl := hJ
            refine step_run (wanted_none rfl) (v := .slice (some ⟨bb, off, none⟩) nA c1) (w' := W) ?_ (hK _ _ trivial trivial rfl (rfl))
            go_simp
          · clear hsz
            have eS1_ := slot_of (a := a9) (s := 5) (v := .int .i64 (k : Int)) (hf 5 (by kernel_rfl))
            obtain rfl := hJ
            refine step_run (wanted_none rfl) (v := .int .i64 (k : Int)) (w' := W) ?_ (hK _ _ trivial trivial rfl (rfl))
            go_simp
          · clear hsz
            have eS1_ := slot_of (a := a9) (s := 103) (v := .slice (some ⟨bb, off, none⟩) nA c1) (hv 1 (by kernel_rfl))
            have eS2_ := slot_of (a := a9) (s := 104) (v := .int .i64 (k : Int)) (hv 2 (by kernel_rfl))
            obtain rfl := hJ
            refine step_run (wanted_none rfl) (v := .pointer (some ⟨bb, off + k, none⟩)) (w' := W) ?_ (hK _ _ trivial trivial rfl (rfl))
            go_simp
          · clear hsz
            have eS1_ := slot_of (a := a9) (s := 105) (v := .pointer (some ⟨bb, off + k, none⟩)) (hv 3 (by kernel_rfl))
            obtain rfl := hJ
            refine step_run (wanted_none rfl) (v := .int .i64 z) (w' := W) ?_ (hK _ _ trivial trivial rfl (rfl))
            go_simp
          · clear hsz
            have eS1_ := slot_of (a := a9) (s := 3) (v := .pointer (some ⟨g + 1, 0, none⟩)) (hf 3 (by kernel_rfl))
            obtain rfl := hJ
            refine step_run (wanted_none rfl) (v := .pointer (some ⟨g + 1, 8, none⟩)) (w' := W) ?_ (hK _ _ trivial trivial rfl (rfl))
            go_simp
          · clear hsz
            have eS1_ := slot_of (a := a9) (s := 107) (v := .pointer (some ⟨g + 1, 8, none⟩)) (hv 5 (by kernel_rfl))
            obtain rfl := hJ
            refine step_run (wanted_none rfl) (v := .slice (some ⟨bb2, off2, none⟩) nA d1) (w' := W) ?_ (hK _ _ trivial trivial rfl (rfl))
            go_simp
          · clear hsz
            have eS1_ := slot_of (a := a9) (s := 5) (v := .int .i64 (k : Int)) (hf 5 (by kernel_rfl))
            obtain rfl := hJ
            refine step_run (wanted_none rfl) (v := .int .i64 (k : Int)) (w' := W) ?_ (hK _ _ trivial trivial rfl (rfl))
            go_simp
          · clear hsz
            have eS1_ := slot_of (a := a9) (s := 108) (v := .slice (some ⟨bb2, off2, none⟩) nA d1) (hv 6 (by kernel_rfl))
            have eS2_ := slot_of (a := a9) (s := 109) (v := .int .i64 (k : Int)) (hv 7 (by kernel_rfl))
            obtain rfl := hJ
            refine step_run (wanted_none rfl) (v := .pointer (some ⟨bb2, off2 + k, none⟩)) (w' := W) ?_ (hK _ _ trivial trivial rfl (rfl))
            go_simp
          · clear hsz
            have eS1_ := slot_of (a := a9) (s := 110) (v := .pointer (some ⟨bb2, off2 + k, none⟩)) (hv 8 (by kernel_rfl))
            obtain rfl := hJ
            refine step_run (wanted_none rfl) (v := .int .i64 z) (w' := W) ?_ (hK _ _ trivial trivial rfl (rfl))
            go_simp
          · clear hsz
            have eS1_ := slot_of (a := a9) (s := 106) (v := .int .i64 z) (hv 4 (by kernel_rfl))
            have eS2_ := slot_of (a := a9) (s := 111) (v := .int .i64 z) (hv 9 (by kernel_rfl))
            obtain rfl := hJ
            refine step_run (wanted_none rfl) (v := .bool false) (w' := W) ?_ (hK _ _ trivial trivial rfl (rfl))
            go_simp
        · intro f9 w6 hC6 hv6 D6 hD6 hJ6
          obtain ⟨a6, rfl, _⟩ := hJ6
          have e10 : f9 112 = .bool false := hv6 10 (by decide)
          clear hv6 hD6 hC6
          simp only [framed, List.foldl_cons, List.foldl_nil, List.setIfInBounds_toArray, List.set_cons_succ, List.set_cons_zero]
          rw [e10]
          clear e10
          refine hK7 _ _ ?_
          clear h8 g8 E1 E2 hwd
          go_wp2
          go_roundw
          case rel => exact ⟨k + 1, by go_num, by omega, BWD⟩
          case measure => simp [intOf]; omega
      · have tl : ¬ (k : Int) < (nA : Int) := by omega
        obtain rfl : nA = k := by omega
        go_wp2
        have Y1 := HBW
        clear HBW h8 g8 tl
        go_loopw [6] (fun i wr => ∃ k : Nat, i = .int .i64 k ∧ k ≤ nD ∧ Hid (Below (g + 2) w2 wr)) (fun i _ => nD - (intOf i).toNat)
        case atStart => exact ⟨0, rfl, Nat.zero_le _, Y1⟩
        case round =>
          obtain ⟨k, rfl, hk, HBW⟩ := hrel
          clear Y1
          have h8 := LA.out wr HBW.out 9 (.slice A2 nD c2) (by rw [← HND.out]; rfl)
          have g8 := LB.out wr HBW.out 9 (.slice B2 nD d2) (by rw [← HND.out]; rfl)
          by_cases hlt : k < nD
          · have tl : (k : Int) < (nD : Int) := by omega
            have hlk : k < ds.length := by rw [HND.out]; exact hlt
            obtain ⟨bb, off, hA, hbl, hcb⟩ := HA.out.digs (show 0 < ds.length by omega)
            obtain ⟨bb2, off2, hB, hbl2, hcb2⟩ := HB.out.digs (show 0 < ds.length by omega)
            have hA : A2 = some ⟨bb, off, none⟩ := hA
            have hB : B2 = some ⟨bb2, off2, none⟩ := hB
            obtain ⟨z, hz9⟩ : ∃ z, ds[k] = z := ⟨_, rfl⟩
            rw [hA] at h8
            rw [hB] at g8
            go_upto_region 11 with fail
            rename_i K7 hK7
            obtain ⟨wd, hwd⟩ : ∃ W, wr.drew = W := ⟨_, rfl⟩
            have BWD := hidm_ (show Below (g + 2) w2 wd by rw [← hwd]; exact below_drewN HBW.out 1)
            have h8 : wd.cell? ⟨g, 9, none⟩ = some (.slice (some ⟨bb, off, none⟩) nD c2) := by rw [← hA]; exact LA.out wd BWD.out 9 (.slice A2 nD c2) (by rw [← HND.out]; rfl)
            have g8 : wd.cell? ⟨g + 1, 9, none⟩ = some (.slice (some ⟨bb2, off2, none⟩) nD d2) := by rw [← hB]; exact LB.out wd BWD.out 9 (.slice B2 nD d2) (by rw [← HND.out]; rfl)
            have E1 : wd.cell? ⟨bb, off + k, none⟩ = some (.string (strOf z)) := ((BWD.out.cell (p := ⟨bb, _, none⟩) (show bb < g + 2 by omega)).trans (X2.out.cell (p := ⟨bb, _, none⟩) hbl)).trans (by have hx := hcb k hlk 0 (by decide); rw [hz9] at hx; rw [show off + k = off + k * 1 + 0 by omega]; exact hx)
            have E2 : wd.cell? ⟨bb2, off2 + k, none⟩ = some (.string (strOf z)) := ((BWD.out.cell (p := ⟨bb2, _, none⟩) (show bb2 < g + 2 by omega)).trans (X2.out.cell (p := ⟨bb2, _, none⟩) hbl2)).trans (by have hx := hcb2 k hlk 0 (by decide); rw [hz9] at hx; rw [show off2 + k = off2 + k * 1 + 0 by omega]; exact hx)
            clear hA hB hcb hcb2 hz9 hbl hbl2
            refine region_byJF [120, 121, 122, 123, 124, 125, 126, 127, 128, 129, 130] (fun _ => True) (fun _ _ => True) (fun jR_ vR_ (wR_ : World) => (match jR_ with | 0 => vR_ = .pointer (some ⟨g, 9, none⟩) | 1 => vR_ = .slice (some ⟨bb, off, none⟩) nD c2 | 2 => vR_ = .int .i64 (k : Int) | 3 => vR_ = .pointer (some ⟨bb, off + k, none⟩) | 4 => vR_ = .string (strOf z) | 5 => vR_ = .pointer (some ⟨g + 1, 9, none⟩) | 6 => vR_ = .slice (some ⟨bb2, off2, none⟩) nD d2 | 7 => vR_ = .int .i64 (k : Int) | 8 => vR_ = .pointer (some ⟨bb2, off2 + k, none⟩) | 9 => vR_ = .string (strOf z) | 10 => vR_ = .bool false | _ => True)) (fun D _ W => W = wd) (by kernel_rfl) (by kernel_rfl) (by kernel_rfl) (by kernel_rfl) (fun j v w w' hT hr => hr) (fun j v w hlt hj _ => ?_) trivial ?_ hwd ?_
            · rcases j with _ | _ | _ | _ | _ | _ | _ | _ | _ | _ | _ | j
              all_goals first
                | (exfalso; simp [dstOf] at hj; done)
                | trivial
            · refine ⟨fun D a9 W hC hd hsz hf hv hJ hL hW K8 hK => ?_, fun D a9 W hC hd hsz hf hv hJ hL hW K8 hK => ?_, fun D a9 W hC hd hsz hf hv hJ hL hW K8 hK => ?_, fun D a9 W hC hd hsz hf hv hJ hL hW K8 hK => ?_, fun D a9 W hC hd hsz hf hv hJ hL hW K8 hK => ?_, fun D a9 W hC hd hsz hf hv hJ hL hW K8 hK => ?_, fun D a9 W hC hd hsz hf hv hJ hL hW K8 hK => ?_, fun D a9 W hC hd hsz hf hv hJ hL hW K8 hK => ?_, fun D a9 W hC hd hsz hf hv hJ hL hW K8 hK => ?_, fun D a9 W hC hd hsz hf hv hJ hL hW K8 hK => ?_, fun D a9 W hC hd hsz hf hv hJ hL hW K8 hK => ?_, trivial⟩
              · clear hsz
                have eS1_ := slot_of (a := a9) (s := 2) (v := .pointer (some ⟨g, 0, none⟩)) (hf 2 (by kernel_rfl))
                obtain rfl := hJ
                refine step_run (wanted_none rfl) (v := .pointer (some ⟨g, 9, none⟩)) (w' := W) ?_ (hK _ _ trivial trivial rfl (rfl))
                go_simp
              · clear hsz
                have eS1_ := slot_of (a := a9) (s := 120) (v := .pointer (some ⟨g, 9, none⟩)) (hv 0 (by kernel_rfl))
                obtain rfl := hJ
                refine step_run (wanted_none rfl) (v := .slice (some ⟨bb, off, none⟩) nD c2) (w' := W) ?_ (hK _ _ trivial trivial rfl (rfl))
                go_simp
              · clear hsz
                have eS1_ := slot_of (a := a9) (s := 6) (v := .int .i64 (k : Int)) (hf 6 (by kernel_rfl))
                obtain rfl := hJ
                refine step_run (wanted_none rfl) (v := .int .i64 (k : Int)) (w' := W) ?_ (hK _ _ trivial trivial rfl (rfl))
                go_simp
              · clear hsz
                have eS1_ := slot_of (a := a9) (s := 121) (v := .slice (some ⟨bb, off, none⟩) nD c2) (hv 1 (by kernel_rfl))
                have eS2_ := slot_of (a := a9) (s := 122) (v := .int .i64 (k : Int)) (hv 2 (by kernel_rfl))
                obtain rfl := hJ
                refine step_run (wanted_none rfl) (v := .pointer (some ⟨bb, off + k, none⟩)) (w' := W) ?_ (hK _ _ trivial trivial rfl (rfl))
                go_simp
              · clear hsz
                have eS1_ := slot_of (a := a9) (s := 123) (v := .pointer (some ⟨bb, off + k, none⟩)) (hv 3 (by kernel_rfl))
                obtain rfl := hJ
                refine step_run (wanted_none rfl) (v := .string (strOf z)) (w' := W) ?_ (hK _ _ trivial trivial rfl (rfl))
                go_simp
              · clear hsz
                have eS1_ := slot_of (a := a9) (s := 3) (v := .pointer (some ⟨g + 1, 0, none⟩)) (hf 3 (by kernel_rfl))
                obtain rfl := hJ
                refine step_run (wanted_none rfl) (v := .pointer (some ⟨g + 1, 9, none⟩)) (w' := W) ?_ (hK _ _ trivial trivial rfl (rfl))
                go_simp
              · clear hsz
                have eS1_ := slot_of (a := a9) (s := 125) (v := .pointer (some ⟨g + 1, 9, none⟩)) (hv 5 (by kernel_rfl))
                obtain rfl := hJ
                refine step_run (wanted_none rfl) (v := .slice (some ⟨bb2, off2, none⟩) nD d2) (w' := W) ?_ (hK _ _ trivial trivial rfl (rfl))
                go_simp
              · clear hsz
                have eS1_ := slot_of (a := a9) (s := 6) (v := .int .i64 (k : Int)) (hf 6 (by kernel_rfl))
                obtain rfl := hJ
                refine step_run (wanted_none rfl) (v := .int .i64 (k : Int)) (w' := W) ?_ (hK _ _ trivial trivial rfl (rfl))
                go_simp
              · clear hsz
                have eS1_ := slot_of (a := a9) (s := 126) (v := .slice (some ⟨bb2, off2, none⟩) nD d2) (hv 6 (by kernel_rfl))
                have eS2_ := slot_of (a := a9) (s := 127) (v := .int .i64 (k : Int)) (hv 7 (by kernel_rfl))
                obtain rfl := hJ
                refine step_run (wanted_none rfl) (v := .pointer (some ⟨bb2, off2 + k, none⟩)) (w' := W) ?_ (hK _ _ trivial trivial rfl (rfl))
                go_simp
              · clear hsz
                have eS1_ := slot_of (a := a9) (s := 128) (v := .pointer (some ⟨bb2, off2 + k, none⟩)) (hv 8 (by kernel_rfl))
                obtain rfl := hJ
                refine step_run (wanted_none rfl) (v := .string (strOf z)) (w' := W) ?_ (hK _ _ trivial trivial rfl (rfl))
                go_simp
              · clear hsz
                have eS1_ := slot_of (a := a9) (s := 124) (v := .string (strOf z)) (hv 4 (by kernel_rfl))
                have eS2_ := slot_of (a := a9) (s := 129) (v := .string (strOf z)) (hv 9 (by kernel_rfl))
                obtain rfl := hJ
                refine step_run (wanted_none rfl) (v := .bool false) (w' := W) ?_ (hK _ _ trivial trivial rfl (rfl))
                go_simp
            · intro f9 w6 hC6 hv6 D6 hD6 hJ6
              obtain ⟨a6, rfl, _⟩ := hJ6
              have e10 : f9 130 = .bool false := hv6 10 (by decide)
              clear hv6 hD6 hC6
              simp only [framed, List.foldl_cons, List.foldl_nil, List.setIfInBounds_toArray, List.set_cons_succ, List.set_cons_zero]
              rw [e10]
              clear e10
              refine hK7 _ _ ?_
              clear h8 g8 E1 E2 hwd
              go_wp2
              go_roundw
              case rel => exact ⟨k + 1, by go_num, by omega, BWD⟩
              case measure => simp [intOf]; omega
          · have tl : ¬ (k : Int) < (nD : Int) := by omega
            obtain rfl : nD = k := by omega
            go_wp2
            have Y2 := HBW
            clear HBW h8 g8 tl
            go_loopw [7] (fun i wr => ∃ k : Nat, i = .int .i64 k ∧ k ≤ nR ∧ Hid (Below (g + 2) w2 wr)) (fun i _ => nR - (intOf i).toNat)
            case atStart => exact ⟨0, rfl, Nat.zero_le _, Y2⟩
            case round =>
              obtain ⟨k, rfl, hk, HBW⟩ := hrel
              clear Y2
              have h8 := LA.out wr HBW.out 10 (.slice A3 nR c3) (by rw [← HNR.out]; rfl)
              have g8 := LB.out wr HBW.out 10 (.slice B3 nR d3) (by rw [← HNR.out]; rfl)
              by_cases hlt : k < nR
              · have tl : (k : Int) < (nR : Int) := by omega
                have hlk : k < rs.length := by rw [HNR.out]; exact hlt
                obtain ⟨bb, off, hA, hbl, hcb⟩ := HA.out.rows (show 0 < rs.length by omega)
                obtain ⟨bb2, off2, hB, hbl2, hcb2⟩ := HB.out.rows (show 0 < rs.length by omega)
                have hA : A3 = some ⟨bb, off, none⟩ := hA
                have hB : B3 = some ⟨bb2, off2, none⟩ := hB
                obtain ⟨z, hz9⟩ : ∃ z, rs[k] = z := ⟨_, rfl⟩
                rw [hA] at h8
                rw [hB] at g8
                go_upto_region 16 with fail
                rename_i K7 hK7
                obtain ⟨wd, hwd⟩ : ∃ W, wr.drew = W := ⟨_, rfl⟩
                have BWD := hidm_ (show Below (g + 2) w2 wd by rw [← hwd]; exact below_drewN HBW.out 1)
                have h8 : wd.cell? ⟨g, 10, none⟩ = some (.slice (some ⟨bb, off, none⟩) nR c3) := by rw [← hA]; exact LA.out wd BWD.out 10 (.slice A3 nR c3) (by rw [← HNR.out]; rfl)
                have g8 : wd.cell? ⟨g + 1, 10, none⟩ = some (.slice (some ⟨bb2, off2, none⟩) nR d3) := by rw [← hB]; exact LB.out wd BWD.out 10 (.slice B3 nR d3) (by rw [← HNR.out]; rfl)
                have E1 := hidm_ (show ∀ j, j < (rr z.key z.set).size → wd.cell? ⟨bb, off + k * 2 + j, none⟩ = (rr z.key z.set)[j]? from fun j hj => ((BWD.out.cell (p := ⟨bb, _, none⟩) (show bb < g + 2 by omega)).trans (X2.out.cell (p := ⟨bb, _, none⟩) hbl)).trans (by have hx := hcb k hlk j hj; rw [hz9] at hx; rw [show off + k * 2 + j = off + k * rrE.k + j from rfl, hx]; exact List.getElem?_toArray.symm))
                have E2 := hidm_ (show ∀ j, j < (rr z.key z.set).size → wd.cell? ⟨bb2, off2 + k * 2 + j, none⟩ = (rr z.key z.set)[j]? from fun j hj => ((BWD.out.cell (p := ⟨bb2, _, none⟩) (show bb2 < g + 2 by omega)).trans (X2.out.cell (p := ⟨bb2, _, none⟩) hbl2)).trans (by have hx := hcb2 k hlk j hj; rw [hz9] at hx; rw [show off2 + k * 2 + j = off2 + k * rrE.k + j from rfl, hx]; exact List.getElem?_toArray.symm))
                clear hA hB hcb hcb2 hz9 hbl hbl2
                refine region_byJF [138, 139, 140, 141, 142, 143, 144, 145, 146, 147, 148] (fun _ => True) (fun _ _ => True) (fun jR_ vR_ (wR_ : World) => (match jR_ with | 0 => vR_ = .pointer (some ⟨g, 10, none⟩) | 1 => vR_ = .slice (some ⟨bb, off, none⟩) nR c3 | 2 => vR_ = .int .i64 (k : Int) | 3 => vR_ = .pointer (some ⟨bb, off + k * 2, none⟩) | 4 => vR_ = .agg (rr z.key z.set) | 5 => vR_ = .pointer (some ⟨g + 1, 10, none⟩) | 6 => vR_ = .slice (some ⟨bb2, off2, none⟩) nR d3 | 7 => vR_ = .int .i64 (k : Int) | 8 => vR_ = .pointer (some ⟨bb2, off2 + k * 2, none⟩) | 9 => vR_ = .agg (rr z.key z.set) | 10 => vR_ = .bool false | _ => True)) (fun D _ W => W = wd) (by kernel_rfl) (by kernel_rfl) (by kernel_rfl) (by kernel_rfl) (fun j v w w' hT hr => hr) (fun j v w hlt hj _ => ?_) trivial ?_ hwd ?_
                · rcases j with _ | _ | _ | _ | _ | _ | _ | _ | _ | _ | _ | j
                  all_goals first
                    | (exfalso; simp [dstOf] at hj; done)
                    | trivial
                · refine ⟨fun D a9 W hC hd hsz hf hv hJ hL hW K8 hK => ?_, fun D a9 W hC hd hsz hf hv hJ hL hW K8 hK => ?_, fun D a9 W hC hd hsz hf hv hJ hL hW K8 hK => ?_, fun D a9 W hC hd hsz hf hv hJ hL hW K8 hK => ?_, fun D a9 W hC hd hsz hf hv hJ hL hW K8 hK => ?_, fun D a9 W hC hd hsz hf hv hJ hL hW K8 hK => ?_, fun D a9 W hC hd hsz hf hv hJ hL hW K8 hK => ?_, fun D a9 W hC hd hsz hf hv hJ hL hW K8 hK => ?_, fun D a9 W hC hd hsz hf hv hJ hL hW K8 hK => ?_, fun D a9 W hC hd hsz hf hv hJ hL hW K8 hK => ?_, fun D a9 W hC hd hsz hf hv hJ hL hW K8 hK => ?_, trivial⟩
                  · clear hsz
                    have eS1_ := slot_of (a := a9) (s := 2) (v := .pointer (some ⟨g, 0, none⟩)) (hf 2 (by kernel_rfl))
                    obtain rfl := hJ
                    refine step_run (wanted_none rfl) (v := .pointer (some ⟨g, 10, none⟩)) (w' := W) ?_ (hK _ _ trivial trivial rfl (rfl))
                    go_simp
                  · clear hsz
                    have eS1_ := slot_of (a := a9) (s := 138) (v := .pointer (some ⟨g, 10, none⟩)) (hv 0 (by kernel_rfl))
                    obtain rfl := hJ
                    refine step_run (wanted_none rfl) (v := .slice (some ⟨bb, off, none⟩) nR c3) (w' := W) ?_ (hK _ _ trivial trivial rfl (rfl))
                    go_simp
                  · clear hsz
                    have eS1_ := slot_of (a := a9) (s := 7) (v := .int .i64 (k : Int)) (hf 7 (by kernel_rfl))
                    obtain rfl := hJ
                    refine step_run (wanted_none rfl) (v := .int .i64 (k : Int)) (w' := W) ?_ (hK _ _ trivial trivial rfl (rfl))
                    go_simp
                  · clear hsz
                    have eS1_ := slot_of (a := a9) (s := 139) (v := .slice (some ⟨bb, off, none⟩) nR c3) (hv 1 (by kernel_rfl))
                    have eS2_ := slot_of (a := a9) (s := 140) (v := .int .i64 (k : Int)) (hv 2 (by kernel_rfl))
                    obtain rfl := hJ
                    refine step_run (wanted_none rfl) (v := .pointer (some ⟨bb, off + k * 2, none⟩)) (w' := W) ?_ (hK _ _ trivial trivial rfl (rfl))
                    go_simp
                  · clear hsz
                    have eS1_ := slot_of (a := a9) (s := 141) (v := .pointer (some ⟨bb, off + k * 2, none⟩)) (hv 3 (by kernel_rfl))
                    obtain rfl := hJ
                    have hrun := run_load_subm 23 bb (off + k * 2) (rr z.key z.set) E1.out _ Try.underlying23 rfl (iRr _ _)
                    refine step_run (wanted_none rfl) (v := .agg (rr z.key z.set)) (w' := W) ?_ (hK _ _ trivial trivial rfl rfl)
                    unfold execOp
                    simp only [Instr.loadAt, Instr.sureAddr, Sem.run_bind, Sem.run_pure, Result.andThen_ok, eval_of (hv 3 (by kernel_rfl)), hrun]
                  · clear hsz
                    have eS1_ := slot_of (a := a9) (s := 3) (v := .pointer (some ⟨g + 1, 0, none⟩)) (hf 3 (by kernel_rfl))
                    obtain rfl := hJ
                    refine step_run (wanted_none rfl) (v := .pointer (some ⟨g + 1, 10, none⟩)) (w' := W) ?_ (hK _ _ trivial trivial rfl (rfl))
                    go_simp
                  · clear hsz
                    have eS1_ := slot_of (a := a9) (s := 143) (v := .pointer (some ⟨g + 1, 10, none⟩)) (hv 5 (by kernel_rfl))
                    obtain rfl := hJ
                    refine step_run (wanted_none rfl) (v := .slice (some ⟨bb2, off2, none⟩) nR d3) (w' := W) ?_ (hK _ _ trivial trivial rfl (rfl))
                    go_simp
                  · clear hsz
                    have eS1_ := slot_of (a := a9) (s := 7) (v := .int .i64 (k : Int)) (hf 7 (by kernel_rfl))
                    obtain rfl := hJ
                    refine step_run (wanted_none rfl) (v := .int .i64 (k : Int)) (w' := W) ?_ (hK _ _ trivial trivial rfl (rfl))
                    go_simp
                  · clear hsz
                    have eS1_ := slot_of (a := a9) (s := 144) (v := .slice (some ⟨bb2, off2, none⟩) nR d3) (hv 6 (by kernel_rfl))
                    have eS2_ := slot_of (a := a9) (s := 145) (v := .int .i64 (k : Int)) (hv 7 (by kernel_rfl))
                    obtain rfl := hJ
                    refine step_run (wanted_none rfl) (v := .pointer (some ⟨bb2, off2 + k * 2, none⟩)) (w' := W) ?_ (hK _ _ trivial trivial rfl (rfl))
                    go_simp
                  · clear hsz
                    have eS1_ := slot_of (a := a9) (s := 146) (v := .pointer (some ⟨bb2, off2 + k * 2, none⟩)) (hv 8 (by kernel_rfl))
                    obtain rfl := hJ
                    have hrun := run_load_subm 23 bb2 (off2 + k * 2) (rr z.key z.set) E2.out _ Try.underlying23 rfl (iRr _ _)
                    refine step_run (wanted_none rfl) (v := .agg (rr z.key z.set)) (w' := W) ?_ (hK _ _ trivial trivial rfl rfl)
                    unfold execOp
                    simp only [Instr.loadAt, Instr.sureAddr, Sem.run_bind, Sem.run_pure, Result.andThen_ok, eval_of (hv 8 (by kernel_rfl)), hrun]
                  · clear hsz
                    have eS1_ := slot_of (a := a9) (s := 142) (v := .agg (rr z.key z.set)) (hv 4 (by kernel_rfl))
                    have eS2_ := slot_of (a := a9) (s := 147) (v := .agg (rr z.key z.set)) (hv 9 (by kernel_rfl))
                    obtain rfl := hJ
                    have hg9 := run_eqGuard_agg (P := Try.prog) W .neq 23 (.tmp 142) (.tmp 147) (rr z.key z.set) (rr z.key z.set) (by kernel_rfl)
                    have h9 := neRowm z.key z.set W
                    refine step_run (wanted_none rfl) (v := .bool false) (w' := W) ?_ (hK _ _ trivial trivial rfl rfl)
                    unfold execOp
                    simp only [Sem.run_bind, Sem.run_pure, Result.andThen_ok, eval_of (hv 4 (by kernel_rfl)), eval_of (hv 9 (by kernel_rfl)), hg9, h9]
                · intro f9 w6 hC6 hv6 D6 hD6 hJ6
                  obtain ⟨a6, rfl, _⟩ := hJ6
                  have e10 : f9 148 = .bool false := hv6 10 (by decide)
                  clear hv6 hD6 hC6
                  simp only [framed, List.foldl_cons, List.foldl_nil, List.setIfInBounds_toArray, List.set_cons_succ, List.set_cons_zero]
                  rw [e10]
                  clear e10
                  refine hK7 _ _ ?_
                  clear h8 g8 E1 E2 hwd
                  go_wp2
                  go_roundw
                  case rel => exact ⟨k + 1, by go_num, by omega, BWD⟩
                  case measure => simp [intOf]; omega
              · have tl : ¬ (k : Int) < (nR : Int) := by omega
                obtain rfl : nR = k := by omega
                go_wp2
                go_ret
                exact ⟨rfl, by rw [HG.out]; exact X2.out.trans (HBW.out.mono (by omega))⟩

end Go.Proofs.Ytnlipmcnpekifaa

namespace Go.Proofs.Ytnlipmcnpekifaa
set_option maxRecDepth 100000
open Go.RowKit
set_option linter.unusedVariables false
set_option linter.unusedSimpArgs false

theorem krB_len (r : KrV) (h : r.key.length = 32) : 36 ≤ (krB r).length := by
  unfold krB bytB
  rw [List.length_append, List.length_append, highB_len]
  omega
theorem krBs_len : ∀ (l : List KrV), (∀ r ∈ l, r.key.length = 32) → 36 * l.length ≤ (l.flatMap krB).length
  | [], _ => Nat.zero_le _
  | r :: l, h => by
    have h1 := krB_len r (h r (by simp))
    have h2 := krBs_len l fun x hx => h x (by simp [hx])
    rw [List.flatMap_cons, List.length_append, List.length_cons]
    omega
theorem few_of {m : MgV} (h : MgOk m) (hk : K32 m) (hs : strip m = m) {n : Nat} (hl : (mgB m).length ≤ n) : m.row.set.length ≤ 1048576 ∧ m.ats.length ≤ 255 ∧ m.digs.length ≤ 255 ∧ 36 * m.rows.length ≤ n ∧ ∀ r ∈ m.rows, r.set.length ≤ 1048576 := by
  have hb := h.2.2.2
  unfold BodyOk at hb
  unfold strip at hs
  by_cases k1 : m.kind = 1 ∨ m.kind = 4
  · rw [if_pos k1] at hb hs
    have e1 : [] = m.ats := congrArg MgV.ats hs
    have e2 : [] = m.digs := congrArg MgV.digs hs
    have e3 : [] = m.rows := congrArg MgV.rows hs
    rw [← e1, ← e2, ← e3]
    exact ⟨hb, Nat.zero_le _, Nat.zero_le _, Nat.zero_le _, fun _ h => (by cases h)⟩
  rw [if_neg k1] at hb hs
  by_cases k2 : m.kind = 2
  · rw [if_pos k2] at hs
    have e1 : [] = m.ats := congrArg MgV.ats hs
    have e2 : [] = m.digs := congrArg MgV.digs hs
    have e3 : [] = m.rows := congrArg MgV.rows hs
    have e4 : [] = m.row.set := congrArg (fun m : MgV => m.row.set) hs
    rw [← e1, ← e2, ← e3, ← e4]
    exact ⟨Nat.zero_le _, Nat.zero_le _, Nat.zero_le _, Nat.zero_le _, fun _ h => (by cases h)⟩
  rw [if_neg k2] at hb hs
  by_cases k3 : m.kind = 3
  · rw [if_pos k3] at hs
    have e1 : [] = m.ats := congrArg MgV.ats hs
    have e2 : [] = m.digs := congrArg MgV.digs hs
    have e3 : [] = m.rows := congrArg MgV.rows hs
    have e4 : [] = m.row.set := congrArg (fun m : MgV => m.row.set) hs
    rw [← e1, ← e2, ← e3, ← e4]
    exact ⟨Nat.zero_le _, Nat.zero_le _, Nat.zero_le _, Nat.zero_le _, fun _ h => (by cases h)⟩
  rw [if_neg k3] at hb hs
  by_cases k5 : m.kind = 5
  · rw [if_pos k5] at hb hs
    have e1 : [] = m.ats := congrArg MgV.ats hs
    have e2 : [] = m.digs := congrArg MgV.digs hs
    have e3 : [] = m.rows := congrArg MgV.rows hs
    rw [← e1, ← e2, ← e3]
    exact ⟨hb.2, Nat.zero_le _, Nat.zero_le _, Nat.zero_le _, fun _ h => (by cases h)⟩
  rw [if_neg k5] at hb hs
  by_cases k6 : m.kind = 6
  · rw [if_pos k6] at hb hs
    have e3 : [] = m.rows := congrArg MgV.rows hs
    have e4 : [] = m.row.set := congrArg (fun m : MgV => m.row.set) hs
    rw [← e3, ← e4]
    exact ⟨Nat.zero_le _, hb.2.1.1, hb.2.2, Nat.zero_le _, fun _ h => (by cases h)⟩
  rw [if_neg k6] at hb hs
  by_cases k7 : m.kind = 7
  · rw [if_pos k7] at hb hs
    have e2 : [] = m.digs := congrArg MgV.digs hs
    have e4 : [] = m.row.set := congrArg (fun m : MgV => m.row.set) hs
    rw [← e2, ← e4]
    refine ⟨Nat.zero_le _, hb.1.1, Nat.zero_le _, ?_, hb.2.2⟩
    have h1 := krBs_len m.rows hk.2.2
    unfold mgB bodyB at hl
    rw [if_neg k1, if_neg k2, if_neg k3, if_neg k5, if_neg k6, if_pos k7] at hl
    unfold cntB at hl
    simp only [List.length_append] at hl
    omega
  · rw [if_neg k7] at hb
    exact hb.elim
end Go.Proofs.Ytnlipmcnpekifaa
