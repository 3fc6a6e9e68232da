/-
  Merged: Hb Hc Hd.
-/
import Derived.Test.YtmomnfhoeabdnaaDoorDn
import Derived.Test.YtmomnfhoeabdnaaDoorFr
import Derived.Laws.Cover3
import Derived.LaidEqlPtr
import Derived.Test.YtmomnfhoeabdnaaDoorLc
import Derived.Laws.StructEq
import Derived.Test.YtmomnfhoeabdnaaDoorQc
import Derived.BigFrame
namespace Go.Proofs.YtmomnfhoeabdnaaDoor
set_option maxRecDepth 100000
open Go.RowKit
set_option linter.unusedVariables false
set_option linter.unusedSimpArgs false

theorem hidn_ {p : Prop} (h : p) : Hid p := h
theorem results_cell_slot {P : Program} {fn : Func} {p q : Tmp} {ty : TypeId} (h : fn.results = #[.cell p ty, .tmp q]) (tmps : Array Value) (w : World) (g : Nat) {v v' : Value}
    (hp : tmps.getD p undef = .pointer (some ⟨g, 0, none⟩)) (hq : tmps.getD q undef = v')
    (h1 : (loadVar ty ⟨g, 0, none⟩).run P w = .ok v w) :
    (results fn tmps).run P w = .ok (.tuple #[v, v']) w := by
  have hp' : tmps[p]?.getD undef = .pointer (some ⟨g, 0, none⟩) := by simpa using hp
  have hq' : tmps[q]?.getD undef = v' := by simpa using hq
  simp [results, h, hp', hq', asAddr, h1]
theorem z12 (W : World) : (zeroValue 84).run Tryd.prog W = .ok (.agg (rowOf (zbytes 12))) W := by kernel_rfl
theorem i12_ : (Tryd.prog.info? 84).map (·.size) = some 12 := by kernel_rfl
theorem i12 (l : List UInt8) (h : l.length = 12) : (Tryd.prog.info? 84).map (·.size) = some (rowOf l).size := by rw [rowOf_size, h]; exact i12_
/-- A nonce's bytes. -/
def nonceB (c n : Nat) : List UInt8 := highB 4 c ++ highB 8 n
theorem nonceB_len (c n : Nat) : (nonceB c n).length = 12 := by rw [nonceB, List.length_append, highB_len, highB_len]
def NonceOk (a b : Int) : Prop := 1 ≤ a ∧ a ≤ 16 ∧ 1 ≤ b ∧ b ≤ 4611686018427387904
instance (a b : Int) : Decidable (NonceOk a b) := by unfold NonceOk; infer_instance
set_option maxRecDepth 100000 in
set_option maxHeartbeats 1000000 in
theorem nonce_no1 (w : World) (a b : Int) (h : a < 1) :
    Calls Tryd.prog 47 #[.int .i64 a, .int .i64 b] w fun e w' => e = .returned (.tuple #[.agg (rowOf (zbytes 12)), .int .i64 1]) ∧ Below w.heap.size w w' := by
  have hz := z12
  have hd0 : decide (a < 1) = true := decide_eq_true (by omega)
  have BK := hidn_ (Bk.new w 84 (rowOf (zbytes 12)))
  have I := hidn_ (i12 (zbytes 12) (zbytes_len 12))
  have HB := hidn_ ((Below.refl w.heap.size w).alloc (Nat.le_refl _) (.cells (rowOf (zbytes 12)) 84))
  clear h
  go_enter Tryd.func47, Tryd.ntmps47
  go_wp2_with (first
    | (refine wpList_built rfl 84 _ rfl (rowOf (zbytes 12)) (by kernel_rfl) ?_)
    | (refine wpList_put_row rfl 84 _ _ rfl w.heap.size (rowOf (zbytes 12)) rfl rfl 84 (rowOf (zbytes 12)) BK.out I.out rfl (bytes_one _) ?_; intro W9 k9 g9 s9))
  exact bodyPost_ret (results_cell_slot Tryd.results47 _ _ w.heap.size rfl rfl (run_loadVar_row _ _ _ _ _ (0, 0) _ k9 Tryd.underlying84 rfl I.out)) rfl ⟨rfl, HB.out.grown g9 HB.out.size (fun k hk => by injection hk with hk; omega)⟩
set_option maxRecDepth 100000 in
set_option maxHeartbeats 1000000 in
theorem nonce_no2 (w : World) (a b : Int) (h : 1 ≤ a) (h2 : 16 < a) :
    Calls Tryd.prog 47 #[.int .i64 a, .int .i64 b] w fun e w' => e = .returned (.tuple #[.agg (rowOf (zbytes 12)), .int .i64 1]) ∧ Below w.heap.size w w' := by
  have hz := z12
  have hd0 : decide (a < 1) = false := decide_eq_false (by omega)
  have hd1 : decide (16 < a) = true := decide_eq_true (by omega)
  have BK := hidn_ (Bk.new w 84 (rowOf (zbytes 12)))
  have I := hidn_ (i12 (zbytes 12) (zbytes_len 12))
  have HB := hidn_ ((Below.refl w.heap.size w).alloc (Nat.le_refl _) (.cells (rowOf (zbytes 12)) 84))
  clear h h2
  go_enter Tryd.func47, Tryd.ntmps47
  go_wp2_with (first
    | (refine wpList_built rfl 84 _ rfl (rowOf (zbytes 12)) (by kernel_rfl) ?_)
    | (refine wpList_put_row rfl 84 _ _ rfl w.heap.size (rowOf (zbytes 12)) rfl rfl 84 (rowOf (zbytes 12)) BK.out I.out rfl (bytes_one _) ?_; intro W9 k9 g9 s9))
  exact bodyPost_ret (results_cell_slot Tryd.results47 _ _ w.heap.size rfl rfl (run_loadVar_row _ _ _ _ _ (0, 0) _ k9 Tryd.underlying84 rfl I.out)) rfl ⟨rfl, HB.out.grown g9 HB.out.size (fun k hk => by injection hk with hk; omega)⟩
set_option maxRecDepth 100000 in
set_option maxHeartbeats 1000000 in
theorem nonce_no3 (w : World) (a b : Int) (h : 1 ≤ a) (h2 : a ≤ 16) (h3 : b < 1) :
    Calls Tryd.prog 47 #[.int .i64 a, .int .i64 b] w fun e w' => e = .returned (.tuple #[.agg (rowOf (zbytes 12)), .int .i64 1]) ∧ Below w.heap.size w w' := by
  have hz := z12
  have hd0 : decide (a < 1) = false := decide_eq_false (by omega)
  have hd1 : decide (16 < a) = false := decide_eq_false (by omega)
  have hd2 : decide (b < 1) = true := decide_eq_true (by omega)
  have BK := hidn_ (Bk.new w 84 (rowOf (zbytes 12)))
  have I := hidn_ (i12 (zbytes 12) (zbytes_len 12))
  have HB := hidn_ ((Below.refl w.heap.size w).alloc (Nat.le_refl _) (.cells (rowOf (zbytes 12)) 84))
  clear h h2 h3
  go_enter Tryd.func47, Tryd.ntmps47
  go_wp2_with (first
    | (refine wpList_built rfl 84 _ rfl (rowOf (zbytes 12)) (by kernel_rfl) ?_)
    | (refine wpList_put_row rfl 84 _ _ rfl w.heap.size (rowOf (zbytes 12)) rfl rfl 84 (rowOf (zbytes 12)) BK.out I.out rfl (bytes_one _) ?_; intro W9 k9 g9 s9))
  exact bodyPost_ret (results_cell_slot Tryd.results47 _ _ w.heap.size rfl rfl (run_loadVar_row _ _ _ _ _ (0, 0) _ k9 Tryd.underlying84 rfl I.out)) rfl ⟨rfl, HB.out.grown g9 HB.out.size (fun k hk => by injection hk with hk; omega)⟩
set_option maxRecDepth 100000 in
set_option maxHeartbeats 1000000 in
theorem nonce_no4 (w : World) (a b : Int) (h : 1 ≤ a) (h2 : a ≤ 16) (h3 : 1 ≤ b) (h4 : 4611686018427387904 < b) :
    Calls Tryd.prog 47 #[.int .i64 a, .int .i64 b] w fun e w' => e = .returned (.tuple #[.agg (rowOf (zbytes 12)), .int .i64 1]) ∧ Below w.heap.size w w' := by
  have hz := z12
  have hd0 : decide (a < 1) = false := decide_eq_false (by omega)
  have hd1 : decide (16 < a) = false := decide_eq_false (by omega)
  have hd2 : decide (b < 1) = false := decide_eq_false (by omega)
  have hd3 : decide (4611686018427387904 < b) = true := decide_eq_true (by omega)
  have BK := hidn_ (Bk.new w 84 (rowOf (zbytes 12)))
  have I := hidn_ (i12 (zbytes 12) (zbytes_len 12))
  have HB := hidn_ ((Below.refl w.heap.size w).alloc (Nat.le_refl _) (.cells (rowOf (zbytes 12)) 84))
  clear h h2 h3 h4
  go_enter Tryd.func47, Tryd.ntmps47
  go_wp2_with (first
    | (refine wpList_built rfl 84 _ rfl (rowOf (zbytes 12)) (by kernel_rfl) ?_)
    | (refine wpList_put_row rfl 84 _ _ rfl w.heap.size (rowOf (zbytes 12)) rfl rfl 84 (rowOf (zbytes 12)) BK.out I.out rfl (bytes_one _) ?_; intro W9 k9 g9 s9))
  exact bodyPost_ret (results_cell_slot Tryd.results47 _ _ w.heap.size rfl rfl (run_loadVar_row _ _ _ _ _ (0, 0) _ k9 Tryd.underlying84 rfl I.out)) rfl ⟨rfl, HB.out.grown g9 HB.out.size (fun k hk => by injection hk with hk; omega)⟩
theorem cat_two (w3 : World) (g1 g2 n1 n2 : Nat) (l1 l2 : List UInt8) (h1 : Blk8 w3 g1 l1) (h2 : Blk8 w3 g2 l2) (hn1 : l1.length = n1) (hn2 : l2.length = n2) :
    CatAt (w3.alloc (.cells #[.slice (some ⟨g1, 0, none⟩) n1 n1, .slice (some ⟨g2, 0, none⟩) n2 n2] 27)) (w3.alloc (.cells #[.slice (some ⟨g1, 0, none⟩) n1 n1, .slice (some ⟨g2, 0, none⟩) n2 n2] 27)).heap.size w3.heap.size [(some ⟨g1, 0, none⟩, n1, l1), (some ⟨g2, 0, none⟩, n2, l2)] := by
  have hb := Bk.new w3 27 #[.slice (some ⟨g1, 0, none⟩) n1 n1, .slice (some ⟨g2, 0, none⟩) n2 n2]
  refine ⟨hb.lt, fun i hi => ?_⟩
  have hcell := hb.cell i
  have hlt : i < 2 := hi
  rcases i with _ | _ | i
  · exact ⟨hcell.trans (by simp [hn1]), (h1.alloc _).rd (h1.alloc _).lt⟩
  · exact ⟨hcell.trans (by simp [hn2]), (h2.alloc _).rd (h2.alloc _).lt⟩
  · omega
set_option maxRecDepth 100000 in
set_option maxHeartbeats 2000000 in
theorem nonce_yes (w : World) (a b : Nat) (ha1 : 1 ≤ a) (ha2 : a ≤ 16) (hb1 : 1 ≤ b) (hb2 : b ≤ 4611686018427387904) :
    Calls Tryd.prog 47 #[.int .i64 (a : Int), .int .i64 (b : Int)] w fun e w' => e = .returned (.tuple #[.agg (rowOf (nonceB a b)), .int .i64 0]) ∧ Below w.heap.size w w' := by
  have hz := z12
  have hd0 : decide ((a : Int) < 1) = false := decide_eq_false (by omega)
  have hd1 : decide (16 < (a : Int)) = false := decide_eq_false (by omega)
  have hd2 : decide ((b : Int) < 1) = false := decide_eq_false (by omega)
  have hd3 : decide (4611686018427387904 < (b : Int)) = false := decide_eq_false (by omega)
  have hd4 : decide (16 < a) = false := decide_eq_false (by omega)
  have hd5 : decide (4611686018427387904 < b) = false := decide_eq_false (by omega)
  have hd6 : decide (a < 1) = false := decide_eq_false (by omega)
  have hd7 : decide (b < 1) = false := decide_eq_false (by omega)
  have hw1 : IntKind.u64.wrap (a : Int) = (a : Int) := IntWalk.u64_in _ (by omega)
  have hw2 : IntKind.u64.wrap (b : Int) = (b : Int) := IntWalk.u64_in _ (by omega)
  have BK := hidn_ (Bk.new w 84 (rowOf (zbytes 12)))
  have HB := hidn_ ((Below.refl w.heap.size w).alloc (Nat.le_refl _) (.cells (rowOf (zbytes 12)) 84))
  have c1 := fun W => putHigh_any a 4 4 (by omega) (by omega) (by omega) (.inr (.inl ⟨by omega, by omega, rfl⟩)) W
  have c2 := fun W => putHigh_any b 8 8 (by omega) (by omega) (by omega) (.inr (.inl ⟨by omega, by omega, rfl⟩)) W
  have I := hidn_ (i12 (nonceB a b) (nonceB_len a b))
  have Q := hidn_ (show (rowOf (zbytes 12)).size = (rowOf (nonceB a b)).size by rw [rowOf_size, rowOf_size, nonceB_len, zbytes_len])
  have NL := hidn_ (nonceB_len a b)
  have hat : ∀ (A : Option Addr) (c : Nat) (W : World), (Instr.arrayAt 84 (.slice A 12 c)).run Tryd.prog W = .ok (.pointer A) W := fun A c W => run_arrayAt W 84 5 12 A 12 c Tryd.underlying84 (Nat.le_refl _)
  clear ha1 ha2 hb1 hb2
  go_enter Tryd.func47, Tryd.ntmps47
  have e1 : (w.alloc (.cells (rowOf (zbytes 12)) 84)).heap.size = w.heap.size + 1 := by simp
  go_wp2_with (first
    | (go_at_call 38; ((with_reducible refine (c1 _).mono ?_); rintro e w2 ⟨rfl, hb, hB⟩; rw [e1] at hb hB ⊢; have P2 := hidn_ hb; have BK2 := hidn_ (BK.out.below hB (by omega)); have B2 := hidn_ (HB.out.trans (hB.mono (by omega))); clear hb hB))
    | (go_at_call 38; ((with_reducible refine (c2 _).mono ?_); rintro e w3 ⟨rfl, hb, hB⟩; have P3 := hidn_ hb; have P23 := hidn_ (P2.out.below hB P2.out.lt); have BK3 := hidn_ (BK2.out.below hB BK2.out.lt); have B3 := hidn_ (B2.out.trans (hB.mono B2.out.size)); clear hb hB))
    | (go_at_call 27; have cc := concat_any w3.heap.size 2 2 12 [(some ⟨w.heap.size + 1, 0, none⟩, 4, highB 4 a), (some ⟨w2.heap.size, 0, none⟩, 8, highB 8 b)] _ rfl (by simp [flat, highB_len]) (cat_two w3 (w.heap.size + 1) w2.heap.size 4 8 _ _ P23.out P3.out (highB_len _ _) (highB_len _ _)) (by omega) (by omega); ((with_reducible refine cc.mono ?_); clear cc; rintro e w5 ⟨A5, c5, rfl, ho, hb⟩; rw [show flat [((some ⟨w.heap.size + 1, 0, none⟩ : Option Addr), 4, highB 4 a), (some ⟨w2.heap.size, 0, none⟩, 8, highB 8 b)] = nonceB a b by simp [flat, nonceB]] at ho; obtain ⟨g5, rfl⟩ := ho.block_ (by omega); have O5 := hidn_ ho; have BK5 := hidn_ ((BK3.out.alloc (.cells #[.slice (some ⟨w.heap.size + 1, 0, none⟩) 4 4, .slice (some ⟨w2.heap.size, 0, none⟩) 8 8] 27)).below hb (BK3.out.alloc _).lt); have B5 := hidn_ ((B3.out.alloc B3.out.size (.cells #[.slice (some ⟨w.heap.size + 1, 0, none⟩) 4 4, .slice (some ⟨w2.heap.size, 0, none⟩) 8 8] 27)).trans (hb.mono (by have := B3.out.size; simp; omega))); clear ho hb; have C5 := hidn_ (fun j (hj : j < (rowOf (nonceB a b)).size) => (show w5.cell? ⟨g5, 0 + j, none⟩ = (rowOf (nonceB a b))[j]? by rw [rowOf_size] at hj; rw [Nat.zero_add, O5.out.cellz j (by rw [NL.out] at hj; exact hj), rowOf_at _ _ hj]))))
    | (refine wpList_load_sub rfl 84 (.tmp 31) rfl g5 0 rfl (rowOf (nonceB a b)) C5.out _ Tryd.underlying84 rfl I.out ?_)
    | (refine wpList_put_row rfl 84 _ _ rfl w.heap.size (rowOf (nonceB a b)) rfl rfl 84 (rowOf (zbytes 12)) BK5.out I.out Q.out (bytes_one _) ?_; intro W9 k9 g9 s9))
  exact bodyPost_ret (results_cell_slot Tryd.results47 _ _ w.heap.size rfl rfl (run_loadVar_row _ _ _ _ _ (0, 0) _ k9 Tryd.underlying84 rfl I.out)) rfl ⟨rfl, B5.out.grown g9 B5.out.size (fun k hk => by injection hk with hk; omega)⟩
end Go.Proofs.YtmomnfhoeabdnaaDoor

namespace Go.Proofs.YtmomnfhoeabdnaaDoor
set_option maxRecDepth 100000
open Go.RowKit
set_option linter.unusedVariables false
set_option linter.unusedSimpArgs false

theorem nonce_no (w : World) (a b : Int) (h : ¬ NonceOk a b) :
    Calls Tryd.prog 47 #[.int .i64 a, .int .i64 b] w fun e w' => e = .returned (.tuple #[.agg (rowOf (zbytes 12)), .int .i64 1]) ∧ Below w.heap.size w w' := by
  unfold NonceOk at h
  by_cases h1 : a < 1
  · exact nonce_no1 w a b h1
  · by_cases h2 : 16 < a
    · exact nonce_no2 w a b (by omega) h2
    · by_cases h3 : b < 1
      · exact nonce_no3 w a b (by omega) (by omega) h3
      · exact nonce_no4 w a b (by omega) (by omega) (by omega) (by omega)
theorem zB (W : World) : (zeroValue 36).run Tryd.prog W = .ok (.agg (rowOf (zbytes 32))) W := by kernel_rfl
theorem iB_ : (Tryd.prog.info? 36).map (·.size) = some 32 := by kernel_rfl
theorem iB (l : List UInt8) (h : l.length = 32) : (Tryd.prog.info? 36).map (·.size) = some (rowOf l).size := by rw [rowOf_size, h]; exact iB_
set_option maxRecDepth 100000 in
set_option maxHeartbeats 1000000 in
theorem blind_nil (w : World) (m : List UInt8) (A : Option Addr) (c : Nat) :
    Calls Tryd.prog 29 #[.agg (rowOf m), .slice A 0 c] w fun e w' => e = .returned (.tuple #[.agg (rowOf (zbytes 32)), .int .i64 1]) ∧ Below w.heap.size w w' := by
  have hz := zB
  have BK := hidn_ (Bk.new (w.alloc (.cells (rowOf m) 25)) 36 (rowOf (zbytes 32)))
  have e1 : (w.alloc (.cells (rowOf m) 25)).heap.size = w.heap.size + 1 := by simp
  have I := hidn_ (iB (zbytes 32) (zbytes_len 32))
  have HB := hidn_ (((Below.refl w.heap.size w).alloc (Nat.le_refl _) (.cells (rowOf m) 25)).alloc (by omega) (.cells (rowOf (zbytes 32)) 36))
  rw [e1] at BK
  generalize rowOf m = M at *
  go_enter Tryd.func29, Tryd.ntmps29
  go_wp2_with (first
    | (refine wpList_built rfl 36 _ rfl (rowOf (zbytes 32)) (by kernel_rfl) ?_)
    | (refine wpList_put_row rfl 36 _ _ rfl (w.heap.size + 1) (rowOf (zbytes 32)) rfl rfl 36 (rowOf (zbytes 32)) BK.out I.out rfl (bytes_one _) ?_; intro W9 k9 g9 s9))
  exact bodyPost_ret (results_cell_slot Tryd.results29 _ _ (w.heap.size + 1) rfl rfl (run_loadVar_row _ _ _ _ _ (0, 0) _ k9 Tryd.underlying36 rfl I.out)) rfl ⟨rfl, HB.out.grown g9 HB.out.size (fun k hk => by injection hk with hk; omega)⟩
/-- All of a nonce, as a slice. -/
theorem non_all (g : Nat) (W : World) :
    (Instr.sliceAt 84 (.pointer (some ⟨g, 0, none⟩)) none none none).run Tryd.prog W = .ok (.slice (some ⟨g, 0, none⟩) 12 12) W := by
  have he : Tryd.prog.elem 84 = 5 := by kernel_rfl
  have hn : Tryd.prog.arrayLen 84 = 12 := by kernel_rfl
  have ht : Tryd.prog.underlying 84 = some (.array (Tryd.prog.arrayLen 84) (Tryd.prog.elem 84)) := by rw [he, hn]; exact Tryd.underlying84
  have hs : (sizeOf (Tryd.prog.elem 84)).run Tryd.prog W = .ok 1 W := by
    rw [he]
    obtain ⟨i, hi, hz, hsize, hby⟩ := info_parts info8
    simp [sizeOf, typeInfo, hi, hsize]
  rw [run_sliceAt_array_all W 84 ⟨g, 0, none⟩ ht, hs, hn]
  simp only [Result.andThen, slicedAt, Nat.mul_one]
  rw [if_neg (by omega)]
  congr 3
end Go.Proofs.YtmomnfhoeabdnaaDoor

namespace Go.Proofs.YtmomnfhoeabdnaaDoor
set_option maxRecDepth 100000
open Go.ChangeShapes Go.WideShapes Go.ChangeAt Go.RowKit
set_option linter.unusedVariables false
set_option linter.unusedSimpArgs false

section
variable {P : Program} {C : World → Prop} {ops : Array Oper} {rest : List Oper} {o : Oper} {a : Act} {w : World} {Q : Exit → Act → World → Prop} {K0 : Act → Prop}
/-- A whole row, read in a quiet region. -/
theorem quiet_load_row (ty : TypeId) (x : Operand) (ho : o.op = .load ty x) (g : Nat) (hx : a.eval x = .pointer (some ⟨g, 0, none⟩)) (t : TypeId) (cs : Array Value) (d : TypeDesc)
    (hu : P.underlying ty = some d) (hd : (match d with | .struct _ | .array _ _ => true | _ => false) = true) (hi : (P.info? ty).map (·.size) = some cs.size)
    (hC : ∀ W, C W → Bk W g t cs) (hk : K0 (a.put o.dst (.agg cs))) : o.quiet P a C K0 :=
  quiet_run (.agg cs) (fun W hW => by
    have hrun : (loadVar ty ⟨g, 0, none⟩).run P W = .ok (.agg cs) W := run_loadVar_row _ _ _ _ _ (0, 0) _ (hC W hW) hu hd hi
    unfold execOp
    simp only [ho, hx, Instr.loadAt, Instr.sureAddr, Sem.run_bind, Sem.run_pure, Result.andThen_ok, hrun]) hk
/-- A whole row read behind a guard that says yes. -/
theorem wpList_load_rowW (hw : Region.wanted o (yielded ops a.tmps) = true) (ty : TypeId) (x : Operand) (ho : o.op = .load ty x) (g : Nat) (hx : a.eval x = .pointer (some ⟨g, 0, none⟩)) (t : TypeId) (cs : Array Value) (hb : Bk w g t cs) (d : TypeDesc)
    (hu : P.underlying ty = some d) (hd : (match d with | .struct _ | .array _ _ => true | _ => false) = true) (hi : (P.info? ty).map (·.size) = some cs.size)
    (h : wpList P ops Q rest (a.put o.dst (.agg cs)) w) : wpList P ops Q (o :: rest) a w := by
  have hrun : (loadVar ty ⟨g, 0, none⟩).run P w = .ok (.agg cs) w := run_loadVar_row _ _ _ _ _ (0, 0) _ hb hu hd hi
  refine BigFrame.wpList_want hw fun K hK => ?_
  unfold Oper.wp execOp
  simp only [ho, hx, Instr.loadAt, Instr.sureAddr, Sem.run_bind, Sem.run_pure, Result.andThen_ok, hrun]
  exact hK _ _ h
end
theorem eql12 (l m : List UInt8) (hl : l.length = 12) (hm : m.length = 12) (W : World) :
    (binOp .eql 84 (.agg (rowOf l)) (.agg (rowOf m))).run Tryd.prog W = .ok (.bool (l == m)) W := by
  have hs : ∀ W : World, (sizeOf 5).run Tryd.prog W = .ok 1 W := fun W => by
    obtain ⟨i, hi, hz, hsize, hby⟩ := info_parts info8
    simp [sizeOf, typeInfo, hi, hsize]
  exact run_eql_bytes W 84 5 12 Tryd.underlying84 Tryd.underlying5 hs l m hl hm
theorem run_equalIn_ints2 {P : Program} (w : World) (d : Nat) (t e : TypeId) (ht : P.underlying t = some (.array 2 e)) (he : P.underlying e = some (.int .i64)) (hsz : ∀ w, (sizeOf e).run P w = .ok 1 w) (a0 a1 b0 b1 : Int) :
    (Op.equalIn (d + 2) t (.agg #[.int .i64 a0, .int .i64 a1]) (.agg #[.int .i64 b0, .int .i64 b1])).run P w = .ok (a0 == b0 && a1 == b1) w := by
  rw [Op.equalIn]
  simp only [Sem.run_bind, run_underlying ht, Result.andThen_ok, hsz, Std.Legacy.Range.forIn_eq_forIn_range', Std.Legacy.Range.size, Nat.sub_zero, Nat.add_sub_cancel, Nat.div_one]
  have pa : ∀ (x y : Int) (i : Nat), i < 2 → (part e #[Value.int .i64 x, Value.int .i64 y] (i * 1)).run P w = .ok (.int .i64 (if i = 0 then x else y)) w := fun x y i hi => by
    rcases i with _ | _ | i
    · simp [part, isAgg, run_underlying he]
    · simp [part, isAgg, run_underlying he]
    · omega
  have pe : ∀ x y : Int, (Op.equalIn (d + 1) e (.int .i64 x) (.int .i64 y)).run P w = .ok (x == y) w := fun x y => run_equalIn_int w d e .i64 .i64 x y he
  simp only [List.range'_succ, List.range'_zero, List.forIn_cons, List.forIn_nil, Sem.run_bind, pa _ _ 0 (by omega), pa _ _ (0 + 1) (by omega), pe, Result.andThen_ok]
  have pa1 : ∀ x y : Int, (part e #[Value.int .i64 x, Value.int .i64 y] 1).run P w = .ok (.int .i64 y) w := fun x y => by simpa using pa x y 1 (by omega)
  cases h0 : (a0 == b0) <;> cases h1 : (a1 == b1) <;> simp [h0, h1, pa1, pe]
/-- An array of two ints, taken by value. -/
theorem open_pair {H : Type} {enc : TypeId × Value → H} {P : Program} {t e : TypeId} {w : World} {b0 base : Nat} {sp : Nat → Bool} {held : Bool} {r : Reach} {v : Value} {d : DataW H} {p : List MemPlace}
    (ht : P.underlying t = some (.array 2 e)) (he : P.underlying e = some (.int .i64)) (hc : P.cellsOf e = 1) (hct : P.cellsOf t = 2)
    (hv : Value.okWide P w r b0 t v) (h : DataW.Trod enc P w base sp held t v d p) :
    ∃ a b : Int, v = .agg #[.int .i64 a, .int .i64 b] ∧ (-9223372036854775808 ≤ a ∧ a ≤ 9223372036854775807) ∧ (-9223372036854775808 ≤ b ∧ b ≤ 9223372036854775807) := by
  obtain ⟨cs, rfl, hsz, _⟩ : ∃ cs, v = .agg cs ∧ cs.size = P.cellsOf t ∧ Row.okWide P w r b0 t cs := by simpa [Value.okWide, ht] using hv
  rw [hct] at hsz
  obtain ⟨l⟩ := cs
  match l, hsz with
  | [c0, c1], _ =>
    obtain ⟨fuel, hf⟩ := h
    obtain ⟨xs, m, _, _, _, hl, hel⟩ := DataW.trod_array ht hf
    have h0 := hel 0 (by omega)
    have h1 := hel 1 (by omega)
    rw [hc] at h0 h1
    rw [List.getElem?_eq_getElem (by omega)] at h0 h1
    obtain ⟨a, e0, _, wa⟩ := DataW.trod_int he h0
    obtain ⟨b, e1, _, wb⟩ := DataW.trod_int he h1
    simp [Value.cells] at e0 e1
    exact ⟨a, b, by rw [e0, e1], bounds_i64 wa, bounds_i64 wb⟩
def clientB (z : Int) : Bool := decide (1 ≤ z) && decide (z ≤ 16)
def counterB (z : Int) : Bool := decide (1 ≤ z) && decide (z ≤ 4611686018427387904)
theorem nonceOk_iff (a b : Int) : (clientB a && counterB b) = true ↔ NonceOk a b := by
  unfold clientB counterB NonceOk
  simp
  omega
theorem nonceB_inj (a b c d : Nat) (ha : a ≤ 16) (hb : b ≤ 4611686018427387904) (hc : c ≤ 16) (hd : d ≤ 4611686018427387904) (h : nonceB a b = nonceB c d) : a = c ∧ b = d := by
  unfold nonceB at h
  obtain ⟨h1, h2⟩ := List.append_inj h (by rw [highB_len, highB_len])
  have e1 := congrArg beN h1
  have e2 := congrArg beN h2
  rw [beN_highB, beN_highB] at e1 e2
  have p4 : (256 : Nat) ^ 4 = 4294967296 := by decide
  have p8 : (256 : Nat) ^ 8 = 18446744073709551616 := by decide
  rw [p4] at e1
  rw [p8] at e2
  omega
end Go.Proofs.YtmomnfhoeabdnaaDoor
