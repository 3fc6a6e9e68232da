/-
  Contract: keys.Nonce; what the laws of keys begin with.
-/
import Derived.Test.YteijlgifcmlkoaaDoorDn
import Derived.Test.YteijlgifcmlkoaaDoorFr
import Derived.Laws.Cover3
import Derived.LaidEqlPtr
namespace Go.Proofs.YteijlgifcmlkoaaDoor
open Go.RowKit
set_option linter.unusedVariables false
set_option linter.unusedSimpArgs false

theorem hidn_ {p : Prop} (h : p) : Hid p := h
theorem results_cell_slot {P : Program} {fn : Func} {p q : Tmp} {ty : TypeId} (h : fn.results = #[.cell p ty, .tmp q]) (tmps : Array Value) (w : World) (g : Nat) {v v' : Value}
    (hp : tmps.getD p undef = .pointer (some ⟨g, 0, none⟩)) (hq : tmps.getD q undef = v')
    (h1 : (loadVar ty ⟨g, 0, none⟩).run P w = .ok v w) :
    (results fn tmps).run P w = .ok (.tuple #[v, v']) w := by
  have hp' : tmps[p]?.getD undef = .pointer (some ⟨g, 0, none⟩) := by simpa using hp
  have hq' : tmps[q]?.getD undef = v' := by simpa using hq
  simp [results, h, hp', hq', asAddr, h1]
theorem z12 (W : World) : (zeroValue 45).run Tryd.prog W = .ok (.agg (rowOf (zbytes 12))) W := by kernel_rfl
theorem i12_ : (Tryd.prog.info? 45).map (·.size) = some 12 := by kernel_rfl
theorem i12 (l : List UInt8) (h : l.length = 12) : (Tryd.prog.info? 45).map (·.size) = some (rowOf l).size := by rw [rowOf_size, h]; exact i12_
/-- A nonce's bytes. -/
def nonceB (c n : Nat) : List UInt8 := highB 4 c ++ highB 8 n
theorem nonceB_len (c n : Nat) : (nonceB c n).length = 12 := by rw [nonceB, List.length_append, highB_len, highB_len]
def NonceOk (a b : Int) : Prop := 1 ≤ a ∧ a ≤ 16 ∧ 1 ≤ b ∧ b ≤ 4611686018427387904
instance (a b : Int) : Decidable (NonceOk a b) := by unfold NonceOk; infer_instance
set_option maxRecDepth 100000 in
set_option maxHeartbeats 1000000 in
theorem nonce_no1 (w : World) (a b : Int) (h : a < 1) :
    Calls Tryd.prog 22 #[.int .i64 a, .int .i64 b] w fun e w' => e = .returned (.tuple #[.agg (rowOf (zbytes 12)), .int .i64 1]) ∧ Below w.heap.size w w' := by
  have hz := z12
  have hd0 : decide (a < 1) = true := decide_eq_true (by omega)
  have BK := hidn_ (Bk.new w 45 (rowOf (zbytes 12)))
  have I := hidn_ (i12 (zbytes 12) (zbytes_len 12))
  have HB := hidn_ ((Below.refl w.heap.size w).alloc (Nat.le_refl _) (.cells (rowOf (zbytes 12)) 45))
  clear h
  go_enter Tryd.func22, Tryd.ntmps22
  go_wp2_with (first
    | (refine wpList_built rfl 45 _ rfl (rowOf (zbytes 12)) (by kernel_rfl) ?_)
    | (refine wpList_put_row rfl 45 _ _ rfl w.heap.size (rowOf (zbytes 12)) rfl rfl 45 (rowOf (zbytes 12)) BK.out I.out rfl (bytes_one _) ?_; intro W9 k9 g9 s9))
  exact bodyPost_ret (results_cell_slot Tryd.results22 _ _ w.heap.size rfl rfl (run_loadVar_row _ _ _ _ _ (0, 0) _ k9 Tryd.underlying45 rfl I.out)) rfl ⟨rfl, HB.out.grown g9 HB.out.size (fun k hk => by injection hk with hk; omega)⟩
set_option maxRecDepth 100000 in
set_option maxHeartbeats 1000000 in
theorem nonce_no2 (w : World) (a b : Int) (h : 1 ≤ a) (h2 : 16 < a) :
    Calls Tryd.prog 22 #[.int .i64 a, .int .i64 b] w fun e w' => e = .returned (.tuple #[.agg (rowOf (zbytes 12)), .int .i64 1]) ∧ Below w.heap.size w w' := by
  have hz := z12
  have hd0 : decide (a < 1) = false := decide_eq_false (by omega)
  have hd1 : decide (16 < a) = true := decide_eq_true (by omega)
  have BK := hidn_ (Bk.new w 45 (rowOf (zbytes 12)))
  have I := hidn_ (i12 (zbytes 12) (zbytes_len 12))
  have HB := hidn_ ((Below.refl w.heap.size w).alloc (Nat.le_refl _) (.cells (rowOf (zbytes 12)) 45))
  clear h h2
  go_enter Tryd.func22, Tryd.ntmps22
  go_wp2_with (first
    | (refine wpList_built rfl 45 _ rfl (rowOf (zbytes 12)) (by kernel_rfl) ?_)
    | (refine wpList_put_row rfl 45 _ _ rfl w.heap.size (rowOf (zbytes 12)) rfl rfl 45 (rowOf (zbytes 12)) BK.out I.out rfl (bytes_one _) ?_; intro W9 k9 g9 s9))
  exact bodyPost_ret (results_cell_slot Tryd.results22 _ _ w.heap.size rfl rfl (run_loadVar_row _ _ _ _ _ (0, 0) _ k9 Tryd.underlying45 rfl I.out)) rfl ⟨rfl, HB.out.grown g9 HB.out.size (fun k hk => by injection hk with hk; omega)⟩
set_option maxRecDepth 100000 in
set_option maxHeartbeats 1000000 in
theorem nonce_no3 (w : World) (a b : Int) (h : 1 ≤ a) (h2 : a ≤ 16) (h3 : b < 1) :
    Calls Tryd.prog 22 #[.int .i64 a, .int .i64 b] w fun e w' => e = .returned (.tuple #[.agg (rowOf (zbytes 12)), .int .i64 1]) ∧ Below w.heap.size w w' := by
  have hz := z12
  have hd0 : decide (a < 1) = false := decide_eq_false (by omega)
  have hd1 : decide (16 < a) = false := decide_eq_false (by omega)
  have hd2 : decide (b < 1) = true := decide_eq_true (by omega)
  have BK := hidn_ (Bk.new w 45 (rowOf (zbytes 12)))
  have I := hidn_ (i12 (zbytes 12) (zbytes_len 12))
  have HB := hidn_ ((Below.refl w.heap.size w).alloc (Nat.le_refl _) (.cells (rowOf (zbytes 12)) 45))
  clear h h2 h3
  go_enter Tryd.func22, Tryd.ntmps22
  go_wp2_with (first
    | (refine wpList_built rfl 45 _ rfl (rowOf (zbytes 12)) (by kernel_rfl) ?_)
    | (refine wpList_put_row rfl 45 _ _ rfl w.heap.size (rowOf (zbytes 12)) rfl rfl 45 (rowOf (zbytes 12)) BK.out I.out rfl (bytes_one _) ?_; intro W9 k9 g9 s9))
  exact bodyPost_ret (results_cell_slot Tryd.results22 _ _ w.heap.size rfl rfl (run_loadVar_row _ _ _ _ _ (0, 0) _ k9 Tryd.underlying45 rfl I.out)) rfl ⟨rfl, HB.out.grown g9 HB.out.size (fun k hk => by injection hk with hk; omega)⟩
set_option maxRecDepth 100000 in
set_option maxHeartbeats 1000000 in
theorem nonce_no4 (w : World) (a b : Int) (h : 1 ≤ a) (h2 : a ≤ 16) (h3 : 1 ≤ b) (h4 : 4611686018427387904 < b) :
    Calls Tryd.prog 22 #[.int .i64 a, .int .i64 b] w fun e w' => e = .returned (.tuple #[.agg (rowOf (zbytes 12)), .int .i64 1]) ∧ Below w.heap.size w w' := by
  have hz := z12
  have hd0 : decide (a < 1) = false := decide_eq_false (by omega)
  have hd1 : decide (16 < a) = false := decide_eq_false (by omega)
  have hd2 : decide (b < 1) = false := decide_eq_false (by omega)
  have hd3 : decide (4611686018427387904 < b) = true := decide_eq_true (by omega)
  have BK := hidn_ (Bk.new w 45 (rowOf (zbytes 12)))
  have I := hidn_ (i12 (zbytes 12) (zbytes_len 12))
  have HB := hidn_ ((Below.refl w.heap.size w).alloc (Nat.le_refl _) (.cells (rowOf (zbytes 12)) 45))
  clear h h2 h3 h4
  go_enter Tryd.func22, Tryd.ntmps22
  go_wp2_with (first
    | (refine wpList_built rfl 45 _ rfl (rowOf (zbytes 12)) (by kernel_rfl) ?_)
    | (refine wpList_put_row rfl 45 _ _ rfl w.heap.size (rowOf (zbytes 12)) rfl rfl 45 (rowOf (zbytes 12)) BK.out I.out rfl (bytes_one _) ?_; intro W9 k9 g9 s9))
  exact bodyPost_ret (results_cell_slot Tryd.results22 _ _ w.heap.size rfl rfl (run_loadVar_row _ _ _ _ _ (0, 0) _ k9 Tryd.underlying45 rfl I.out)) rfl ⟨rfl, HB.out.grown g9 HB.out.size (fun k hk => by injection hk with hk; omega)⟩
theorem cat_two (w3 : World) (g1 g2 n1 n2 : Nat) (l1 l2 : List UInt8) (h1 : Blk8 w3 g1 l1) (h2 : Blk8 w3 g2 l2) (hn1 : l1.length = n1) (hn2 : l2.length = n2) :
    CatAt (w3.alloc (.cells #[.slice (some ⟨g1, 0, none⟩) n1 n1, .slice (some ⟨g2, 0, none⟩) n2 n2] 22)) (w3.alloc (.cells #[.slice (some ⟨g1, 0, none⟩) n1 n1, .slice (some ⟨g2, 0, none⟩) n2 n2] 22)).heap.size w3.heap.size [(some ⟨g1, 0, none⟩, n1, l1), (some ⟨g2, 0, none⟩, n2, l2)] := by
  have hb := Bk.new w3 22 #[.slice (some ⟨g1, 0, none⟩) n1 n1, .slice (some ⟨g2, 0, none⟩) n2 n2]
  refine ⟨hb.lt, fun i hi => ?_⟩
  have hcell := hb.cell i
  have hlt : i < 2 := hi
  rcases i with _ | _ | i
  · exact ⟨hcell.trans (by simp [hn1]), (h1.alloc _).rd (h1.alloc _).lt⟩
  · exact ⟨hcell.trans (by simp [hn2]), (h2.alloc _).rd (h2.alloc _).lt⟩
  · omega
set_option maxRecDepth 100000 in
set_option maxHeartbeats 2000000 in
theorem nonce_yes (w : World) (a b : Nat) (ha1 : 1 ≤ a) (ha2 : a ≤ 16) (hb1 : 1 ≤ b) (hb2 : b ≤ 4611686018427387904) :
    Calls Tryd.prog 22 #[.int .i64 (a : Int), .int .i64 (b : Int)] w fun e w' => e = .returned (.tuple #[.agg (rowOf (nonceB a b)), .int .i64 0]) ∧ Below w.heap.size w w' := by
  have hz := z12
  have hd0 : decide ((a : Int) < 1) = false := decide_eq_false (by omega)
  have hd1 : decide (16 < (a : Int)) = false := decide_eq_false (by omega)
  have hd2 : decide ((b : Int) < 1) = false := decide_eq_false (by omega)
  have hd3 : decide (4611686018427387904 < (b : Int)) = false := decide_eq_false (by omega)
  have hd4 : decide (16 < a) = false := decide_eq_false (by omega)
  have hd5 : decide (4611686018427387904 < b) = false := decide_eq_false (by omega)
  have hd6 : decide (a < 1) = false := decide_eq_false (by omega)
  have hd7 : decide (b < 1) = false := decide_eq_false (by omega)
  have hw1 : IntKind.u64.wrap (a : Int) = (a : Int) := IntWalk.u64_in _ (by omega)
  have hw2 : IntKind.u64.wrap (b : Int) = (b : Int) := IntWalk.u64_in _ (by omega)
  have BK := hidn_ (Bk.new w 45 (rowOf (zbytes 12)))
  have HB := hidn_ ((Below.refl w.heap.size w).alloc (Nat.le_refl _) (.cells (rowOf (zbytes 12)) 45))
  have c1 := fun W => putHigh_any a 4 4 (by omega) (by omega) (by omega) (.inr (.inl ⟨by omega, by omega, rfl⟩)) W
  have c2 := fun W => putHigh_any b 8 8 (by omega) (by omega) (by omega) (.inr (.inl ⟨by omega, by omega, rfl⟩)) W
  have I := hidn_ (i12 (nonceB a b) (nonceB_len a b))
  have Q := hidn_ (show (rowOf (zbytes 12)).size = (rowOf (nonceB a b)).size by rw [rowOf_size, rowOf_size, nonceB_len, zbytes_len])
  have NL := hidn_ (nonceB_len a b)
  have hat : ∀ (A : Option Addr) (c : Nat) (W : World), (Instr.arrayAt 45 (.slice A 12 c)).run Tryd.prog W = .ok (.pointer A) W := fun A c W => run_arrayAt W 45 5 12 A 12 c Tryd.underlying45 (Nat.le_refl _)
  clear ha1 ha2 hb1 hb2
  go_enter Tryd.func22, Tryd.ntmps22
  have e1 : (w.alloc (.cells (rowOf (zbytes 12)) 45)).heap.size = w.heap.size + 1 := by simp
  go_wp2_with (first
    | (go_at_call 24; ((with_reducible refine (c1 _).mono ?_); rintro e w2 ⟨rfl, hb, hB⟩; rw [e1] at hb hB ⊢; have P2 := hidn_ hb; have BK2 := hidn_ (BK.out.below hB (by omega)); have B2 := hidn_ (HB.out.trans (hB.mono (by omega))); clear hb hB))
    | (go_at_call 24; ((with_reducible refine (c2 _).mono ?_); rintro e w3 ⟨rfl, hb, hB⟩; have P3 := hidn_ hb; have P23 := hidn_ (P2.out.below hB P2.out.lt); have BK3 := hidn_ (BK2.out.below hB BK2.out.lt); have B3 := hidn_ (B2.out.trans (hB.mono B2.out.size)); clear hb hB))
    | (go_at_call 23; have cc := concat_any w3.heap.size 2 2 12 [(some ⟨w.heap.size + 1, 0, none⟩, 4, highB 4 a), (some ⟨w2.heap.size, 0, none⟩, 8, highB 8 b)] _ rfl (by simp [flat, highB_len]) (cat_two w3 (w.heap.size + 1) w2.heap.size 4 8 _ _ P23.out P3.out (highB_len _ _) (highB_len _ _)) (by omega) (by omega); ((with_reducible refine cc.mono ?_); clear cc; rintro e w5 ⟨A5, c5, rfl, ho, hb⟩; rw [show flat [((some ⟨w.heap.size + 1, 0, none⟩ : Option Addr), 4, highB 4 a), (some ⟨w2.heap.size, 0, none⟩, 8, highB 8 b)] = nonceB a b by simp [flat, nonceB]] at ho; obtain ⟨g5, rfl⟩ := ho.block_ (by omega); have O5 := hidn_ ho; have BK5 := hidn_ ((BK3.out.alloc (.cells #[.slice (some ⟨w.heap.size + 1, 0, none⟩) 4 4, .slice (some ⟨w2.heap.size, 0, none⟩) 8 8] 22)).below hb (BK3.out.alloc _).lt); have B5 := hidn_ ((B3.out.alloc B3.out.size (.cells #[.slice (some ⟨w.heap.size + 1, 0, none⟩) 4 4, .slice (some ⟨w2.heap.size, 0, none⟩) 8 8] 22)).trans (hb.mono (by have := B3.out.size; simp; omega))); clear ho hb; have C5 := hidn_ (fun j (hj : j < (rowOf (nonceB a b)).size) => (show w5.cell? ⟨g5, 0 + j, none⟩ = (rowOf (nonceB a b))[j]? by rw [rowOf_size] at hj; rw [Nat.zero_add, O5.out.cellz j (by rw [NL.out] at hj; exact hj), rowOf_at _ _ hj]))))
    | (refine wpList_load_sub rfl 45 (.tmp 31) rfl g5 0 rfl (rowOf (nonceB a b)) C5.out _ Tryd.underlying45 rfl I.out ?_)
    | (refine wpList_put_row rfl 45 _ _ rfl w.heap.size (rowOf (nonceB a b)) rfl rfl 45 (rowOf (zbytes 12)) BK5.out I.out Q.out (bytes_one _) ?_; intro W9 k9 g9 s9))
  exact bodyPost_ret (results_cell_slot Tryd.results22 _ _ w.heap.size rfl rfl (run_loadVar_row _ _ _ _ _ (0, 0) _ k9 Tryd.underlying45 rfl I.out)) rfl ⟨rfl, B5.out.grown g9 B5.out.size (fun k hk => by injection hk with hk; omega)⟩
end Go.Proofs.YteijlgifcmlkoaaDoor
