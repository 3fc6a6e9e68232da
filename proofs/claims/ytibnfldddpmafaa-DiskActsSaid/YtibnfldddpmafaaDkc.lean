/-
  A disk: Size, Loose, Off, Fuse, New.
-/
import Derived.Test.YtibnfldddpmafaaDkb
namespace Go.Proofs.Ytibnfldddpmafaa
open Go.RowKit
set_option linter.unusedVariables false
set_option linter.unusedSimpArgs false

theorem run_maxk (x y m : Int) (hm : m = max x y) (w : World) (ts : Array TypeId) (t : TypeId) :
    (Builtin.max_ ts t #[.int .i64 x, .int .i64 y]).run Try.prog w = .ok (.int .i64 m) w := by
  simp [Builtin.max_, Builtin.max2]
  repeat' split
  all_goals omega
theorem DkV.lower {b0 b1 : Nat} {w : World} {p q n : Nat} {F : List (List UInt8)} {R : List WrV} {v : Value} {fu : Nat} {off : Bool} (h : DkV b0 w p q n F R v fu off) (hb : b1 ≤ b0) : DkV b1 w p q n F R v fu off :=
  ⟨Nat.le_trans hb h.hp, Nat.le_trans hb h.hq, h.n1, h.n2, h.hF, h.F64, h.hR, h.hfu, h.bp, World.ownsRow.mono h.lo hb, h.bq⟩
theorem DkI.lower {b0 b1 : Nat} {w : World} {p q n : Nat} {F : List (List UInt8)} {R : List WrV} {fu : Nat} {off : Bool} (h : DkI b0 w p q n F R fu off) (hb : b1 ≤ b0) : DkI b1 w p q n F R fu off := by
  obtain ⟨v, h⟩ := h
  exact ⟨v, h.lower hb⟩
section
variable {b0 : Nat} {w : World} {p q n : Nat} {F : List (List UInt8)} {R : List WrV} {fu : Nat} {off : Bool}
set_option maxRecDepth 100000 in
set_option maxHeartbeats 1000000 in
theorem dsize_yes (h : DkI b0 w p q n F R fu off) : Calls Try.prog 15 #[.pointer (some ⟨p, 0, none⟩)] w fun e w' => e = .returned (.int .i64 (n : Int)) ∧ w = w' := by
  have ci := made_yes h
  obtain ⟨v, h⟩ := h
  obtain ⟨c0, _, _, _⟩ := h.cells
  clear h
  go_enter Try.func15, Try.ntmps15
  go_wp2_with (go_at_call 25; ((with_reducible refine ci.mono ?_); clear ci; rintro e w' ⟨rfl, rfl⟩))
  go_ret
  exact ⟨rfl, rfl⟩
set_option maxRecDepth 100000 in
set_option maxHeartbeats 1000000 in
theorem dsize_nil (w : World) : Calls Try.prog 15 #[.pointer none] w fun e w' => e = .returned (.int .i64 0) ∧ w = w' := by
  have ci := made_nil w
  go_enter Try.func15, Try.ntmps15
  go_wp2_with (go_at_call 25; ((with_reducible refine ci.mono ?_); clear ci; rintro e w' ⟨rfl, rfl⟩))
  go_ret
  exact ⟨rfl, rfl⟩
set_option maxRecDepth 100000 in
set_option maxHeartbeats 1000000 in
theorem dloose_yes (h : DkI b0 w p q n F R fu off) : Calls Try.prog 16 #[.pointer (some ⟨p, 0, none⟩)] w fun e w' => e = .returned (.int .i64 (R.length : Int)) ∧ w = w' := by
  have ci := made_yes h
  obtain ⟨v, h⟩ := h
  obtain ⟨A, c, rfl⟩ := h.form
  obtain ⟨_, c1, _, _⟩ := h.cells
  clear h
  go_enter Try.func16, Try.ntmps16
  go_wp2_with (go_at_call 25; ((with_reducible refine ci.mono ?_); clear ci; rintro e w' ⟨rfl, rfl⟩))
  go_ret
  exact ⟨rfl, rfl⟩
set_option maxRecDepth 100000 in
set_option maxHeartbeats 1000000 in
theorem dloose_nil (w : World) : Calls Try.prog 16 #[.pointer none] w fun e w' => e = .returned (.int .i64 0) ∧ w = w' := by
  have ci := made_nil w
  go_enter Try.func16, Try.ntmps16
  go_wp2_with (go_at_call 25; ((with_reducible refine ci.mono ?_); clear ci; rintro e w' ⟨rfl, rfl⟩))
  go_ret
  exact ⟨rfl, rfl⟩
set_option maxRecDepth 100000 in
set_option maxHeartbeats 1000000 in
theorem doff_yes (h : DkI b0 w p q n F R fu off) : Calls Try.prog 17 #[.pointer (some ⟨p, 0, none⟩)] w fun e w' => e = .returned (.bool off) ∧ w = w' := by
  have ci := made_yes h
  obtain ⟨v, h⟩ := h
  obtain ⟨_, _, _, c3⟩ := h.cells
  clear h
  go_enter Try.func17, Try.ntmps17
  go_wp2_with (go_at_call 25; ((with_reducible refine ci.mono ?_); clear ci; rintro e w' ⟨rfl, rfl⟩))
  go_ret
  exact ⟨rfl, rfl⟩
set_option maxRecDepth 100000 in
set_option maxHeartbeats 1000000 in
theorem doff_nil (w : World) : Calls Try.prog 17 #[.pointer none] w fun e w' => e = .returned (.bool true) ∧ w = w' := by
  have ci := made_nil w
  go_enter Try.func17, Try.ntmps17
  go_wp2_with (go_at_call 25; ((with_reducible refine ci.mono ?_); clear ci; rintro e w' ⟨rfl, rfl⟩))
  go_ret
  exact ⟨rfl, rfl⟩
set_option maxRecDepth 100000 in
set_option maxHeartbeats 1000000 in
theorem dfuse_yes (h : DkI b0 w p q n F R fu off) (z : Int) (f : Nat) (hz : (f : Int) = max z 0) (hf : f ≤ 9223372036854775807) : Calls Try.prog 8 #[.pointer (some ⟨p, 0, none⟩), .int .i64 z] w fun e w' => e = .returned (.tuple #[]) ∧ DkI b0 w' p q n F R f off ∧ Below b0 w w' ∧ UnT dkT w w' := by
  have ci := made_yes h
  obtain ⟨v, h⟩ := h
  obtain ⟨_, _, c2, _⟩ := h.cells
  have f2 := h.bp.frozen 2
  have hm := fun W ts t => run_maxk z 0 (f : Int) hz W ts t
  have X := hidD_ (h.fuse_ f hf)
  have P1 := hidD_ (Bk.putD (T := dkT) h.bp h.hp (by simp [dkT]) 2 (.int .i64 (f : Int)))
  clear h
  go_enter Try.func8, Try.ntmps8
  go_wp2_with (go_at_call 25; ((with_reducible refine ci.mono ?_); clear ci; rintro e w' ⟨rfl, rfl⟩))
  rw [← hz]
  go_end0
  exact ⟨rfl, ⟨v, X.out⟩, P1.out⟩
set_option maxRecDepth 100000 in
set_option maxHeartbeats 1000000 in
theorem dfuse_nil (w : World) (z : Int) : Calls Try.prog 8 #[.pointer none, .int .i64 z] w fun e w' => e = .returned (.tuple #[]) ∧ w = w' := by
  have ci := made_nil w
  go_enter Try.func8, Try.ntmps8
  go_wp2_with (go_at_call 25; ((with_reducible refine ci.mono ?_); clear ci; rintro e w' ⟨rfl, rfl⟩))
  first | (go_ret; exact ⟨rfl, rfl⟩) | (go_end0; exact ⟨rfl, rfl⟩) | (refine bodyPost_ret (results_none rfl _ _ _) rfl ?_; exact ⟨rfl, rfl⟩)
end
/-! New. -/
def zsec : List UInt8 := List.replicate 64 0
def zsecs (n : Nat) : List (List UInt8) := List.replicate n zsec
theorem zsec_getD (j : Nat) (h : j < 64) : zsec.getD j 0 = 0 := by
  unfold zsec
  rw [List.getD_eq_getElem?_getD, List.getElem?_replicate, if_pos h]
  rfl
theorem infoSec : (Try.prog.info? 27).map (fun i => (i.zero, i.size, i.bytes)) = some (some (.agg (rowOf zsec)), 64, 64) := by kernel_rfl
theorem zsec_at (n j : Nat) (h : j < n * 64) : (madeCells (rowOf zsec) (n * 64))[j]? = some (.int .u8 0) := by
  rw [Array.getElem?_eq_getElem (by rw [size_madeCells]; exact h)]
  have h1 : (rowOf zsec).size = 64 := by simp [rowOf_size, zsec]
  have h2 : j % 64 < 64 := Nat.mod_lt _ (by omega)
  simp only [madeCells, Array.getElem_map, Array.getElem_range, h1]
  rw [Array.getElem!_eq_getD, Array.getD_eq_getD_getElem?, rowOf_at _ _ (by simp [zsec]; omega), zsec_getD _ h2]
  rfl
theorem made_zsecs (n : Nat) : madeCells (rowOf zsec) (n * 64) = (flatC rowOf (zsecs n)).toArray := by
  have hs : ∀ x ∈ zsecs n, (rowOf x).size = 64 := fun x hx => by
    obtain rfl := List.eq_of_mem_replicate hx
    simp [rowOf_size, zsec]
  have hl := flatC_len (zsecs n) hs
  have hn : (zsecs n).length = n := by simp [zsecs]
  rw [hn] at hl
  apply Array.ext_getElem?
  intro j
  rcases Nat.lt_or_ge j (n * 64) with h | h
  · rw [zsec_at n j h]
    have h2 : j % 64 < 64 := Nat.mod_lt _ (by omega)
    have h3 : j / 64 < n := by omega
    have h4 := flatC_at (zsecs n) (j / 64) (j % 64) (by rw [hn]; exact h3) hs h2
    have e : j / 64 * 64 + j % 64 = j := by omega
    rw [e] at h4
    have e5 : (zsecs n)[j / 64]'(by rw [hn]; exact h3) = zsec := by simp [zsecs]
    rw [e5] at h4
    rw [List.getElem?_toArray, h4, rowOf_at _ _ (by simp [zsec]; omega), zsec_getD _ h2]
    rfl
  · rw [Array.getElem?_eq_none (by rw [size_madeCells]; exact h), Array.getElem?_eq_none (by rw [List.size_toArray, hl]; exact h)]
theorem mkSec (n : Nat) (h9 : n ≤ 8192) (w : World) : (Instr.makeSlice 60 (.int .i64 (n : Int)) (.int .i64 (n : Int))).run Try.prog w = .ok (.slice (some ⟨w.heap.size, 0, none⟩) n n) (w.alloc (.cells (flatC rowOf (zsecs n)).toArray 27)) := by
  obtain ⟨i, hi, hz, hsize, hby⟩ := info_parts infoSec
  have h := run_make (P := Try.prog) w 60 27 i _ Try.underlying60 hi hz .i64 .i64 (n : Int) (n : Int) (by omega) (by omega) (by rw [hby]; omega) (by omega)
  rw [hsize] at h
  rw [← made_zsecs]
  simpa [Value.cells] using h
theorem dk_new (w : World) (n : Nat) (h1 : 1 ≤ n) (h9 : n ≤ 8192) : DkI w.heap.size ((w.alloc (.cells (flatC rowOf (zsecs n)).toArray 27)).alloc (.cells #[.slice (some ⟨w.heap.size, 0, none⟩) n n, .slice none 0 0, .int .i64 0, .bool false] 63)) (w.heap.size + 1) w.heap.size n (zsecs n) [] 0 false := by
  refine ⟨.slice none 0 0, by omega, Nat.le_refl _, h1, h9, by simp [zsecs], fun D hD => ?_, fun _ hx => (by cases hx), by omega, ?_, World.ownsRow_nil _ _ _ _, (Bk.new w _ _).alloc _⟩
  · obtain rfl := List.eq_of_mem_replicate hD
    simp [zsec]
  · have := Bk.new (w.alloc (.cells (flatC rowOf (zsecs n)).toArray 27)) 63 #[.slice (some ⟨w.heap.size, 0, none⟩) n n, .slice none 0 0, .int .i64 0, .bool false]
    simpa using this
set_option maxRecDepth 100000 in
set_option maxHeartbeats 2000000 in
theorem dnew_yes (w : World) (n : Nat) (h1 : 1 ≤ n) (h9 : n ≤ 8192) :
    Calls Try.prog 19 #[.int .i64 (n : Int)] w fun e w' => ∃ p q, e = .returned (.tuple #[.pointer (some ⟨p, 0, none⟩), .int .i64 0]) ∧ DkI w.heap.size w' p q n (zsecs n) [] 0 false ∧ Below w.heap.size w w' := by
  have d1 : decide ((n : Int) < 1) = false := decide_eq_false (by omega)
  have d2 : decide (8192 < (n : Int)) = false := decide_eq_false (by omega)
  have hm := mkSec n h9 w
  have HN := hidD_ (dk_new w n h1 h9)
  generalize (flatC rowOf (zsecs n)).toArray = cs at *
  go_enter Try.func19, Try.ntmps19
  go_wp2
  go_ret2
  exact ⟨w.heap.size + 1, w.heap.size, by simp, HN.out, ((Below.refl _ _).alloc (Nat.le_refl _) _).alloc (by simp) _⟩
set_option maxRecDepth 100000 in
set_option maxHeartbeats 1000000 in
theorem dnew_no (w : World) (z : Int) (hz : z < 1 ∨ 8192 < z) :
    Calls Try.prog 19 #[.int .i64 z] w fun e w' => e = .returned (.tuple #[.pointer none, .int .i64 1]) ∧ w = w' := by
  by_cases h0 : z < 1
  · have d1 : decide (z < 1) = true := decide_eq_true h0
    clear hz h0
    go_enter Try.func19, Try.ntmps19
    go_wp2
    go_ret2
    exact ⟨rfl, rfl⟩
  · have d1 : decide (z < 1) = false := decide_eq_false h0
    have d2 : decide (8192 < z) = true := decide_eq_true (by omega)
    clear hz h0
    go_enter Try.func19, Try.ntmps19
    go_wp2
    go_ret2
    exact ⟨rfl, rfl⟩
end Go.Proofs.Ytibnfldddpmafaa
