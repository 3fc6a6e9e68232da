/-
  Merged: Ve Vf Vg.
-/
import Derived.Test.YtegfnlnbhhmkjaaDoorVC
import Derived.BigQuiet
import Derived.Lib.SlBytesConst
import Derived.IntWalk
namespace Go.Proofs.YtegfnlnbhhmkjaaDoor
set_option maxRecDepth 100000
open Go.RowKit
set_option linter.unusedVariables false
set_option linter.unusedSimpArgs false

set_option maxRecDepth 100000 in
set_option maxHeartbeats 4000000 in
theorem take_miss {w : World} {p q n : Nat} {L : List (List (List UInt8))} {F : List Nat} (h : NetF w p q n L F) (k : Nat) (hk : k < n) (z : Int) (hz : z < 0 ∨ ((L.getD (k * 2) []).length : Int) ≤ z) :
    Calls Tryd.prog 11 #[.pointer (some ⟨p, 0, none⟩), .int .i64 (k : Int), .int .i64 z] w fun e w' => e = .returned (.tuple #[.slice none 0 0, .int .i64 7]) ∧ w = w' := by
  obtain ⟨A, c, hc, hrow, hcl, hcm⟩ := h.at_ (k * 2) (by omega)
  have ci := inbox_yes h k hk
  have ch := has_any (w := w) q (k * 2) _ _ _ hc z
  have d1 : (decide (0 ≤ z) && decide (z < ((L.getD (k * 2) []).length : Int))) = false := by
    rcases hz with g | g
    · rw [decide_eq_false (by omega)]; rfl
    · rw [decide_eq_false (show ¬ z < _ by omega), Bool.and_false]
  rw [d1] at ch
  clear h hc hrow hcl d1 hz
  go_enter Tryd.func11, Tryd.ntmps11
  go_wp2_with (first
    | (go_at_call 30; ((with_reducible refine ci.mono ?_); clear ci; rintro e w' ⟨rfl, rfl⟩))
    | (go_at_call 33; ((with_reducible refine ch.mono ?_); clear ch; rintro e w' ⟨rfl, rfl⟩)))
  go_ret2
  exact ⟨rfl, rfl⟩
set_option maxRecDepth 100000 in
set_option maxHeartbeats 4000000 in
theorem new_nov (w : World) (z : Int) (hz : z < 1 ∨ 9 < z) :
    Calls Tryd.prog 5 #[.int .i64 z] w fun e w' => e = .returned (.tuple #[.pointer none, .int .i64 1]) ∧ w = w' := by
  by_cases h0 : z < 1
  · have d1 : decide (z < 1) = true := decide_eq_true h0
    clear h0 hz
    go_enter Tryd.func5, Tryd.ntmps5
    go_wp2
    go_ret2
    exact ⟨rfl, rfl⟩
  · have d1 : decide (z < 1) = false := decide_eq_false h0
    have d2 : decide (9 < z) = true := decide_eq_true (by omega)
    clear h0 hz
    go_enter Tryd.func5, Tryd.ntmps5
    go_wp2
    go_ret2
    exact ⟨rfl, rfl⟩
theorem infoBx : (Tryd.prog.info? 91).map (fun i => (i.zero, i.size, i.bytes)) = some (some (.agg #[.slice none 0 0, .slice none 0 0]), 2, 48) := by kernel_rfl
def boxC (n : Nat) : Array Value := madeCells (Value.agg #[.slice none 0 0, .slice none 0 0]).cells (n * 2)
theorem boxC_size (n : Nat) : (boxC n).size = n * 2 := by unfold boxC; exact size_madeCells _ _
theorem boxC_at (n j : Nat) (h : j < n * 2) : (boxC n)[j]? = some (.slice none 0 0) := by
  rw [Array.getElem?_eq_getElem (by rw [boxC_size]; exact h)]
  simp only [boxC, madeCells, Value.cells, Array.getElem_map, Array.getElem_range]
  rcases (by have : j % 2 < 2 := Nat.mod_lt _ (by omega); omega : j % 2 = 0 ∨ j % 2 = 1) with e | e <;> simp [e]
theorem mkBx (n : Nat) (h9 : n ≤ 9) (w : World) : (Instr.makeSlice 65 (.int .i64 (n : Int)) (.int .i64 (n : Int))).run Tryd.prog w = .ok (.slice (some ⟨w.heap.size, 0, none⟩) n n) (w.alloc (.cells (boxC n) 91)) := by
  obtain ⟨i, hi, hz, hsize, hby⟩ := info_parts infoBx
  have h := run_make (P := Tryd.prog) w 65 91 i _ Tryd.underlying65 hi hz .i64 .i64 (n : Int) (n : Int) (by omega) (by omega) (by rw [hby]; omega) (by omega)
  rw [hsize] at h
  simpa [boxC] using h
theorem net_new (w : World) (n : Nat) (h9 : n ≤ 9) : NetF ((w.alloc (.cells (boxC n) 91)).alloc (.cells #[.slice (some ⟨w.heap.size, 0, none⟩) n n] 67)) (w.heap.size + 1) w.heap.size n (List.replicate (2 * n) []) [w.heap.size + 1, w.heap.size] := by
  refine ⟨fun k hk => ?_, by simp, by simp, ?_, by simp, h9, boxC n, (Bk.new w 91 (boxC n)).alloc _, by rw [boxC_size]; omega, fun j hj => ⟨_, boxC_at n j (by omega), ?_⟩, fun i j v v' hij hv hv' g hg => ?_⟩
  · simp at hk ⊢
    omega
  · have := Bk.new (w.alloc (.cells (boxC n) 91)) 67 #[.slice (some ⟨w.heap.size, 0, none⟩) n n]
    simpa using this
  · have : (List.replicate (2 * n) ([] : List (List UInt8))).getD j [] = [] := by simp [List.getD, hj]
    rw [this]
    exact RowF.nil_ _ _
  · have hi := (Array.getElem?_eq_some_iff.1 hv).1
    rw [boxC_size] at hi
    rw [boxC_at n i hi] at hv
    obtain rfl := Option.some.inj hv
    cases hg
set_option maxRecDepth 100000 in
set_option maxHeartbeats 4000000 in
theorem new_yesv (w : World) (n : Nat) (h1 : 1 ≤ n) (h9 : n ≤ 9) :
    Calls Tryd.prog 5 #[.int .i64 (n : Int)] w fun e w' => ∃ p q F, e = .returned (.tuple #[.pointer (some ⟨p, 0, none⟩), .int .i64 0]) ∧ NetF w' p q n (List.replicate (2 * n) []) F ∧ (∀ k ∈ F, w.heap.size ≤ k) ∧ Below w.heap.size w w' := by
  have d1 : decide ((n : Int) < 1) = false := decide_eq_false (by omega)
  have d2 : decide (9 < (n : Int)) = false := decide_eq_false (by omega)
  have hm := mkBx n h9 w
  have HN := hidv_ (net_new w n h9)
  go_enter Tryd.func5, Tryd.ntmps5
  go_wp2
  go_ret2
  exact ⟨w.heap.size + 1, w.heap.size, _, by simp, HN.out, fun k hk => by simp at hk; omega, ((Below.refl _ _).alloc (Nat.le_refl _) _).alloc (by simp) _⟩
theorem RowF.sub {w : World} {F F' : List Nat} {v : Value} {t : List (List UInt8)} (h : RowF w F v t) (hF : ∀ k ∈ F, k ∈ F') : RowF w F' v t := h.keep (fun _ _ => rfl) ⟨Nat.le_refl _, fun _ _ _ _ _ => rfl⟩ hF
theorem RowF.step {w wr w2 : World} {v : Value} {t : List (List UInt8)} {msg : List UInt8} {A5 : Option Addr} {m c5 : Nat} (h : RowF wr (sincev [] w wr) v t) (hb0 : Below w.heap.size w wr) (ho : Own8 w2 wr.heap.size (.slice A5 m c5) msg) (hb : Below wr.heap.size wr w2) :
    RowF (w2.alloc (.cells #[.slice A5 m c5] 39)) (sincev [] w w2) v t ∧ BitF (w2.alloc (.cells #[.slice A5 m c5] 39)) (sincev [] w w2) (.slice A5 m c5) msg ∧ Below w.heap.size w (w2.alloc (.cells #[.slice A5 m c5] 39)) ∧ (∀ k ∈ sincev [] w w2, k < (w2.alloc (.cells #[.slice A5 m c5] 39)).heap.size) := by
  have hba : Below w2.heap.size w2 (w2.alloc (.cells #[.slice A5 m c5] 39)) := (Below.refl _ _).alloc (Nat.le_refl _) _
  have hb2 : Below wr.heap.size wr (w2.alloc (.cells #[.slice A5 m c5] 39)) := hb.trans (hba.mono hb.size)
  have hs : ∀ k ∈ sincev [] w wr, k < wr.heap.size := since_lt (fun k hk => by cases hk) hb0.size
  have hs2 : ∀ k ∈ sincev [] w w2, k < w2.heap.size := since_lt (fun k hk => by cases hk) (Nat.le_trans hb0.size hb.size)
  have hk : Keeps8 (sincev [] w wr) wr (w2.alloc (.cells #[.slice A5 m c5] 39)) := ⟨hb2.size, fun b hb _ _ _ => hb2.block b (hs b hb)⟩
  refine ⟨h.keep (fun g e => hb2.block g (h.lt g e).1) hk fun k hk => ?_, (ho.bitF fun k h1 h2 => mem_since.2 (.inr ⟨Nat.le_trans hb0.size h1, h2⟩)).keep ⟨hba.size, fun b hb _ _ _ => hba.block b (hs2 b hb)⟩ fun k hk => hk, hb0.trans (hb2.mono hb0.size), fun k hk => Nat.lt_of_lt_of_le (hs2 k hk) hba.size⟩
  rcases mem_since.1 hk with h1 | h1
  · cases h1
  · exact mem_since.2 (.inr ⟨h1.1, Nat.lt_of_lt_of_le h1.2 hb.size⟩)
end Go.Proofs.YtegfnlnbhhmkjaaDoor

namespace Go.Proofs.YtegfnlnbhhmkjaaDoor
set_option maxRecDepth 100000
open Go.RowKit
set_option linter.unusedVariables false
set_option linter.unusedSimpArgs false

/-- A net of the call's own. -/
structure NetI (w0 w : World) (p q n : Nat) (L : List (List (List UInt8))) (F : List Nat) : Prop where
  net : NetF w p q n L F
  un : Below w0.heap.size w0 w
  hi : ∀ k ∈ F, w0.heap.size ≤ k
section
variable {w0 w w' : World} {p q n : Nat} {L L' : List (List (List UInt8))} {F F' : List Nat}
theorem NetI.act (h : NetI w0 w p q n L F) (h1 : NetF w' p q n L' F') (h2 : Grew w F F') (h3 : Untouched F w w') : NetI w0 w' p q n L' F' :=
  ⟨h1, h.un.trans (h3.below h.hi h.un.size), fun k hk => by rcases h2 k hk with g | g; exact h.hi k g; exact Nat.le_trans h.un.size g⟩
theorem NetI.below (h : NetI w0 w p q n L F) (hb : Below w.heap.size w w') : NetI w0 w' p q n L F := ⟨h.net.below hb, h.un.trans (hb.mono h.un.size), h.hi⟩
theorem lit_rd (w : World) (x : UInt8) (z : Int) (hz : (x.toNat : Int) = z) : Rd (w.alloc (.cells #[.int .u8 z] 5 (1, 2))) (w.alloc (.cells #[.int .u8 z] 5 (1, 2))).heap.size (some ⟨w.heap.size, 0, none⟩) [x] := by
  subst hz
  refine fun _ => ⟨_, 0, rfl, by simp, fun j hj => ?_⟩
  obtain rfl : j = 0 := by simp at hj; omega
  exact World.cell?_alloc_mark _ _ _ _ _
end
/-- A new net. -/
def NewI (w : World) (n : Nat) (L : List (List (List UInt8))) (e : Ending) (w' : World) : Prop := ∃ p q F, e = .returned (.tuple #[.pointer (some ⟨p, 0, none⟩), .int .i64 0]) ∧ NetI w w' p q n L F
theorem new_i (w : World) (z : Int) (n : Nat) (hz : (n : Int) = z) (h1 : 1 ≤ n) (h9 : n ≤ 9) (L : List (List (List UInt8))) (hL : List.replicate (2 * n) [] = L) : Calls Tryd.prog 5 #[.int .i64 z] w (NewI w n L) := by
  subst hz hL
  exact (new_yesv w n h1 h9).mono fun e w' ⟨p, q, F, he, h, hF, hb⟩ => ⟨p, q, F, he, h, hb, hF⟩
end Go.Proofs.YtegfnlnbhhmkjaaDoor

namespace Go.Proofs.YtegfnlnbhhmkjaaDoor
set_option maxRecDepth 100000
open Go.RowKit
set_option linter.unusedVariables false
set_option linter.unusedSimpArgs false

theorem u64_natV (z : Int) : ∃ x : Nat, IntKind.u64.wrap z = (x : Int) ∧ x ≤ 18446744073709551615 := by
  have h : IntKind.u64.wrap z = z % 18446744073709551616 := by simp [IntKind.wrap, IntKind.signed, IntKind.bits]
  have h0 : 0 ≤ z % 18446744073709551616 := Int.emod_nonneg _ (by omega)
  have h1 : z % 18446744073709551616 < 18446744073709551616 := Int.emod_lt_of_pos _ (by omega)
  exact ⟨(z % 18446744073709551616).toNat, by rw [h]; omega, by omega⟩
/-- The first messages of NetFull. -/
def one8 (i : Nat) : List UInt8 := [UInt8.ofNat (i % 256)]
def fullL (i : Nat) : List (List UInt8) := (List.range (min i 64)).map one8
theorem fullL_len (i : Nat) : (fullL i).length = min i 64 := by simp [fullL]
theorem fullL_get (i k : Nat) (h : k < min i 64) : (fullL i).getD k [] = one8 k := by simp [fullL, List.getD, h]
theorem fullL_add (i : Nat) : addL [[], [], fullL i, []] 1 (one8 i) = [[], [], fullL (i + 1), []] := by
  unfold addL
  have e : ([[], [], fullL i, []] : List (List (List UInt8))).getD (1 * 2) [] = fullL i := rfl
  rw [e, fullL_len]
  split
  · have : min (i + 1) 64 = min i 64 := by omega
    simp [fullL, this]
  · have h1 : min i 64 = i := by omega
    have h2 : min (i + 1) 64 = i + 1 := by omega
    simp [fullL, h1, h2, List.range_succ]
theorem fullL_err (i : Nat) : addE [[], [], fullL i, []] 1 = if 64 ≤ i then 10 else 0 := by
  unfold addE
  have e : ([[], [], fullL i, []] : List (List (List UInt8))).getD (1 * 2) [] = fullL i := rfl
  rw [e, fullL_len]
  split <;> split <;> first | rfl | omega
end Go.Proofs.YtegfnlnbhhmkjaaDoor
