/-
  slices.SortFunc and slices.Compact of no dots at all; contextOf at any slice of the call's own.
-/
import Derived.Test.YtjflmfmncepeeaaJg
namespace Go.Proofs.Ytjflmfmncepeeaa
open Go.ChangeShapes Go.WideShapes Go.ChangeAt Go.RowKit
set_option linter.unusedVariables false
set_option linter.unusedSimpArgs false

set_option maxRecDepth 100000 in
set_option maxHeartbeats 1000000 in
theorem len64_zero (w : World) : Calls Try.prog 88 #[.int .u64 0] w fun e w' => e = .returned (.int .i64 0) ∧ w = w' := by
  go_enter Try.func88, Try.ntmps88
  have e0 : Lib.len8 0 = 0 := by kernel_rfl
  go_wp2
  go_ret
  exact ⟨rfl, rfl⟩
set_option maxRecDepth 100000 in
set_option maxHeartbeats 1000000 in
theorem len_zero (w : World) : Calls Try.prog 76 #[.int .u64 0] w fun e w' => e = .returned (.int .i64 0) ∧ w = w' := by
  go_enter Try.func76, Try.ntmps76
  go_wp2_with (go_at_call 88; ((with_reducible refine (len64_zero _).mono ?_); rintro e w' ⟨rfl, rfl⟩))
  go_ret
  exact ⟨rfl, rfl⟩
set_option maxRecDepth 100000 in
set_option maxHeartbeats 1000000 in
theorem insert_nil (w : World) (f : Value) : Calls Try.prog 79 #[.slice none 0 0, .int .i64 0, .int .i64 0, f] w fun e w' => e = .returned (.tuple #[]) ∧ Below w.heap.size w w' := by
  go_enter Try.func79, Try.ntmps79
  go_wp2
  go_loop [8] (fun v => v = .int .i64 1) (fun _ => 0)
  case atStart => rfl
  case round =>
    subst hrel
    go_wp2
    go_end0
    exact ⟨rfl, Below.refl _ _⟩
set_option maxRecDepth 100000 in
set_option maxHeartbeats 1000000 in
theorem pdq_nil (w : World) (f : Value) : Calls Try.prog 75 #[.slice none 0 0, .int .i64 0, .int .i64 0, .int .i64 0, f] w fun e w' => e = .returned (.tuple #[]) ∧ Below w.heap.size w w' := by
  go_enter Try.func75, Try.ntmps75
  go_wp2
  go_loop [1, 2] (fun v v2 => v = .int .i64 0 ∧ v2 = .int .i64 0) (fun _ _ => 0)
  case atStart => exact ⟨rfl, rfl⟩
  case round =>
    obtain ⟨rfl, rfl⟩ := hrel
    go_wp2_with (go_at_call 79; ((with_reducible refine (insert_nil _ _).mono ?_); rintro e w1 ⟨rfl, hb⟩))
    refine bodyPost_ret (results_none rfl _ _ _) rfl ?_
    exact ⟨rfl, hb⟩
set_option maxRecDepth 100000 in
set_option maxHeartbeats 1000000 in
theorem sort_nil (w : World) (f : Value) : Calls Try.prog 64 #[.slice none 0 0, f] w fun e w' => e = .returned (.tuple #[]) ∧ Below w.heap.size w w' := by
  go_enter Try.func64, Try.ntmps64
  go_wp2_with (first
    | (go_at_call 76; ((with_reducible refine (len_zero _).mono ?_); rintro e w1 ⟨rfl, rfl⟩))
    | (go_at_call 75; ((with_reducible refine (pdq_nil _ _).mono ?_); rintro e w1 ⟨rfl, hb⟩)))
  go_end0
  exact ⟨rfl, hb⟩
set_option maxRecDepth 100000 in
set_option maxHeartbeats 1000000 in
theorem compact_nil (w : World) : Calls Try.prog 65 #[.slice none 0 0] w fun e w' => e = .returned (.slice none 0 0) ∧ Below w.heap.size w w' := by
  go_enter Try.func65, Try.ntmps65
  go_wp2
  go_ret
  exact ⟨rfl, Below.refl _ _⟩
set_option maxRecDepth 100000 in
set_option maxHeartbeats 2000000 in
theorem contextOf_nil (w : World) (up : List Int) (hU : Up16 up) : Calls Try.prog 45 #[.agg (intRow up), .slice none 0 0] w (CtxV w none up []) := by
  obtain ⟨G, hG⟩ : ∃ G, w.heap.size = G := ⟨_, rfl⟩
  obtain ⟨w1, hw1⟩ : ∃ x, w.alloc (.cells (intRow up) 22) = x := ⟨_, rfl⟩
  have U1 := show Bk w1 G 22 (intRow up) by rw [← hw1, ← hG]; exact Bk.new w _ _
  have b1 : Below w.heap.size w w1 := by rw [← hw1]; exact (Below.refl _ _).alloc (Nat.le_refl _) _
  have S1 : w1.heap.size = G + 1 := by rw [← hw1, ← hG]; simp
  have hz := zX_
  have IX := hidd_ (show (Try.prog.info? 29).map (·.size) = some (ctxRow up none 0 0).size by rw [ctxRow_size up _ _ _ hU.1]; exact iX_)
  have IU := hidd_ (show (Try.prog.info? 22).map (·.size) = some (intRow up).size by rw [intRow_size, hU.1]; exact iU_)
  have BU := hidd_ (built_up up hU.1)
  go_enter Try.func45, Try.ntmps45
  go_upto_region 1 with fail
  generalize hw2 : w1.alloc _ = w2
  have b2 : Below w1.heap.size w1 w2 := by rw [← hw2]; exact (Below.refl _ _).alloc (Nat.le_refl _) _
  have S2 : w2.heap.size = G + 2 := by rw [← hw2]; simp [S1]
  have R2 := hidd_ (show Bk w2 (G + 1) 29 (ctxRow (List.replicate 16 0) none 0 0) by rw [← S1, ← hw2]; exact Bk.new w1 _ _)
  have U2 := hidd_ (U1.below b2 U1.lt)
  have X2 := hidd_ (b1.trans (b2.mono b1.size))
  have HUP := hidd_ hU
  have HG := hidd_ hG
  clear b1 b2 U1 hw1 hw2 S1
  go_upto_region 4 with (first
    | (refine wpList_load_row rfl 22 (.tmp 2) rfl G rfl 22 (intRow up) (0, 0) _ U2.out Try.underlying22 rfl IU.out ?_)
    | (refine wpList_built rfl 29 _ rfl (ctxRow up none 0 0) (by simp only [List.map_toArray, List.map_cons, List.map_nil]; exact BU.out) ?_)
    | (refine wpList_put_row rfl 29 (.tmp 6) (.tmp 11) rfl (G + 2) (ctxRow up none 0 0) rfl rfl 29 (ctxRow (List.replicate 16 0) none 0 0) (by rw [← S2]; exact Bk.new w2 _ _) IX.out (by rw [ctxRow_size _ _ _ _ hU.1]; rfl) (ctxRow_one _ _ _ _) ?_; intro w3 k3 g3 s3; have B3 := hidd_ ((((Below.refl w2.heap.size w2).alloc (Nat.le_refl _) (.cells (ctxRow (List.replicate 16 0) none 0 0) 29)).grown g3 (by simp) (fun k hk => by injection hk with hk; omega))); have K3 := hidd_ k3; have S3 := (show w3.heap.size = G + 3 by rw [s3]; simp [S2]); clear k3 g3 s3)
    | (go_at_call 64; ((with_reducible refine (sort_nil _ _).mono ?_); rintro e w4 ⟨rfl, hb⟩; have B4 := hidd_ hb; clear hb))
    | (go_at_call 65; ((with_reducible refine (compact_nil _).mono ?_); rintro e w5 ⟨rfl, hb⟩; have B5 := hidd_ hb; clear hb)))
  have hs4 := B4.out.size
  have hs5 := B5.out.size
  have K5 := hidd_ ((K3.out.below B4.out K3.out.lt).below B5.out (by omega))
  have RR3 := R2.out.below B3.out R2.out.lt
  have R5 := hidd_ ((RR3.below B4.out RR3.lt).below B5.out (by have := RR3.lt; omega))
  have X5 := hidd_ (((X2.out.trans (B3.out.mono (by have := X2.out.size; omega))).trans (B4.out.mono (by omega))).trans (B5.out.mono (by omega)))
  clear RR3 K3 R2 B3 U2 hs4 hs5
  go_loopw [17] (fun v wr => v = .int .i64 0 ∧ wr = w5) (fun _ _ => 0)
  case atStart => exact ⟨rfl, rfl⟩
  case round =>
    obtain ⟨rfl, rfl⟩ := hrel
    have hcx := (K5.out.cell 16).trans (ctxRow_more up none 0 0 HUP.out.1)
    go_wp2_with (first
      | (refine wpList_load_row rfl 29 (.tmp 6) rfl (G + 2) rfl 29 (ctxRow up none 0 0) (0, 0) _ K5.out Try.underlying29 rfl IX.out ?_)
      | (refine wpList_put_row rfl 29 _ _ rfl (G + 1) (ctxRow up none 0 0) rfl rfl 29 (ctxRow (List.replicate 16 0) none 0 0) R5.out IX.out (by rw [ctxRow_size _ _ _ _ HUP.out.1]; rfl) (ctxRow_one _ _ _ _) ?_; intro W9 k9 g9 s9))
    refine bodyPost_ret (results_cell_slotD Try.results45 _ _ (G + 1) (v' := .int .i64 0) rfl rfl (run_loadVar_row _ _ _ _ _ (0, 0) _ k9 Try.underlying29 rfl IX.out)) rfl ⟨?_, up, [], none, 0, 0, rfl, RdD.nil, fun y e => (by cases e), Nat.le_refl _, by omega, HUP.out.1, (up, []), ⟨⟨HUP.out, fun d h => (by cases h), fun d h => (by cases h), List.Pairwise.nil⟩, fun d _ => Iff.rfl⟩, .inr ⟨Nat.zero_le _, rfl, rfl, rfl⟩⟩
    have hf := X5.out.grown g9 X5.out.size (fun k hk => by injection hk with hk; have := HG.out; omega)
    exact ⟨hf.os, hf.tape, hf.output, hf.size, fun b hb _ => hf.block b hb⟩
theorem contextOf_own (w : World) (up : List Int) (hU : Up16 up) (base : Nat) (A : Option Addr) (n c : Nat) (ms : List DotV) (hn6 : n ≤ 1000000) (hd : ∀ d ∈ ms, isD d = true) (h : OwnD w base (.slice A n c) ms) :
    Calls Try.prog 45 #[.agg (intRow up), .slice A n c] w (CtxV w (Value.slice A n c).ownBlock up ms) := by
  rcases h.2 with ⟨h0, h1⟩ | ⟨g, cap, cur, hv, _⟩
  · injection h0 with e1 e2 e3
    subst e1 e2 e3
    obtain rfl := List.eq_nil_of_length_eq_zero h1
    exact contextOf_nil w up hU
  · injection hv with e1 e2 e3
    subst e1
    exact contextOf_x w up hU base g n c ms hn6 hd h
end Go.Proofs.Ytjflmfmncepeeaa
