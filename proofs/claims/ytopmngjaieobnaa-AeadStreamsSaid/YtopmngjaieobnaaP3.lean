/-
  Contracts: poly's numbers: least, numberOf; words of bytes.
-/
import Derived.Test.YtopmngjaieobnaaP2
namespace Go.Proofs.Ytopmngjaieobnaa
open Go.RowKit
set_option linter.unusedVariables false

set_option maxRecDepth 100000 in
set_option maxHeartbeats 1000000 in
theorem numberOf_any (low high top : Nat) (h1 : low ≤ 18446744073709551615) (h2 : high ≤ 18446744073709551615) (h3 : top ≤ 3) (w : World) :
    Calls Try.prog 43 #[.int .u64 (low : Int), .int .u64 (high : Int), .int .u64 (top : Int)] w fun e w' => e = .returned (.agg (nRow (numN low high top))) ∧ Below w.heap.size w w' := by
  have hz := zN
  have e5 : ∀ m : N5, (Try.prog.info? 76).map (·.size) = some (nRow m).size := fun m => i5_
  have E5 := hid_ e5
  clear e5
  have d1 := and26 (low : Int) (by omega) (by omega)
  have d2 := and26 ((low : Int) / 67108864) (by omega) (by omega)
  have o1 : bits .or .u64 ((low : Int) / 4503599627370496) ((high : Int) * 4096 % 18446744073709551616) = (low : Int) / 4503599627370496 + (high : Int) * 4096 % 18446744073709551616 := by
    have h := or_u64_add' (high * 4096 % 18446744073709551616) (low / 4503599627370496) (high % 4503599627370496) 12 (by omega) (by omega) (by omega)
    have e1 : ((high * 4096 % 18446744073709551616 : Nat) : Int) = (high : Int) * 4096 % 18446744073709551616 := by omega
    have e2 : ((low / 4503599627370496 : Nat) : Int) = (low : Int) / 4503599627370496 := by omega
    rw [Int.natCast_add, e1, e2] at h
    exact h
  have s1 : IntKind.u64.wrap ((high : Int) * 4096) = (high : Int) * 4096 % 18446744073709551616 := by rw [IntKind.wrap_u64]
  have d3 := and26 ((low : Int) / 4503599627370496 + (high : Int) * 4096 % 18446744073709551616) (by omega) (by omega)
  have d4 := and26 ((high : Int) / 16384) (by omega) (by omega)
  have o2 : bits .or .u64 ((high : Int) / 1099511627776) ((top : Int) * 16777216) = (high : Int) / 1099511627776 + (top : Int) * 16777216 := by
    have h := or_u64_add' (top * 16777216) (high / 1099511627776) top 24 (by omega) (by omega) (by omega)
    have e1 : ((top * 16777216 : Nat) : Int) = (top : Int) * 16777216 := by omega
    have e2 : ((high / 1099511627776 : Nat) : Int) = (high : Int) / 1099511627776 := by omega
    rw [Int.natCast_add, e1, e2] at h
    exact h
  have hrow : nRow (numN low high top) = #[.int .u64 ((low : Int) % 67108864), .int .u64 ((low : Int) / 67108864 % 67108864), .int .u64 (((low : Int) / 4503599627370496 + (high : Int) * 4096 % 18446744073709551616) % 67108864), .int .u64 ((high : Int) / 16384 % 67108864), .int .u64 ((high : Int) / 1099511627776 + (top : Int) * 16777216)] := by
    have e1 : ((low : Int) / 4503599627370496 + (high : Int) * 4096 % 18446744073709551616) % 67108864 = (low : Int) / 4503599627370496 + (high : Int) % 16384 * 4096 := by omega
    rw [e1]
    rfl
  have HROW := hid_ hrow
  clear hrow
  go_enter Try.func43, Try.ntmps43
  go_wp2_with (first
    | (refine wpList_built rfl 76 _ rfl (nRow (numN low high top)) (by rw [HROW.out]; kernel_rfl) ?_)
    | (refine wpList_put_row rfl 76 (.tmp 6) (.tmp 26) rfl w.heap.size (nRow (numN low high top)) rfl rfl 76 (nRow zeroN) (Bk.new w _ _) (E5.out _) rfl (nRow_one _) ?_; intro w9 k9 g9 s9))
  exact bodyPost_ret (results_cell_row Try.results43 _ _ w.heap.size 76 _ (0, 0) _ rfl k9 Try.underlying76 rfl (E5.out _)) rfl ⟨rfl, ((Below.refl w.heap.size w).alloc (Nat.le_refl _) _).grown g9 (by simp) (fun k hk => by injection hk with hk; omega)⟩

set_option maxRecDepth 100000 in
set_option maxHeartbeats 1000000 in
theorem least_any (n : N5) (hn : n.le 67108868) (h0 : 0 ≤ n.val) (h1 : n.val < 1361129467683753853853498429727072845824) (w : World) :
    Calls Try.prog 47 #[.agg (nRow n)] w fun e w' => e = .returned (.agg (nRow (leastN n))) ∧ Below w.heap.size w w' := by
  have hz := zN
  have hall := leastN_all hn h0 h1
  have hna := hn.a
  obtain ⟨o, ho⟩ : ∃ o, Hid (c5 (beyondN n) = o) := ⟨_, rfl⟩
  have ho0 := hall.2.2.1
  have ho1 := hall.2.2.2
  rw [ho.out] at ho0 ho1
  have hle := hn.mono (show (67108868 : Int) ≤ 1000000000000000000 by decide)
  have hb1 : (beyondN n).le 1000000000000000000 := by
    obtain ⟨k1, k2, k3, k4, k5⟩ := hn
    exact ⟨by simp only [beyondN]; omega, by simp only [beyondN]; omega, by simp only [beyondN]; omega, by simp only [beyondN]; omega, by simp only [beyondN]; omega⟩
  have hb2 : (⟨n.a + 5 * o, n.b, n.c, n.d, n.e⟩ : N5).le 1000000000000000000 := by
    obtain ⟨k1, k2, k3, k4, k5⟩ := hn
    exact ⟨by simp only; omega, by simp only; omega, by simp only; omega, by simp only; omega, by simp only; omega⟩
  have cc1 := fun W => carried_any (beyondN n) hb1 W
  have cc2 := fun W => carried_any ⟨n.a + 5 * o, n.b, n.c, n.d, n.e⟩ hb2 W
  have hres : Hid (carryN ⟨n.a + 5 * o, n.b, n.c, n.d, n.e⟩ = leastN n) := by show _ = _; rw [← ho.out]; rfl
  rw [ho.out] at cc1
  rw [hres.out] at cc2
  obtain ⟨q, hq⟩ : ∃ q, Hid (carryN (beyondN n) = q) := ⟨_, rfl⟩
  rw [hq.out] at cc1
  obtain ⟨v, hv⟩ : ∃ v, Hid (c5 ⟨n.a + 5 * o, n.b, n.c, n.d, n.e⟩ = v) := ⟨_, rfl⟩
  rw [hv.out] at cc2
  have e5 : ∀ m : N5, (Try.prog.info? 76).map (·.size) = some (nRow m).size := fun m => i5_
  have E5 := hid_ e5
  obtain ⟨w0, hw0⟩ : ∃ w0, Hid ((w.alloc (.cells (nRow n) 76)).alloc (.cells (nRow zeroN) 76) = w0) := ⟨_, rfl⟩
  have a0 : Bk w0 w.heap.size 76 (nRow n) := by rw [← hw0.out]; exact (Bk.new w _ _).alloc _
  have a1 : Bk w0 (w.heap.size + 1) 76 (nRow zeroN) := by rw [← hw0.out]; simpa using Bk.new (w.alloc (.cells (nRow n) 76)) 76 (nRow zeroN)
  have hb : Below w.heap.size w w0 := by rw [← hw0.out]; exact ((Below.refl _ _).alloc (Nat.le_refl _) _).alloc (by simp) _
  have A0 := hid_ a0
  have A1 := hid_ a1
  have HB := hid_ hb
  have hl1 := a1.lt
  clear e5 a0 a1 hb hall hle hb1 hb2 hn h0 h1
  go_enter Try.func47, Try.ntmps47
  go_upto_region 1 with fail
  rw [hw0.out]
  go_wp2_with (first
    | (refine wpList_load_row rfl 76 (.tmp 1) rfl w.heap.size rfl 76 (nRow n) (0, 0) _ A0.out Try.underlying76 rfl (E5.out _) ?_)
    | (refine wpList_put_row rfl 76 (.tmp 3) (.tmp 6) rfl w0.heap.size (nRow n) rfl rfl 76 (nRow zeroN) (Bk.new w0 _ _) (E5.out _) rfl (nRow_one _) ?_; intro w3 k3 g3 s3;
       have c0 : w3.cell? ⟨w0.heap.size, 0, none⟩ = some (.int .u64 n.a) := k3.cell 0; have f0 := k3.frozen 0;
       have q3 : Bk (w3.setCell ⟨w0.heap.size, 0, none⟩ (.int .u64 (n.a + 5))) w0.heap.size 76 (nRow (beyondN n)) := k3.set_ 0 (.int .u64 (n.a + 5)); have Q3 := hid_ q3; clear q3;
       have A2 := hid_ (((A0.out.alloc (.cells (nRow zeroN) 76)).grown g3 (fun e => by injection e with e; omega)).far (p := ⟨w0.heap.size, 0, none⟩) (by show w.heap.size ≠ w0.heap.size; omega) (.int .u64 (n.a + 5)));
       have A3 := hid_ (((A1.out.alloc (.cells (nRow zeroN) 76)).grown g3 (fun e => by injection e with e; omega)).far (p := ⟨w0.heap.size, 0, none⟩) (by show w.heap.size + 1 ≠ w0.heap.size; omega) (.int .u64 (n.a + 5)));
       have HB2 := hid_ (((HB.out.alloc HB.out.size (.cells (nRow zeroN) 76)).grown g3 (by have := HB.out.size; simp; omega) (fun i hi => by injection hi with hi; omega)).setCell (p := ⟨w0.heap.size, 0, none⟩) (by show w.heap.size ≤ w0.heap.size; omega) (.int .u64 (n.a + 5))))
    | (refine wpList_load_row rfl 76 (.tmp 3) rfl w0.heap.size rfl 76 (nRow (beyondN n)) (0, 0) _ Q3.out Try.underlying76 rfl (E5.out _) ?_)
    | (go_at_call 72; ((with_reducible refine (cc1 _).mono ?_); rintro e w4 ⟨rfl, hb4⟩);
       have A4 := hid_ (A2.out.below hb4 A2.out.lt); have A5 := hid_ (A3.out.below hb4 A3.out.lt); have HB4 := hid_ (HB2.out.trans (hb4.mono HB2.out.size)); have hl4 := A5.out.lt)
    | (refine wpList_put_row rfl 76 (.tmp 4) (.tmp 14) rfl w4.heap.size (nRow q) rfl rfl 76 (nRow zeroN) (Bk.new w4 _ _) (E5.out _) rfl (nRow_one _) ?_; intro w5 k5 g5 s5;
       have A6 := (A4.out.alloc (.cells (nRow zeroN) 76)).grown g5 (fun e => by injection e with e; omega);
       have c6 : w5.cell? ⟨w.heap.size, 0, none⟩ = some (.int .u64 n.a) := A6.cell 0; have f6 := A6.frozen 0;
       have q6 : Bk (w5.setCell ⟨w.heap.size, 0, none⟩ (.int .u64 (n.a + 5 * o))) w.heap.size 76 (nRow ⟨n.a + 5 * o, n.b, n.c, n.d, n.e⟩) := A6.set_ 0 (.int .u64 (n.a + 5 * o)); have Q6 := hid_ q6; clear q6 A6;
       have A7 := hid_ (((A5.out.alloc (.cells (nRow zeroN) 76)).grown g5 (fun e => by injection e with e; omega)).far (p := ⟨w.heap.size, 0, none⟩) (by show w.heap.size + 1 ≠ w.heap.size; omega) (.int .u64 (n.a + 5 * o)));
       have HB5 := hid_ (((HB4.out.alloc HB4.out.size (.cells (nRow zeroN) 76)).grown g5 (by have := HB4.out.size; simp; omega) (fun i hi => by injection hi with hi; have := HB4.out.size; omega)).setCell (p := ⟨w.heap.size, 0, none⟩) (Nat.le_refl _) (.int .u64 (n.a + 5 * o))))
    | (refine wpList_load_row rfl 76 (.tmp 1) rfl w.heap.size rfl 76 (nRow ⟨n.a + 5 * o, n.b, n.c, n.d, n.e⟩) (0, 0) _ Q6.out Try.underlying76 rfl (E5.out _) ?_)
    | (go_at_call 72; ((with_reducible refine (cc2 _).mono ?_); rintro e w7 ⟨rfl, hb7⟩);
       have A8 := hid_ (Q6.out.below hb7 Q6.out.lt); have A9 := hid_ (A7.out.below hb7 A7.out.lt); have HB7 := hid_ (HB5.out.trans (hb7.mono HB5.out.size)))
    | (refine wpList_put_row rfl 76 (.tmp 1) (.tmp 25) rfl w.heap.size (nRow (leastN n)) rfl rfl 76 (nRow ⟨n.a + 5 * o, n.b, n.c, n.d, n.e⟩) A8.out (E5.out _) rfl (nRow_one _) ?_; intro w8 k8 g8 s8; have A10 := A9.out.grown g8 (fun e => by injection e with e; omega))
    | (refine wpList_load_row rfl 76 (.tmp 1) rfl w.heap.size rfl 76 (nRow (leastN n)) (0, 0) _ k8 Try.underlying76 rfl (E5.out _) ?_)
    | (refine wpList_put_row rfl 76 (.tmp 2) (.tmp 27) rfl (w.heap.size + 1) (nRow (leastN n)) rfl rfl 76 (nRow zeroN) A10 (E5.out _) rfl (nRow_one _) ?_; intro w9 k9 g9 s9))
  have hf1 := HB7.out.grown g8 HB7.out.size (fun i hi => by injection hi with hi; omega)
  exact bodyPost_ret (results_cell_row Try.results47 _ _ (w.heap.size + 1) 76 _ (0, 0) _ rfl k9 Try.underlying76 rfl (E5.out _)) rfl ⟨rfl, hf1.grown g9 hf1.size (fun i hi => by injection hi with hi; omega)⟩
end Go.Proofs.Ytopmngjaieobnaa
