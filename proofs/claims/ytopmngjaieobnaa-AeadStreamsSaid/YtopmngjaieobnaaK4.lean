/-
  Contracts: chacha.fill, chacha.stateOf.
-/
import Derived.Test.YtopmngjaieobnaaK3
import Derived.Test.YtopmngjaieobnaaQc
namespace Go.Proofs.Ytopmngjaieobnaa
open Go.RowKit
set_option linter.unusedVariables false

theorem size8w (W : World) : (sizeOf 5).run Try.prog W = .ok 1 W := by
  obtain ⟨i, hi, hz, hsize, hby⟩ := info_parts info8
  simp [sizeOf, typeInfo, hi, hsize]
theorem size32w (W : World) : (sizeOf 85).run Try.prog W = .ok 1 W := by
  have h : (Try.prog.info? 85).map (·.size) = some 1 := by kernel_rfl
  cases hq : Try.prog.info? 85 with
  | none => simp [hq] at h
  | some i =>
    have hs : i.size = 1 := by simpa [hq] using h
    simp [sizeOf, typeInfo, hq, hs]
set_option maxRecDepth 100000 in
theorem slice_four (gk k c : Nat) (hk : 4 * k + 4 ≤ c) (W : World) :
    (Instr.slice 23 (.slice (some ⟨gk, 0, none⟩) c c) (some (.int .i64 (4 * (k : Int)))) (some (.int .i64 (4 * ((k : Int) + 1)))) none).run Try.prog W = .ok (.slice (some ⟨gk, 4 * k, none⟩) 4 (c - 4 * k)) W := by
  have he : Try.prog.elem 23 = 5 := by kernel_rfl
  rw [run_slice_lh W 23 _ c c (by rw [he]; exact Try.underlying23) .i64 .i64 _ _ (by omega) (by omega) (by omega), he, size8w]
  simp only [Result.andThen, sliced]
  have e1 : (4 * (k : Int)).toNat = 4 * k := by omega
  have e2 : (4 * ((k : Int) + 1)).toNat = 4 * k + 4 := by omega
  rw [e1, e2, if_neg (by omega), show 4 * k + 4 - 4 * k = 4 by omega]
  congr 3
  unfold Addr.add
  split
  · simp at *
  · simp

set_option maxRecDepth 100000 in
set_option maxHeartbeats 2000000 in
theorem fill_any (g gk i n cap : Nat) (T : TypeId) (l : List Int) (b : List UInt8) (w : World) (hl : l.length = 16) (hb : b.length = 4 * n) (hi : i + n ≤ 16) (hn : n ≤ 8) (hne : gk ≠ g) (hg : Bk w g 118 (rowW l)) (hk : Bk w gk T (rowOf b)) :
    Calls Try.prog 96 #[.slice (some ⟨g, i, none⟩) n cap, .slice (some ⟨gk, 0, none⟩) (4 * n) (4 * n)] w fun e w' => e = .returned (.tuple #[]) ∧ Bk w' g 118 (rowW (fillL l i b n)) ∧ w.grownBy w' (some g) := by
  have HL := hidq_ hl
  have HB := hidq_ hb
  have HG := hidq_ hg
  have HK := hidq_ hk
  have HNE := hidq_ hne
  clear hl hb hg hk hne
  go_enter Try.func96, Try.ntmps96
  go_wp2
  go_loopw [7] (fun x wr => ∃ k : Nat, k ≤ n ∧ x = .int .i64 k ∧ Bk wr g 118 (rowW (fillL l i b k)) ∧ Bk wr gk T (rowOf b) ∧ w.grownBy wr (some g)) (fun x _ => n - (intOf x).toNat)
  case atStart => exact ⟨0, Nat.zero_le _, rfl, HG.out, HK.out, World.grownBy.refl w _⟩
  case round =>
    obtain ⟨k, hk, rfl, h1, h2, h3⟩ := hrel
    have G1 := hidq_ h1
    have G2 := hidq_ h2
    have G3 := hidq_ h3
    clear h1 h2 h3 HG HK
    by_cases hlt : k < n
    · have hd : decide ((k : Int) < (n : Int)) = true := decide_eq_true (by omega)
      have hs := fun W => slice_four gk k (4 * n) (by omega) W
      have hlen : (((b.drop (4 * k)).take 4).length) = 4 := by rw [List.length_take, List.length_drop, HB.out]; omega
      have hrd := (((Bk.rd G2.out (B := wr.heap.size) G2.out.lt).drop (4 * k)).take 4)
      rw [Nat.zero_add] at hrd
      have c1 := low32_yes (some ⟨gk, 4 * k, none⟩) wr.heap.size (4 * n - 4 * k) ((b.drop (4 * k)).take 4) wr hlen hrd
      have hwk : ((leN ((b.drop (4 * k)).take 4) : Nat) : Int) = leWord b k := rfl
      rw [hwk] at c1
      obtain ⟨x, hx⟩ : ∃ x, Hid (leWord b k = x) := ⟨_, rfl⟩
      rw [hx.out] at c1
      have hc := G1.out.cell (i + k)
      rw [rowW_at _ _ (by rw [fillL_len, HL.out]; omega)] at hc
      have hf := G1.out.frozen (i + k)
      have hset := G1.out.set_ (i + k) (.int .u32 x)
      rw [rowW_set] at hset
      have HS : Hid (Bk (wr.setCell ⟨g, i + k, none⟩ (.int .u32 x)) g 118 (rowW (fillL l i b (k + 1)))) := hidq_ (by rw [fillL, hx.out]; exact hset)
      have t0 : (0 : Int) ≤ (k : Int) := by omega
      clear hlen hrd hwk hset
      go_wp2_with (go_at_call 99; ((with_reducible refine c1.mono ?_); rintro e w' ⟨rfl, rfl⟩))
      go_roundw
      case rel => exact ⟨k + 1, by omega, by go_num, HS.out, G2.out.far (p := ⟨g, i + k, none⟩) HNE.out _, grown_put G3.out _ _⟩
      case measure => simp [intOf]; omega
    · obtain rfl : k = n := by omega
      go_wp2
      go_end0
      exact ⟨rfl, G1.out, G3.out⟩

theorem size_l32 : Try.prog.elem 118 = 85 := by kernel_rfl
theorem sl_state (g : Nat) (W : World) :
    (Instr.sliceAt 118 (.pointer (some ⟨g, 0, none⟩)) (some (.int .i64 4)) (some (.int .i64 12)) none).run Try.prog W = .ok (.slice (some ⟨g, 4, none⟩) 8 12) W := by
  have hn : Try.prog.arrayLen 118 = 16 := by kernel_rfl
  have ht : Try.prog.underlying 118 = some (.array (Try.prog.arrayLen 118) (Try.prog.elem 118)) := by rw [size_l32, hn]; exact Try.underlying118
  rw [run_sliceAt_array_lh W 118 ⟨g, 0, none⟩ ht .i64 .i64 4 12 (by omega) (by omega) (by rw [hn]; omega), size_l32, size32w, hn]
  rfl
theorem sl_state2 (g : Nat) (W : World) :
    (Instr.sliceAt 118 (.pointer (some ⟨g, 0, none⟩)) (some (.int .i64 13)) none none).run Try.prog W = .ok (.slice (some ⟨g, 13, none⟩) 3 3) W := by
  have hn : Try.prog.arrayLen 118 = 16 := by kernel_rfl
  have ht : Try.prog.underlying 118 = some (.array (Try.prog.arrayLen 118) (Try.prog.elem 118)) := by rw [size_l32, hn]; exact Try.underlying118
  rw [run_sliceAt_array_l W 118 ⟨g, 0, none⟩ ht .i64 13 (by omega) (by rw [hn]; omega), size_l32, size32w, hn]
  rfl
theorem sl_key (g : Nat) (W : World) :
    (Instr.sliceAt 22 (.pointer (some ⟨g, 0, none⟩)) none none none).run Try.prog W = .ok (.slice (some ⟨g, 0, none⟩) 32 32) W := by
  have he : Try.prog.elem 22 = 5 := by kernel_rfl
  have hn : Try.prog.arrayLen 22 = 32 := by kernel_rfl
  have ht : Try.prog.underlying 22 = some (.array (Try.prog.arrayLen 22) (Try.prog.elem 22)) := by rw [he, hn]; exact Try.underlying22
  rw [run_sliceAt_array_all W 22 ⟨g, 0, none⟩ ht, he, size8w, hn]
  rfl
theorem sl_nonce (g : Nat) (W : World) :
    (Instr.sliceAt 32 (.pointer (some ⟨g, 0, none⟩)) none none none).run Try.prog W = .ok (.slice (some ⟨g, 0, none⟩) 12 12) W := by
  have he : Try.prog.elem 32 = 5 := by kernel_rfl
  have hn : Try.prog.arrayLen 32 = 12 := by kernel_rfl
  have ht : Try.prog.underlying 32 = some (.array (Try.prog.arrayLen 32) (Try.prog.elem 32)) := by rw [he, hn]; exact Try.underlying32
  rw [run_sliceAt_array_all W 32 ⟨g, 0, none⟩ ht, he, size8w, hn]
  rfl

set_option maxRecDepth 100000 in
set_option maxHeartbeats 4000000 in
theorem state_any (key nonce : List UInt8) (counter : Int) (w : World) (hk : key.length = 32) (hn : nonce.length = 12) (hc : ok32 counter) :
    Calls Try.prog 91 #[.agg (rowOf key), .int .u32 counter, .agg (rowOf nonce)] w fun e w' => e = .returned (.agg (rowW (stateL key counter nonce))) ∧ Below w.heap.size w w' := by
  have hzw := zw16
  obtain ⟨g, hg⟩ : ∃ g, Hid (w.heap.size = g) := ⟨_, rfl⟩
  obtain ⟨w0, hw0⟩ : ∃ W, Hid ((((w.alloc (.cells (rowOf key) 22)).alloc (.cells (rowOf nonce) 32)).alloc (.cells (rowW zerosW) 118)).alloc (.cells (rowW zerosW) 118) = W) := ⟨_, rfl⟩
  have HK : Hid (Bk w0 g 22 (rowOf key)) := hidq_ (by rw [← hw0.out, ← hg.out]; exact (((Bk.new w _ _).alloc _).alloc _).alloc _)
  have HN : Hid (Bk w0 (g + 1) 32 (rowOf nonce)) := hidq_ (by
    have h := ((Bk.new (w.alloc (.cells (rowOf key) 22)) 32 (rowOf nonce)).alloc (.cells (rowW zerosW) 118)).alloc (.cells (rowW zerosW) 118)
    rw [← hw0.out, ← hg.out]
    simpa using h)
  have HZ : Hid (Bk w0 (g + 1 + 1) 118 (rowW zerosW)) := hidq_ (by
    have h := (Bk.new ((w.alloc (.cells (rowOf key) 22)).alloc (.cells (rowOf nonce) 32)) 118 (rowW zerosW)).alloc (.cells (rowW zerosW) 118)
    rw [← hw0.out, ← hg.out]
    simpa using h)
  have HS : Hid (Bk w0 (g + 1 + 1 + 1) 118 (rowW zerosW)) := hidq_ (by
    have h := Bk.new (((w.alloc (.cells (rowOf key) 22)).alloc (.cells (rowOf nonce) 32)).alloc (.cells (rowW zerosW) 118)) 118 (rowW zerosW)
    rw [← hw0.out, ← hg.out]
    simpa using h)
  have HR : Hid (Below g w w0) := hidq_ (by rw [← hw0.out, ← hg.out]; exact ((((Below.refl _ _).alloc (Nat.le_refl _) _).alloc (by simp) _).alloc (by simp; omega) _).alloc (by simp; omega) _)
  have HKL := hidq_ hk
  have HNL := hidq_ hn
  have HC := hidq_ hc
  have HZW : Hid ((rowW zerosW).size = (rowW sigmaL).size) := hidq_ rfl
  have HI := hidq_ (iw16 sigmaL rfl)
  clear hk hn hc
  go_enter Try.func91, Try.ntmps91
  go_upto_region 2 with (first
    | (refine wpList_built rfl 118 _ rfl (rowW sigmaL) (by kernel_rfl) ?_)
    | (rw [hg.out, hw0.out]; refine wpList_put_row rfl 118 _ _ rfl (g + 1 + 1 + 1) (rowW sigmaL) rfl rfl 118 (rowW zerosW) HS.out HI.out HZW.out (rowW_one _) ?_; intro w1 k1 g1 s1))
  rw [put_none]
  have A1 := hidq_ k1
  have AK := hidq_ (HK.out.grown g1 (by intro e; injection e with e; omega))
  have AN := hidq_ (HN.out.grown g1 (by intro e; injection e with e; omega))
  have AZ := hidq_ (HZ.out.grown g1 (by intro e; injection e with e; omega))
  have AR := hidq_ (HR.out.grown g1 (by have := HS.out.lt; omega) (fun i hi => by injection hi with hi; omega))
  clear k1 g1 s1 HK HN HZ HS HR hzw HZW HI
  refine region_quiet_tail_lit 2 (by kernel_rfl) (by kernel_rfl) ?_
  simp only [List.take_succ_cons, List.take_zero]
  have q1 := sl_state (g + 1 + 1 + 1)
  have q2 := sl_key g
  repeat (go_big_quiet_step (fail))
  refine wpQuiet_nil ?_
  intro w' hw'
  obtain ⟨nq, rfl⟩ := hw'
  simp only [List.drop_succ_cons, List.drop_zero]
  have cf := fill_any (g + 1 + 1 + 1) g 4 8 12 22 sigmaL key (w1.drewN nq) rfl HKL.out (by omega) (by omega) (by omega) (A1.out.drewN nq) (AK.out.drewN nq)
  clear q1 q2
  refine wpList_plain rfl fun K hK => ?_
  go_simp
  go_at_call 96
  refine cf.mono ?_
  rintro e w2 ⟨rfl, k1, g1⟩
  refine hK _ _ ?_
  clear hK K cf
  have B1 := hidq_ k1
  have BN := hidq_ ((AN.out.drewN nq).grown g1 (by intro e; injection e with e; omega))
  have BZ := hidq_ ((AZ.out.drewN nq).grown g1 (by intro e; injection e with e; omega))
  have BR := hidq_ ((below_drewN AR.out nq).grown g1 (by have := A1.out.lt; have h : (w1.drewN nq).heap.size = w1.heap.size := rfl; omega) (fun i hi => by injection hi with hi; omega))
  clear k1 g1 A1 AK AN AZ AR
  obtain ⟨l1, HE1⟩ : ∃ l1, Hid (fillL sigmaL 4 key 8 = l1) := ⟨_, rfl⟩
  have L1 : Hid (l1.length = 16) := hidq_ (by rw [← HE1.out, fillL_len]; rfl)
  have O1 : Hid (okL l1) := hidq_ (by rw [← HE1.out]; exact fillL_ok sigmaL_ok 4 key 8)
  rw [HE1.out] at B1
  have hc := B1.out.cell 12
  rw [rowW_at _ _ (by rw [L1.out]; omega)] at hc
  have hf := B1.out.frozen 12
  have hset := B1.out.set_ 12 (.int .u32 counter)
  rw [rowW_set] at hset
  have C1 := hidq_ hset
  have CN := hidq_ (BN.out.far (p := ⟨g + 1 + 1 + 1, 12, none⟩) (by simp) (.int .u32 counter))
  have CZ := hidq_ (BZ.out.far (p := ⟨g + 1 + 1 + 1, 12, none⟩) (by simp) (.int .u32 counter))
  have CR := hidq_ (BR.out.setCell (p := ⟨g + 1 + 1 + 1, 12, none⟩) (by simp; omega) (.int .u32 counter))
  clear hset BN BZ BR B1
  rename_i K hK
  refine hK _ _ ?_
  go_upto_region 4 with fail
  clear hc hf
  obtain ⟨w3, hw3⟩ : ∃ W, Hid (w2.setCell ⟨g + 1 + 1 + 1, 12, none⟩ (.int .u32 counter) = W) := ⟨_, rfl⟩
  rw [hw3.out] at C1 CN CZ CR ⊢
  refine region_quiet_tail_lit 2 (by kernel_rfl) (by kernel_rfl) ?_
  simp only [List.take_succ_cons, List.take_zero]
  have q1 := sl_state2 (g + 1 + 1 + 1)
  have q2 := sl_nonce (g + 1)
  repeat (go_big_quiet_step (fail))
  refine wpQuiet_nil ?_
  intro w' hw'
  obtain ⟨nq2, rfl⟩ := hw'
  simp only [List.drop_succ_cons, List.drop_zero]
  have cf := fill_any (g + 1 + 1 + 1) (g + 1) 13 3 3 32 (l1.set 12 counter) nonce (w3.drewN nq2) (by rw [List.length_set, L1.out]) HNL.out (by omega) (by omega) (by omega) (C1.out.drewN nq2) (CN.out.drewN nq2)
  clear q1 q2
  refine wpList_plain rfl fun K hK => ?_
  go_simp
  go_at_call 96
  refine cf.mono ?_
  rintro e w4 ⟨rfl, k1, g1⟩
  refine hK _ _ ?_
  clear hK K cf
  have hst : fillL (l1.set 12 counter) 13 nonce 3 = stateL key counter nonce := by rw [stateL, HE1.out]
  rw [hst] at k1
  clear hst
  have LS := stateL_len key counter nonce
  obtain ⟨ls, HLS⟩ : ∃ l1, Hid (stateL key counter nonce = l1) := ⟨_, rfl⟩
  rw [HLS.out] at k1 LS
  have D1 := k1
  have DZ := (CZ.out.drewN nq2).grown g1 (by intro e; injection e with e; omega)
  have DR := hidq_ ((below_drewN CR.out nq2).grown g1 (by have := C1.out.lt; have h : (w3.drewN nq2).heap.size = w3.heap.size := rfl; omega) (fun i hi => by injection hi with hi; omega))
  have E8 := hidq_ (iw16 ls LS)
  have S8 : Hid ((rowW zerosW).size = (rowW ls).size) := hidq_ (by rw [rowW_size, rowW_size, LS]; rfl)
  clear g1 LS C1 CN CZ CR
  go_wp2_with (first
    | (refine wpList_load_row rfl 118 _ rfl (g + 1 + 1 + 1) rfl 118 (rowW ls) (0, 0) _ D1 Try.underlying118 rfl E8.out ?_)
    | (refine wpList_put_row rfl 118 _ _ rfl (g + 1 + 1) (rowW ls) rfl rfl 118 (rowW zerosW) DZ E8.out S8.out (rowW_one _) ?_; intro W9 k9 g9 s9))
  refine bodyPost_ret (results_cell_row Try.results91 _ _ (g + 1 + 1) 118 _ (0, 0) _ rfl k9 Try.underlying118 rfl E8.out) rfl ⟨by rw [HLS.out], by rw [hg.out]; exact DR.out.grown g9 (by have := DZ.lt; omega) (fun k hk => by injection hk with hk; omega)⟩
end Go.Proofs.Ytopmngjaieobnaa
