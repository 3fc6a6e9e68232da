/-
  Contract: chacha.Block.
-/
import Derived.Test.YtopmngjaieobnaaK4
import Derived.Test.YtopmngjaieobnaaQd
import Derived.BigCall
namespace Go.Proofs.Ytopmngjaieobnaa
open Go.RowKit
set_option linter.unusedVariables false
set_option linter.unusedSimpArgs false

theorem agg32w (W : World) : (isAgg 85).run Try.prog W = .ok false W := by
  unfold isAgg
  rw [Sem.run_bind, run_underlying Try.underlying85 W]
  rfl
theorem index_word (v : List Int) (k : Nat) (hv : v.length = 16) (hk : k < 16) (W : World) :
    (Instr.index 118 (.agg (rowW v)) (.int .i64 (k : Int))).run Try.prog W = .ok (.int .u32 (v.getD k 0)) W := by
  have hc := rowW_at v k (by omega)
  have h1 : (0 : Int) ≤ (k : Int) ∧ (k : Int) < ((16 : Nat) : Int) := by omega
  unfold Instr.index
  simp only [asIntOf, Sem.run_bind, Sem.run_pure, Result.andThen_ok, run_underlying Try.underlying118 W]
  simp only [if_pos h1, Sem.run_bind, size32w, Result.andThen_ok, part, agg32w, Int.toNat_natCast, Nat.mul_one]
  simp [hc]

theorem zb64 (W : World) : (zeroValue 106).run Try.prog W = .ok (.agg (rowOf (zbytes 64))) W := by kernel_rfl
theorem ib64_ : (Try.prog.info? 106).map (·.size) = some 64 := by kernel_rfl
theorem ib32_ : (Try.prog.info? 22).map (·.size) = some 32 := by kernel_rfl
theorem ib12_ : (Try.prog.info? 32).map (·.size) = some 12 := by kernel_rfl
theorem ib64 (l : List UInt8) (h : l.length = 64) : (Try.prog.info? 106).map (·.size) = some (rowOf l).size := by rw [rowOf_size, h]; exact ib64_
theorem ib32 (l : List UInt8) (h : l.length = 32) : (Try.prog.info? 22).map (·.size) = some (rowOf l).size := by rw [rowOf_size, h]; exact ib32_
theorem ib12 (l : List UInt8) (h : l.length = 12) : (Try.prog.info? 32).map (·.size) = some (rowOf l).size := by rw [rowOf_size, h]; exact ib12_
set_option maxRecDepth 100000 in
theorem sl_out (g k : Nat) (hk : k ≤ 16) (W : World) :
    (Instr.sliceAt 106 (.pointer (some ⟨g, 0, none⟩)) (some (.int .i64 (4 * (k : Int)))) none none).run Try.prog W = .ok (.slice (if 64 = 4 * k then some ⟨g, 0, none⟩ else some ⟨g, 4 * k, none⟩) (64 - 4 * k) (64 - 4 * k)) W := by
  have he : Try.prog.elem 106 = 5 := by kernel_rfl
  have hn : Try.prog.arrayLen 106 = 64 := by kernel_rfl
  have ht : Try.prog.underlying 106 = some (.array (Try.prog.arrayLen 106) (Try.prog.elem 106)) := by rw [he, hn]; exact Try.underlying106
  rw [run_sliceAt_array_l W 106 ⟨g, 0, none⟩ ht .i64 _ (by omega) (by rw [hn]; omega), he, size8w, hn]
  have e1 : (4 * (k : Int)).toNat = 4 * k := by omega
  simp only [Result.andThen, slicedAt, e1]
  congr 2
  by_cases h : 64 = 4 * k
  · rw [if_pos h, if_pos h]
  · rw [if_neg h, if_neg h]
    congr 1
    unfold Addr.add
    split
    · simp at *
    · simp
theorem sl_all64 (g : Nat) (W : World) :
    (Instr.sliceAt 106 (.pointer (some ⟨g, 0, none⟩)) none none none).run Try.prog W = .ok (.slice (some ⟨g, 0, none⟩) 64 64) W := by
  have he : Try.prog.elem 106 = 5 := by kernel_rfl
  have hn : Try.prog.arrayLen 106 = 64 := by kernel_rfl
  have ht : Try.prog.underlying 106 = some (.array (Try.prog.arrayLen 106) (Try.prog.elem 106)) := by rw [he, hn]; exact Try.underlying106
  rw [run_sliceAt_array_all W 106 ⟨g, 0, none⟩ ht, he, size8w, hn]
  rfl

/-- The row behind k words. -/
def outRow (s v : List Int) (k : Nat) : List UInt8 := outB s v k ++ zbytes (64 - 4 * k)
theorem outRow_len (s v : List Int) (k : Nat) (hk : k ≤ 16) : (outRow s v k).length = 64 := by
  rw [outRow, List.length_append, outB_len, zbytes_len]; omega
theorem outRow_next (s v : List Int) (k : Nat) (hk : k < 16) : laid (outRow s v k) (4 * k) (lowB 4 ((v.getD k 0 + s.getD k 0) % 4294967296).toNat) = outRow s v (k + 1) := by
  have h := laid_app (outB s v k) (zbytes (64 - 4 * k)) (lowB 4 ((v.getD k 0 + s.getD k 0) % 4294967296).toNat)
  rw [outB_len] at h
  rw [outRow, h, outRow, outB_succ, lowB_len]
  congr 1
  simp [zbytes]
  omega

set_option maxRecDepth 100000 in
set_option maxHeartbeats 4000000 in
theorem block_any (key nonce : List UInt8) (counter : Int) (w : World) (hk : key.length = 32) (hn : nonce.length = 12) (hc : ok32 counter) :
    Calls Try.prog 76 #[.agg (rowOf key), .int .u32 counter, .agg (rowOf nonce)] w fun e w' => e = .returned (.agg (rowOf (blockB key counter nonce))) ∧ Below w.heap.size w w' := by
  have hzw := zw16
  have hzb := zb64
  obtain ⟨g, hg⟩ : ∃ g, Hid (w.heap.size = g) := ⟨_, rfl⟩
  obtain ⟨w0, hw0⟩ : ∃ W, Hid (((w.alloc (.cells (rowOf key) 22)).alloc (.cells (rowOf nonce) 32)).alloc (.cells (rowOf (zbytes 64)) 106) = W) := ⟨_, rfl⟩
  have HK : Hid (Bk w0 g 22 (rowOf key)) := hidq_ (by rw [← hw0.out, ← hg.out]; exact ((Bk.new w _ _).alloc _).alloc _)
  have HN : Hid (Bk w0 (g + 1) 32 (rowOf nonce)) := hidq_ (by
    have h := (Bk.new (w.alloc (.cells (rowOf key) 22)) 32 (rowOf nonce)).alloc (.cells (rowOf (zbytes 64)) 106)
    rw [← hw0.out, ← hg.out]
    simpa using h)
  have HZ : Hid (Bk w0 (g + 1 + 1) 106 (rowOf (zbytes 64))) := hidq_ (by
    have h := Bk.new ((w.alloc (.cells (rowOf key) 22)).alloc (.cells (rowOf nonce) 32)) 106 (rowOf (zbytes 64))
    rw [← hw0.out, ← hg.out]
    simpa using h)
  have HR : Hid (Below g w w0) := hidq_ (by rw [← hw0.out, ← hg.out]; exact (((Below.refl _ _).alloc (Nat.le_refl _) _).alloc (by simp) _).alloc (by simp; omega) _)
  have I32 := hidq_ (ib32 key hk)
  have I12 := hidq_ (ib12 nonce hn)
  have LS := stateL_len key counter nonce
  have OS := hidq_ (stateL_ok key nonce hc)
  have cs := state_any key nonce counter w0 hk hn hc
  have HB : Hid (blockB key counter nonce = outB (stateL key counter nonce) (roundsL (stateL key counter nonce) 10) 16) := hidq_ rfl
  rw [HB.out]
  clear HB hk hn hc
  obtain ⟨ls, hls⟩ : ∃ x, Hid (stateL key counter nonce = x) := ⟨_, rfl⟩
  rw [hls.out] at cs LS OS ⊢
  have LV := roundsL_len ls 10
  rw [LS] at LV
  have EW := hidq_ (iw16 ls LS)
  have SW : Hid ((rowW zerosW).size = (rowW ls).size) := hidq_ (by rw [rowW_size, rowW_size, LS]; rfl)
  have EV := hidq_ (iw16 _ LV)
  have SV : Hid ((rowW zerosW).size = (rowW (roundsL ls 10)).size) := hidq_ (by rw [rowW_size, rowW_size, LV]; rfl)
  have HLS := hidq_ LS
  have HLV := hidq_ LV
  have cv := fun W => stirred_any ls W LS OS.out
  obtain ⟨vs, hvs⟩ : ∃ x, Hid (roundsL ls 10 = x) := ⟨_, rfl⟩
  rw [hvs.out] at cv HLV EV SV ⊢
  clear LS LV
  go_enter Try.func76, Try.ntmps76
  go_upto_region 1 with fail
  rw [hg.out, hw0.out]
  go_upto_region 2 with (first
    | (refine wpList_load_row rfl 22 (.tmp 3) rfl g rfl 22 (rowOf key) (0, 0) _ HK.out Try.underlying22 rfl I32.out ?_)
    | (refine wpList_load_row rfl 32 (.tmp 5) rfl (g + 1) rfl 32 (rowOf nonce) (0, 0) _ HN.out Try.underlying32 rfl I12.out ?_)
    | (go_at_call 91; ((with_reducible refine cs.mono ?_); rintro e w1 ⟨rfl, b1⟩; have HB1 := hidq_ b1; clear b1))
    | (refine wpList_put_row rfl 118 (.tmp 7) (.tmp 15) rfl w1.heap.size (rowW ls) rfl rfl 118 (rowW zerosW) (Bk.new w1 _ _) EW.out SW.out (rowW_one _) ?_; intro w2 k2 g2 s2))
  have Z1 := HZ.out.below HB1.out HZ.out.lt
  have hgl : g ≤ w.heap.size := by rw [hg.out]; exact Nat.le_refl _
  have R1 := HR.out.trans (HB1.out.mono (by have := HR.out.size; omega))
  have A2 := hidq_ k2
  have Z2 := hidq_ ((Z1.alloc (.cells (rowW zerosW) 118)).grown g2 (by intro e; injection e with e; have := Z1.lt; omega))
  have R2 := hidq_ ((R1.alloc (by have := R1.size; omega) (.cells (rowW zerosW) 118)).grown g2 (by have := R1.size; simp; omega) (fun i hi => by injection hi with hi; have := R1.size; omega))
  have b2 : g + 1 + 1 < w1.heap.size := Z1.lt
  obtain ⟨sb, hsb⟩ : ∃ x, Hid (w1.heap.size = x) := ⟨_, rfl⟩
  rw [hsb.out] at A2 b2 ⊢
  clear Z1 R1 k2 g2 s2 HK HN HZ HR HB1 I32 I12 cs
  have cv1 := cv w2
  clear cv
  rename_i K hK
  go_upto_region 3 with (first
    | (refine wpList_load_row rfl 118 (.tmp 7) rfl sb rfl 118 (rowW ls) (0, 0) _ A2.out Try.underlying118 rfl EW.out ?_)
    | (go_at_call 92; ((with_reducible refine cv1.mono ?_); rintro e w3 ⟨rfl, b1⟩; have HB3 := hidq_ b1; clear b1))
    | (refine wpList_put_row rfl 118 (.tmp 8) (.tmp 17) rfl w3.heap.size (rowW vs) rfl rfl 118 (rowW zerosW) (Bk.new w3 _ _) EV.out SV.out (rowW_one _) ?_; intro w4 k4 g4 s4))
  have Z3 := Z2.out.below HB3.out Z2.out.lt
  have A3 := A2.out.below HB3.out A2.out.lt
  have R3 := R2.out.trans (HB3.out.mono (by have := R2.out.size; omega))
  have l3 := A3.lt
  have B4 := hidq_ k4
  have A4 := hidq_ ((A3.alloc (.cells (rowW zerosW) 118)).grown g4 (by intro e; injection e with e; omega))
  have Z4 := hidq_ ((Z3.alloc (.cells (rowW zerosW) 118)).grown g4 (by intro e; injection e with e; omega))
  have R4 := hidq_ ((R3.alloc (by have := R3.size; omega) (.cells (rowW zerosW) 118)).grown g4 (by have := R3.size; simp; omega) (fun i hi => by injection hi with hi; have := R3.size; omega))
  have s5 : w4.heap.size = w3.heap.size + 1 := by rw [s4]; simp
  obtain ⟨vb, hvb⟩ : ∃ x, Hid (w3.heap.size = x) := ⟨_, rfl⟩
  rw [hvb.out] at B4 l3 s5 ⊢
  have S5 := hidq_ s5
  clear Z3 A3 R3 k4 g4 s4 A2 Z2 R2 HB3 cv1 s5
  have B5 := hidq_ (B4.out.alloc (.cells (rowOf (zbytes 64)) 106))
  have A5 := hidq_ (A4.out.alloc (.cells (rowOf (zbytes 64)) 106))
  have Z5 := hidq_ (Z4.out.alloc (.cells (rowOf (zbytes 64)) 106))
  have R5 := hidq_ (R4.out.alloc (by have := R4.out.size; omega) (.cells (rowOf (zbytes 64)) 106))
  have O5 : Hid (Bk (w4.alloc (.cells (rowOf (zbytes 64)) 106)) (vb + 1) 106 (rowOf (zbytes 64))) := hidq_ (by
    have h := Bk.new w4 106 (rowOf (zbytes 64))
    rwa [S5.out] at h)
  go_upto_region 4 with fail
  rw [S5.out]
  obtain ⟨w5, hw5⟩ : ∃ W, Hid (w4.alloc (.cells (rowOf (zbytes 64)) 106) = W) := ⟨_, rfl⟩
  rw [hw5.out] at A5 B5 Z5 R5 O5 ⊢
  clear A4 B4 Z4 R4 hw5 S5 hzw hzb
  go_wp2_with (refine wpList_load_row rfl 118 (.tmp 8) rfl vb rfl 118 (rowW vs) (0, 0) _ B5.out Try.underlying118 rfl EV.out ?_)
  go_loopw [19] (fun x wr => ∃ k : Nat, k ≤ 16 ∧ x = .int .i64 k ∧ Bk wr (vb + 1) 106 (rowOf (outRow ls vs k)) ∧ Bk wr sb 118 (rowW ls) ∧ Bk wr (g + 1 + 1) 106 (rowOf (zbytes 64)) ∧ Below g w wr) (fun x _ => 16 - (intOf x).toNat)
  case atStart => exact ⟨0, by omega, rfl, O5.out, A5.out, Z5.out, R5.out⟩
  case round =>
    obtain ⟨k, hk, rfl, h1, h2, h3, h4⟩ := hrel
    have H1 := hidq_ h1
    have H2 := hidq_ h2
    have H3 := hidq_ h3
    have H4 := hidq_ h4
    clear h1 h2 h3 h4 O5 A5 Z5 R5 B5
    by_cases hlt : k < 16
    · have hd : decide ((k : Int) < 16) = true := decide_eq_true (by omega)
      have hix := fun W => index_word vs k HLV.out hlt W
      have hsl := fun W => sl_out (vb + 1) k hk W
      have hne : ¬ 64 = 4 * k := by omega
      simp only [if_neg hne] at hsl
      have hcl := H2.out.cell k
      rw [rowW_at _ _ (by rw [HLS.out]; exact hlt)] at hcl
      have t0 : (0 : Int) ≤ (k : Int) := by omega
      have t1 : (k : Int) < 16 := by omega
      obtain ⟨x, hx⟩ : ∃ x : Nat, Hid (((vs.getD k 0 + ls.getD k 0) % 4294967296).toNat = x) := ⟨_, rfl⟩
      have hx4 : (vs.getD k 0 + ls.getD k 0) % 4294967296 = ((x : Nat) : Int) := by rw [← hx.out]; omega
      have hxl : x ≤ 4294967295 := by omega
      have HN : Hid (laid (outRow ls vs k) (4 * k) (lowB 4 x) = outRow ls vs (k + 1)) := hidq_ (by rw [← hx.out]; exact outRow_next ls vs k hlt)
      have HL64 := hidq_ (outRow_len ls vs k hk)
      obtain ⟨xa, hxa⟩ : ∃ x, Hid (vs.getD k 0 = x) := ⟨_, rfl⟩
      obtain ⟨xb, hxb⟩ : ∃ x, Hid (ls.getD k 0 = x) := ⟨_, rfl⟩
      rw [hxa.out] at hix
      rw [hxb.out] at hcl
      rw [hxa.out, hxb.out] at hx4
      have c1 := fun W => putLow_any x 4 4 (by omega) (by omega) (by omega) (by omega) W
      have hw4 : IntKind.i64.wrap (4 * (k : Int)) = 4 * (k : Int) := IntWalk.i64_in _ (by omega)
      clear hne
      go_wp2
      refine wp_region_any (by kernel_rfl) ?_
      change wpAny _ _ _ _ _ _ _ (World.drew _)
      refine wpAny_take (i := 0) (v := .int .i64 (k : Int)) rfl (by kernel_rfl) (by kernel_rfl) (by kernel_rfl) (fun _ _ _ h => h) (Or.inl ⟨by rfl, by intro W; go_simp⟩) ?_
      simp only [Act.put, List.getElem_toArray, List.getElem_cons_succ, List.getElem_cons_zero, List.setIfInBounds_toArray, List.set_cons_succ, List.set_cons_zero]
      refine wpAny_take (i := 1) (v := .int .i64 (4 * (k : Int))) rfl (by kernel_rfl) (by kernel_rfl) (by kernel_rfl) (fun _ _ _ h => h) (Or.inl ⟨by rfl, by intro W; go_simp⟩) ?_
      simp only [Act.put, List.getElem_toArray, List.getElem_cons_succ, List.getElem_cons_zero, List.setIfInBounds_toArray, List.set_cons_succ, List.set_cons_zero]
      refine wpAny_take (i := 2) (v := .slice (some ⟨vb + 1, 4 * k, none⟩) (64 - 4 * k) (64 - 4 * k)) rfl (by kernel_rfl) (by kernel_rfl) (by kernel_rfl) (fun _ _ _ h => h) (Or.inl ⟨by rfl, by intro W; go_simp⟩) ?_
      simp only [Act.put, List.getElem_toArray, List.getElem_cons_succ, List.getElem_cons_zero, List.setIfInBounds_toArray, List.set_cons_succ, List.set_cons_zero]
      refine wpAny_take (i := 3) (v := .int .u32 xa) rfl (by kernel_rfl) (by kernel_rfl) (by kernel_rfl) (fun _ _ _ h => h) (Or.inl ⟨by rfl, by intro W; go_simp⟩) ?_
      simp only [Act.put, List.getElem_toArray, List.getElem_cons_succ, List.getElem_cons_zero, List.setIfInBounds_toArray, List.set_cons_succ, List.set_cons_zero]
      refine wpAny_take (i := 4) (v := .int .i64 (k : Int)) rfl (by kernel_rfl) (by kernel_rfl) (by kernel_rfl) (fun _ _ _ h => h) (Or.inl ⟨by rfl, by intro W; go_simp⟩) ?_
      simp only [Act.put, List.getElem_toArray, List.getElem_cons_succ, List.getElem_cons_zero, List.setIfInBounds_toArray, List.set_cons_succ, List.set_cons_zero]
      refine wpAny_rest 5 6 (by kernel_rfl) (by kernel_rfl) ?_
      simp only [List.drop_zero, List.drop_succ_cons]
      have l1 := H1.out.lt
      have D1 := hidq_ (H1.out.drew.alloc (.cells (rowOf (lowB 4 x)) 5))
      have N1 := hidq_ (Blk8.rdn (g := vb + 1) (Blk8.new wr.drew (lowB 4 x)) (by have h : wr.drew.heap.size = wr.heap.size := rfl; omega))
      clear hsl hix
      go_wp2_with (first
        | (go_at_call 73; ((with_reducible refine (c1 _).mono ?_); rintro e w6 ⟨rfl, rfl⟩))
        | (refine wpList_copy8 rfl (.tmp 25) (.tmp 32) rfl (vb + 1) (4 * k) (64 - 4 * k) (64 - 4 * k) rfl _ 4 4 rfl (lowB 4 x) 4 (lowB_len _ _) (by omega) (by show 4 = min 4 (64 - 4 * k); omega) (vb + 1) N1.out 106 (rowOf (outRow ls vs k)) D1.out (by rw [rowOf_size, HL64.out]; omega) ?_; intro w7 k7 g7 s7))
      rw [row_laid, HN.out] at k7
      have Q1 := hidq_ k7
      have Q2 := hidq_ ((H2.out.drew.alloc (.cells (rowOf (lowB 4 x)) 5)).grown g7 (by intro e; injection e with e; omega))
      have Q3 := hidq_ ((H3.out.drew.alloc (.cells (rowOf (lowB 4 x)) 5)).grown g7 (by intro e; injection e with e; omega))
      have Q4 := hidq_ ((H4.out.drew.alloc (by have h : wr.drew.heap.size = wr.heap.size := rfl; omega) (.cells (rowOf (lowB 4 x)) 5)).grown g7 (by have h : wr.drew.heap.size = wr.heap.size := rfl; simp; omega) (fun i hi => by injection hi with hi; omega))
      clear k7 g7 s7 D1 N1 c1
      go_wp2
      go_roundw
      case rel => exact ⟨k + 1, by omega, by go_num, Q1.out, Q2.out, Q3.out, Q4.out⟩
      case measure => simp [intOf]; omega
    · obtain rfl : k = 16 := by omega
      have hend : outRow ls vs 16 = outB ls vs 16 := by unfold outRow; simp [zbytes]
      have hob : (outB ls vs 16).length = 64 := outB_len _ _ 16
      have H1' := H1.out
      rw [hend] at H1'
      obtain ⟨ob, hobn⟩ : ∃ x, Hid (outB ls vs 16 = x) := ⟨_, rfl⟩
      rw [hobn.out] at hob H1'
      have E8 := hidq_ (ib64 ob hob)
      have S8 : Hid ((rowOf (zbytes 64)).size = (rowOf ob).size) := hidq_ (by rw [rowOf_size, rowOf_size, hob, zbytes_len])
      have zz := H3.out
      clear hend hob H1
      go_wp2_with (first
        | (refine wpList_load_row rfl 106 _ rfl (vb + 1) rfl 106 (rowOf ob) (0, 0) _ H1' Try.underlying106 rfl E8.out ?_)
        | (refine wpList_put_row rfl 106 _ _ rfl (g + 1 + 1) (rowOf ob) rfl rfl 106 (rowOf (zbytes 64)) zz E8.out S8.out (bytes_one _) ?_; intro W9 k9 g9 s9))
      refine bodyPost_ret (results_cell_row Try.results76 _ _ (g + 1 + 1) 106 _ (0, 0) _ rfl k9 Try.underlying106 rfl E8.out) rfl ⟨by rw [hobn.out], by rw [hg.out]; exact H4.out.grown g9 (by have := H4.out.size; omega) (fun k hk => by injection hk with hk; omega)⟩
end Go.Proofs.Ytopmngjaieobnaa
