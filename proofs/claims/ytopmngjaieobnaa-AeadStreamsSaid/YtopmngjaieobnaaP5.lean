/-
  Contract: poly's lowest: the lowest sixteen bytes of a number.
-/
import Derived.Test.YtopmngjaieobnaaP4
namespace Go.Proofs.Ytopmngjaieobnaa
open Go.RowKit
set_option linter.unusedVariables false

theorem or_lo (x y c : Int) (k : Nat) (P : Int) (hP : P = ((2 ^ k : Nat) : Int)) (hx0 : 0 ≤ x) (hx : x < P) (hy : y = c * P) (hc : 0 ≤ c) (hs : x + y < 18446744073709551616) : bits .or .u64 x y = x + y := by
  obtain ⟨n, rfl⟩ := Int.eq_ofNat_of_zero_le hx0
  obtain ⟨d, rfl⟩ := Int.eq_ofNat_of_zero_le hc
  subst hP
  have e : y = ((d * 2 ^ k : Nat) : Int) := by rw [hy, Int.natCast_mul]
  subst e
  have h := or_u64_add' (d * 2 ^ k) n d k (by omega) rfl (by omega)
  rw [h]
  omega

theorem lowB_mod (n x : Nat) : lowB n (x % 256 ^ n) = lowB n x := by
  unfold lowB
  apply List.map_congr_left
  intro i hi
  have hi' : i < n := by simpa using hi
  congr 1
  obtain ⟨m, rfl⟩ : ∃ m, n = i + (m + 1) := ⟨n - i - 1, by omega⟩
  rw [Nat.pow_add, Nat.mod_mul_right_div_self, Nat.pow_succ, Nat.mod_mul_left_mod]
theorem lowB_app (n m x : Nat) : lowB (n + m) x = lowB n x ++ lowB m (x / 256 ^ n) := by
  unfold lowB
  rw [List.range_add, List.map_append, List.map_map]
  congr 1
  apply List.map_congr_left
  intro i _
  simp only [Function.comp]
  rw [Nat.pow_add, Nat.div_div_eq_div_mul]
theorem lowB_two (x y : Nat) (hx : x < 18446744073709551616) : lowB 8 x ++ lowB 8 y = lowB 16 (x + 18446744073709551616 * y) := by
  have e4 : (256 : Nat) ^ 8 = 18446744073709551616 := by decide
  have h := lowB_app 8 8 (x + 18446744073709551616 * y)
  rw [h, ← lowB_mod 8 (x + 18446744073709551616 * y), e4]
  congr 2 <;> omega
theorem leN_cons (b : UInt8) (l : List UInt8) : leN (b :: l) = b.toNat + 256 * leN l := by
  have h := leN_append [b] l
  have e : leN [b] = b.toNat := by simp [leN, beN]
  rw [e] at h
  simpa using h
theorem lowB_leN : ∀ l : List UInt8, lowB l.length (leN l) = l
  | [] => rfl
  | b :: l => by
    have h := lowB_app 1 l.length (leN (b :: l))
    have hb := b.toNat_lt
    have e1 : leN (b :: l) / 256 ^ 1 = leN l := by rw [leN_cons]; omega
    have e2 : lowB 1 (leN (b :: l)) = [b] := by
      have : leN (b :: l) / 256 ^ 0 % 256 = b.toNat := by rw [leN_cons, Nat.pow_zero]; omega
      unfold lowB
      simp only [List.range_one, List.map_cons, List.map_nil]
      rw [this]
      simp
    rw [List.length_cons, Nat.add_comm, h, e1, e2, lowB_leN l]
    rfl

theorem z16 (W : World) : (zeroValue 24).run Try.prog W = .ok (.agg (rowOf (zbytes 16))) W := by kernel_rfl
theorem i16_ : (Try.prog.info? 24).map (·.size) = some 16 := by kernel_rfl
theorem size16 (W : World) : (sizeOf (Try.prog.elem 24)).run Try.prog W = .ok 1 W := by
  have he : Try.prog.elem 24 = 5 := by kernel_rfl
  rw [he]
  obtain ⟨i, hi, hz, hsize, hby⟩ := info_parts info8
  simp [sizeOf, typeInfo, hi, hsize]
theorem slice_to16 (g k : Nat) (hk : k ≤ 16) (W : World) :
    (Instr.sliceAt 24 (.pointer (some ⟨g, 0, none⟩)) none (some (.int .i64 (k : Int))) none).run Try.prog W = .ok (.slice (some ⟨g, 0, none⟩) k 16) W := by
  have he : Try.prog.elem 24 = 5 := by kernel_rfl
  have hn : Try.prog.arrayLen 24 = 16 := by kernel_rfl
  have ht : Try.prog.underlying 24 = some (.array (Try.prog.arrayLen 24) (Try.prog.elem 24)) := by rw [he, hn]; exact Try.underlying24
  rw [run_sliceAt_array_h W 24 ⟨g, 0, none⟩ ht .i64 k (by omega) (by rw [hn]; omega), size16, hn]
  simp only [Result.andThen, slicedAt, Int.toNat_natCast, Nat.mul_one]
  rw [if_neg (by omega)]
  congr 3
set_option maxRecDepth 100000 in
theorem slice_from16 (g k : Nat) (hk : k < 16) (W : World) :
    (Instr.sliceAt 24 (.pointer (some ⟨g, 0, none⟩)) (some (.int .i64 (k : Int))) none none).run Try.prog W = .ok (.slice (some ⟨g, k, none⟩) (16 - k) (16 - k)) W := by
  have he : Try.prog.elem 24 = 5 := by kernel_rfl
  have hn : Try.prog.arrayLen 24 = 16 := by kernel_rfl
  have ht : Try.prog.underlying 24 = some (.array (Try.prog.arrayLen 24) (Try.prog.elem 24)) := by rw [he, hn]; exact Try.underlying24
  rw [run_sliceAt_array_l W 24 ⟨g, 0, none⟩ ht .i64 k (by omega) (by rw [hn]; omega), size16, hn]
  simp only [Result.andThen, slicedAt, Int.toNat_natCast, Nat.mul_one]
  rw [if_neg (by omega)]
  congr 3
  unfold Addr.add
  split
  · congr 1; omega
  · simp
set_option maxRecDepth 100000 in
theorem slice_all16 (g : Nat) (W : World) :
    (Instr.sliceAt 24 (.pointer (some ⟨g, 0, none⟩)) none none none).run Try.prog W = .ok (.slice (some ⟨g, 0, none⟩) 16 16) W := by
  have he : Try.prog.elem 24 = 5 := by kernel_rfl
  have hn : Try.prog.arrayLen 24 = 16 := by kernel_rfl
  have ht : Try.prog.underlying 24 = some (.array (Try.prog.arrayLen 24) (Try.prog.elem 24)) := by rw [he, hn]; exact Try.underlying24
  rw [run_sliceAt_array_all W 24 ⟨g, 0, none⟩ ht, size16, hn]
  simp only [Result.andThen, slicedAt, Nat.mul_one]
  rw [if_neg (by omega)]
  congr 3

set_option maxRecDepth 100000 in
set_option maxHeartbeats 2000000 in
theorem nLowest_any (n : N5) (hn : n.le 1000000000000000000) (w : World) :
    Calls Try.prog 48 #[.agg (nRow n)] w fun e w' => e = .returned (.agg (rowOf (lowB 16 (n.val % 340282366920938463463374607431768211456).toNat))) ∧ Below w.heap.size w w' := by
  have hz := zN
  have hz16 := z16
  have cc := fun W => carried_any n hn W
  have hle := carryN_le n
  have hval : (n.val % 340282366920938463463374607431768211456) = lowW (carryN n) + 18446744073709551616 * highW (carryN n) := by
    rw [words_val hle, carryN_val n, show (1361129467683753853853498429727072845824 : Int) = 340282366920938463463374607431768211456 * 4 by decide, Int.mul_assoc, Int.add_mul_emod_self_left]
  obtain ⟨q, hq⟩ : ∃ q, Hid (carryN n = q) := ⟨_, rfl⟩
  rw [hq.out] at cc hle hval
  obtain ⟨v, hv⟩ : ∃ v, Hid (c5 n = v) := ⟨_, rfl⟩
  rw [hv.out] at cc
  obtain ⟨ha, hb, hc, hd, he⟩ := hle
  have e1 : lowW q = q.a + q.b * 67108864 + q.c * 4503599627370496 % 18446744073709551616 := by unfold lowW; omega
  have e2 : highW q = q.c / 4096 + q.d * 16384 + q.e * 1099511627776 % 18446744073709551616 := by unfold highW; omega
  have o1 := or_lo q.a (q.b * 67108864) q.b 26 67108864 (by decide) ha.1 (by omega) rfl hb.1 (by omega)
  have o2 := or_lo (q.a + q.b * 67108864) (q.c * 4503599627370496 % 18446744073709551616) (q.c % 4096) 52 4503599627370496 (by decide) (by omega) (by omega) (by omega) (by omega) (by omega)
  have o3 := or_lo (q.c / 4096) (q.d * 16384) q.d 14 16384 (by decide) (by omega) (by omega) rfl hd.1 (by omega)
  have o4 := or_lo (q.c / 4096 + q.d * 16384) (q.e * 1099511627776 % 18446744073709551616) (q.e % 16777216) 40 1099511627776 (by decide) (by omega) (by omega) (by omega) (by omega) (by omega)
  obtain ⟨X1, hX1⟩ := Int.eq_ofNat_of_zero_le (show 0 ≤ lowW q by unfold lowW; omega)
  obtain ⟨X2, hX2⟩ := Int.eq_ofNat_of_zero_le (show 0 ≤ highW q by unfold highW; omega)
  have l1' : lowW q < 18446744073709551616 := by unfold lowW; omega
  have l2' : highW q < 18446744073709551616 := by unfold highW; omega
  have l1 : X1 ≤ 18446744073709551615 := by omega
  have l2 : X2 ≤ 18446744073709551615 := by omega
  clear l1' l2'
  have hres : Hid (lowB 16 (n.val % 340282366920938463463374607431768211456).toNat = lowB 8 X1 ++ lowB 8 X2) := by
    show _ = _
    rw [lowB_two X1 X2 (by omega), hval, hX1, hX2]
    congr 1
  have w1 : IntKind.u64.wrap (q.c * 4503599627370496) = q.c * 4503599627370496 % 18446744073709551616 := by rw [IntKind.wrap_u64]
  have w2 : IntKind.u64.wrap (q.e * 1099511627776) = q.e * 1099511627776 % 18446744073709551616 := by rw [IntKind.wrap_u64]
  have w3 : IntKind.u64.wrap (q.b * 67108864) = q.b * 67108864 := IntWalk.u64_in _ (by omega)
  have w4 : IntKind.u64.wrap (q.d * 16384) = q.d * 16384 := IntWalk.u64_in _ (by omega)
  rw [e1] at hX1
  rw [e2] at hX2
  have d1 : ∀ W : World, Calls Try.prog 73 #[.int .u64 (q.a + q.b * 67108864 + q.c * 4503599627370496 % 18446744073709551616), .int .i64 8] W fun e w' => e = .returned (.slice (some ⟨W.heap.size, 0, none⟩) 8 8) ∧ W.alloc (.cells (rowOf (lowB 8 X1)) 5) = w' := fun W => by
    rw [hX1]; exact putLow_any X1 8 8 l1 (by omega) (by omega) (by omega) W
  have d2 : ∀ W : World, Calls Try.prog 73 #[.int .u64 (q.c / 4096 + q.d * 16384 + q.e * 1099511627776 % 18446744073709551616), .int .i64 8] W fun e w' => e = .returned (.slice (some ⟨W.heap.size, 0, none⟩) 8 8) ∧ W.alloc (.cells (rowOf (lowB 8 X2)) 5) = w' := fun W => by
    rw [hX2]; exact putLow_any X2 8 8 l2 (by omega) (by omega) (by omega) W
  have e5 : ∀ m : N5, (Try.prog.info? 76).map (·.size) = some (nRow m).size := fun m => i5_
  have E5 := hid_ e5
  have e16 : ∀ l : List UInt8, l.length = 16 → (Try.prog.info? 24).map (·.size) = some (rowOf l).size := fun l h => by rw [rowOf_size, h]; exact i16_
  have E16 := hid_ e16
  obtain ⟨w0, hw0⟩ : ∃ w0, Hid ((w.alloc (.cells (nRow n) 76)).alloc (.cells (rowOf (zbytes 16)) 24) = w0) := ⟨_, rfl⟩
  have a0 : Bk w0 w.heap.size 76 (nRow n) := by rw [← hw0.out]; exact (Bk.new w _ _).alloc _
  have a1 : Bk w0 (w.heap.size + 1) 24 (rowOf (zbytes 16)) := by rw [← hw0.out]; simpa using Bk.new (w.alloc (.cells (nRow n) 76)) 24 (rowOf (zbytes 16))
  have hb0 : Below w.heap.size w w0 := by rw [← hw0.out]; exact ((Below.refl _ _).alloc (Nat.le_refl _) _).alloc (by simp) _
  have A0 := hid_ a0
  have A1 := hid_ a1
  have HB := hid_ hb0
  have hl1 := a1.lt
  clear e5 e16 a0 a1 hb0 hval e1 e2 hX1 hX2 hn
  go_enter Try.func48, Try.ntmps48
  go_upto_region 1 with fail
  rw [hw0.out]
  go_upto_region 3 with (first
    | (refine wpList_load_row rfl 76 (.tmp 1) rfl w.heap.size rfl 76 (nRow n) (0, 0) _ A0.out Try.underlying76 rfl (E5.out _) ?_)
    | (go_at_call 72; ((with_reducible refine (cc _).mono ?_); rintro e w4 ⟨rfl, hb4⟩);
       have A4 := hid_ (A0.out.below hb4 A0.out.lt); have A5 := hid_ (A1.out.below hb4 A1.out.lt); have HB4 := hid_ (HB.out.trans (hb4.mono HB.out.size)))
    | (refine wpList_put_row rfl 76 (.tmp 1) (.tmp 7) rfl w.heap.size (nRow q) rfl rfl 76 (nRow n) A4.out (E5.out _) rfl (nRow_one _) ?_; intro w5 k5 g5 s5))
  obtain ⟨w6, hw6⟩ : ∃ w6, Hid (w5.alloc (.cells (rowOf (zbytes 16)) 24) = w6) := ⟨_, rfl⟩
  rw [hw6.out]
  have hs4 : w4.heap.size = w5.heap.size := s5.symm
  have hl4 := A5.out.lt
  obtain ⟨D, hD⟩ : ∃ D, Hid (w4.heap.size = D) := ⟨_, rfl⟩
  have D6 : Bk w6 D 24 (rowOf (zbytes 16)) := by rw [← hw6.out, ← hD.out, hs4]; exact Bk.new w5 _ _
  have K6 : Bk w6 w.heap.size 76 (nRow q) := by rw [← hw6.out]; exact k5.alloc _
  have A6 : Bk w6 (w.heap.size + 1) 24 (rowOf (zbytes 16)) := by rw [← hw6.out]; exact (A5.out.grown g5 (fun e => by injection e with e; omega)).alloc _
  have X6 : Below w.heap.size w w6 := by rw [← hw6.out]; exact ((HB4.out.grown g5 HB4.out.size (fun i hi => by injection hi with hi; omega))).alloc (by rw [← hs4]; exact HB4.out.size) _
  have hDb : w.heap.size + 1 < D := by rw [← hD.out]; exact hl4
  rw [hD.out]
  have ca : w6.cell? ⟨w.heap.size, 0, none⟩ = some (.int .u64 q.a) := K6.cell 0
  have cb : w6.cell? ⟨w.heap.size, 1, none⟩ = some (.int .u64 q.b) := K6.cell 1
  have cC : w6.cell? ⟨w.heap.size, 2, none⟩ = some (.int .u64 q.c) := K6.cell 2
  have HD6 := hid_ D6
  have HK6 := hid_ K6
  have HA6 := hid_ A6
  have HX6 := hid_ X6
  have s1 := slice_to16 D 8 (by omega)
  have s2 := slice_from16 D 8 (by omega)
  clear D6 K6 A6 X6 k5 g5 s5 hs4 hl4 A4 A5 HB4 A0 A1 HB cc
  have hfit1 : 0 + 8 ≤ (rowOf (zbytes 16)).size := by rw [rowOf_size, zbytes_len]; omega
  have HF1 := hid_ hfit1
  clear hfit1
  have hla1 : laid (zbytes 16) 0 (lowB 8 X1) = lowB 8 X1 ++ zbytes 8 := by
    unfold laid zbytes
    rw [List.take_zero, List.nil_append, List.drop_replicate, lowB_len]
  have HLA1 := hid_ hla1
  clear hla1
  have hlD := HD6.out.lt
  go_cut [3] (fun s3 wx => s3 = .pointer (some ⟨D, 0, none⟩) ∧ Hid (Bk wx D 24 (rowOf (lowB 8 X1 ++ zbytes 8))) ∧ Hid (Bk wx w.heap.size 76 (nRow q)) ∧ Hid (Bk wx (w.heap.size + 1) 24 (rowOf (zbytes 16))) ∧ Hid (Below w.heap.size w wx))
  case first =>
    clear s2 d2
    go_region_law (first
      | (refine step_copy8 rfl (.tmp 9) (.tmp 20) rfl D 0 8 16 rfl (some ⟨w6.heap.size, 0, none⟩) 8 8 rfl (lowB 8 X1) 8 (lowB_len _ _) (by omega) rfl D ((Blk8.new w6.drew (lowB 8 X1)).rdn (by show w6.heap.size ≠ D; omega)) 24 (rowOf (zbytes 16)) (HD6.out.drew.alloc _) HF1.out ?_; intro w9 k9 g9 s9; rw [row_laid, HLA1.out] at k9)
      | (go_simp; go_at_call 73; ((with_reducible refine (d1 _).mono ?_); rintro e w8 ⟨rfl, rfl⟩)))
    all_goals
      have K9 : Bk w9 w.heap.size 76 (nRow q) := (HK6.out.drew.alloc (.cells (rowOf (lowB 8 X1)) 5)).grown g9 (fun e => by injection e with e; omega)
      have A9 : Bk w9 (w.heap.size + 1) 24 (rowOf (zbytes 16)) := (HA6.out.drew.alloc (.cells (rowOf (lowB 8 X1)) 5)).grown g9 (fun e => by injection e with e; omega)
      have X9 : Below w.heap.size w w9 := (HX6.out.drew.alloc HX6.out.size (.cells (rowOf (lowB 8 X1)) 5)).grown g9 (by have := HX6.out.size; simp; omega) (fun i hi => by injection hi with hi; omega)
      go_wp2
      go_meet
      exact ⟨rfl, k9, K9, A9, X9⟩
  case rest =>
    obtain ⟨rfl, HD7, HK7, HA7, HX7⟩ := hcut
    clear HD6 HK6 HA6 HX6 d1 HF1 HLA1 hlD
    have K9 := HK7.out
    have cC : wc.cell? ⟨w.heap.size, 2, none⟩ = some (.int .u64 q.c) := K9.cell 2
    have cd : wc.cell? ⟨w.heap.size, 3, none⟩ = some (.int .u64 q.d) := K9.cell 3
    have ce : wc.cell? ⟨w.heap.size, 4, none⟩ = some (.int .u64 q.e) := K9.cell 4
    have hlD := HD7.out.lt
    have hfit2 : 8 + 8 ≤ (rowOf (lowB 8 X1 ++ zbytes 8)).size := by rw [rowOf_size, List.length_append, lowB_len, zbytes_len]; omega
    have HF2 := hid_ hfit2
    have hla2 : laid (lowB 8 X1 ++ zbytes 8) 8 (lowB 8 X2) = lowB 16 (n.val % 340282366920938463463374607431768211456).toNat := by
      have h := laid_app (lowB 8 X1) (zbytes 8) (lowB 8 X2)
      rw [lowB_len] at h
      rw [h, hres.out]
      simp [zbytes, lowB_len]
    have HLA2 := hid_ hla2
    obtain ⟨R, hR⟩ : ∃ R, Hid (lowB 16 (n.val % 340282366920938463463374607431768211456).toNat = R) := ⟨_, rfl⟩
    have hRl : R.length = 16 := by rw [← hR.out]; exact lowB_len _ _
    rw [hR.out] at HLA2
    clear hfit2 hla2 K9
    go_upto_region 4 with fail
    go_cut [3] (fun s3 wx => s3 = .pointer (some ⟨D, 0, none⟩) ∧ Hid (Bk wx D 24 (rowOf R)) ∧ Hid (Bk wx (w.heap.size + 1) 24 (rowOf (zbytes 16))) ∧ Hid (Below w.heap.size w wx))
    case first =>
      go_region_law (first
        | (refine step_copy8 rfl (.tmp 22) (.tmp 34) rfl D 8 8 8 rfl (some ⟨wc.heap.size, 0, none⟩) 8 8 rfl (lowB 8 X2) 8 (lowB_len _ _) (by omega) rfl D ((Blk8.new wc.drew (lowB 8 X2)).rdn (by show wc.heap.size ≠ D; omega)) 24 (rowOf (lowB 8 X1 ++ zbytes 8)) (HD7.out.drew.alloc _) HF2.out ?_; intro w9 k9 g9 s9; rw [row_laid, HLA2.out] at k9)
        | (go_simp; go_at_call 73; ((with_reducible refine (d2 _).mono ?_); rintro e w8 ⟨rfl, rfl⟩)))
      all_goals
        have A9 : Bk w9 (w.heap.size + 1) 24 (rowOf (zbytes 16)) := (HA7.out.drew.alloc (.cells (rowOf (lowB 8 X2)) 5)).grown g9 (fun e => by injection e with e; omega)
        have X9 : Below w.heap.size w w9 := (HX7.out.drew.alloc HX7.out.size (.cells (rowOf (lowB 8 X2)) 5)).grown g9 (by have := HX7.out.size; simp; omega) (fun i hi => by injection hi with hi; omega)
        go_wp2
        go_meet
        exact ⟨rfl, k9, A9, X9⟩
    case rest =>
      obtain ⟨rfl, HD8, HA8, HX8⟩ := hcut
      have k11 := HD8.out
      have A11 := HA8.out
      go_wp2_with (first
        | (refine wpList_load_row rfl 24 (.tmp 3) rfl D rfl 24 (rowOf R) (0, 0) _ k11 Try.underlying24 rfl (E16.out _ hRl) ?_)
        | (refine wpList_put_row rfl 24 (.tmp 2) (.tmp 36) rfl (w.heap.size + 1) (rowOf R) rfl rfl 24 (rowOf (zbytes 16)) A11 (E16.out _ hRl) (by rw [rowOf_size, rowOf_size, hRl, zbytes_len]) (bytes_one _) ?_; intro w12 k12 g12 s12))
      exact bodyPost_ret (results_cell_row Try.results48 _ _ (w.heap.size + 1) 24 _ (0, 0) _ rfl k12 Try.underlying24 rfl (E16.out _ hRl)) rfl ⟨by rw [hR.out], HX8.out.grown g12 HX8.out.size (fun i hi => by injection hi with hi; omega)⟩
end Go.Proofs.Ytopmngjaieobnaa
