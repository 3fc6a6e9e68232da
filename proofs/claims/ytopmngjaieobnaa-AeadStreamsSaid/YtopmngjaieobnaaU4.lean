/-
  Contract: the reference's Poly1305: fold.
-/
import Derived.Test.YtopmngjaieobnaaU3
import Derived.Test.YtopmngjaieobnaaQt
import Derived.IntWalk
namespace Go.Proofs.Ytopmngjaieobnaa
open Go.RowKit
set_option linter.unusedVariables false

/-- The first i digits, and noughts. -/
def lowI (y : Int) (i : Nat) : List Int := digI i y ++ List.replicate (34 - i) 0
theorem lowI_len (y : Int) (i : Nat) (h : i ≤ 34) : (lowI y i).length = 34 := by simp [lowI, digI_len]; omega
theorem lowI_zero (y : Int) : lowI y 0 = zerosI := by simp [lowI, digI, zerosI]
theorem lowI_set (y : Int) (i : Nat) (h : i < 34) (v : Int) : (lowI y i).set i v = digI i y ++ v :: List.replicate (34 - (i + 1)) 0 := by
  obtain ⟨m, hm⟩ : ∃ m, 34 - i = m + 1 := ⟨34 - i - 1, by omega⟩
  unfold lowI
  rw [List.set_append_right _ _ (by rw [digI_len]; omega), digI_len, Nat.sub_self, hm, List.replicate_succ, List.set_cons_zero, show 34 - (i + 1) = m by omega]
theorem lowI_step (y : Int) (i : Nat) (h : i < 34) : (lowI y i).set i (y / 256 ^ i % 256) = lowI y (i + 1) := by
  rw [lowI_set y i h, lowI, dig_snoc, List.append_assoc, List.singleton_append]
theorem lowI_step2 (y : Int) (i : Nat) (h : i < 34) (v : Int) : ((lowI y i).set i v).set i (y / 256 ^ i % 256) = lowI y (i + 1) := by
  rw [List.set_set, lowI_step y i h]
theorem low16_val (y : Int) : vI ((lowI y 16).set 16 (y / 256 ^ 16 % 256 % 4)) = y % 1361129467683753853853498429727072845824 := by
  rw [lowI_set y 16 (by omega), ← low_val, vI_append, vI_append]
  simp only [vI, vI_zeros]
theorem low16_rng (y : Int) : rngI 255 ((lowI y 16).set 16 (y / 256 ^ 16 % 256 % 4)) := by
  refine rngI.set ?_ 16 (by omega) (by omega)
  intro x hx
  rcases List.mem_append.1 hx with h | h
  · exact rngI_dig _ _ x h
  · rw [List.eq_of_mem_replicate h]; omega
theorem hi_row (y : Int) (h0 : 0 ≤ y) (h : y < 256 ^ 34) : lowI (hiV y) 18 = digI 34 (hiV y) := by
  rw [lowI, dig_more 18 16 _ (hi_nonneg y h0) (hi_lt y h)]
theorem vI_dig_succ (z : Int) (i : Nat) : vI (digI (i + 1) z) = vI (digI i z) + 256 ^ i * (z / 256 ^ i % 256) := by
  rw [dig_snoc, vI_append, digI_len]
  simp [vI]
theorem fold_end (y : Int) (h0 : 0 ≤ y) (h : y < 256 ^ 34) : y % 1361129467683753853853498429727072845824 + 5 * vI (digI 34 (hiV y)) = foldV y := by
  have h1 := hi_nonneg y h0
  have h2 := hi_lt y h
  have e : (256 : Int) ^ 18 = 22300745198530623141535718272648361505980416 := by decide
  have e2 : (256 : Int) ^ 34 = 7588550360256754183279148073529370729071901715047420004889892225542594864082845696 := by decide
  rw [e] at h2
  rw [vI_dig, e2, Int.emod_eq_of_lt h1 (by omega)]
  rfl
theorem fold_start {v r : Int} (h : v = r) (q : Int) : Hid (v = r + 5 * vI (digI 0 q)) := by
  subst h
  show v = v + 5 * 0
  omega
theorem sub_get (E Y : List Int) (j : Nat) (he : E.length = 34) (hy : Y.length = 34) (h : j < 34) : (E.take j ++ Y.drop j).getD j 0 = Y.getD j 0 := by
  have h1 : (E.take j).length = j := by rw [List.length_take]; omega
  unfold List.getD
  rw [List.getElem?_append_right (by omega), h1, Nat.sub_self, List.getElem?_drop, Nat.add_zero]
theorem sub_set (E Y : List Int) (j : Nat) (he : E.length = 34) (hy : Y.length = 34) (h : j < 34) : (E.take j ++ Y.drop j).set j (E.getD j 0) = E.take (j + 1) ++ Y.drop (j + 1) := by
  have h1 : (E.take j).length = j := by rw [List.length_take]; omega
  have h2 : E.getD j 0 = E[j]'(by omega) := by simp [List.getD, show j < E.length by omega]
  rw [List.set_append_right _ _ (by omega), h1, Nat.sub_self, List.drop_eq_getElem_cons (by omega), List.set_cons_zero, List.take_succ_eq_append_getElem (by omega), h2, List.append_assoc]
  rfl
theorem sub_len (E Y : List Int) (j : Nat) (he : E.length = 34) (hy : Y.length = 34) (h : j ≤ 34) : (E.take j ++ Y.drop j).length = 34 := by
  rw [List.length_append, List.length_take, List.length_drop]; omega
/-- The memory of a fold but its two rows: y's digits, and the answer's. -/
def FoldC (g L : Nat) (y : Int) (w W : World) : Prop := Bk W g 82 (rowI (digI 34 y)) ∧ Bk W (g + 1) 82 (rowI zerosI) ∧ Below g w W ∧ g + 1 < L
theorem FoldC.set {g L : Nat} {y : Int} {w W : World} (h : FoldC g L y w W) {p : Addr} (hp : L ≤ p.block) (u : Value) : FoldC g L y w (W.setCell p u) :=
  ⟨h.1.far (by have := h.2.2.2; omega) u, h.2.1.far (by have := h.2.2.2; omega) u, h.2.2.1.setCell (by have := h.2.2.2; omega) u, h.2.2.2⟩
theorem FoldC.drewN {g L : Nat} {y : Int} {w W : World} (h : FoldC g L y w W) (n : Nat) : FoldC g L y w (W.drewN n) :=
  ⟨h.1.drewN n, h.2.1.drewN n, below_drewN h.2.2.1 n, h.2.2.2⟩

set_option maxRecDepth 100000 in
set_option maxHeartbeats 4000000 in
theorem fold_any (x : Int) (w : World) (hx : 0 ≤ x ∧ x < 256 ^ 34) :
    Calls Try.prog 50 #[.agg (rowI (digI 34 x))] w fun e w' => e = .returned (.agg (rowI (digI 34 (x % pI)))) ∧ Below w.heap.size w w' := by
  have hz := z34
  obtain ⟨g, hg⟩ : ∃ g, Hid (w.heap.size = g) := ⟨_, rfl⟩
  obtain ⟨w0, hw0⟩ : ∃ W, Hid ((w.alloc (.cells (rowI (digI 34 x)) 82)).alloc (.cells (rowI zerosI) 82) = W) := ⟨_, rfl⟩
  have HG : Hid (Bk w0 g 82 (rowI (digI 34 x))) := hidu_ (by rw [← hw0.out, ← hg.out]; exact (Bk.new w _ _).alloc _)
  have HZ : Hid (Bk w0 (g + 1) 82 (rowI zerosI)) := hidu_ (by
    have h := Bk.new (w.alloc (.cells (rowI (digI 34 x)) 82)) 82 (rowI zerosI)
    rw [← hw0.out, ← hg.out]
    simpa using h)
  have HB : Hid (Below g w w0) := hidu_ (by rw [← hw0.out, ← hg.out]; exact ((Below.refl _ _).alloc (Nat.le_refl _) _).alloc (by simp) _)
  have hI : ∀ l : List Int, l.length = 34 → (Try.prog.info? 82).map (·.size) = some (rowI l).size := i34
  have HI := hidu_ hI
  have HX := hidu_ hx
  clear hI hx
  go_enter Try.func50, Try.ntmps50
  go_upto_region 1 with fail
  rw [hg.out, hw0.out]
  go_wp2
  go_loopw [3] (fun i wr => ∃ k : Nat, k ≤ 4 ∧ i = .int .i64 k ∧ Bk wr g 82 (rowI (digI 34 (foldsV k x))) ∧ Bk wr (g + 1) 82 (rowI zerosI) ∧ Below g w wr) (fun i _ => 4 - (intOf i).toNat)
  case atStart => exact ⟨0, by omega, rfl, HG.out, HZ.out, HB.out⟩
  case round =>
    obtain ⟨k, hk, rfl, b0, b1, bb⟩ := hrel
    have B0 := hidu_ b0
    have B1 := hidu_ b1
    have BB := hidu_ bb
    have hyb := hidu_ (foldsV_bd x HX.out.1 HX.out.2 k)
    clear b0 b1 bb HG HZ HB
    by_cases hlt : k < 4
    · have hd4 : decide ((k : Int) < 4) = true := decide_eq_true (by omega)
      have hfs : Hid (foldsV (k + 1) x = foldV (foldsV k x)) := hidu_ rfl
      generalize foldsV k x = y at *
      obtain ⟨L, hL⟩ : ∃ L, Hid (wr.heap.size = L) := ⟨_, rfl⟩
      obtain ⟨w1, hw1⟩ : ∃ W, Hid ((wr.alloc (.cells (rowI zerosI) 82)).alloc (.cells (rowI zerosI) 82) = W) := ⟨_, rfl⟩
      have hgL : g + 1 < L := by rw [← hL.out]; exact B1.out.lt
      have F1 : Hid (FoldC g L y w w1) := hidu_ (by
        rw [← hw1.out]
        exact ⟨(B0.out.alloc _).alloc _, (B1.out.alloc _).alloc _, (BB.out.alloc (by rw [hL.out]; omega) _).alloc (by simp; rw [hL.out]; omega) _, hgL⟩)
      have L1 : Hid (Bk w1 L 82 (rowI zerosI)) := hidu_ (by rw [← hw1.out, ← hL.out]; exact (Bk.new wr _ _).alloc _)
      have H1 : Hid (Bk w1 (L + 1) 82 (rowI zerosI)) := hidu_ (by
        have h := Bk.new (wr.alloc (.cells (rowI zerosI) 82)) 82 (rowI zerosI)
        rw [← hw1.out, ← hL.out]
        simpa using h)
      have hs1 : (wr.alloc (.cells (rowI zerosI) 82)).heap.size = L + 1 := by rw [← hL.out]; simp
      clear B0 B1 BB
      go_upto_region 5 with fail
      first | rw [hs1] | skip
      rw [hL.out, hw1.out]
      clear hs1
      go_wp2
      go_loopw [6] (fun i wr => ∃ k : Nat, k ≤ 16 ∧ i = .int .i64 k ∧ Hid (FoldC g L y w wr) ∧ Hid (Bk wr L 82 (rowI (lowI y k))) ∧ Hid (Bk wr (L + 1) 82 (rowI zerosI))) (fun i _ => 16 - (intOf i).toNat)
      case atStart => exact ⟨0, by omega, rfl, F1, by rw [lowI_zero]; exact L1, H1⟩
      case round =>
        obtain ⟨i, hi, rfl, FC, BL, BH⟩ := hrel
        clear F1 L1 H1 hw1 hL
        by_cases hlt2 : i < 16
        · have hc := FC.out.1.cell i
          rw [rowI_at _ _ (by rw [digI_len]; omega), dig_getD _ _ _ (by omega)] at hc
          have hf := BL.out.frozen i
          have hc2 := BL.out.cell i
          rw [rowI_at _ _ (by rw [lowI_len _ _ (by omega)]; omega)] at hc2
          have hset := BL.out.set_ i (.int .i64 (y / 256 ^ i % 256))
          rw [rowI_set, lowI_step y i (by omega)] at hset
          have HS := hidu_ hset
          have HF := hidu_ (FC.out.set (p := ⟨L, i, none⟩) (Nat.le_refl _) (.int .i64 (y / 256 ^ i % 256)))
          have HH := hidu_ (BH.out.far (p := ⟨L, i, none⟩) (by simp) (.int .i64 (y / 256 ^ i % 256)))
          have t0 : (0 : Int) ≤ (i : Int) := by omega
          have t1 : (i : Int) < 34 := by omega
          clear hset
          generalize y / 256 ^ i % 256 = v at *
          generalize (lowI y i).getD i 0 = v0 at *
          go_wp2
          go_roundw
          case rel => exact ⟨i + 1, by omega, by go_num, HF, HS, HH⟩
          case measure => simp [intOf]; omega
        · have e16 : i = 16 := by omega
          rw [e16] at BL
          have hd16 : decide ((i : Int) < 16) = false := decide_eq_false (by omega)
          clear e16
          have hc := FC.out.1.cell 16
          rw [rowI_at _ _ (by rw [digI_len]; omega), dig_getD _ _ _ (by omega)] at hc
          have hf := BL.out.frozen 16
          have hc2 := BL.out.cell 16
          rw [rowI_at _ _ (by rw [lowI_len _ _ (by omega)]; omega)] at hc2
          have hset := BL.out.set_ 16 (.int .i64 (y / 256 ^ 16 % 256 % 4))
          rw [rowI_set] at hset
          have LV := hidu_ (low16_val y)
          have LR := hidu_ (low16_rng y)
          have LL := hidu_ (show ((lowI y 16).set 16 (y / 256 ^ 16 % 256 % 4)).length = 34 by rw [List.length_set, lowI_len _ _ (by omega)])
          have HS := hidu_ hset
          have HF := hidu_ (FC.out.set (p := ⟨L, 16, none⟩) (Nat.le_refl _) (.int .i64 (y / 256 ^ 16 % 256 % 4)))
          have HH := hidu_ (BH.out.far (p := ⟨L, 16, none⟩) (by simp) (.int .i64 (y / 256 ^ 16 % 256 % 4)))
          have hv0 : 0 ≤ y / 256 ^ 16 % 256 := by omega
          have hv1 : y / 256 ^ 16 % 256 ≤ 255 := by omega
          clear hset FC BL BH
          generalize (lowI y 16).set 16 (y / 256 ^ 16 % 256 % 4) = l0 at *
          generalize y / 256 ^ 16 % 256 = v at *
          generalize (lowI y 16).getD 16 0 = v0 at *
          go_upto_region 10 with fail
          obtain ⟨w2, hw2⟩ : ∃ W, Hid (wr.setCell ⟨L, 16, none⟩ (.int .i64 (v % 4)) = W) := ⟨_, rfl⟩
          rw [hw2.out] at HS HF HH ⊢
          clear hc hf hc2 hv0 hv1 hw2
          go_wp2
          go_loopw [7] (fun i wr => ∃ k : Nat, k ≤ 18 ∧ i = .int .i64 k ∧ Hid (FoldC g L y w wr) ∧ Hid (Bk wr L 82 (rowI l0)) ∧ Hid (Bk wr (L + 1) 82 (rowI (lowI (hiV y) k)))) (fun i _ => 18 - (intOf i).toNat)
          case atStart => exact ⟨0, by omega, rfl, HF, HS, by rw [lowI_zero]; exact HH⟩
          case round =>
            obtain ⟨i, hi, rfl, FC, BL, BH⟩ := hrel
            clear HF HS HH
            by_cases hlt3 : i < 18
            · have hd18 : decide ((i : Int) < 18) = true := decide_eq_true (by omega)
              have hc := FC.out.1.cell (16 + i)
              rw [rowI_at _ _ (by rw [digI_len]; omega), dig_getD _ _ _ (by omega)] at hc
              have hf := BH.out.frozen i
              have hc2 := BH.out.cell i
              rw [rowI_at _ _ (by rw [lowI_len _ _ (by omega)]; omega)] at hc2
              have hset := BH.out.set_ i (.int .i64 (y / 256 ^ (16 + i) % 256 / 4))
              rw [rowI_set] at hset
              have HF := hidu_ (FC.out.set (p := ⟨L + 1, i, none⟩) (by simp) (.int .i64 (y / 256 ^ (16 + i) % 256 / 4)))
              have HL := hidu_ (BL.out.far (p := ⟨L + 1, i, none⟩) (by simp) (.int .i64 (y / 256 ^ (16 + i) % 256 / 4)))
              have hv0 : 0 ≤ y / 256 ^ (16 + i) % 256 := by omega
              have hv1 : y / 256 ^ (16 + i) % 256 ≤ 255 := by omega
              have t0 : (0 : Int) ≤ (i : Int) := by omega
              have t1 : (i : Int) < 34 := by omega
              have t2 : (16 : Int) + (i : Int) < 34 := by omega
              have t3 : ((16 : Int) + (i : Int)).toNat = 16 + i := by omega
              have HD := hidu_ (hi_digit y i)
              have HT := hidu_ (lowI_step2 (hiV y) i (by omega) (y / 256 ^ (16 + i) % 256 / 4))
              have HL2 := hidu_ (lowI_len (hiV y) i (by omega))
              by_cases h17 : i < 17
              · have HS := hidu_ hset
                have hc3 := HF.out.1.cell (17 + i)
                rw [rowI_at _ _ (by rw [digI_len]; omega), dig_getD _ _ _ (by omega)] at hc3
                have hu0 : 0 ≤ y / 256 ^ (17 + i) % 256 := by omega
                have hu1 : y / 256 ^ (17 + i) % 256 ≤ 255 := by omega
                obtain ⟨z, hz⟩ : ∃ z, Hid (hiV y / 256 ^ i % 256 = z) := ⟨_, rfl⟩
                rw [hz.out] at HT HD
                have hd0 := HD.out
                clear hset
                generalize y / 256 ^ (16 + i) % 256 = v at *
                generalize y / 256 ^ (17 + i) % 256 = u at *
                have t4 : (17 : Int) + (i : Int) < 34 := by omega
                have t5 : ((17 : Int) + (i : Int)).toNat = 17 + i := by omega
                have hset2 := HS.out.set_ i (.int .i64 z)
                rw [rowI_set, HT.out] at hset2
                have HS2 := hidu_ hset2
                have HF2 := hidu_ (HF.out.set (p := ⟨L + 1, i, none⟩) (by simp) (.int .i64 z))
                have HL3 := hidu_ (HL.out.far (p := ⟨L + 1, i, none⟩) (by simp) (.int .i64 z))
                have hc4 := HS.out.cell i
                rw [rowI_at _ _ (by rw [List.length_set, HL2.out]; omega)] at hc4
                have hg4 : ((lowI (hiV y) i).set i (v / 4)).getD i 0 = v / 4 := by
                  have := HL2.out
                  simp [List.getD, show i < (lowI (hiV y) i).length by omega]
                rw [hg4] at hc4
                have hf4 := HS.out.frozen i
                have hzz : Hid (v / 4 + u % 4 * 64 = z) := hidu_ hd0
                have HG4 := hidu_ hg4
                have HB4 := HS
                have HF3 := HF
                clear hset2 hg4 hd0
                generalize (lowI (hiV y) i).getD i 0 = v0 at *
                go_upto_region 15 with fail
                obtain ⟨w2, hw2⟩ : ∃ W, Hid (wr.setCell ⟨L + 1, i, none⟩ (.int .i64 (v / 4)) = W) := ⟨_, rfl⟩
                rw [hw2.out] at HS2 HF2 HL3 hc3 hc4 hf4 HB4 HF3 ⊢
                clear hc hf hc2 HS HF HL hw2 HD HT
                have q1 : IntKind.i64.wrap (17 + (i : Int)) = 17 + (i : Int) := IntWalk.i64_in _ (by omega)
                refine region_quiet_tail_lit 12 (by kernel_rfl) (by kernel_rfl) ?_
                simp only [List.take_succ_cons, List.take_zero]
                repeat (go_big_quiet_step (fail))
                refine wpQuiet_nil ?_
                intro w' hw'
                obtain ⟨nq, rfl⟩ := hw'
                simp only [List.drop_succ_cons, List.drop_zero]
                rw [hzz.out]
                have A1 := hidu_ (HF3.out.drewN nq)
                have hf5 := (HB4.out.drewN nq).frozen i
                have hc5 := (HB4.out.drewN nq).cell i
                rw [rowI_at _ _ (by rw [List.length_set, HL2.out]; omega), HG4.out] at hc5
                have HS5 := hidu_ (show Bk ((w2.drewN nq).setCell ⟨L + 1, i, none⟩ (.int .i64 z)) (L + 1) 82 (rowI (lowI (hiV y) (i + 1))) from HS2.out)
                have HF5 := hidu_ (A1.out.set (p := ⟨L + 1, i, none⟩) (by simp) (.int .i64 z))
                have HL5 := hidu_ (show Bk ((w2.drewN nq).setCell ⟨L + 1, i, none⟩ (.int .i64 z)) L 82 (rowI l0) from HL3.out)
                clear HS2 HF2 HL3 hc3 hc4 hf4 A1 HF3 HB4
                generalize w2.drewN nq = w3 at *
                refine wpList_plain rfl fun K hK => ?_
                go_simp
                refine hK _ _ ?_
                clear hK K
                rename_i K hK
                refine hK _ _ ?_
                clear hf5 hc5
                go_wp2
                go_roundw
                case rel => exact ⟨i + 1, by omega, by go_num, HF5, HL5, HS5⟩
                case measure => simp [intOf]; omega
              · have e17 : i = 17 := by omega
                have hdd : Hid (hiV y / 256 ^ i % 256 = y / 256 ^ (16 + i) % 256 / 4) := hidu_ (by rw [e17]; exact (hi_top y hyb.out.1 hyb.out.2).symm)
                have hst : (lowI (hiV y) i).set i (y / 256 ^ (16 + i) % 256 / 4) = lowI (hiV y) (i + 1) := by rw [← hdd.out]; exact lowI_step _ _ (by omega)
                rw [hst] at hset
                have HS := hidu_ hset
                have hd17 : decide ((17 : Int) + (i : Int) < 34) = false := decide_eq_false (by omega)
                clear hset hst e17 HD HT
                generalize y / 256 ^ (16 + i) % 256 = v at *
                generalize (lowI (hiV y) i).getD i 0 = v0 at *
                go_wp2
                go_roundw
                case rel => exact ⟨i + 1, by omega, by go_num, HF, HL, HS⟩
                case measure => simp [intOf]; omega
            · have e18 : i = 18 := by omega
              rw [e18] at BH
              have hd18 : decide ((i : Int) < 18) = false := decide_eq_false (by omega)
              have hrow := hi_row y hyb.out.1 hyb.out.2
              rw [hrow] at BH
              clear e18 hrow
              have HE := hidu_ (fold_end y hyb.out.1 hyb.out.2)
              obtain ⟨q, hq⟩ : ∃ q, Hid (hiV y = q) := ⟨_, rfl⟩
              rw [hq.out] at BH HE
              go_wp2
              go_loopw [8] (fun i wr => ∃ (k : Nat) (l : List Int), k ≤ 34 ∧ i = .int .i64 k ∧ Hid (FoldC g L y w wr) ∧ Hid (Bk wr L 82 (rowI l)) ∧ Hid (Bk wr (L + 1) 82 (rowI (digI 34 q))) ∧ Hid (l.length = 34) ∧ Hid (rngI (255 + 1275 * (k : Int)) l) ∧ Hid (vI l = y % 1361129467683753853853498429727072845824 + 5 * vI (digI k q))) (fun i _ => 34 - (intOf i).toNat)
              case atStart => exact ⟨0, l0, by omega, rfl, FC, BL, BH, LL, by simpa using LR, fold_start LV.out q⟩
              case round =>
                obtain ⟨j, l, hj, rfl, FC, BL, BH, JL, JR, JV⟩ := hrel
                clear LL LR LV
                by_cases hlt4 : j < 34
                · have hd34 : decide ((j : Int) < 34) = true := decide_eq_true (by omega)
                  have t0 : (0 : Int) ≤ (j : Int) := by omega
                  have t1 : (j : Int) < 34 := by omega
                  have hc := BL.out.cell j
                  rw [rowI_at _ _ (by rw [JL.out]; omega)] at hc
                  have hc2 := BH.out.cell j
                  rw [rowI_at _ _ (by rw [digI_len]; omega), dig_getD _ _ _ (by omega)] at hc2
                  have hb := JR.out.get (by omega) j
                  have hs := vI_dig_succ q j
                  have hvs := vI_set l j (l.getD j 0 + 5 * (q / 256 ^ j % 256)) (by rw [JL.out]; omega)
                  have hu0 : 0 ≤ q / 256 ^ j % 256 := by omega
                  have hu1 : q / 256 ^ j % 256 ≤ 255 := by omega
                  have JV2 : Hid (vI (l.set j (l.getD j 0 + 5 * (q / 256 ^ j % 256))) = y % 1361129467683753853853498429727072845824 + 5 * vI (digI (j + 1) q)) := hidu_ (by
                    rw [hvs, hs, JV.out]; grind)
                  clear hs hvs
                  obtain ⟨a, ha⟩ : ∃ a, Hid (l.getD j 0 = a) := ⟨_, rfl⟩
                  obtain ⟨u, hu⟩ : ∃ a, Hid (q / 256 ^ j % 256 = a) := ⟨_, rfl⟩
                  rw [ha.out] at hc hb JV2
                  rw [hu.out] at hc2 hu0 hu1 JV2
                  obtain ⟨hb0, hb1⟩ := hb
                  have JR2 : Hid (rngI (255 + 1275 * ((j + 1 : Nat) : Int)) (l.set j (a + 5 * u))) := hidu_ ((JR.out.mono (by omega)).set j (by omega) (by omega))
                  have JL2 : Hid ((l.set j (a + 5 * u)).length = 34) := hidu_ (by rw [List.length_set, JL.out])
                  go_upto_region 19 with fail
                  refine region_quiet_tail_lit 10 (by kernel_rfl) (by kernel_rfl) ?_
                  simp only [List.take_succ_cons, List.take_zero]
                  repeat (go_big_quiet_step (fail))
                  refine wpQuiet_nil ?_
                  intro w' hw'
                  obtain ⟨nq, rfl⟩ := hw'
                  simp only [List.drop_succ_cons, List.drop_zero]
                  have hf5 := (BL.out.drewN nq).frozen j
                  have hc5 := (BL.out.drewN nq).cell j
                  rw [rowI_at _ _ (by rw [JL.out]; omega), ha.out] at hc5
                  have hset := (BL.out.drewN nq).set_ j (.int .i64 (a + 5 * u))
                  rw [rowI_set] at hset
                  have HS5 := hidu_ hset
                  have HF5 := hidu_ ((FC.out.drewN nq).set (p := ⟨L, j, none⟩) (by simp) (.int .i64 (a + 5 * u)))
                  have HH5 := hidu_ ((BH.out.drewN nq).far (p := ⟨L, j, none⟩) (by simp) (.int .i64 (a + 5 * u)))
                  clear hset hc hc2 FC BL BH
                  generalize wr.drewN nq = w3 at *
                  refine wpList_plain rfl fun K hK => ?_
                  go_simp
                  refine hK _ _ ?_
                  clear hK K
                  rename_i K hK
                  refine hK _ _ ?_
                  clear hf5 hc5
                  go_wp2
                  go_roundw
                  case rel => exact ⟨j + 1, _, by omega, by go_num, HF5, HS5, HH5, JL2, JR2, JV2⟩
                  case measure => simp [intOf]; omega
                · have e34 : j = 34 := by omega
                  have hd34 : decide ((j : Int) < 34) = false := decide_eq_false (by omega)
                  rw [e34] at JV JR
                  have hv := JV.out
                  rw [HE.out] at hv
                  have cc := fun W => carry_any l W JL.out (JR.out.mono (by omega))
                  rw [hv, ← hfs.out] at cc
                  clear e34 hv
                  have K2 := BL.out
                  obtain ⟨D, hD⟩ : ∃ D, Hid (digI 34 (foldsV (k + 1) x) = D) := ⟨_, rfl⟩
                  have HDl : Hid (D.length = 34) := hidu_ (by rw [← hD.out]; exact digI_len _ _)
                  rw [hD.out] at cc
                  go_upto_region 20 with fail
                  go_wp2_with (first
                    | (refine wpList_load_row rfl 82 (.tmp 4) rfl L rfl 82 (rowI l) (0, 0) _ K2 Try.underlying82 rfl (HI.out _ JL.out) ?_)
                    | (go_at_call 49; ((with_reducible refine (cc _).mono ?_); rintro e w4 ⟨rfl, hb4⟩);
                       have A4 := hidu_ (FC.out.1.below hb4 FC.out.1.lt); have A5 := hidu_ (FC.out.2.1.below hb4 FC.out.2.1.lt); have A6 := hidu_ (FC.out.2.2.1.trans (hb4.mono (Nat.le_of_lt FC.out.1.lt)));
                       have A7 := A4.out; clear hb4)
                    | (refine wpList_put_row rfl 82 (.tmp 1) (.tmp 69) rfl g (rowI D) rfl rfl 82 (rowI (digI 34 y)) A7 (HI.out _ HDl.out) (by rw [rowI_size, rowI_size, digI_len, HDl.out]) (rowI_one _) ?_; intro w5 k5 g5 s5;
                       have B5 := hidu_ (A5.out.grown g5 (fun e => by injection e with e; omega)); have B6 := hidu_ (A6.out.grown g5 (by have := A4.out.lt; omega) (fun i hi => by injection hi with hi; omega)); have B7 := hidu_ k5; clear k5 g5 s5))
                  go_roundw
                  case rel => exact ⟨k + 1, by omega, by go_num, by rw [hD.out]; exact B7.out, B5.out, B6.out⟩
                  case measure => simp [intOf]; omega
    · have e4 : k = 4 := by omega
      have hd4 : decide ((k : Int) < 4) = false := decide_eq_false (by omega)
      have h4 := foldsV_four x HX.out.1 HX.out.2
      have hm := foldsV_mod 4 x
      rw [e4] at B0
      clear e4 hyb
      have hlp := less_prime _ h4.1 h4.2
      obtain ⟨y, hy⟩ : ∃ y, Hid (foldsV 4 x = y) := ⟨_, rfl⟩
      rw [hy.out] at B0 hlp hm h4
      have hyb : 0 ≤ y ∧ y < 256 ^ 34 := by
        have e2 : (256 : Int) ^ 34 = 7588550360256754183279148073529370729071901715047420004889892225542594864082845696 := by decide
        rw [e2]; omega
      have hpb : 0 ≤ pI ∧ pI < 256 ^ 34 := by decide
      have cl := fun W => less_any y pI W hyb hpb
      have hm2 : Hid (y % pI = x % pI) := hidu_ hm
      clear hm hyb hpb h4 hy
      have cp := fun W => prime_any W
      obtain ⟨Y, hY⟩ : ∃ Y, Hid (digI 34 y = Y) := ⟨_, rfl⟩
      obtain ⟨PI, hPI⟩ : ∃ Y, Hid (digI 34 pI = Y) := ⟨_, rfl⟩
      have YL : Hid (Y.length = 34) := hidu_ (by rw [← hY.out]; exact digI_len _ _)
      have PL : Hid (PI.length = 34) := hidu_ (by rw [← hPI.out]; exact digI_len _ _)
      rw [hY.out] at cl B0
      rw [hPI.out] at cl cp
      go_upto_region 22 with (first
        | (go_at_call 74; ((with_reducible refine (cp _).mono ?_); rintro e w4 ⟨rfl, hb4⟩);
           have A4 := hidu_ (B0.out.below hb4 B0.out.lt); have A5 := hidu_ (B1.out.below hb4 B1.out.lt); have A6 := hidu_ (BB.out.trans (hb4.mono (Nat.le_of_lt B0.out.lt)));
           have A7 := hidu_ (Bk.new w4 82 (rowI zerosI)); have hsz := hb4.size; have hlt0 := B1.out.lt; clear hb4)
        | (refine wpList_put_row rfl 82 (.tmp 9) (.tmp 70) rfl w4.heap.size (rowI PI) rfl rfl 82 (rowI zerosI) A7.out (HI.out _ PL.out) (by rw [rowI_size, rowI_size, PL.out, zerosI_len]) (rowI_one _) ?_; intro w5 k5 g5 s5;
           have C0 := hidu_ ((A4.out.alloc (.cells (rowI zerosI) 82)).grown g5 (fun e => by injection e with e; omega)); have C1 := hidu_ ((A5.out.alloc (.cells (rowI zerosI) 82)).grown g5 (fun e => by injection e with e; omega));
           have C2 := hidu_ ((A6.out.alloc (by omega) (.cells (rowI zerosI) 82)).grown g5 (by simp; omega) (fun i hi => by injection hi with hi; omega)); have C3 := hidu_ k5; clear k5 g5 s5))
      obtain ⟨P, hP⟩ : ∃ P, Hid (w4.heap.size = P) := ⟨_, rfl⟩
      have hgP : g + 1 < P := by rw [← hP.out]; omega
      rw [hP.out] at C3 ⊢
      rw [put_none]
      clear A4 A5 A6 A7 hsz hlt0 cp B0 B1 BB hP
      have D0 := C0.out
      have D3 := C3.out
      rcases hlp with ⟨hp, hmod⟩ | ⟨e, hye, hmod⟩
      · have hdp : decide (y < pI) = true := decide_eq_true hp
        rw [hdp] at cl
        have hxy : Hid (Y = digI 34 (x % pI)) := hidu_ (by rw [← hm2.out, ← hY.out]; show digI 34 y = digI 34 (y % 1361129467683753853853498429727072845819); rw [hmod])
        clear hdp hp hmod
        go_upto_region 30 with (first
          | (refine wpList_load_row rfl 82 (.tmp 1) rfl g rfl 82 (rowI Y) (0, 0) _ D0 Try.underlying82 rfl (HI.out _ YL.out) ?_)
          | (refine wpList_load_row rfl 82 (.tmp 9) rfl P rfl 82 (rowI PI) (0, 0) _ D3 Try.underlying82 rfl (HI.out _ PL.out) ?_)
          | (go_at_call 75; ((with_reducible refine (cl _).mono ?_); rintro e w6 ⟨rfl, hb6⟩);
             have E0 := hidu_ (C0.out.below hb6 C0.out.lt); have E1 := hidu_ (C1.out.below hb6 C1.out.lt); have E2 := hidu_ (C2.out.trans (hb6.mono (Nat.le_of_lt C0.out.lt))); have F0 := E0.out; have F1 := E1.out; clear hb6))
        go_wp2_with (first
          | (refine wpList_load_row rfl 82 (.tmp 1) rfl g rfl 82 (rowI Y) (0, 0) _ F0 Try.underlying82 rfl (HI.out _ YL.out) ?_)
          | (refine wpList_put_row rfl 82 (.tmp 2) (.tmp 106) rfl (g + 1) (rowI Y) rfl rfl 82 (rowI zerosI) F1 (HI.out _ YL.out) (by rw [rowI_size, rowI_size, YL.out, zerosI_len]) (rowI_one _) ?_; intro w12 k12 g12 s12))
        exact bodyPost_ret (results_cell_row Try.results50 _ _ (g + 1) 82 _ (0, 0) _ rfl k12 Try.underlying82 rfl (HI.out _ YL.out)) rfl ⟨by rw [hxy.out], by rw [hg.out]; exact E2.out.grown g12 (by have := F1.lt; omega) (fun i hi => by injection hi with hi; omega)⟩
      · have hdp : decide (y < pI) = false := decide_eq_false (by rw [hye]; show ¬ _ < (1361129467683753853853498429727072845819 : Int); omega)
        rw [hdp] at cl
        have hxy : Hid (digI 34 (e.val : Int) = digI 34 (x % pI)) := hidu_ (by rw [← hm2.out]; show _ = digI 34 (y % 1361129467683753853853498429727072845819); rw [hmod])
        have hYe : Y = digI 34 (1361129467683753853853498429727072845819 + (e.val : Int)) := by rw [← hY.out, hye]
        have HYd := hidu_ (fun i (h : i < 34) => show Y.getD i 0 - PI.getD i 0 = (digI 34 (e.val : Int)).getD i 0 by rw [hYe, ← hPI.out]; exact sub_all e ⟨i, h⟩)
        have HYb := hidu_ (fun i => show 0 ≤ Y.getD i 0 ∧ Y.getD i 0 ≤ 255 by rw [hYe]; exact (rngI_dig 34 _).get (by omega) i)
        have HPb := hidu_ (fun i => show 0 ≤ PI.getD i 0 ∧ PI.getD i 0 ≤ 255 by rw [← hPI.out]; exact (rngI_dig 34 _).get (by omega) i)
        obtain ⟨E, hE⟩ : ∃ E, Hid (digI 34 (e.val : Int) = E) := ⟨_, rfl⟩
        have HEb := hidu_ (fun i => show 0 ≤ E.getD i 0 ∧ E.getD i 0 ≤ 255 by rw [← hE.out]; exact (rngI_dig 34 _).get (by omega) i)
        have EL : Hid (E.length = 34) := hidu_ (by rw [← hE.out]; exact digI_len _ _)
        rw [hE.out] at hxy HYd
        clear hdp hmod hYe hye hE hm2
        go_upto_region 23 with (first
          | (refine wpList_load_row rfl 82 (.tmp 1) rfl g rfl 82 (rowI Y) (0, 0) _ D0 Try.underlying82 rfl (HI.out _ YL.out) ?_)
          | (refine wpList_load_row rfl 82 (.tmp 9) rfl P rfl 82 (rowI PI) (0, 0) _ D3 Try.underlying82 rfl (HI.out _ PL.out) ?_)
          | (go_at_call 75; ((with_reducible refine (cl _).mono ?_); rintro e w6 ⟨rfl, hb6⟩);
             have E0 := hidu_ (C0.out.below hb6 C0.out.lt); have E1 := hidu_ (C1.out.below hb6 C1.out.lt); have E2 := hidu_ (C2.out.trans (hb6.mono (Nat.le_of_lt C0.out.lt))); have E3 := hidu_ (C3.out.below hb6 C3.out.lt); clear hb6))
        clear D0 D3 C0 C1 C2 C3 cl
        go_wp2
        go_loopw [10] (fun i wr => ∃ k : Nat, k ≤ 34 ∧ i = .int .i64 k ∧ Hid (Bk wr g 82 (rowI (E.take k ++ Y.drop k))) ∧ Hid (Bk wr (g + 1) 82 (rowI zerosI)) ∧ Hid (Bk wr P 82 (rowI PI)) ∧ Hid (Below g w wr)) (fun i _ => 34 - (intOf i).toNat)
        case atStart => exact ⟨0, by omega, rfl, by rw [List.take_zero, List.nil_append, List.drop_zero]; exact E0, E1, E3, E2⟩
        case round =>
          obtain ⟨j, hj, rfl, B0, B1, B3, BB⟩ := hrel
          clear E0 E1 E2 E3
          by_cases hlt5 : j < 34
          · have hd34 : decide ((j : Int) < 34) = true := decide_eq_true (by omega)
            have t0 : (0 : Int) ≤ (j : Int) := by omega
            have t1 : (j : Int) < 34 := by omega
            have hc := B0.out.cell j
            rw [rowI_at _ _ (by rw [sub_len _ _ _ EL.out YL.out (by omega)]; omega), sub_get _ _ _ EL.out YL.out hlt5] at hc
            have hc2 := B3.out.cell j
            rw [rowI_at _ _ (by rw [PL.out]; omega)] at hc2
            have hd := hidu_ (HYd.out j hlt5)
            obtain ⟨hb0, hb1⟩ := HYb.out j
            obtain ⟨hp0, hp1⟩ := HPb.out j
            obtain ⟨he0, he1⟩ := HEb.out j
            have hss := hidu_ (sub_set E Y j EL.out YL.out hlt5)
            obtain ⟨a, ha⟩ : ∃ a, Hid (Y.getD j 0 = a) := ⟨_, rfl⟩
            obtain ⟨u, hu⟩ : ∃ a, Hid (PI.getD j 0 = a) := ⟨_, rfl⟩
            obtain ⟨v, hv⟩ : ∃ a, Hid (E.getD j 0 = a) := ⟨_, rfl⟩
            rw [ha.out] at hc hb0 hb1 hd
            rw [hu.out] at hc2 hp0 hp1 hd
            rw [hv.out] at he0 he1 hd hss
            go_upto_region 26 with fail
            refine region_quiet_tail_lit 9 (by kernel_rfl) (by kernel_rfl) ?_
            simp only [List.take_succ_cons, List.take_zero]
            repeat (go_big_quiet_step (fail))
            refine wpQuiet_nil ?_
            intro w' hw'
            obtain ⟨nq, rfl⟩ := hw'
            simp only [List.drop_succ_cons, List.drop_zero]
            rw [hd.out]
            have hf5 := (B0.out.drewN nq).frozen j
            have hc5 := (B0.out.drewN nq).cell j
            rw [rowI_at _ _ (by rw [sub_len _ _ _ EL.out YL.out (by omega)]; omega), sub_get _ _ _ EL.out YL.out hlt5, ha.out] at hc5
            have hset := (B0.out.drewN nq).set_ j (.int .i64 v)
            rw [rowI_set, hss.out] at hset
            have HS5 := hidu_ hset
            have HZ5 := hidu_ ((B1.out.drewN nq).far (p := ⟨g, j, none⟩) (by simp) (.int .i64 v))
            have HP5 := hidu_ ((B3.out.drewN nq).far (p := ⟨g, j, none⟩) (by simp; omega) (.int .i64 v))
            have HB5 := hidu_ ((below_drewN BB.out nq).setCell (p := ⟨g, j, none⟩) (by simp) (.int .i64 v))
            clear hset hc hc2 B0 B1 B3 BB
            generalize wr.drewN nq = w3 at *
            refine wpList_plain rfl fun K hK => ?_
            go_simp
            refine hK _ _ ?_
            clear hK K
            rename_i K hK
            refine hK _ _ ?_
            clear hf5 hc5
            have hc6 := HS5.out.cell j
            rw [← hss.out, rowI_at _ _ (by rw [List.length_set, sub_len _ _ _ EL.out YL.out (by omega)]; omega)] at hc6
            have hg6 : ((E.take j ++ Y.drop j).set j v).getD j 0 = v := by
              have := sub_len E Y j EL.out YL.out (by omega)
              simp only [List.getD, List.getElem?_set]
              rw [if_pos trivial, if_pos (by omega)]
              rfl
            rw [hg6] at hc6
            clear hg6
            have hd0 : decide (v < 0) = false := decide_eq_false (by omega)
            go_wp2
            go_roundw
            case rel => exact ⟨j + 1, by omega, by go_num, HS5, HZ5, HP5, HB5⟩
            case measure => simp [intOf]; omega
          · have e34 : j = 34 := by omega
            have hd34 : decide ((j : Int) < 34) = false := decide_eq_false (by omega)
            rw [e34, List.take_of_length_le (by rw [EL.out]; omega), List.drop_eq_nil_of_le (by rw [YL.out]; omega), List.append_nil] at B0
            clear e34
            have F0 := B0.out
            have F1 := B1.out
            go_wp2_with (first
              | (refine wpList_load_row rfl 82 (.tmp 1) rfl g rfl 82 (rowI E) (0, 0) _ F0 Try.underlying82 rfl (HI.out _ EL.out) ?_)
              | (refine wpList_put_row rfl 82 (.tmp 2) (.tmp 106) rfl (g + 1) (rowI E) rfl rfl 82 (rowI zerosI) F1 (HI.out _ EL.out) (by rw [rowI_size, rowI_size, EL.out, zerosI_len]) (rowI_one _) ?_; intro w12 k12 g12 s12))
            exact bodyPost_ret (results_cell_row Try.results50 _ _ (g + 1) 82 _ (0, 0) _ rfl k12 Try.underlying82 rfl (HI.out _ EL.out)) rfl ⟨by rw [hxy.out], by rw [hg.out]; exact BB.out.grown g12 (by have := F1.lt; omega) (fun i hi => by injection hi with hi; omega)⟩
end Go.Proofs.Ytopmngjaieobnaa
