/-
  Contracts: poly's numbers: times, least, numberOf, words.
-/
import Derived.Test.YtopmngjaieobnaaP1
namespace Go.Proofs.Ytopmngjaieobnaa
open Go.RowKit
set_option linter.unusedVariables false

/-! ### times -/
def tStep (i j : Nat) (x y : Int) (L : List Int) : List Int :=
  if i + j < 5 then L.set (i + j) (L.getD (i + j) 0 + x * y) else L.set (i + j - 5) (L.getD (i + j - 5) 0 + x * y * 5)
def tAcc (n m : N5) : Nat → List Int
  | 0 => [0, 0, 0, 0, 0]
  | k + 1 => tStep (k / 5) (k % 5) (n.list.getD (k / 5) 0) (m.list.getD (k % 5) 0) (tAcc n m k)
theorem tStep_len (i j : Nat) (x y : Int) (L : List Int) : (tStep i j x y L).length = L.length := by unfold tStep; split <;> simp
theorem tAcc_len (n m : N5) : ∀ k, (tAcc n m k).length = 5
  | 0 => rfl
  | k + 1 => by rw [tAcc, tStep_len, tAcc_len n m k]
theorem getD_setI (l : List Int) (i j : Nat) (x : Int) (hi : i < l.length) : (l.set i x).getD j 0 = if i = j then x else l.getD j 0 := by
  by_cases h : i = j
  · subst h; simp [List.getD, hi]
  · simp [List.getD, h]
theorem tAcc_bd {n m : N5} (hn : n.le 268435456) (hm : m.le 67108863) : ∀ k q : Nat, 0 ≤ (tAcc n m k).getD q 0 ∧ (tAcc n m k).getD q 0 ≤ (k : Int) * 90071991205232640
  | 0, q => by
    rcases (by omega : q = 0 ∨ q = 1 ∨ q = 2 ∨ q = 3 ∨ q = 4 ∨ 5 ≤ q) with rfl | rfl | rfl | rfl | rfl | h <;> first | (simp [tAcc]; done) | skip
    have : (tAcc n m 0).getD q 0 = 0 := by
      have hl : (tAcc n m 0).length = 5 := rfl
      simp [List.getD, List.getElem?_eq_none (by omega : (tAcc n m 0).length ≤ q)]
    omega
  | k + 1, q => by
    have ih := tAcc_bd hn hm k
    have hx := hn.get (by decide) (k / 5)
    have hy := hm.get (by decide) (k % 5)
    have hxy := mul_bd hx hy
    have e : (268435456 : Int) * 67108863 = 18014398241046528 := by decide
    rw [e] at hxy
    have hl := tAcc_len n m k
    have ek : ((k + 1 : Nat) : Int) * 90071991205232640 = (k : Int) * 90071991205232640 + 90071991205232640 := by rw [Int.natCast_add, Int.add_mul]; rfl
    rw [ek]
    have hq := ih q
    have hk0 : 0 ≤ (k : Int) * 90071991205232640 := by omega
    rw [tAcc]
    unfold tStep
    by_cases h5 : k / 5 + k % 5 < 5
    · rw [if_pos h5, getD_setI _ _ _ _ (by rw [hl]; exact h5)]
      have h6 := ih (k / 5 + k % 5)
      by_cases hqe : k / 5 + k % 5 = q
      · rw [if_pos hqe]; omega
      · rw [if_neg hqe]; omega
    · rw [if_neg h5]
      have h6 := ih (k / 5 + k % 5 - 5)
      by_cases hin : k / 5 + k % 5 - 5 < 5
      · rw [getD_setI _ _ _ _ (by rw [hl]; exact hin)]
        by_cases hqe : k / 5 + k % 5 - 5 = q
        · rw [if_pos hqe]; omega
        · rw [if_neg hqe]; omega
      · rw [List.set_eq_of_length_le (by rw [hl]; omega)]; omega
theorem tAcc_end (n m : N5) : tAcc n m 25 = (mulN n m).list := by
  have h : tAcc n m 25 = [0 + n.a * m.a + n.b * m.e * 5 + n.c * m.d * 5 + n.d * m.c * 5 + n.e * m.b * 5,
      0 + n.a * m.b + n.b * m.a + n.c * m.e * 5 + n.d * m.d * 5 + n.e * m.c * 5,
      0 + n.a * m.c + n.b * m.b + n.c * m.a + n.d * m.e * 5 + n.e * m.d * 5,
      0 + n.a * m.d + n.b * m.c + n.c * m.b + n.d * m.a + n.e * m.e * 5,
      0 + n.a * m.e + n.b * m.d + n.c * m.c + n.d * m.b + n.e * m.a] := by simp [tAcc, tStep, N5.list]
  refine h.trans ?_
  have g : ∀ p q r s t p' q' r' s' t' : Int, p = p' → q = q' → r = r' → s = s' → t = t' → [p, q, r, s, t] = [p', q', r', s', t'] := by
    rintro _ _ _ _ _ _ _ _ _ _ rfl rfl rfl rfl rfl; rfl
  exact g _ _ _ _ _ _ _ _ _ _ (by simp only [mulN]; omega) (by simp only [mulN]; omega) (by simp only [mulN]; omega) (by simp only [mulN]; omega) (by simp only [mulN]; omega)

set_option maxRecDepth 100000 in
set_option maxHeartbeats 1000000 in
theorem times_any (n m : N5) (hn : n.le 268435456) (hm : m.le 67108863) (w : World) :
    Calls Try.prog 46 #[.agg (nRow n), .agg (nRow m)] w fun e w' => e = .returned (.agg (nRow (redN (mulN n m)))) ∧ Below w.heap.size w w' := by
  have hz := zN
  have cr := fun W => reduced_any (mulN n m) ((mulN_le hn hm).mono (by decide)) W
  have HN := hid_ hn
  have HM := hid_ hm
  have e5 : ∀ m : N5, (Try.prog.info? 76).map (·.size) = some (nRow m).size := fun m => i5_
  have E5 := hid_ e5
  obtain ⟨w0, hw0⟩ : ∃ w0, Hid ((((w.alloc (.cells (nRow n) 76)).alloc (.cells (nRow m) 76)).alloc (.cells (nRow zeroN) 76)).alloc (.cells (nRow zeroN) 76) = w0) := ⟨_, rfl⟩
  have a0 : Bk w0 w.heap.size 76 (nRow n) := by rw [← hw0.out]; exact (((Bk.new w _ _).alloc _).alloc _).alloc _
  have a1 : Bk w0 (w.heap.size + 1) 76 (nRow m) := by rw [← hw0.out]; simpa using ((Bk.new (w.alloc (.cells (nRow n) 76)) 76 (nRow m)).alloc (.cells (nRow zeroN) 76)).alloc (.cells (nRow zeroN) 76)
  have a2 : Bk w0 (w.heap.size + 1 + 1) 76 (nRow zeroN) := by rw [← hw0.out]; simpa using (Bk.new ((w.alloc (.cells (nRow n) 76)).alloc (.cells (nRow m) 76)) 76 (nRow zeroN)).alloc (.cells (nRow zeroN) 76)
  have a3 : Bk w0 (w.heap.size + 1 + 1 + 1) 76 (nRow zeroN) := by rw [← hw0.out]; simpa using Bk.new (((w.alloc (.cells (nRow n) 76)).alloc (.cells (nRow m) 76)).alloc (.cells (nRow zeroN) 76)) 76 (nRow zeroN)
  have hb : Below w.heap.size w w0 := by rw [← hw0.out]; exact ((((Below.refl _ _).alloc (Nat.le_refl _) _).alloc (by simp) _).alloc (by simp; omega) _).alloc (by simp; omega) _
  have A0 := hid_ a0
  have A1 := hid_ a1
  have A2 := hid_ a2
  have A3 := hid_ a3
  have HB := hid_ hb
  clear hn hm e5 a0 a1 a2 a3 hb
  go_enter Try.func46, Try.ntmps46
  go_upto_region 2 with fail
  rw [hw0.out]
  go_wp2_with (refine wpList_load_row rfl 76 (.tmp 2) rfl w.heap.size rfl 76 (nRow n) (0, 0) _ A0.out Try.underlying76 rfl (E5.out n) ?_)
  go_loopw [11] (fun i wr => ∃ k : Nat, k ≤ 5 ∧ i = .int .i64 k ∧ Bk wr (w.heap.size + 1) 76 (nRow m) ∧ Bk wr (w.heap.size + 1 + 1) 76 (nRow zeroN) ∧ Bk wr (w.heap.size + 1 + 1 + 1) 76 (lRow (tAcc n m (5 * k))) ∧ Below w.heap.size w wr) (fun i _ => 5 - (intOf i).toNat)
  case atStart => exact ⟨0, by omega, rfl, A1.out, A2.out, A3.out, HB.out⟩
  case round =>
    obtain ⟨k, hk, rfl, b1, b2, b3, bb⟩ := hrel
    have B1 := hid_ b1
    have B2 := hid_ b2
    have B3 := hid_ b3
    have BB := hid_ bb
    clear b1 b2 b3 bb A0 A1 A2 A3 HB
    by_cases hlt : k < 5
    · have hix := idx5 n k hlt
      have hx := HN.out.get (by decide) k
      obtain ⟨x, hxe⟩ : ∃ x, Hid (n.list.getD k 0 = x) := ⟨_, rfl⟩
      rw [hxe.out] at hix hx
      have t0 : (0 : Int) ≤ (k : Int) := by omega
      have t5 : (k : Int) < 5 := by omega
      go_wp2_with (refine wpList_load_row rfl 76 (.tmp 3) rfl (w.heap.size + 1) rfl 76 (nRow m) (0, 0) _ B1.out Try.underlying76 rfl (E5.out m) ?_)
      clear hix
      go_loopw [16] (fun i wr => ∃ j : Nat, j ≤ 5 ∧ i = .int .i64 j ∧ Bk wr (w.heap.size + 1) 76 (nRow m) ∧ Bk wr (w.heap.size + 1 + 1) 76 (nRow zeroN) ∧ Bk wr (w.heap.size + 1 + 1 + 1) 76 (lRow (tAcc n m (5 * k + j))) ∧ Below w.heap.size w wr) (fun i _ => 5 - (intOf i).toNat)
      case atStart => exact ⟨0, by omega, rfl, B1.out, B2.out, B3.out, BB.out⟩
      case round =>
        obtain ⟨j, hj, rfl, b1, b2, b3, bb⟩ := hrel
        have C1 := hid_ b1
        have C2 := hid_ b2
        have C3 := hid_ b3
        have CB := hid_ bb
        clear b1 b2 b3 bb B1 B2 B3 BB
        by_cases hltj : j < 5
        · have hix := idx5 m j hltj
          have hy := HM.out.get (by decide) j
          have e1 : (5 * k + j) / 5 = k := by omega
          have e2 : (5 * k + j) % 5 = j := by omega
          have hbd := tAcc_bd HN.out HM.out (5 * k + j)
          have hxy := mul_bd (HN.out.get (by decide) k) hy
          have e3 : (268435456 : Int) * 67108863 = 18014398241046528 := by decide
          rw [e3, hxe.out] at hxy
          have hnx : tAcc n m (5 * k + (j + 1)) = tStep k j (n.list.getD k 0) (m.list.getD j 0) (tAcc n m (5 * k + j)) := by
            show tAcc n m (5 * k + j + 1) = _
            rw [tAcc, e1, e2]
          rw [hxe.out] at hnx
          have hl := tAcc_len n m (5 * k + j)
          have hkj : ((5 * k + j : Nat) : Int) ≤ 24 := by omega
          obtain ⟨y, hye⟩ : ∃ y, Hid (m.list.getD j 0 = y) := ⟨_, rfl⟩
          rw [hye.out] at hix hy hnx hxy
          have HNX := hid_ hnx
          generalize tAcc n m (5 * k + j) = L at C3 hbd hl HNX
          clear hnx
          have t0 : (0 : Int) ≤ (j : Int) := by omega
          have t5 : (j : Int) < 5 := by omega
          by_cases h5 : k + j < 5
          · have d5 : (k : Int) + (j : Int) < 5 := by omega
            have hc := C3.out.cell (k + j)
            rw [lRow_at _ _ (by rw [hl]; exact h5)] at hc
            have hf := C3.out.frozen (k + j)
            have hs := C3.out.set_ (k + j) (.int .u64 (L.getD (k + j) 0 + x * y))
            have hv := hbd (k + j)
            have hnx2 : tStep k j x y L = L.set (k + j) (L.getD (k + j) 0 + x * y) := by unfold tStep; rw [if_pos h5]
            rw [lRow_set, ← hnx2, ← HNX.out] at hs
            have HS := hid_ hs
            generalize L.getD (k + j) 0 = z at hc hv HS
            obtain ⟨p, hp⟩ : ∃ p, Hid (x * y = p) := ⟨_, rfl⟩
            have hm1 : IntKind.u64.wrap (x * y) = x * y := IntWalk.u64_in _ (by omega)
            have hz2 : z ≤ 24 * 90071991205232640 := by omega
            have hm2 : IntKind.u64.wrap (z + x * y) = z + x * y := IntWalk.u64_in _ (by omega)
            clear hnx2 hs hbd hv
            go_wp2
            exact ⟨⟨j + 1, by omega, by go_num, C1.out.far (by simp <;> omega) _, C2.out.far (by simp <;> omega) _, HS.out, CB.out.setCell (by simp <;> omega) _⟩, by simp [intOf]; omega⟩
          · have d5 : ¬ (k : Int) + (j : Int) < 5 := by omega
            have hi5 : k + j - 5 < 5 := by omega
            have hc := C3.out.cell (k + j - 5)
            rw [lRow_at _ _ (by rw [hl]; exact hi5)] at hc
            have hf := C3.out.frozen (k + j - 5)
            have hs := C3.out.set_ (k + j - 5) (.int .u64 (L.getD (k + j - 5) 0 + x * y * 5))
            have hv := hbd (k + j - 5)
            have hnx2 : tStep k j x y L = L.set (k + j - 5) (L.getD (k + j - 5) 0 + x * y * 5) := by unfold tStep; rw [if_neg h5]
            rw [lRow_set, ← hnx2, ← HNX.out] at hs
            have HS := hid_ hs
            generalize L.getD (k + j - 5) 0 = z at hc hv HS
            have hm1 : IntKind.u64.wrap (x * y) = x * y := IntWalk.u64_in _ (by omega)
            have hm3 : IntKind.u64.wrap (x * y * 5) = x * y * 5 := IntWalk.u64_in _ (by omega)
            have hz2 : z ≤ 24 * 90071991205232640 := by omega
            have hm2 : IntKind.u64.wrap (z + x * y * 5) = z + x * y * 5 := IntWalk.u64_in _ (by omega)
            have w5 : IntKind.i64.wrap ((k : Int) + (j : Int) - 5) = (k : Int) + (j : Int) - 5 := IntWalk.i64_in _ (by omega)
            have b5 : (0 : Int) ≤ (k : Int) + (j : Int) - 5 := by omega
            have u5 : (k : Int) + (j : Int) - 5 < 5 := by omega
            have n5 : ((k : Int) + (j : Int) - 5).toNat = k + j - 5 := by omega
            clear hnx2 hs hbd hv
            go_wp2
            exact ⟨⟨j + 1, by omega, by go_num, C1.out.far (by simp <;> omega) _, C2.out.far (by simp <;> omega) _, HS.out, CB.out.setCell (by simp <;> omega) _⟩, by simp [intOf]; omega⟩
        · have hj5 : j = 5 := by omega
          have C4 := C3.out
          rw [show 5 * k + j = 5 * (k + 1) by omega] at C4
          clear hj5
          go_wp2
          go_roundw
          case rel => exact ⟨k + 1, by omega, by go_num, C1.out, C2.out, C4, CB.out⟩
          case measure => simp [intOf]; omega
    · have hk5 : k = 5 := by omega
      have he : lRow (tAcc n m (5 * k)) = nRow (mulN n m) := by rw [hk5, tAcc_end]; rfl
      have B4 := B3.out
      rw [he] at B4
      clear hk5 he
      go_wp2_with (first
        | (refine wpList_load_row rfl 76 (.tmp 5) rfl (w.heap.size + 1 + 1 + 1) rfl 76 (nRow (mulN n m)) (0, 0) _ B4 Try.underlying76 rfl (E5.out _) ?_)
        | (go_at_call 71; ((with_reducible refine (cr _).mono ?_); rintro e w1 ⟨rfl, hb1⟩); have B5 := B2.out.below hb1 B2.out.lt; have hs1 := hb1.size)
        | (refine wpList_put_row rfl 76 (.tmp 4) (.tmp 49) rfl (w.heap.size + 1 + 1) (nRow (redN (mulN n m))) rfl rfl 76 (nRow zeroN) B5 (E5.out _) rfl (nRow_one _) ?_; intro w9 k9 g9 s9))
      have X1 := BB.out.trans (hb1.mono BB.out.size)
      exact bodyPost_ret (results_cell_row Try.results46 _ _ (w.heap.size + 1 + 1) 76 _ (0, 0) _ rfl k9 Try.underlying76 rfl (E5.out _)) rfl ⟨rfl, X1.grown g9 X1.size (fun k hk => by injection hk with hk; omega)⟩
end Go.Proofs.Ytopmngjaieobnaa
