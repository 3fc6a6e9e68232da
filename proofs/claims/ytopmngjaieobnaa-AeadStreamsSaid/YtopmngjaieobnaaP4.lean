/-
  Contracts: poly's words, partOf, lowest.
-/
import Derived.Test.YtopmngjaieobnaaP3
import Derived.Test.YtopmngjaieobnaaGn
namespace Go.Proofs.Ytopmngjaieobnaa
open Go.RowKit
set_option linter.unusedVariables false

theorem slice_from2 (g off n c k : Nat) (hk : k ≤ n) (hc : k < c) (W : World) :
    (Instr.slice 23 (.slice (some ⟨g, off, none⟩) n c) (some (.int .i64 (k : Int))) none none).run Try.prog W = .ok (.slice (some ⟨g, off + k, none⟩) (n - k) (c - k)) W := by
  rw [slice_from (some ⟨g, off, none⟩) n c k hk W, if_neg (by omega)]
  have hadd : (⟨g, off, none⟩ : Addr).add k = ⟨g, off + k, none⟩ := by unfold Addr.add; split <;> simp_all
  rw [Option.map_some, hadd]

theorem words_any (g off c B : Nat) (l : List UInt8) (w : World) (hl : l.length = 16) (hc : 16 ≤ c) (hr : Rd w B (some ⟨g, off, none⟩) l) :
    Calls Try.prog 42 #[.slice (some ⟨g, off, none⟩) 16 c] w fun e w' => e = .returned (.tuple #[.int .u64 (leN (l.take 8) : Nat), .int .u64 (leN (l.drop 8) : Nat)]) ∧ w = w' := by
  have s1 := fun W => slice_to (some ⟨g, off, none⟩) 16 c 8 8 rfl (by omega) W
  have s2 := fun W => slice_from2 g off 16 c 8 (by omega) (by omega) W
  have c1 := low64_yes (some ⟨g, off, none⟩) B c (l.take 8) w (by rw [List.length_take]; omega) (hr.take 8)
  have c2 := low64_yes (some ⟨g, off + 8, none⟩) B (c - 8) (l.drop 8) w (by rw [List.length_drop]; omega) (hr.drop 8)
  go_enter Try.func42, Try.ntmps42
  go_wp2_with (first
    | (go_at_call 70; ((with_reducible refine c1.mono ?_); rintro e w' ⟨rfl, rfl⟩))
    | (go_at_call 70; ((with_reducible refine c2.mono ?_); rintro e w' ⟨rfl, rfl⟩)))
  go_ret2
  exact ⟨rfl, rfl⟩

/-! ### partOf -/
/-- The whole of a part: a byte 1 behind it. -/
def wholeB (l : List UInt8) : List UInt8 := l ++ [1] ++ List.replicate (16 - l.length) 0
theorem wholeB_len (l : List UInt8) (h : l.length ≤ 16) : (wholeB l).length = 17 := by simp [wholeB]; omega
theorem leN_append (a b : List UInt8) : leN (a ++ b) = leN a + 256 ^ a.length * leN b := by
  unfold leN
  rw [List.reverse_append, beN_append, List.length_reverse, Nat.mul_comm, Nat.add_comm]
theorem leN_zeros (n : Nat) : leN (List.replicate n 0) = 0 := by
  induction n with
  | zero => rfl
  | succ n ih => rw [List.replicate_succ', leN_snoc, ih]; simp
theorem leN_whole (l : List UInt8) : leN (wholeB l) = leN l + 256 ^ l.length := by
  unfold wholeB
  rw [leN_append, leN_zeros, Nat.mul_zero, Nat.add_zero, leN_snoc]
  simp
def partN (l : List UInt8) : N5 := numN (leN ((wholeB l).take 8) : Nat) (leN (((wholeB l).take 16).drop 8) : Nat) ((((wholeB l).getD 16 0).toNat : Nat) : Int)
theorem leN_split17 (W : List UInt8) (h : W.length = 17) : leN W = leN (W.take 8) + 18446744073709551616 * leN ((W.take 16).drop 8) + 340282366920938463463374607431768211456 * (W.getD 16 0).toNat := by
  have e1 : W = W.take 8 ++ ((W.take 16).drop 8 ++ [W.getD 16 0]) := by
    have h1 : W.take 16 ++ [W.getD 16 0] = W := by
      rw [← take_snoc8 W 16 (by omega), List.take_of_length_le (by omega)]
    have h2 : W.take 8 ++ (W.take 16).drop 8 = W.take 16 := by
      have := List.take_append_drop 8 (W.take 16)
      rwa [List.take_take, Nat.min_eq_left (by omega)] at this
    rw [← List.append_assoc, h2, h1]
  have l1 : (W.take 8).length = 8 := by rw [List.length_take]; omega
  have l2 : ((W.take 16).drop 8).length = 8 := by rw [List.length_drop, List.length_take]; omega
  have e2 : leN W = leN (W.take 8 ++ ((W.take 16).drop 8 ++ [W.getD 16 0])) := by rw [← e1]
  rw [e2, leN_append, leN_append, l1, l2]
  have e3 : leN [W.getD 16 0] = (W.getD 16 0).toNat := by simp [leN, beN]
  have e4 : (256 : Nat) ^ 8 = 18446744073709551616 := by decide
  rw [e3, e4]
  omega
theorem leN8_le (l : List UInt8) (h : l.length ≤ 8) : leN l ≤ 18446744073709551615 := by
  have h1 := leN_lt l
  have h2 : 256 ^ l.length ≤ 256 ^ 8 := Nat.pow_le_pow_right (by omega) h
  have e4 : (256 : Nat) ^ 8 = 18446744073709551616 := by decide
  omega
theorem whole_top (l : List UInt8) (h : l.length ≤ 16) : ((wholeB l).getD 16 0).toNat ≤ 1 := by
  unfold wholeB
  rcases Nat.lt_or_ge l.length 16 with h1 | h1
  · have : (l ++ [1] ++ List.replicate (16 - l.length) (0 : UInt8)).getD 16 0 = 0 := by
      have hl : (l ++ [1]).length ≤ 16 := by simp; omega
      rw [List.getD, List.getElem?_append_right hl]
      have h2 : 16 - (l ++ [(1 : UInt8)]).length < 16 - l.length := by simp; omega
      simp [List.getElem?_replicate]
      split <;> rfl
    rw [this]; decide
  · have e : l.length = 16 := by omega
    have : (l ++ [1] ++ List.replicate (16 - l.length) (0 : UInt8)).getD 16 0 = 1 := by
      rw [e]; simp [List.getD, e]
    rw [this]; decide
theorem partN_val (l : List UInt8) (h : l.length ≤ 16) : (partN l).val = ((leN l + 256 ^ l.length : Nat) : Int) := by
  rw [← leN_whole, leN_split17 _ (wholeB_len l h)]
  unfold partN
  rw [numN_val]
  omega
theorem partN_le (l : List UInt8) (h : l.length ≤ 16) : (partN l).le 67108863 := by
  have h1 := leN8_le ((wholeB l).take 8) (by rw [List.length_take]; omega)
  have h2 := leN8_le (((wholeB l).take 16).drop 8) (by rw [List.length_drop, List.length_take]; omega)
  have h3 := whole_top l h
  exact numN_le ⟨by omega, by omega⟩ ⟨by omega, by omega⟩ ⟨by omega, by omega⟩

theorem z17 (W : World) : (zeroValue 101).run Try.prog W = .ok (.agg (rowOf (zbytes 17))) W := by kernel_rfl
theorem slice_all17 (g : Nat) (W : World) :
    (Instr.sliceAt 101 (.pointer (some ⟨g, 0, none⟩)) none none none).run Try.prog W = .ok (.slice (some ⟨g, 0, none⟩) 17 17) W := by
  have he : Try.prog.elem 101 = 5 := by kernel_rfl
  have hn : Try.prog.arrayLen 101 = 17 := by kernel_rfl
  have ht : Try.prog.underlying 101 = some (.array (Try.prog.arrayLen 101) (Try.prog.elem 101)) := by rw [he, hn]; exact Try.underlying101
  have hs : (sizeOf (Try.prog.elem 101)).run Try.prog W = .ok 1 W := by
    rw [he]
    obtain ⟨i, hi, hz, hsize, hby⟩ := info_parts info8
    simp [sizeOf, typeInfo, hi, hsize]
  rw [run_sliceAt_array_all W 101 ⟨g, 0, none⟩ ht, hs, hn]
  simp only [Result.andThen, slicedAt, Nat.mul_one]
  rw [if_neg (by omega)]
  congr 3
theorem slice_to17 (g : Nat) (W : World) :
    (Instr.sliceAt 101 (.pointer (some ⟨g, 0, none⟩)) none (some (.int .i64 16)) none).run Try.prog W = .ok (.slice (some ⟨g, 0, none⟩) 16 17) W := by
  have he : Try.prog.elem 101 = 5 := by kernel_rfl
  have hn : Try.prog.arrayLen 101 = 17 := by kernel_rfl
  have ht : Try.prog.underlying 101 = some (.array (Try.prog.arrayLen 101) (Try.prog.elem 101)) := by rw [he, hn]; exact Try.underlying101
  have hs : (sizeOf (Try.prog.elem 101)).run Try.prog W = .ok 1 W := by
    rw [he]
    obtain ⟨i, hi, hz, hsize, hby⟩ := info_parts info8
    simp [sizeOf, typeInfo, hi, hsize]
  have h := run_sliceAt_array_h W 101 ⟨g, 0, none⟩ ht .i64 16 (by omega) (by rw [hn]; omega)
  rw [hs, hn] at h
  have e : ((16 : Int)).toNat = 16 := rfl
  simp only [Result.andThen, slicedAt, e, Nat.mul_one] at h
  rw [h, if_neg (by omega)]
  congr 3

set_option maxRecDepth 100000 in
set_option maxHeartbeats 1000000 in
theorem partOf_any (A : Option Addr) (n c : Nat) (l : List UInt8) (w : World) (hl : l.length = n) (h1 : 0 < n) (h16 : n ≤ 16) (hr : Rd w w.heap.size A l) :
    Calls Try.prog 45 #[.slice A n c] w fun e w' => e = .returned (.agg (nRow (partN l))) ∧ Below w.heap.size w w' := by
  have hz := zN
  have hz17 := z17
  have s1 := slice_all17
  have s2 := slice_to17
  have e5 : ∀ m : N5, (Try.prog.info? 76).map (·.size) = some (nRow m).size := fun m => i5_
  have E5 := hid_ e5
  obtain ⟨w0, hw0⟩ : ∃ w0, Hid ((w.alloc (.cells (nRow zeroN) 76)).alloc (.cells (rowOf (zbytes 17)) 101) = w0) := ⟨_, rfl⟩
  have a0 : Bk w0 w.heap.size 76 (nRow zeroN) := by rw [← hw0.out]; exact (Bk.new w _ _).alloc _
  have a1 : Bk w0 (w.heap.size + 1) 101 (rowOf (zbytes 17)) := by rw [← hw0.out]; simpa using Bk.new (w.alloc (.cells (nRow zeroN) 76)) 101 (rowOf (zbytes 17))
  have hb : Below w.heap.size w w0 := by rw [← hw0.out]; exact ((Below.refl _ _).alloc (Nat.le_refl _) _).alloc (by simp) _
  have r0 : RdN w0 (w.heap.size + 1) A l := (hr.below hb).rdn (by omega) (Nat.le_of_lt a1.lt)
  have A0 := hid_ a0
  have A1 := hid_ a1
  have HB := hid_ hb
  have R0 := hid_ r0
  have HL := hid_ hl
  have hmin : n = Nat.min n 17 := (Nat.min_eq_left (by omega)).symm
  have HMIN := hid_ hmin
  have hfit : 0 + n ≤ (rowOf (zbytes 17)).size := by rw [rowOf_size, zbytes_len]; omega
  have HFIT := hid_ hfit
  have hlaid : laid (zbytes 17) 0 l = l ++ List.replicate (17 - n) 0 := by
    unfold laid zbytes
    rw [List.take_zero, List.nil_append, List.drop_replicate, hl, Nat.zero_add]
  have hset : (l ++ List.replicate (17 - n) (0 : UInt8)).set n 1 = wholeB l := by
    unfold wholeB
    rw [hl, show 17 - n = (16 - n) + 1 by omega, List.replicate_succ, ← hl, set_mid]
  have HLAID := hid_ hlaid
  have HSET := hid_ hset
  have hwl : Hid ((wholeB l).length = 17) := hid_ (wholeB_len l (by omega))
  have htop := whole_top l (by omega)
  have b1 := leN8_le ((wholeB l).take 8) (by rw [List.length_take]; omega)
  have b2 := leN8_le (((wholeB l).take 16).drop 8) (by rw [List.length_drop, List.length_take]; omega)
  have cn := fun W => numberOf_any (leN ((wholeB l).take 8)) (leN (((wholeB l).take 16).drop 8)) ((wholeB l).getD 16 0).toNat b1 b2 (by omega) W
  have HCN : Hid (∀ W : World, Calls Try.prog 43 #[.int .u64 (leN ((wholeB l).take 8) : Nat), .int .u64 (leN (((wholeB l).take 16).drop 8) : Nat), .int .u64 (((wholeB l).getD 16 0).toNat : Nat)] W fun e w' => e = .returned (.agg (nRow (partN l))) ∧ Below W.heap.size W w') := hid_ cn
  obtain ⟨tp, htp⟩ : ∃ tp, Hid (((wholeB l).getD 16 0).toNat = tp) := ⟨_, rfl⟩
  obtain ⟨x1, hx1⟩ : ∃ x, Hid (leN ((wholeB l).take 8) = x) := ⟨_, rfl⟩
  obtain ⟨x2, hx2⟩ : ∃ x, Hid (leN (((wholeB l).take 16).drop 8) = x) := ⟨_, rfl⟩
  rw [htp.out, hx1.out, hx2.out] at HCN
  rw [htp.out] at htop
  rw [hx1.out] at b1
  rw [hx2.out] at b2
  have hgl := a1.lt
  clear e5 a0 a1 hb r0 hl hmin hfit hlaid hset cn hr
  go_enter Try.func45, Try.ntmps45
  go_upto_region 2 with fail
  rw [hw0.out]
  have t0 : (0 : Int) ≤ (n : Int) := by omega
  have t17 : (n : Int) < 17 := by omega
  go_wp2_with (first
    | (refine wpList_copy8 rfl (.tmp 7) (.tmp 8) rfl (w.heap.size + 1) 0 17 17 rfl A n c rfl l n HL.out h1 HMIN.out (w.heap.size + 1) R0.out 101 (rowOf (zbytes 17)) A1.out HFIT.out ?_; intro w1 k1 g1 s1'; rw [row_laid, HLAID.out] at k1;
       have c1 := k1.cell n; rw [rowOf_at _ _ (by rw [List.length_append, List.length_replicate, HL.out]; omega)] at c1; have f1 := k1.frozen n;
       have k2 := k1.set_ n (.int .u8 ((1 : UInt8).toNat : Int)); rw [rowOf_set, HSET.out] at k2;
       have k2 : Bk (w1.setCell ⟨w.heap.size + 1, n, none⟩ (.int .u8 1)) (w.heap.size + 1) 101 (rowOf (wholeB l)) := k2;
       have K2 := hid_ k2; clear k1 k2;
       have A2 := hid_ ((A0.out.grown g1 (fun e => by injection e with e; omega)).far (p := ⟨w.heap.size + 1, n, none⟩) (by show w.heap.size ≠ w.heap.size + 1; omega) (.int .u8 1));
       have HB1 := hid_ ((HB.out.grown g1 (by have := HB.out.size; omega) (fun i hi => by injection hi with hi; omega)).setCell (p := ⟨w.heap.size + 1, n, none⟩) (by show w.heap.size ≤ w.heap.size + 1; omega) (.int .u8 1));
       have cw := words_any (w.heap.size + 1) 0 17 (w.heap.size + 1 + 1) ((wholeB l).take 16) _ (by rw [List.length_take, hwl.out]; rfl) (by omega) ((rd_of_bk K2.out (Nat.lt_succ_self _)).take 16);
       rw [List.take_take, show min 8 16 = 8 by omega, hx1.out, hx2.out] at cw;
       have c16 := K2.out.cell 16; rw [rowOf_at _ _ (by rw [hwl.out]; omega), htp.out] at c16)
    | (go_at_call 42; ((with_reducible refine cw.mono ?_); rintro e w' ⟨rfl, rfl⟩))
    | (go_at_call 43; ((with_reducible refine (HCN.out _).mono ?_); rintro e w5 ⟨rfl, hb5⟩); have A5 := A2.out.below hb5 A2.out.lt; have X5 := HB1.out.trans (hb5.mono HB1.out.size))
    | (refine wpList_put_row rfl 76 (.tmp 2) (.tmp 22) rfl w.heap.size (nRow (partN l)) rfl rfl 76 (nRow zeroN) A5 (E5.out _) rfl (nRow_one _) ?_; intro w9 k9 g9 s9))
  exact bodyPost_ret (results_cell_row Try.results45 _ _ w.heap.size 76 _ (0, 0) _ rfl k9 Try.underlying76 rfl (E5.out _)) rfl ⟨rfl, X5.grown g9 X5.size (fun k hk => by injection hk with hk; omega)⟩
end Go.Proofs.Ytopmngjaieobnaa
