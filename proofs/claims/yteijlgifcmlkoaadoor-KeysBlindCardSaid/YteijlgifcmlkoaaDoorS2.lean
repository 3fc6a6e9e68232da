/-
  Contract: sha2.schedule: of a block the sixty-four words.
-/
import Derived.Test.YteijlgifcmlkoaaDoorS0
import Derived.Test.YteijlgifcmlkoaaDoorQt
namespace Go.Proofs.YteijlgifcmlkoaaDoor
open Go.RowKit

theorem rd_of_bk {w : World} {g : Nat} {t : TypeId} {b : List UInt8} (h : Bk w g t (rowOf b)) {B : Nat} (hB : g < B) : Rd w B (some ⟨g, 0, none⟩) b := fun _ =>
  ⟨g, 0, rfl, hB, fun j hj => by rw [Nat.zero_add, h.cell j, rowOf_at b j hj]⟩

theorem nextW_eq (L : List Int) : nextW L = (ssig1 (L.getD (L.length - 2) 0) + L.getD (L.length - 7) 0 + ssig0 (L.getD (L.length - 15) 0) + L.getD (L.length - 16) 0) % 4294967296 := rfl

/-- A part of an array of bytes in memory, as a slice. -/
theorem slice_arr (g l h : Nat) (zl zh : Int) (hl : zl = (l : Int)) (hh : zh = (h : Int)) (h1 : l ≤ h) (h2 : h ≤ 64) (h3 : l < 64) (W : World) :
    (Instr.sliceAt 68 (.pointer (some ⟨g, 0, none⟩)) (some (.int .i64 zl)) (some (.int .i64 zh)) none).run Tryd.prog W = .ok (.slice (some ⟨g, l, none⟩) (h - l) (64 - l)) W := by
  subst hl hh
  have he : Tryd.prog.elem 68 = 5 := by kernel_rfl
  have hn : Tryd.prog.arrayLen 68 = 64 := by kernel_rfl
  have ht : Tryd.prog.underlying 68 = some (.array (Tryd.prog.arrayLen 68) (Tryd.prog.elem 68)) := by rw [he, hn]; exact Tryd.underlying68
  rw [run_sliceAt_array_lh W 68 ⟨g, 0, none⟩ ht .i64 .i64 l h (by omega) (by omega) (by rw [hn]; omega)]
  have hs : (sizeOf (Tryd.prog.elem 68)).run Tryd.prog W = .ok 1 W := by
    rw [he]
    obtain ⟨i, hi, hz, hsize, hby⟩ := info_parts info8
    simp [sizeOf, typeInfo, hi, hsize]
  rw [hs, hn]
  simp only [Result.andThen, slicedAt, Int.toNat_natCast, Nat.mul_one]
  rw [if_neg (by omega)]
  congr 3
  unfold Addr.add
  split
  · congr 1; omega
  · simp

/-- The row of the schedule as it lies behind k words. -/
def schedRow (b : List UInt8) (k : Nat) : List Int := sched b k ++ zeros (64 - k)
theorem schedRow_len (b : List UInt8) (k : Nat) (hk : k ≤ 64) : (schedRow b k).length = 64 := by
  unfold schedRow; rw [List.length_append, sched_len, zeros_len]; omega
theorem schedRow_set (b : List UInt8) (k : Nat) (hk : k < 64) (x : Int) (hx : x = if k < 16 then wordAt b k else nextW (sched b k)) : (schedRow b k).set k x = schedRow b (k + 1) := by
  have h := set_next (sched b k) (64 - k) x (by omega)
  rw [sched_len] at h
  unfold schedRow
  rw [h, sched, hx, Nat.sub_sub]
theorem schedRow_get (b : List UInt8) (k i : Nat) (hi : i < k) : (schedRow b k).getD i 0 = (sched b k).getD i 0 := by
  unfold schedRow
  simp only [List.getD]
  rw [List.getElem?_append_left (by rw [sched_len]; exact hi)]

set_option maxRecDepth 100000 in
set_option maxHeartbeats 4000000 in
theorem sched_any (b : List UInt8) (hb : b.length = 64) (w : World) :
    Calls Tryd.prog 47 #[.agg (rowOf b)] w fun e w' => e = .returned (.agg (wordsRow (sched b 64))) ∧ Below w.heap.size w w' := by
  have hz := z64
  have HL : Hid (b.length = 64) := hb
  have a0 : Bk (((w.alloc (.cells (rowOf b) 68)).alloc (.cells (wordsRow (zeros 64)) 57)).alloc (.cells (wordsRow (zeros 64)) 57)) w.heap.size 68 (rowOf b) := ((Bk.new w _ _).alloc _).alloc _
  have a1 : Bk (((w.alloc (.cells (rowOf b) 68)).alloc (.cells (wordsRow (zeros 64)) 57)).alloc (.cells (wordsRow (zeros 64)) 57)) (w.heap.size + 1) 57 (wordsRow (zeros 64)) := by simpa using (Bk.new (w.alloc (.cells (rowOf b) 68)) 57 (wordsRow (zeros 64))).alloc (.cells (wordsRow (zeros 64)) 57)
  have a2 : Bk (((w.alloc (.cells (rowOf b) 68)).alloc (.cells (wordsRow (zeros 64)) 57)).alloc (.cells (wordsRow (zeros 64)) 57)) (w.heap.size + 1 + 1) 57 (wordsRow (zeros 64)) := by simpa using Bk.new ((w.alloc (.cells (rowOf b) 68)).alloc (.cells (wordsRow (zeros 64)) 57)) 57 (wordsRow (zeros 64))
  have hw3 : Below w.heap.size w (((w.alloc (.cells (rowOf b) 68)).alloc (.cells (wordsRow (zeros 64)) 57)).alloc (.cells (wordsRow (zeros 64)) 57)) := (((Below.refl _ _).alloc (Nat.le_refl _) _).alloc (by simp) _).alloc (by simp; omega) _
  have A0 := hid_ a0
  have A1 := hid_ a1
  have A2 := hid_ a2
  have HW := hid_ hw3
  clear hb a0 a1 a2 hw3
  go_enter Tryd.func47, Tryd.ntmps47
  go_wp2
  go_loopw [4, 6] (fun _ i wr => ∃ k : Nat, k ≤ 16 ∧ i = .int .i64 k ∧ Bk wr w.heap.size 68 (rowOf b) ∧ Bk wr (w.heap.size + 1) 57 (wordsRow (zeros 64)) ∧ Bk wr (w.heap.size + 1 + 1) 57 (wordsRow (schedRow b k)) ∧ Below w.heap.size w wr) (fun _ i _ => 16 - (intOf i).toNat)
  case atStart => exact ⟨0, by omega, rfl, A0.out, A1.out, A2.out, HW.out⟩
  case round =>
    obtain ⟨k, hk, rfl, h0, h1, h2, hb⟩ := hrel
    have H0 := hid_ h0
    have H1 := hid_ h1
    have H2 := hid_ h2
    have HB := hid_ hb
    clear h0 h1 h2 hb A0 A1 A2 HW
    by_cases hlt : k < 16
    · have hlen : (((b.drop (4 * k)).take 4).length) = 4 := by rw [List.length_take, List.length_drop, HL.out]; omega
      have hrd := ((rd_of_bk H0.out (Nat.lt_succ_self _)).drop (4 * k)).take 4
      rw [Nat.zero_add] at hrd
      have c1 := high32_yes (some ⟨w.heap.size, 4 * k, none⟩) (w.heap.size + 1) (64 - 4 * k) ((b.drop (4 * k)).take 4) wr hlen hrd
      have hwk : ((beN ((b.drop (4 * k)).take 4) : Nat) : Int) = wordAt b k := rfl
      rw [hwk] at c1
      obtain ⟨x, hx⟩ : ∃ x, Hid (wordAt b k = x) := ⟨_, rfl⟩
      rw [hx.out] at c1
      have hc := H2.out.cell k
      rw [wordsRow_at _ _ (by rw [schedRow_len b k (by omega)]; omega)] at hc
      have hf := H2.out.frozen k
      have hset := H2.out.set_ k (.int .u32 x)
      rw [wordsRow_set, schedRow_set b k (by omega) x (by rw [if_pos hlt, hx.out])] at hset
      have HS := hid_ hset
      have hsl := slice_arr w.heap.size (4 * k) (4 * (k + 1)) (4 * (k : Int)) (4 * ((k : Int) + 1)) (by omega) (by omega) (by omega) (by omega) (by omega)
      rw [show 4 * (k + 1) - 4 * k = 4 by omega] at hsl
      clear hlen hrd hwk hset
      go_wp2_with (go_at_call 49; refine c1.mono ?_; rintro e w' ⟨rfl, rfl⟩)
      go_roundw
      case rel => exact ⟨k + 1, by omega, by go_num, H0.out.far (by simp <;> omega) _, H1.out.far (by simp <;> omega) _, HS.out, HB.out.setCell (by simp <;> omega) _⟩
      case measure => simp [intOf]; omega
    · obtain rfl : k = 16 := by omega
      go_wp2
      have HB16 : Hid (Below w.heap.size w wr) := HB
      clear HB
      go_loopw [5] (fun i wq => ∃ t : Nat, 16 ≤ t ∧ t ≤ 64 ∧ i = .int .i64 t ∧ Bk wq (w.heap.size + 1) 57 (wordsRow (zeros 64)) ∧ Bk wq (w.heap.size + 1 + 1) 57 (wordsRow (schedRow b t)) ∧ Below w.heap.size w wq) (fun i _ => 64 - (intOf i).toNat)
      case atStart => exact ⟨16, by omega, by omega, rfl, H1.out, H2.out, HB16.out⟩
      case round =>
        obtain ⟨t, ht1, ht2, rfl, g1, g2, gb⟩ := hrel
        have G1 := hid_ g1
        have G2 := hid_ g2
        have GB := hid_ gb
        clear g1 g2 gb H0 H1 H2 HB16 hlt
        by_cases hlt : t < 64
        · have hrl := schedRow_len b t (by omega)
          have l2 := G2.out.cell (t - 2)
          have l7 := G2.out.cell (t - 7)
          have l15 := G2.out.cell (t - 15)
          have l16 := G2.out.cell (t - 16)
          have lt := G2.out.cell t
          have ft := G2.out.frozen t
          rw [wordsRow_at _ _ (by omega), schedRow_get b t _ (by omega)] at l2 l7 l15 l16
          rw [wordsRow_at _ _ (by omega)] at lt
          have o2 := getD_ok (sched_ok b t) (t - 2)
          have o7 := getD_ok (sched_ok b t) (t - 7)
          have o15 := getD_ok (sched_ok b t) (t - 15)
          have o16 := getD_ok (sched_ok b t) (t - 16)
          have HN := hid_ (nextW_eq (sched b t))
          rw [sched_len] at HN
          generalize (sched b t).getD (t - 2) 0 = x2 at l2 o2 HN
          generalize (sched b t).getD (t - 7) 0 = x7 at l7 o7 HN
          generalize (sched b t).getD (t - 15) 0 = x15 at l15 o15 HN
          generalize (sched b t).getD (t - 16) 0 = x16 at l16 o16 HN
          generalize (schedRow b t).getD t 0 = y at lt
          obtain ⟨o2a, o2b⟩ := o2
          obtain ⟨o7a, o7b⟩ := o7
          obtain ⟨o15a, o15b⟩ := o15
          obtain ⟨o16a, o16b⟩ := o16
          have c1 : ∀ W : World, Calls Tryd.prog 50 #[.int .u32 x2, .int .i64 17, .int .i64 19, .int .i64 10] W fun e w' => e = .returned (.int .u32 (ssig1 x2)) ∧ W.drew = w' := fun W => moved_any x2 17 19 10 o2a o2b (by decide) (by decide) (by decide) W
          have c2 : ∀ W : World, Calls Tryd.prog 50 #[.int .u32 x15, .int .i64 7, .int .i64 18, .int .i64 3] W fun e w' => e = .returned (.int .u32 (ssig0 x15)) ∧ W.drew = w' := fun W => moved_any x15 7 18 3 o15a o15b (by decide) (by decide) (by decide) W
          obtain ⟨s1a, s1b⟩ := ssig1_ok x2
          obtain ⟨s0a, s0b⟩ := ssig0_ok x15
          clear hrl
          go_wp2
          have w2 : IntKind.i64.wrap ((t : Int) - 2) = (t : Int) - 2 := IntWalk.i64_in _ (by omega)
          have b2 : (0 : Int) ≤ (t : Int) - 2 := by omega
          have d2 : (2 : Int) ≤ (t : Int) := by omega
          have u2 : (t : Int) - 2 < 64 := by omega
          have n2 : ((t : Int) - 2).toNat = t - 2 := by omega
          have w7 : IntKind.i64.wrap ((t : Int) - 7) = (t : Int) - 7 := IntWalk.i64_in _ (by omega)
          have b7 : (0 : Int) ≤ (t : Int) - 7 := by omega
          have d7 : (7 : Int) ≤ (t : Int) := by omega
          have u7 : (t : Int) - 7 < 64 := by omega
          have n7 : ((t : Int) - 7).toNat = t - 7 := by omega
          have w15 : IntKind.i64.wrap ((t : Int) - 15) = (t : Int) - 15 := IntWalk.i64_in _ (by omega)
          have b15 : (0 : Int) ≤ (t : Int) - 15 := by omega
          have d15 : (15 : Int) ≤ (t : Int) := by omega
          have u15 : (t : Int) - 15 < 64 := by omega
          have n15 : ((t : Int) - 15).toNat = t - 15 := by omega
          have w16 : IntKind.i64.wrap ((t : Int) - 16) = (t : Int) - 16 := IntWalk.i64_in _ (by omega)
          have b16 : (0 : Int) ≤ (t : Int) - 16 := by omega
          have d16 : (16 : Int) ≤ (t : Int) := by omega
          have u16 : (t : Int) - 16 < 64 := by omega
          have n16 : ((t : Int) - 16).toNat = t - 16 := by omega
          have t0 : (0 : Int) ≤ (t : Int) := by omega
          have t64 : (t : Int) < 64 := by omega
          refine region_quiet_tail_lit 23 (by kernel_rfl) (by kernel_rfl) ?_
          simp only [List.take_succ_cons, List.take_zero]
          repeat (go_big_quiet_step ((first | (go_at_call 50; with_reducible exact q_drew (c1 _)) | (go_at_call 50; with_reducible exact q_drew (c2 _)))))
          refine wpQuiet_nil ?_
          intro w' hw'
          obtain ⟨nq, rfl⟩ := hw'
          simp only [List.drop_succ_cons, List.drop_zero]
          clear w2 w7 w15 w16 b2 b7 b15 b16 d2 d7 d15 d16 u2 u7 u15 u16 n2 n7 n15 n16 t0 t64 l2 l7 l15 l16
          have hset := G2.out.set_ t (.int .u32 (nextW (sched b t)))
          rw [wordsRow_set, schedRow_set b t hlt _ (by rw [if_neg (by omega)])] at hset
          rw [HN.out] at hset
          have HS := hid_ hset
          clear hset
          go_wp2
          go_roundw
          case rel => exact ⟨t + 1, by omega, by omega, by go_num, (G1.out.drewN nq).far (by simp <;> omega) _, HS.out, (below_drewN GB.out nq).setCell (by simp <;> omega) _⟩
          case measure => simp [intOf]; omega
        · obtain rfl : t = 64 := by omega
          have hr64 : schedRow b 64 = sched b 64 := by unfold schedRow; simp [zeros]
          have e64 : (Tryd.prog.info? 57).map (·.size) = some (wordsRow (sched b 64)).size := by rw [wordsRow_size, sched_len]; exact i64_
          have q64 : (wordsRow (zeros 64)).size = (wordsRow (sched b 64)).size := by rw [wordsRow_size, wordsRow_size, sched_len, zeros_len]
          have E64 := hid_ e64
          have Q64 := hid_ q64
          clear e64 q64
          have G2' := G2.out
          rw [hr64] at G2'
          go_wp2_with (first
            | (refine wpList_load_row rfl 57 _ rfl (w.heap.size + 1 + 1) rfl 57 (wordsRow (sched b 64)) (0, 0) _ G2' Tryd.underlying57 rfl E64.out ?_)
            | (refine wpList_put_row rfl 57 _ _ rfl (w.heap.size + 1) (wordsRow (sched b 64)) rfl rfl 57 (wordsRow (zeros 64)) G1.out E64.out Q64.out (words_one _) ?_; intro W9 k9 g9 s9))
          exact bodyPost_ret (results_cell_row Tryd.results47 _ _ (w.heap.size + 1) 57 _ (0, 0) _ rfl k9 Tryd.underlying57 rfl E64.out) rfl ⟨rfl, GB.out.grown g9 (by have := G1.out.lt; omega) (fun k hk => by injection hk with hk; omega)⟩
end Go.Proofs.YteijlgifcmlkoaaDoor
