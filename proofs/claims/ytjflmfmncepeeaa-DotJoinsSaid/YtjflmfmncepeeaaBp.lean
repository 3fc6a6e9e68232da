/-
  Contracts: bits.PutLow, slices.Reverse at bytes, bits.PutHigh.
-/
import Derived.Test.YtjflmfmncepeeaaWd
import Derived.Test.YtjflmfmncepeeaaBl
import Derived.Outline
import Derived.RegionTactic
import Derived.WalkLawsBesides
namespace Go.Proofs.Ytjflmfmncepeeaa
open Go.RowKit

theorem info8 : (Try.prog.info? 5).map (fun i => (i.zero, i.size, i.bytes)) = some (some (.int .u8 0), 1, 1) := by kernel_rfl
theorem mk8 (n : Nat) (hn : n ≤ 281474976710656) (w : World) :
    (Instr.makeSlice 33 (.int .i64 (n : Int)) (.int .i64 (n : Int))).run Try.prog w = .ok (.slice (some ⟨w.heap.size, 0, none⟩) n n) (w.alloc (.cells (rowOf (List.replicate n 0)) 5)) := by
  rw [← rowOf_made]
  exact run_make_row' 33 5 (.int .u8 0) 1 Try.underlying33 info8 rfl _ _ n (by omega) (by omega) w

/-- The lowest n bytes of x, the lowest first. -/
def lowB (n : Nat) (x : Nat) : List UInt8 := (List.range n).map fun i => UInt8.ofNat (x / 256 ^ i % 256)
theorem lowB_len (n x : Nat) : (lowB n x).length = n := by simp [lowB]
theorem lowB_succ (n x : Nat) : lowB (n + 1) x = lowB n x ++ [UInt8.ofNat (x / 256 ^ n % 256)] := by simp [lowB, List.range_succ]

theorem set_mid (l r : List UInt8) (b : UInt8) : (l ++ (0 :: r)).set l.length b = (l ++ [b]) ++ r := by
  rw [List.set_append_right _ _ (Nat.le_refl _)]
  simp
theorem low_step (n x k : Nat) (hk : k < n) : (lowB k x ++ List.replicate (n - k) 0).set k (UInt8.ofNat (x / 256 ^ k % 256)) = lowB (k + 1) x ++ List.replicate (n - (k + 1)) 0 := by
  have e : n - k = (n - (k + 1)) + 1 := by omega
  have h := set_mid (lowB k x) (List.replicate (n - (k + 1)) 0) (UInt8.ofNat (x / 256 ^ k % 256))
  rw [lowB_len] at h
  rw [e, List.replicate_succ, h, lowB_succ]

theorem putLow_any (x n : Nat) (size : Int) (hx : x ≤ 18446744073709551615) (w0 : -9223372036854775808 ≤ size) (w1 : size ≤ 9223372036854775807)
    (hn : size < 0 ∧ n = 0 ∨ 0 ≤ size ∧ size ≤ 64 ∧ size = (n : Int) ∨ 64 < size ∧ n = 64) (w : World) :
    Calls Try.prog 68 #[.int .u64 x, .int .i64 size] w fun e w' => e = .returned (.slice (some ⟨w.heap.size, 0, none⟩) n n) ∧ w.alloc (.cells (rowOf (lowB n x)) 5) = w' := by
  have hmk : ∀ z : Int, (n : Int) = z → ∀ W : World, (Instr.makeSlice 33 (.int .i64 z) (.int .i64 z)).run Try.prog W = .ok (.slice (some ⟨W.heap.size, 0, none⟩) n n) (W.alloc (.cells (rowOf (List.replicate n 0)) 5)) := by
    rintro z rfl W
    exact mk8 n (by omega) W
  have hn64 : n ≤ 64 := by omega
  rcases hn with ⟨h, h3⟩ | ⟨h, h2, rfl⟩ | ⟨h, h3⟩
  case' inl => have hmk0 := hmk 0 (by omega)
  case' inr.inl => have hmk0 := hmk n rfl
  case' inr.inr => have hmk0 := hmk 64 (by omega)
  case' inl => clear hmk h3
  case' inr.inl => clear hmk
  case' inr.inr => clear hmk h3
  all_goals
    go_enter Try.func68, Try.ntmps68
    go_wp2
    go_loopw [0, 6, 13] (fun y _ i wr => ∃ k : Nat, k ≤ n ∧ i = .int .i64 k ∧ y = .int .u64 ((x / 256 ^ k : Nat) : Int) ∧ wr = w.alloc (.cells (rowOf (lowB k x ++ List.replicate (n - k) 0)) 5)) (fun _ _ i _ => n - (intOf i).toNat)
    case atStart => exact ⟨0, Nat.zero_le _, rfl, by simp, by simp [lowB]⟩
    case round =>
      obtain ⟨k, hk, rfl, rfl, rfl⟩ := hrel
      have hyl : x / 256 ^ k ≤ 18446744073709551615 := Nat.le_trans (Nat.div_le_self _ _) hx
      by_cases hlt : k < n
      · have hc := (Blk8.new w (lowB k x ++ List.replicate (n - k) 0)).cell k (by simp [lowB_len]; omega)
        have hst := low_step n x k hlt
        have hset := rowOf_set (lowB k x ++ List.replicate (n - k) 0) k (UInt8.ofNat (x / 256 ^ k % 256))
        have HS : Hid ((rowOf (lowB k x ++ List.replicate (n - k) 0)).setIfInBounds k (.int .u8 ((x / 256 ^ k : Nat) % 256 : Int)) = rowOf (lowB (k + 1) x ++ List.replicate (n - (k + 1)) 0)) := by
          rw [← hst, ← hset]
          show _ = _
          congr 2
          simp
        clear hst hset
        have HP : Hid (x / 256 ^ k / 256 = x / 256 ^ (k + 1)) := by
          show _ = _
          rw [Nat.pow_succ, Nat.div_div_eq_div_mul]
        obtain ⟨y, hy⟩ : ∃ y, Hid (x / 256 ^ k = y) := ⟨_, rfl⟩
        rw [hy.out] at hyl HP HS ⊢
        go_wp2
        go_roundw
        case rel => exact ⟨k + 1, by omega, by go_num, by rw [← HP.out]; rfl, by rw [HS.out]⟩
        case measure => simp [intOf]; omega
      · obtain rfl : k = n := by omega
        go_wp2
        go_ret
        exact ⟨rfl, by simp⟩

/-- So far turned: the first k and the last k. -/
def revAt (l : List UInt8) (k : Nat) (m : List UInt8) : Prop :=
  m.length = l.length ∧ ∀ i, i < l.length → m.getD i 0 = if i < k ∨ l.length ≤ i + k then l.getD (l.length - 1 - i) 0 else l.getD i 0
theorem revAt_zero (l : List UInt8) : revAt l 0 l := ⟨rfl, fun i hi => by rw [if_neg (by omega)]⟩
theorem getD_set (l : List UInt8) (i j : Nat) (b : UInt8) (hi : i < l.length) : (l.set i b).getD j 0 = if i = j then b else l.getD j 0 := by
  by_cases h : i = j
  · subst h; simp [List.getD, hi]
  · simp [List.getD, h]
theorem revAt_step {l m : List UInt8} {k j : Nat} (h : revAt l k m) (hkj : k < j) (hj : j + k + 1 = l.length) : revAt l (k + 1) ((m.set k (m.getD j 0)).set j (m.getD k 0)) := by
  obtain ⟨hl, h⟩ := h
  refine ⟨by simp [hl], fun i hi => ?_⟩
  rw [getD_set _ _ _ _ (by simp; omega), getD_set _ _ _ _ (by omega)]
  have hk := h k (by omega)
  have hj' := h j (by omega)
  rw [if_neg (by omega)] at hk hj'
  by_cases h1 : j = i
  · subst h1
    rw [if_pos rfl, if_pos (by omega), hk]
    congr 1; omega
  · rw [if_neg h1]
    by_cases h2 : k = i
    · subst h2
      rw [if_pos rfl, if_pos (by omega), hj']
      congr 1; omega
    · rw [if_neg h2, h i hi]
      by_cases h3 : i < k ∨ l.length ≤ i + k
      · rw [if_pos h3, if_pos (by omega)]
      · rw [if_neg h3, if_neg (by omega)]
theorem revAt_end {l m : List UInt8} {k : Nat} (h : revAt l k m) (hk : l.length ≤ 2 * k + 1) : m = l.reverse := by
  obtain ⟨hl, h⟩ := h
  apply List.ext_getElem
  · simp [hl]
  · intro i h1 h2
    have hi := h i (by omega)
    have e : (if i < k ∨ l.length ≤ i + k then l.getD (l.length - 1 - i) 0 else l.getD i 0) = l.getD (l.length - 1 - i) 0 := by
      by_cases h3 : i < k ∨ l.length ≤ i + k
      · rw [if_pos h3]
      · rw [if_neg h3]; congr 1; omega
    rw [e] at hi
    simp [List.getD, h1] at hi
    rw [hi, List.getElem_reverse, List.getElem?_eq_getElem (by omega)]
    rfl

theorem grown_put {a w : World} {g : Nat} (h : a.grownBy w (some g)) (o : Nat) (u : Value) : a.grownBy (w.setCell ⟨g, o, none⟩ u) (some g) :=
  ⟨h.os, h.tape, h.output, by simpa [World.setCell] using h.size, fun i hi hne => (Below.heap_setCell w ⟨g, o, none⟩ u i (fun e => hne (by rw [e]))).trans (h.block i hi hne)⟩
theorem grown_drew {a w : World} {row : Option Nat} (h : a.grownBy w row) : a.grownBy w.drew row := ⟨h.os, h.tape, h.output, h.size, h.block⟩

set_option maxHeartbeats 400000 in
/-- slices.Reverse on a row of the call's own: the row read backwards. -/
theorem reverse_any (g cap : Nat) (l : List UInt8) (w : World) (hb : Blk8 w g l) (hm : l.length ≤ 9223372036854775807) :
    Calls Try.prog 69 #[.slice (some ⟨g, 0, none⟩) l.length cap] w fun e w' => e = .returned (.tuple #[]) ∧ Blk8 w' g l.reverse ∧ w.grownBy w' (some g) := by
  go_enter Try.func69, Try.ntmps69
  go_wp2
  go_loopw [2, 3] (fun i j wr => ∃ (k : Nat) (z : Int) (m : List UInt8), k ≤ l.length ∧ z + k + 1 = l.length ∧ i = .int .i64 k ∧ j = .int .i64 z ∧ revAt l k m ∧ Blk8 wr g m ∧ w.grownBy wr (some g)) (fun i _ _ => l.length + 1 - (intOf i).toNat)
  case atStart => exact ⟨0, _, l, by omega, by omega, rfl, rfl, revAt_zero l, hb, World.grownBy.refl w _⟩
  case round =>
    obtain ⟨k, z, m, hk, hz, rfl, rfl, hm', hbk, hgr⟩ := hrel
    have HR : Hid (revAt l k m) := hm'
    have HB : Hid (Blk8 wr g m) := hbk
    have HG : Hid (w.grownBy wr (some g)) := hgr
    have hml := hm'.1
    clear hm' hbk hgr hb
    by_cases hlt : (k : Int) < z
    · obtain ⟨j, rfl⟩ := Int.eq_ofNat_of_zero_le (show 0 ≤ z by omega)
      have c1 := HB.out.cell k (by omega)
      have c2 := HB.out.cell j (by omega)
      have f1 := HB.out.frozen k
      have f2 := HB.out.frozen j
      have HS := HB.out.set_ k (m.getD j 0)
      have c3 := HS.cell j (by simp; omega)
      have f3 := HS.frozen j
      have HR2 : Hid (revAt l (k + 1) ((m.set k (m.getD j 0)).set j (m.getD k 0))) := revAt_step HR.out (by omega) (by omega)
      have HS2 : Hid _ := HS.set_ j (m.getD k 0)
      rw [getD_set _ _ _ _ (by omega), if_neg (by omega)] at c3
      clear HS hml
      go_wp2
      go_region
      all_goals
        go_wp2
        go_roundw
        case rel =>
          have HG2 := grown_drew (grown_put (grown_put HG.out k (.int .u8 ((m.getD j 0).toNat : Int))) j (.int .u8 ((m.getD k 0).toNat : Int)))
          exact ⟨k + 1, _, _, by omega, by omega, by go_num, rfl, HR2.out, HS2.out, HG2⟩
        case measure => simp [intOf]; omega
    · go_wp2
      go_end0
      exact ⟨rfl, by rw [← revAt_end HR.out (by omega)]; exact HB.out, HG.out⟩

/-- The lowest n bytes of x, the highest first. -/
def highB (n x : Nat) : List UInt8 := (lowB n x).reverse
theorem highB_len (n x : Nat) : (highB n x).length = n := by simp [highB, lowB_len]

theorem putHigh_any (x n : Nat) (size : Int) (hx : x ≤ 18446744073709551615) (w0 : -9223372036854775808 ≤ size) (w1 : size ≤ 9223372036854775807)
    (hn : size < 0 ∧ n = 0 ∨ 0 ≤ size ∧ size ≤ 64 ∧ size = (n : Int) ∨ 64 < size ∧ n = 64) (w : World) :
    Calls Try.prog 54 #[.int .u64 x, .int .i64 size] w fun e w' => e = .returned (.slice (some ⟨w.heap.size, 0, none⟩) n n) ∧ Blk8 w' w.heap.size (highB n x) ∧ Below w.heap.size w w' := by
  have c1 := putLow_any x n size hx w0 w1 hn w
  have hn64 : n ≤ 64 := by omega
  have c2 := reverse_any w.heap.size n (lowB n x) _ (Blk8.new w (lowB n x)) (by rw [lowB_len]; omega)
  rw [lowB_len] at c2
  clear hn
  go_enter Try.func54, Try.ntmps54
  go_wp2_with (first | (go_at_call 68; refine c1.mono ?_; rintro e w' ⟨rfl, rfl⟩) | (go_at_call 69; refine c2.mono ?_; rintro e w2 ⟨rfl, hb, hg⟩))
  go_ret
  exact ⟨rfl, hb, ((Below.refl _ _).alloc (Nat.le_refl _) _).grown hg (by simp) (fun k hk => by injection hk with hk; omega)⟩

end Go.Proofs.Ytjflmfmncepeeaa
