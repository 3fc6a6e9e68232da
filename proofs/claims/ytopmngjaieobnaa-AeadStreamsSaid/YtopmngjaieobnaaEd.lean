/-
  Contract: casketlaw07.seals: what is sealed is opened again.
-/
import Derived.Test.YtopmngjaieobnaaEb
import Derived.Test.YtopmngjaieobnaaKa
import Derived.Lib.SlBytesConst
namespace Go.Proofs.Ytopmngjaieobnaa
open Go.RowKit
set_option linter.unusedVariables false
set_option linter.unusedSimpArgs false

theorem seal_take (key nonce wi b : List UInt8) (n : Nat) (h : b.length = n) : (sealB key nonce wi b).take n = streamB key nonce 1 b := by
  subst h
  unfold sealB
  exact List.take_left' (streamB_len _ _ _ _)
theorem seal_drop (key nonce wi b : List UInt8) (n : Nat) (h : b.length = n) : (sealB key nonce wi b).drop n = tagB key nonce wi (streamB key nonce 1 b) := by
  subst h
  unfold sealB
  exact List.drop_left' (streamB_len _ _ _ _)
theorem seal_opens (key nonce wi b : List UInt8) (n : Nat) (h : b.length = n) : tagB key nonce wi ((sealB key nonce wi b).take n) = (sealB key nonce wi b).drop n := by
  rw [seal_take _ _ _ _ n h, seal_drop _ _ _ _ n h]
theorem seal_back (key nonce wi b : List UInt8) (n : Nat) (h : b.length = n) : streamB key nonce 1 ((sealB key nonce wi b).take n) = b := by
  rw [seal_take _ _ _ _ n h, stream_twice]

def kO : List UInt8 := 1 :: zbytes 31
def nO : List UInt8 := 2 :: zbytes 11
def helloB : List UInt8 := [104, 101, 108, 108, 111]

set_option maxRecDepth 100000 in
set_option maxHeartbeats 2000000 in
theorem seals_any (w : World) : Calls Try.prog 19 #[] w fun e w' => e = .returned (.bool true) ∧ Below w.heap.size w w' := by
  have k1 := fun W => Lib.run_convert_bytes_const (P := Try.prog) W 23 5 #[.int .u8 97] 1 1 Try.underlying23 Try.underlying5
  have k2 := fun W => Lib.run_convert_bytes_const (P := Try.prog) W 23 5 #[.int .u8 104, .int .u8 101, .int .u8 108, .int .u8 108, .int .u8 111] 5 5 Try.underlying23 Try.underlying5
  have kk2 := k2 (w.alloc (.cells #[.int .u8 97] 5 (1, 2)))
  have hs1 : (w.alloc (.cells #[.int .u8 97] 5 (1, 2))).heap.size = w.heap.size + 1 := by simp
  rw [hs1] at kk2
  obtain ⟨w2, hw2⟩ : ∃ W, Hid ((w.alloc (.cells #[.int .u8 97] 5 (1, 2))).alloc (.cells #[.int .u8 104, .int .u8 101, .int .u8 108, .int .u8 108, .int .u8 111] 5 (5, 6)) = W) := ⟨_, rfl⟩
  have R1 : Hid (Rd w2 w2.heap.size (some ⟨w.heap.size, 0, none⟩) [97]) := hide_ (by
    have h := rd_mark w [97] (1, 2)
    have h2 := h.alloc (w := w.alloc (.cells #[.int .u8 97] 5 (1, 2))) (by simp) (.cells #[.int .u8 104, .int .u8 101, .int .u8 108, .int .u8 108, .int .u8 111] 5 (5, 6))
    rw [hw2.out] at h2
    exact h2.more (by rw [← hw2.out]; simp))
  have R2 : Hid (Rd w2 w2.heap.size (some ⟨w.heap.size + 1, 0, none⟩) helloB) := hide_ (by
    have h := rd_mark (w.alloc (.cells #[.int .u8 97] 5 (1, 2))) helloB (5, 6)
    rw [hs1] at h
    have h2 : Rd w2 (w.heap.size + 1 + 1) (some ⟨w.heap.size + 1, 0, none⟩) helloB := by rw [← hw2.out]; exact h
    exact h2.more (by rw [← hw2.out]; simp))
  have X2 : Hid (Below w.heap.size w w2) := hide_ (by rw [← hw2.out]; exact ((Below.refl _ _).alloc (Nat.le_refl _) _).alloc (by simp) _)
  have cs := seal_any kO nO (some ⟨w.heap.size, 0, none⟩) 1 1 [97] (some ⟨w.heap.size + 1, 0, none⟩) 5 5 helloB w2 rfl rfl rfl rfl R1.out R2.out (by omega) (by omega) (by omega) (by omega)
  have SL := hide_ (sealB_len kO nO [97] helloB)
  have SO := hide_ (seal_opens kO nO [97] helloB 5 rfl)
  have SB := hide_ (seal_back kO nO [97] helloB 5 rfl)
  obtain ⟨s, hs⟩ : ∃ s, Hid (sealB kO nO [97] helloB = s) := ⟨_, rfl⟩
  rw [hs.out] at cs SL SO SB
  have cs : Calls Try.prog 17 #[.agg (rowOf kO), .agg (rowOf nO), .slice (some ⟨w.heap.size, 0, none⟩) 1 1, .slice (some ⟨w.heap.size + 1, 0, none⟩) 5 5] w2 (NewP w2 21 s) := cs
  clear hs1
  go_enter Try.func19, Try.ntmps19
  go_upto_region 2 with (first
    | (refine wpList_built rfl 22 _ rfl (rowOf kO) (by kernel_rfl) ?_)
    | (refine wpList_built rfl 32 _ rfl (rowOf nO) (by kernel_rfl) ?_)
    | (rw [hw2.out]; go_at_call 17; ((with_reducible refine cs.mono ?_); rintro e w3 ⟨A3, c3, rfl, ho3, hb3⟩; have HO3 := hide_ ho3; have HB3 := hide_ hb3; clear ho3 hb3)))
  have X3 := hide_ (X2.out.trans (HB3.out.mono X2.out.size))
  have hcap := HO3.out.cap
  obtain ⟨w4, hw4⟩ : ∃ W, Hid (w3.alloc (.cells #[.int .u8 97] 5 (1, 2)) = W) := ⟨_, rfl⟩
  have R4 : Hid (Rd w4 w4.heap.size (some ⟨w3.heap.size, 0, none⟩) [97]) := hide_ (by
    have h := rd_mark w3 [97] (1, 2)
    have h2 : Rd w4 (w3.heap.size + 1) (some ⟨w3.heap.size, 0, none⟩) [97] := by rw [← hw4.out]; exact h
    exact h2.more (by rw [← hw4.out]; simp))
  have HO4 : Hid (Own8 w4 w2.heap.size (.slice A3 21 c3) s) := hide_ (by rw [← hw4.out]; exact HO3.out.alloc _)
  have X4 : Hid (Below w.heap.size w w4) := hide_ (by rw [← hw4.out]; exact X3.out.alloc X3.out.size _)
  have co : Calls Try.prog 18 #[.agg (rowOf kO), .agg (rowOf nO), .slice (some ⟨w3.heap.size, 0, none⟩) 1 1, .slice A3 21 c3] w4 (OpenedP w4 5 helloB) := by
    have h := aopen_yes kO nO (some ⟨w3.heap.size, 0, none⟩) 1 1 [97] A3 5 c3 s w4 rfl rfl rfl SL.out R4.out HO4.out.rd.1 hcap.1 hcap.2 (by omega) (by omega) SO.out
    rw [SB.out] at h
    exact h
  have k3 := k1 w3
  go_upto_region 3 with (first
    | (refine wpList_built rfl 22 _ rfl (rowOf kO) (by kernel_rfl) ?_)
    | (refine wpList_built rfl 32 _ rfl (rowOf nO) (by kernel_rfl) ?_)
    | (rw [hw4.out]; go_at_call 18; ((with_reducible refine co.mono ?_); rintro e w5 ⟨A5, c5, rfl, ho5, hb5⟩; have HO5 := hide_ ho5; have HB5 := hide_ hb5; clear ho5 hb5)))
  have X5 := hide_ (X4.out.trans (HB5.out.mono X4.out.size))
  have HS5 := hide_ (HO4.out.below HB5.out (Nat.le_refl _))
  have hmn := run_min2 21 15 15 rfl w5
  have hsl := slice_to A3 21 c3 15 15 rfl (by omega) w5
  have cf := aopen_short kO nO none 0 0 A3 15 c3 w5 (by omega)
  clear co cs k1 k2 k3
  go_upto_region 4 with (first
    | (refine wpList_built rfl 22 _ rfl (rowOf kO) (by kernel_rfl) ?_)
    | (refine wpList_built rfl 32 _ rfl (rowOf nO) (by kernel_rfl) ?_)
    | (go_at_call 18; ((with_reducible refine cf.mono ?_); rintro e w6 ⟨rfl, hb6⟩; have HB6 := hide_ hb6; clear hb6)))
  have X6 := hide_ (X5.out.trans (HB6.out.mono X5.out.size))
  have R6 := (HO5.out.rd.1.below HB6.out)
  have hcv := conv_strn R6 5 c5 rfl
  clear cf hmn hsl R6
  have hq : ((strOf helloB).toList == [104, 101, 108, 108, 111]) = true := by rw [strOf_toList]; rfl
  go_wp2
  go_ret
  exact ⟨rfl, X6.out⟩
end Go.Proofs.Ytopmngjaieobnaa
