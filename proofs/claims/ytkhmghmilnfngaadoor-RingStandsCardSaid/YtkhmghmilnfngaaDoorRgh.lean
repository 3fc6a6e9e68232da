/-
  The document's Same of two rows of ints; rings.
-/
import Derived.Test.YtkhmghmilnfngaaDoorRgg
namespace Go.Proofs.YtkhmghmilnfngaaDoor
set_option maxRecDepth 100000
open Go.ChangeShapes Go.WideShapes Go.ChangeAt Go.RowKit
set_option linter.unusedVariables false
set_option linter.unusedSimpArgs false

def SaZ (w : World) (b : Bool) (e : Ending) (w' : World) : Prop := e = .returned (.bool b) ∧ Below w.heap.size w w'
theorem getD_append_succ {l : List Nat} {k : Nat} (h : k < l.length) : l.take (k + 1) = l.take k ++ [l.getD k 0] := by
  rw [List.take_succ_eq_append_getElem h, List.getD_eq_getElem?_getD, List.getElem?_eq_getElem h]
  rfl
set_option maxRecDepth 100000 in
set_option maxHeartbeats 2000000 in
theorem sameZ_any (w : World) (A B : Option Addr) (n c m d : Nat) (l l' : List Nat) (hn : l.length = n) (hm : l'.length = m) (hr : RdZ w w.heap.size A l) (hr' : RdZ w w.heap.size B l') (h6 : n ≤ 1000000) :
    Calls Tryd.prog 14 #[.slice A n c, .slice B m d] w (SaZ w (decide (l = l'))) := by
  have HN := hidrg_ hn
  have HM := hidrg_ hm
  have HR := hidrg_ hr
  have HR2 := hidrg_ hr'
  clear hn hm hr hr'
  by_cases he : n = m
  · subst he
    have t1 : (!((n : Int) == (n : Int))) = false := by simp
    go_enter Tryd.func14, Tryd.ntmps14
    go_wp2
    clear t1
    go_loopw [5] (fun i wr => ∃ (k : Nat), i = .int .i64 k ∧ k ≤ n ∧ Hid (Below w.heap.size w wr) ∧ Hid (l.take k = l'.take k)) (fun i _ => n - (intOf i).toNat)
    case atStart => exact ⟨0, rfl, Nat.zero_le _, hidrg_ (Below.refl _ _), hidrg_ rfl⟩
    case round =>
      obtain ⟨k, rfl, hk, HB, H1⟩ := hrel
      by_cases hlt : k < n
      · have tl : (k : Int) < (n : Int) := by omega
        obtain ⟨b, off, rfl, hbl, hc⟩ := (HR.out.below HB.out).at_ (k := k) (by rw [HN.out]; exact hlt)
        obtain ⟨b2, off2, rfl, hbl2, hc2⟩ := (HR2.out.below HB.out).at_ (k := k) (by rw [HM.out]; exact hlt)
        obtain ⟨x, hx⟩ : ∃ y, l.getD k 0 = y := ⟨_, rfl⟩
        obtain ⟨y, hy⟩ : ∃ y, l'.getD k 0 = y := ⟨_, rfl⟩
        rw [hx] at hc
        rw [hy] at hc2
        have S1 := hidrg_ (show l.take (k + 1) = l.take k ++ [x] by rw [getD_append_succ (by rw [HN.out]; exact hlt), hx])
        have S2 := hidrg_ (show l'.take (k + 1) = l'.take k ++ [y] by rw [getD_append_succ (by rw [HM.out]; exact hlt), hy])
        clear hx hy
        by_cases hxy : x = y
        · have te : ((x : Int) == (y : Int)) = true := by simp; omega
          have te2 : ((x : Int) != (y : Int)) = false := by simp; omega
          have HE := hidrg_ (show l.take (k + 1) = l'.take (k + 1) by rw [S1.out, S2.out, H1.out, hxy])
          clear hxy
          go_upto_region 6 with fail
          go_quiet (fail)
          have HB2 := hidrg_ (show Below w.heap.size w (wr.drewN nq) from below_drewN HB.out nq)
          clear hc hc2 tl HB
          go_wp2
          go_roundw
          case rel => exact ⟨k + 1, by go_num, by omega, HB2, HE⟩
          case measure => simp [intOf]; omega
        · have te : ((x : Int) == (y : Int)) = false := by simp; omega
          have te2 : ((x : Int) != (y : Int)) = true := by simp; omega
          have HE := hidrg_ (show ¬ l = l' from fun e => hxy (by
            have h := S1.out
            rw [H1.out, e, S2.out] at h
            have := List.append_cancel_left h
            injection this with h1 h2
            exact h1.symm))
          go_upto_region 6 with fail
          go_quiet (fail)
          have HB2 := hidrg_ (show Below w.heap.size w (wr.drewN nq) from below_drewN HB.out nq)
          clear hc hc2 tl HB
          go_wp2
          go_ret
          exact ⟨by rw [decide_eq_false HE.out]; rfl, HB2.out⟩
      · have tl : ¬ (k : Int) < (n : Int) := by omega
        have HE := hidrg_ (show l = l' by
          have h := H1.out
          rw [List.take_of_length_le (by rw [HN.out]; omega), List.take_of_length_le (by rw [HM.out]; omega)] at h
          exact h)
        go_wp2
        go_ret
        exact ⟨by rw [decide_eq_true HE.out]; rfl, HB.out⟩
  · have t1 : ((n : Int) == (m : Int)) = false := by simp; omega
    have HE := hidrg_ (show ¬ l = l' from fun e => he (by rw [← HN.out, ← HM.out, e]))
    go_enter Tryd.func14, Tryd.ntmps14
    go_wp2
    go_ret
    exact ⟨by rw [decide_eq_false HE.out]; rfl, Below.refl _ _⟩

theorem rowOf_five : (#[.int .u8 5, .int .u8 0, .int .u8 0, .int .u8 0, .int .u8 0, .int .u8 0, .int .u8 0, .int .u8 0, .int .u8 0, .int .u8 0, .int .u8 0, .int .u8 0, .int .u8 0, .int .u8 0, .int .u8 0, .int .u8 0, .int .u8 0, .int .u8 0, .int .u8 0, .int .u8 0, .int .u8 0, .int .u8 0, .int .u8 0, .int .u8 0, .int .u8 0, .int .u8 0, .int .u8 0, .int .u8 0, .int .u8 0, .int .u8 0, .int .u8 0, .int .u8 0] : Array Value) = rowOf (5 :: List.replicate 31 0) := rfl
set_option maxRecDepth 100000 in
set_option maxHeartbeats 4000000 in
theorem rings_any (w : World) (ht : Tab w) (hg1 : 0 < w.heap.size) :
    Calls Tryd.prog 11 #[] w (SaZ w true) := by
  have c1 : Calls Tryd.prog 10 #[.int .i64 1, .int .i64 3] w (NewRP w 1 3) := new_any w 1 3 (by omega) (by omega) (by omega) (by omega) ht hg1
  have hS : Srt ltP (ringL plcS 1 3) := ringL_srt _ _ _
  have hL : (ringL plcS 1 3).length = 3 := ringL_len _ _ _
  obtain ⟨K5, h5⟩ : ∃ K : List UInt8, 5 :: List.replicate 31 0 = K := ⟨_, rfl⟩
  have hK : K5.length = 32 := by rw [← h5]; rfl
  have e5 := rowOf_five
  rw [h5] at e5
  have hw1 : (walkV (plB K5) (ringL plcS 1 3)).length = 1 := walk_len (plc := plcS) _ (by omega)
  have hw2 : walkV (plB K5) (ringL plcS 1 3) = [0] := by
    have h0 : ∀ x ∈ walkV (plB K5) (ringL plcS 1 3), x < 1 := fun x hx => walk_lt hx
    revert hw1 h0
    generalize walkV (plB K5) (ringL plcS 1 3) = l
    intro h1 h2
    match l, h1 with
    | [x], _ => have := h2 x (by simp); have : x = 0 := by omega
                rw [this]
  obtain ⟨L, hLL⟩ : ∃ L, ringL plcS 1 3 = L := ⟨_, rfl⟩
  unfold NewRP at c1
  rw [hLL] at c1 hS hL hw1 hw2
  have HS := hidrg_ hS
  have HL := hidrg_ hL
  have HK := hidrg_ hK
  have HW := hidrg_ hw2
  clear ht hS hL hK hw1 hw2 hLL h5
  go_enter Tryd.func11, Tryd.ntmps11
  go_wp2_with (first
    | (rw [e5]; clear e5)
    | (go_at_call 10; (first
      | ((with_reducible refine c1.mono ?_); clear c1; rintro e w2 ⟨g, rfl, hri, hb⟩; have B2 := hidrg_ hb; have cp := prefer_any w2 g L hri HS.out (by rw [HL.out]; omega) K5 HK.out 1 (by rw [HW.out]; decide); rw [HW.out] at cp; clear hri hb)
      | ((with_reducible refine c3.mono ?_); clear c3; rintro e w4 ⟨rfl, rfl⟩; obtain ⟨w5, hw5⟩ : ∃ W, w3.alloc (.cells #[.int .i64 0] 3) = W := ⟨_, rfl⟩; have R5 := rdz_one w3 0; rw [show (((0 : Nat) : Int)) = 0 from rfl, hw5] at R5; have b5 := (show Below w3.heap.size w3 w5 by rw [← hw5]; exact (Below.refl _ _).alloc (Nat.le_refl _) _); have cs : Calls Tryd.prog 14 #[.slice A n c, .slice (some ⟨w3.heap.size, 0, none⟩) 1 1] w5 (SaZ w5 true) := sameZ_any w5 A (some ⟨w3.heap.size, 0, none⟩) n c 1 1 [0] [0] HNN.out.symm rfl ((RZ.out.below b5).more b5.size) R5 (by rw [HNN.out]; decide); have B5 := hidrg_ (B3.out.trans (b5.mono B3.out.size)))))
    | (go_at_call 8; ((with_reducible refine cp.mono ?_); clear cp; rintro e w3 ⟨A, n, c, rfl, hn, hrz, hb⟩; have HNN := hidrg_ hn; have RZ := hidrg_ hrz; have B3 := hidrg_ (B2.out.trans (hb.mono B2.out.size)); have c3 := new_no w3 9 1 (by omega); clear hn hrz hb))
    | (go_at_call 14; go_loud (refine cs.mono ?_; clear cs; rintro e w6 ⟨rfl, hb⟩; have B6 := hidrg_ (B5.out.trans (hb.mono B5.out.size)); clear hb)))
  go_ret
  exact ⟨rfl, B6.out⟩
end Go.Proofs.YtkhmghmilnfngaaDoor
