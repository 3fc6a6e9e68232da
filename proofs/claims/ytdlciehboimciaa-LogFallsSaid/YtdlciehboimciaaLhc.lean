/-
  log's laws: the document's Same and All.
-/
import Derived.Test.YtdlciehboimciaaLha
import Derived.Test.YtdlciehboimciaaLhb
import Derived.Test.YtdlciehboimciaaAm
namespace Go.Proofs.Ytdlciehboimciaa
set_option maxRecDepth 100000
open Go.RowKit
set_option linter.unusedVariables false
set_option linter.unusedSimpArgs false

theorem str_beqL (x y : List UInt8) : ((strOf x).toList == (strOf y).toList) = decide (x = y) := by
  by_cases h : x = y
  · rw [strOf_eq x y h, decide_eq_true h]
  · rw [strOf_ne x y h, decide_eq_false h]
theorem take_next {L : List (List UInt8)} (j : Nat) (h : j < L.length) : L.take (j + 1) = L.take j ++ [L.getD j []] := by
  rw [List.take_succ_eq_append_getElem h]
  simp [List.getD, h]
section
variable {w : World} {A B : Option Addr} {La Lb : List (List UInt8)}
set_option maxRecDepth 100000 in
set_option maxHeartbeats 4000000 in
theorem sameL_any (n ca m cb : Nat) (hn : La.length = n) (hm : Lb.length = m) (hA : PtA w A La) (hB : PtA w B Lb) (hn6 : n ≤ 1000000) (hm6 : m ≤ 1000000) :
    Calls Try.prog 22 #[.slice A n ca, .slice B m cb] w fun e w' => e = .returned (.bool (decide (La = Lb))) ∧ Below w.heap.size w w' := by
  by_cases hnm : n = m
  · subst hnm
    have HA := hidg_ hA
    have HB := hidg_ hB
    have HN := hidg_ hn
    have HM := hidg_ hm
    clear hA hB hn hm
    go_enter Try.func22, Try.ntmps22
    go_wp2
    go_loopw [5] (fun i wr => ∃ j : Nat, j ≤ n ∧ i = .int .i64 j ∧ Hid (La.take j = Lb.take j) ∧ Hid (Below w.heap.size w wr)) (fun i _ => n - (intOf i).toNat)
    case atStart => exact ⟨0, Nat.zero_le _, rfl, rfl, Below.refl _ _⟩
    case round =>
      obtain ⟨j, hj, rfl, HT, HW⟩ := hrel
      by_cases hlt : j < n
      · have d1 : decide ((j : Int) < (n : Int)) = true := decide_eq_true (by omega)
        have d2 : decide (j < n) = true := decide_eq_true hlt
        obtain ⟨b1, o1, a1, k1, rfl, hc1, hr1, hl1⟩ := HA.out j (by rw [HN.out]; exact hlt)
        obtain ⟨b2, o2, a2, k2, rfl, hc2, hr2, hl2⟩ := HB.out j (by rw [HM.out]; exact hlt)
        have CX := hidg_ (fun W (hW : Below w.heap.size w W) => (hW.cell (p := ⟨b1, o1 + j, none⟩) hl1).trans hc1)
        have CY := hidg_ (fun W (hW : Below w.heap.size w W) => (hW.cell (p := ⟨b2, o2 + j, none⟩) hl2).trans hc2)
        obtain ⟨x, hx⟩ : ∃ x, La.getD j [] = x := ⟨_, rfl⟩
        obtain ⟨y, hy⟩ : ∃ y, Lb.getD j [] = y := ⟨_, rfl⟩
        rw [hx] at CX hr1
        rw [hy] at CY hr2
        obtain ⟨nx, hnx⟩ : ∃ z, x.length = z := ⟨_, rfl⟩
        obtain ⟨ny, hny⟩ : ∃ z, y.length = z := ⟨_, rfl⟩
        rw [hnx] at CX
        rw [hny] at CY
        have VX := hidg_ (fun W (hW : Below w.heap.size w W) => conv_strn (hr1.below hW) nx k1 hnx)
        have VY := hidg_ (fun W (hW : Below w.heap.size w W) => conv_strn (hr2.below hW) ny k2 hny)
        have SB := hidg_ (str_beqL x y)
        have HX := hidg_ hx
        have HY := hidg_ hy
        have t0 : (0 : Int) ≤ (j : Int) := by omega
        have tn : (j : Int) < (n : Int) := by omega
        clear hc1 hc2 hr1 hr2 hl1 hl2 hx hy hnx hny
        go_upto_region 6 with fail
        refine region_quiet_in (C := fun W => Below w.heap.size w W) (by kernel_rfl) (by kernel_rfl) HW.out.drew ?_
        (go_big_quiet_want; (refine BigFrame.quiet_move _ rfl ?_; go_simp); go_big_quiet_on)
        (go_big_quiet_want; (refine BigFrame.quiet_move _ rfl ?_; go_simp); go_big_quiet_on)
        (go_big_quiet_want; (refine quiet_run (.pointer (some ⟨b1, o1 + j, none⟩)) ?_ ?_; (focus (intro W hW; go_simp; done)); go_simp); go_big_quiet_on)
        (go_big_quiet_want; (refine quiet_run (.slice a1 nx k1) ?_ ?_; (focus (intro W hW; have h := CX.out W hW; go_simp; done)); go_simp); go_big_quiet_on)
        (go_big_quiet_want; (refine quiet_run (.string (strOf x)) ?_ ?_; (focus (intro W hW; have h := VX.out W hW; go_simp; done)); go_simp); go_big_quiet_on)
        (go_big_quiet_want; (refine BigFrame.quiet_move _ rfl ?_; go_simp); go_big_quiet_on)
        (go_big_quiet_want; (refine BigFrame.quiet_move _ rfl ?_; go_simp); go_big_quiet_on)
        (go_big_quiet_want; (refine quiet_run (.pointer (some ⟨b2, o2 + j, none⟩)) ?_ ?_; (focus (intro W hW; go_simp; done)); go_simp); go_big_quiet_on)
        (go_big_quiet_want; (refine quiet_run (.slice a2 ny k2) ?_ ?_; (focus (intro W hW; have h := CY.out W hW; go_simp; done)); go_simp); go_big_quiet_on)
        (go_big_quiet_want; (refine quiet_run (.string (strOf y)) ?_ ?_; (focus (intro W hW; have h := VY.out W hW; go_simp; done)); go_simp); go_big_quiet_on)
        (go_big_quiet_want; (refine quiet_run (.bool (!decide (x = y))) ?_ ?_; (focus (intro W hW; have h := SB.out; go_simp; done)); go_simp); go_big_quiet_on)
        refine wpQuiet_nil ?_
        intro w2 hw2
        have X2 := hidg_ (show Below w.heap.size w w2 from hw2)
        clear hw2 CX CY VX VY SB
        by_cases hxy : x = y
        · rw [decide_eq_true hxy]
          have HXY := hidg_ hxy
          clear hxy
          go_wp2
          go_roundw
          case rel => exact ⟨j + 1, by omega, by go_num, hidg_ (by rw [take_next j (by rw [HN.out]; exact hlt), take_next j (by rw [HM.out]; exact hlt), HT.out, HX.out, HY.out, HXY.out]), X2⟩
          case measure => simp [intOf]; omega
        · rw [decide_eq_false hxy]
          have HXY := hidg_ hxy
          clear hxy
          go_wp2
          go_ret
          refine ⟨?_, X2.out⟩
          rw [decide_eq_false (fun e => HXY.out (by rw [← HX.out, ← HY.out, e]))]
          rfl
      · have hjn : j = n := by omega
        have d1 : decide ((j : Int) < (n : Int)) = false := decide_eq_false (by omega)
        have d2 : decide (j < n) = false := decide_eq_false hlt
        have HL : Hid (La = Lb) := hidg_ (by have h := HT.out; rw [List.take_of_length_le (by rw [HN.out]; omega), List.take_of_length_le (by rw [HM.out]; omega)] at h; exact h)
        clear HT hjn
        go_wp2
        go_ret
        refine ⟨?_, HW.out⟩
        rw [decide_eq_true HL.out]
        rfl
  · have d1 : ((n : Int) == (m : Int)) = false := by simp; omega
    have d3 : ¬ (n : Int) = (m : Int) := by omega
    have HD := hidg_ (show ¬ La = Lb from fun e => hnm (by rw [← hn, ← hm, e]))
    clear hn hm hA hB
    go_enter Try.func22, Try.ntmps22
    go_wp2
    go_ret
    refine ⟨?_, Below.refl _ _⟩
    rw [decide_eq_false HD.out]
    rfl
set_option maxRecDepth 100000 in
set_option maxHeartbeats 4000000 in
theorem allL_any (n ca : Nat) (hn : La.length = n) (hA : PtA w A La) (h6 : (allB La).length ≤ 1000000) :
    Calls Try.prog 12 #[.slice A n ca] w fun e w' => e = .returned (.string (strOf (allB La))) ∧ Below w.heap.size w w' := by
  have HA := hidg_ hA
  have HN := hidg_ hn
  have H6 := hidg_ h6
  have hb := (allB_len La).1
  have hn6 : n ≤ 1000000 := by omega
  clear hA hn h6 hb
  go_enter Try.func12, Try.ntmps12
  go_wp2
  go_loopw [3, 4] (fun v i wr => ∃ (j k : Nat) (A' : Option Addr) (c' : Nat), j ≤ n ∧ i = .int .i64 j ∧ v = .slice A' k c' ∧ Hid ((allB (La.take j)).length = k) ∧ Hid (OwnT wr w.heap.size (.slice A' k c') (allB (La.take j))) ∧ Hid (Below w.heap.size w wr)) (fun _ i _ => n - (intOf i).toNat)
  case atStart => exact ⟨0, 0, none, 0, Nat.zero_le _, rfl, rfl, hidg_ (by simp [allB]), hidg_ (.inl ⟨rfl, by simp [allB]⟩), Below.refl _ _⟩
  case round =>
    obtain ⟨j, k, A', c', hj, rfl, rfl, HK, HO, HW⟩ := hrel
    by_cases hlt : j < n
    · have d1 : decide ((j : Int) < (n : Int)) = true := decide_eq_true (by omega)
      have d2 : decide (j < n) = true := decide_eq_true hlt
      obtain ⟨b1, o1, a1, k1, rfl, hc1, hr1, hl1⟩ := HA.out j (by rw [HN.out]; exact hlt)
      have hcx := (HW.out.cell (p := ⟨b1, o1 + j, none⟩) hl1).trans hc1
      have hrx := hr1.below HW.out
      have ht := allB_take_ La j (by rw [HN.out]; exact hlt)
      have hle := allB_le La (j + 1)
      obtain ⟨x, hx⟩ : ∃ x, La.getD j [] = x := ⟨_, rfl⟩
      rw [hx] at hcx hrx ht
      obtain ⟨nx, hnx⟩ : ∃ z, x.length = z := ⟨_, rfl⟩
      rw [hnx] at hcx
      have hrl : (recB x).length = nx + 8 := by rw [recB_len, hnx]
      have hk8 : k + (nx + 8) ≤ 1000000 := by
        have h1 := congrArg List.length ht
        rw [List.length_append, HK.out, hrl] at h1
        have := H6.out
        omega
      have cv := conv_strn hrx nx k1 hnx
      have HT := hidg_ ht
      have HRL := hidg_ hrl
      have HNX := hidg_ hnx
      have HK8 := hidg_ hk8
      have t0 : (0 : Int) ≤ (j : Int) := by omega
      have tn : (j : Int) < (n : Int) := by omega
      have hnx6 : nx ≤ 1000000 := by omega
      clear hc1 hr1 hl1 hrx ht hle hrl hnx hk8 hx
      go_wp2_with (first
        | (go_at_call 15; have cp := refRecL_any wr x nx HNX.out hnx6; ((with_reducible refine cp.mono ?_); clear cp; rintro e w2 ⟨rfl, hb⟩; have X2 := hidg_ (HW.out.trans (hb.mono HW.out.size)); have O2 := hidg_ (HO.out.below hb (Nat.le_refl _)); clear hb))
        | (refine wpList_appS rfl (.tmp 11) (.tmp 17) rfl O2.out rfl (recB x) (nx + 8) rfl HRL.out (by rw [HK.out]; have := HK8.out; omega) X2.out.size ?_; rw [HK.out]; intro A3 c3 w3 h3 g3; have O3 := hidg_ h3; have X3 := hidg_ (X2.out.grown g3 X2.out.size (fun k e => (O2.out.lt k e).1)); clear h3 g3))
      obtain ⟨k3, hk3⟩ : ∃ z, k + (nx + 8) = z := ⟨_, rfl⟩
      have HK3 := hidg_ hk3
      simp only [hk3] at O3 ⊢
      clear hk3
      go_wp2
      go_roundw
      case rel => exact ⟨j + 1, k3, A3, c3, by omega, by go_num, rfl, hidg_ (by rw [HT.out, List.length_append, HK.out, HRL.out]; exact HK3.out), hidg_ (by rw [HT.out]; exact O3.out), X3⟩
      case measure => simp [intOf]; omega
    · have hjn : j = n := by omega
      have d1 : decide ((j : Int) < (n : Int)) = false := decide_eq_false (by omega)
      have d2 : decide (j < n) = false := decide_eq_false hlt
      have he : La.take j = La := List.take_of_length_le (by rw [HN.out]; omega)
      rw [he] at HK HO
      have cv := conv_strn HO.out.rd.1 k c' HK.out
      clear hjn he
      go_wp2
      go_ret
      exact ⟨rfl, HW.out⟩
end
end Go.Proofs.Ytdlciehboimciaa
