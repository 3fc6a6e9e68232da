/-
  ring: firstBehind, slices.Contains of ints, Walk, Prefer.
-/
import Derived.Test.YtkhmghmilnfngaaDoorRgc
import Derived.Test.YtkhmghmilnfngaaDoorQc
namespace Go.Proofs.YtkhmghmilnfngaaDoor
set_option maxRecDepth 100000
open Go.ChangeShapes Go.WideShapes Go.ChangeAt Go.RowKit
set_option linter.unusedVariables false
set_option linter.unusedSimpArgs false

/-- What lies behind a Ring's pointer: its points. -/
def RingIs (w : World) (g : Nat) (L : List PtV) : Prop := ∃ A c, Bk w g 51 #[.slice A L.length c] ∧ RdD w w.heap.size A L
theorem RingIs.below {w w' : World} {g : Nat} {L : List PtV} (h : RingIs w g L) (hb : Below w.heap.size w w') : RingIs w' g L := by
  obtain ⟨A, c, k, r⟩ := h
  exact ⟨A, c, k.below hb k.lt, (r.below hb).more hb.size⟩
def FbP (w : World) (L : List PtV) (pl : Nat) (e : Ending) (w' : World) : Prop := ∃ (f : Nat), e = .returned (.int .i64 (f : Int)) ∧ FstP L pl f ∧ Below w.heap.size w w'
set_option maxRecDepth 100000 in
set_option maxHeartbeats 1000000 in
theorem firstBehind_any (w : World) (g : Nat) (L : List PtV) (hr : RingIs w g L) (hs : Srt ltP L) (hm : L.length ≤ 1000000) (pl : Nat) :
    Calls Tryd.prog 23 #[.pointer (some ⟨g, 0, none⟩), .int .u64 (pl : Int)] w (FbP w L pl) := by
  obtain ⟨A, c, k, r⟩ := hr
  have k0 := (show w.cell? ⟨g, 0, none⟩ = some (.slice A L.length c) from k.cell 0)
  have cs := search_any w A L.length c L rfl r hs hm pl
  clear k r hs
  go_enter Tryd.func23, Tryd.ntmps23
  go_wp2_with (go_at_call 33; ((with_reducible refine cs.mono ?_); clear cs; rintro e w2 ⟨f, b, rfl, hf, hb⟩; have HF := hidrg_ hf; have HB := hidrg_ hb; clear hf hb))
  go_ret
  exact ⟨f, rfl, HF.out, HB.out⟩
def IxP (w : World) (l : List Nat) (x : Nat) (e : Ending) (w' : World) : Prop := ∃ z : Int, e = .returned (.int .i64 z) ∧ decide (0 ≤ z) = decide (x ∈ l) ∧ Below w.heap.size w w'
set_option maxRecDepth 100000 in
set_option maxHeartbeats 2000000 in
theorem indexZ_any (w : World) (A : Option Addr) (n c : Nat) (l : List Nat) (hn : l.length = n) (hr : RdZ w w.heap.size A l) (hm : n ≤ 1000000) (x : Nat) :
    Calls Tryd.prog 35 #[.slice A n c, .int .i64 (x : Int)] w (IxP w l x) := by
  have HN := hidrg_ hn
  have HR := hidrg_ hr
  clear hn hr
  go_enter Tryd.func35, Tryd.ntmps35
  go_wp2
  go_loopw [8] (fun i wr => ∃ (k : Nat), i = .int .i64 k ∧ k ≤ n ∧ Hid (Below w.heap.size w wr) ∧ Hid (∀ j, j < k → l.getD j 0 ≠ x)) (fun i _ => n - (intOf i).toNat)
  case atStart => exact ⟨0, rfl, Nat.zero_le _, hidrg_ (Below.refl _ _), hidrg_ (fun j h => absurd h (by omega))⟩
  case round =>
    obtain ⟨k, rfl, hk, HB, H1⟩ := hrel
    by_cases hlt : k < n
    · have tl : (k : Int) < (n : Int) := by omega
      obtain ⟨b, off, rfl, hbl, hc⟩ := (HR.out.below HB.out).at_ (k := k) (by rw [HN.out]; exact hlt)
      obtain ⟨y, hy⟩ : ∃ y, l.getD k 0 = y := ⟨_, rfl⟩
      rw [hy] at hc
      have HY := hidrg_ hy
      clear hy
      by_cases he : x = y
      · have te : ((x : Int) == (y : Int)) = true := by simp; omega
        have HE := hidrg_ (show x ∈ l by
          rw [he, ← HY.out, List.getD_eq_getElem?_getD, List.getElem?_eq_getElem (by rw [HN.out]; exact hlt)]
          exact List.getElem_mem _)
        go_wp2
        go_ret
        exact ⟨(k : Int), rfl, by rw [decide_eq_true HE.out, decide_eq_true (by omega)], HB.out⟩
      · have te : ((x : Int) == (y : Int)) = false := by simp; omega
        go_wp2
        go_roundw
        case rel => exact ⟨k + 1, by go_num, by omega, HB, hidrg_ (fun j hj => by
          rcases Nat.lt_or_eq_of_le (Nat.le_of_lt_succ hj) with h | h
          · exact H1.out j h
          · rw [h, HY.out]; exact fun e => he e.symm)⟩
        case measure => simp [intOf]; omega
    · have tl : ¬ (k : Int) < (n : Int) := by omega
      have HE := hidrg_ (show x ∉ l from fun hx => by
        obtain ⟨j, hj, e⟩ := List.mem_iff_getElem.1 hx
        refine H1.out j (by have := HN.out; omega) ?_
        rw [List.getD_eq_getElem?_getD, List.getElem?_eq_getElem hj]
        exact e)
      go_wp2
      go_ret
      exact ⟨-1, rfl, by rw [decide_eq_false HE.out]; rfl, HB.out⟩
set_option maxRecDepth 100000 in
set_option maxHeartbeats 1000000 in
theorem containsZ_any (w : World) (A : Option Addr) (n c : Nat) (l : List Nat) (hn : l.length = n) (hr : RdZ w w.heap.size A l) (hm : n ≤ 1000000) (x : Nat) :
    Calls Tryd.prog 24 #[.slice A n c, .int .i64 (x : Int)] w fun e w' => e = .returned (.bool (decide (x ∈ l))) ∧ Below w.heap.size w w' := by
  have ci := indexZ_any w A n c l hn hr hm x
  obtain ⟨b, hb⟩ : ∃ b, decide (x ∈ l) = b := ⟨_, rfl⟩
  rw [hb]
  have HB := hidrg_ hb
  clear hn hr hb
  go_enter Tryd.func24, Tryd.ntmps24
  go_upto_region 2 with (go_at_call 35; ((with_reducible refine ci.mono ?_); clear ci; rintro e w2 ⟨z, rfl, hz, hb⟩; have HZ : decide (0 ≤ z) = b := (hz.trans HB.out); have HW := hidrg_ hb; clear hz hb))
  go_ret
  exact ⟨by simp_all, HW.out⟩
end Go.Proofs.YtkhmghmilnfngaaDoor
