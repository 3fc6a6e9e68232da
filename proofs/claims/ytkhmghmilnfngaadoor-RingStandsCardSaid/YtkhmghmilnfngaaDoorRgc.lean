/-
  ring: cmp.Compare of places, placeOf, the search for the first point behind a place, slices.Contains of ints.
-/
import Derived.Test.YtkhmghmilnfngaaDoorRgb
namespace Go.Proofs.YtkhmghmilnfngaaDoor
set_option maxRecDepth 100000
open Go.ChangeShapes Go.WideShapes Go.ChangeAt Go.RowKit
set_option linter.unusedVariables false
set_option linter.unusedSimpArgs false

theorem hidrg_ {p : Prop} (h : p) : Hid p := h
set_option maxRecDepth 100000 in
set_option maxHeartbeats 1000000 in
theorem nan64_any (w : World) (z : Int) : Calls Tryd.prog 32 #[.int .u64 z] w fun e w' => e = .returned (.bool false) ∧ w = w' := by
  have h1 : (z == z) = true := by simp
  go_enter Tryd.func32, Tryd.ntmps32
  go_wp2
  go_ret
  exact ⟨by simp, rfl⟩
set_option maxRecDepth 100000 in
set_option maxHeartbeats 1000000 in
theorem compare64_any (w : World) (a b : Nat) : Calls Tryd.prog 22 #[.int .u64 (a : Int), .int .u64 (b : Int)] w fun e w' => e = .returned (.int .i64 (cmpU a b)) ∧ w = w' := by
  have ca := fun W => nan64_any W (a : Int)
  have cb := fun W => nan64_any W (b : Int)
  by_cases h1 : a < b
  · have d1 : decide ((a : Int) < (b : Int)) = true := decide_eq_true (by omega)
    have d3 : decide (a < b) = true := decide_eq_true h1
    rw [show cmpU a b = -1 from if_pos h1]
    go_enter Tryd.func22, Tryd.ntmps22
    go_wp2_with (first
      | (go_at_call 32; ((with_reducible refine (ca _).mono ?_); clear ca; rintro e w2 ⟨rfl, rfl⟩))
      | (go_at_call 32; ((with_reducible refine (cb _).mono ?_); clear cb; rintro e w2 ⟨rfl, rfl⟩)))
    go_ret
    exact ⟨rfl, rfl⟩
  · have d1 : decide ((a : Int) < (b : Int)) = false := decide_eq_false (by omega)
    have d3 : decide (a < b) = false := decide_eq_false h1
    by_cases h2 : b < a
    · have d2 : decide ((b : Int) < (a : Int)) = true := decide_eq_true (by omega)
      have d4 : decide (b < a) = true := decide_eq_true h2
      rw [show cmpU a b = 1 by unfold cmpU; rw [if_neg h1, if_pos h2]]
      go_enter Tryd.func22, Tryd.ntmps22
      go_wp2_with (first
        | (go_at_call 32; ((with_reducible refine (ca _).mono ?_); clear ca; rintro e w2 ⟨rfl, rfl⟩))
        | (go_at_call 32; ((with_reducible refine (cb _).mono ?_); clear cb; rintro e w2 ⟨rfl, rfl⟩)))
      go_ret
      exact ⟨rfl, rfl⟩
    · have d2 : decide ((b : Int) < (a : Int)) = false := decide_eq_false (by omega)
      have d4 : decide (b < a) = false := decide_eq_false h2
      rw [show cmpU a b = 0 by unfold cmpU; rw [if_neg h1, if_neg h2]]
      go_enter Tryd.func22, Tryd.ntmps22
      go_wp2_with (first
        | (go_at_call 32; ((with_reducible refine (ca _).mono ?_); clear ca; rintro e w2 ⟨rfl, rfl⟩))
        | (go_at_call 32; ((with_reducible refine (cb _).mono ?_); clear cb; rintro e w2 ⟨rfl, rfl⟩)))
      go_ret
      exact ⟨rfl, rfl⟩
/-- Where bytes stand. -/
def plB (l : List UInt8) : Nat := beN (l.take 8)
theorem plB_lt (l : List UInt8) : plB l < 18446744073709551616 := by
  have h := beN_lt (l.take 8)
  have : (256 : Nat) ^ (l.take 8).length ≤ 256 ^ 8 := Nat.pow_le_pow_right (by omega) (by rw [List.length_take]; omega)
  have h8 : (256 : Nat) ^ 8 = 18446744073709551616 := by decide
  unfold plB
  omega
set_option maxRecDepth 100000 in
set_option maxHeartbeats 1000000 in
theorem placeOf_any (w : World) (l : List UInt8) (hl : l.length = 32) : Calls Tryd.prog 18 #[.agg (rowOf l)] w fun e w' => e = .returned (.int .u64 (plB l : Nat)) ∧ Below w.heap.size w w' := by
  obtain ⟨g, hg⟩ : ∃ g, w.heap.size = g := ⟨_, rfl⟩
  obtain ⟨w1, hw1⟩ : ∃ W, w.alloc (.cells (rowOf l) 22) = W := ⟨_, rfl⟩
  have B1 := hidrg_ (show Below w.heap.size w w1 by rw [← hw1]; exact (Below.refl _ _).alloc (Nat.le_refl _) _)
  have R1 := (show Bk w1 g 22 (rowOf l) by rw [← hw1, ← hg]; exact Bk.new w _ _)
  have t8 := fun W => dig_to g 8 (by omega) W
  have ch := high64_yes (some ⟨g, 0, none⟩) w1.heap.size 32 (l.take 8) w1 (by rw [List.length_take, hl]; rfl) ((R1.rd R1.lt).take 8)
  obtain ⟨z, hz⟩ : ∃ z, beN (l.take 8) = z := ⟨_, rfl⟩
  rw [hz] at ch
  rw [show plB l = z from hz]
  clear R1 hl hz
  go_enter Tryd.func18, Tryd.ntmps18
  go_wp2_with (go_at_call 26; ((with_reducible refine ch.mono ?_); clear ch; rintro e w2 ⟨rfl, rfl⟩))
  go_ret
  exact ⟨rfl, B1.out⟩
def PtV.row (x : PtV) : Array Value := #[.int .u64 (x.p : Int), .int .i64 (x.r : Int)]
theorem pt_cells (x : PtV) : x.cells.toArray = x.row := rfl
theorem iPt (x : PtV) : (Tryd.prog.info? 55).map (·.size) = some x.row.size := by kernel_rfl
set_option maxRecDepth 100000 in
set_option maxHeartbeats 1000000 in
theorem ptCmp_any (w : World) (x y : PtV) : Calls Tryd.prog 21 #[.agg x.row, .agg y.row] w fun e w' => e = .returned (.int .i64 (cmpU x.p y.p)) ∧ w' = (w.alloc (.cells x.row 55)).alloc (.cells y.row 55) := by
  obtain ⟨w1, hw1⟩ : ∃ W, w.alloc (.cells x.row 55) = W := ⟨_, rfl⟩
  obtain ⟨w2, hw2⟩ : ∃ W, w1.alloc (.cells y.row 55) = W := ⟨_, rfl⟩
  obtain ⟨g, hg⟩ : ∃ g, w.heap.size = g := ⟨_, rfl⟩
  have s1 : w1.heap.size = g + 1 := by rw [← hw1, ← hg]; simp
  have K1 : Bk w2 g 55 x.row := by have k := Bk.new w 55 x.row; rw [hw1, hg] at k; rw [← hw2]; exact k.alloc _
  have K2 : Bk w2 (g + 1) 55 y.row := by have k := Bk.new w1 55 y.row; rw [hw2, s1] at k; exact k
  have k1 := (show w2.cell? ⟨g, 0, none⟩ = some (.int .u64 (x.p : Int)) from K1.cell 0)
  have k2 := (show w2.cell? ⟨g + 1, 0, none⟩ = some (.int .u64 (y.p : Int)) from K2.cell 0)
  have cc := compare64_any w2 x.p y.p
  rw [hw1, hw2]
  clear K1 K2
  go_enter Tryd.func21, Tryd.ntmps21
  go_wp2_with (go_at_call 22; ((with_reducible refine cc.mono ?_); clear cc; rintro e w3 ⟨rfl, rfl⟩))
  go_ret
  exact ⟨rfl, rfl⟩
set_option maxRecDepth 100000 in
set_option maxHeartbeats 1000000 in
theorem behindCmp_any (w : World) (x : PtV) (pl : Nat) : Calls Tryd.prog 34 #[.agg x.row, .int .u64 (pl : Int)] w fun e w' => e = .returned (.int .i64 (cmpU x.p pl)) ∧ Below w.heap.size w w' := by
  obtain ⟨w1, hw1⟩ : ∃ W, w.alloc (.cells x.row 55) = W := ⟨_, rfl⟩
  obtain ⟨g, hg⟩ : ∃ g, w.heap.size = g := ⟨_, rfl⟩
  have B1 := hidrg_ (show Below w.heap.size w w1 by rw [← hw1]; exact (Below.refl _ _).alloc (Nat.le_refl _) _)
  have K1 : Bk w1 g 55 x.row := by have k := Bk.new w 55 x.row; rw [hw1, hg] at k; exact k
  have k1 := (show w1.cell? ⟨g, 0, none⟩ = some (.int .u64 (x.p : Int)) from K1.cell 0)
  have cc := compare64_any w1 x.p pl
  clear K1
  go_enter Tryd.func34, Tryd.ntmps34
  go_wp2_with (go_at_call 22; ((with_reducible refine cc.mono ?_); clear cc; rintro e w3 ⟨rfl, rfl⟩))
  go_ret
  exact ⟨rfl, B1.out⟩
theorem rdd_at {w : World} {B b off : Nat} {L : List PtV} (h : RdD w B (some ⟨b, off, none⟩) L) (j : Nat) (hj : j < L.length) : b < B ∧ ∀ i, i < (L.getD j ⟨0, 0⟩).row.size → w.cell? ⟨b, off + j * 2 + i, none⟩ = (L.getD j ⟨0, 0⟩).row[i]? := by
  obtain ⟨b', off', e, hlt, hc⟩ := h (by omega)
  injection e with e
  injection e with e1 e2
  subst e1 e2
  refine ⟨hlt, fun i hi => ?_⟩
  have hi2 : i < 2 := hi
  obtain ⟨h1, h2⟩ := hc j hj
  rcases (by omega : i = 0 ∨ i = 1) with rfl | rfl
  · exact h1
  · exact h2
theorem cmpU_lt (a b : Nat) : decide (cmpU a b < 0) = decide (a < b) := by
  unfold cmpU
  split
  · simp [*]
  · split <;> simp [*]
/-- The search: how many stand below a place. -/
def FstP (L : List PtV) (pl f : Nat) : Prop := f ≤ L.length ∧ (∀ j x, j < f → L[j]? = some x → x.p < pl) ∧ (∀ j x, f ≤ j → L[j]? = some x → pl ≤ x.p)
def SrchP (w : World) (L : List PtV) (pl : Nat) (e : Ending) (w' : World) : Prop := ∃ (f : Nat) (b : Bool), e = .returned (.tuple #[.int .i64 (f : Int), .bool b]) ∧ FstP L pl f ∧ Below w.heap.size w w'
set_option maxRecDepth 100000 in
set_option maxHeartbeats 4000000 in
theorem search_any (w : World) (A : Option Addr) (n c : Nat) (L : List PtV) (hn : L.length = n) (hr : RdD w w.heap.size A L) (hs : Srt ltP L) (hm : n ≤ 1000000) (pl : Nat) :
    Calls Tryd.prog 33 #[.slice A n c, .int .u64 (pl : Int), .func (.func 34) #[] #[]] w (SrchP w L pl) := by
  have HN := hidrg_ hn
  have HR := hidrg_ hr
  have HS := hidrg_ hs
  have cc := fun W x => behindCmp_any W x pl
  clear hn hr hs
  go_enter Tryd.func33, Tryd.ntmps33
  go_wp2
  go_loopw [9, 10] (fun i j wr => ∃ (ii jj : Nat), i = .int .i64 ii ∧ j = .int .i64 jj ∧ ii ≤ jj ∧ jj ≤ n ∧ Hid (Below w.heap.size w wr) ∧ Hid (∀ k x, k < ii → L[k]? = some x → x.p < pl) ∧ Hid (∀ k x, jj ≤ k → L[k]? = some x → pl ≤ x.p)) (fun i j _ => (intOf j).toNat - (intOf i).toNat)
  case atStart => exact ⟨0, n, rfl, rfl, Nat.zero_le _, Nat.le_refl _, hidrg_ (Below.refl _ _), hidrg_ (fun k x h => absurd h (by omega)), hidrg_ (fun k x h hx => by have := (List.getElem?_eq_some_iff.1 hx).1; have := HN.out; omega)⟩
  case round =>
    obtain ⟨ii, jj, rfl, rfl, hij, hjn, HB, H1, H2⟩ := hrel
    by_cases hlt : ii < jj
    · have tl : (ii : Int) < (jj : Int) := by omega
      obtain ⟨h, hh⟩ : ∃ h, h = (ii + jj) / 2 := ⟨_, rfl⟩
      have hb1 : ii ≤ h ∧ h < jj := by omega
      have c1 : IntKind.u64.wrap ((ii : Int) + (jj : Int)) = (ii : Int) + (jj : Int) := by rw [IntKind.wrap_u64]; omega
      have c0 : ((ii : Int) + (jj : Int)) / 2 = (h : Int) := by omega
      have hr2 := (HR.out.below HB.out)
      obtain ⟨b, off, rfl, hbl, hcs⟩ := hr2 (by have := HN.out; omega)
      obtain ⟨_, hcell⟩ := rdd_at hr2 h (by have := HN.out; omega)
      obtain ⟨x, hx⟩ : ∃ x, L.getD h ⟨0, 0⟩ = x := ⟨_, rfl⟩
      have HX := hidrg_ (show L[h]? = some x by have e := List.getElem?_eq_getElem (l := L) (i := h) (by have := HN.out; omega); rw [e, ← hx]; simp [List.getD_eq_getElem?_getD, e])
      rw [hx] at hcell
      have HC := hidrg_ hcell
      have ta : (h : Int) < (n : Int) := by omega
      have cd := cc wr x
      have H1x := hidrg_ (show decide (x.p < pl) = true → ∀ k y, k < h + 1 → L[k]? = some y → y.p < pl from fun e k y hk hy => by
        have e := of_decide_eq_true e
        have := srt_get' wkP HS.out (show k ≤ h by omega) hy HX.out
        unfold ltP at this
        simp at this
        omega)
      have H2x := hidrg_ (show decide (x.p < pl) = false → ∀ k y, h ≤ k → L[k]? = some y → pl ≤ y.p from fun e k y hk hy => by
        have e := of_decide_eq_false e
        have := srt_get' wkP HS.out hk HX.out hy
        unfold ltP at this
        simp at this
        omega)
      have HU := hidrg_ (cmpU_lt x.p pl)
      obtain ⟨cz, hcz⟩ : ∃ z, cmpU x.p pl = z := ⟨_, rfl⟩
      rw [hcz] at cd HU
      clear hr2 hcs hcell hx hh hcz
      by_cases hc : cz < 0
      · have tc : decide (cz < 0) = true := decide_eq_true hc
        have HT := hidrg_ (show decide (x.p < pl) = true by rw [← HU.out]; exact tc)
        go_wp2_with (first
          | (refine wpList_load_sub rfl 55 (.tmp 27) rfl b (off + h * 2) rfl x.row HC.out _ Tryd.underlying55 rfl (iPt x) ?_)
          | (go_at_call 34; ((with_reducible refine cd.mono ?_); clear cd; rintro e w2 ⟨rfl, hb⟩; have HB2 := hidrg_ (HB.out.trans (hb.mono HB.out.size)); clear hb)))
        go_roundw
        case rel => exact ⟨h + 1, jj, by go_num, rfl, by omega, hjn, HB2, hidrg_ (H1x.out HT.out), H2⟩
        case measure => simp [intOf]; omega
      · have tc : decide (cz < 0) = false := decide_eq_false hc
        have HT := hidrg_ (show decide (x.p < pl) = false by rw [← HU.out]; exact tc)
        go_wp2_with (first
          | (refine wpList_load_sub rfl 55 (.tmp 27) rfl b (off + h * 2) rfl x.row HC.out _ Tryd.underlying55 rfl (iPt x) ?_)
          | (go_at_call 34; ((with_reducible refine cd.mono ?_); clear cd; rintro e w2 ⟨rfl, hb⟩; have HB2 := hidrg_ (HB.out.trans (hb.mono HB.out.size)); clear hb)))
        go_roundw
        case rel => exact ⟨ii, h, rfl, rfl, by omega, by omega, HB2, H1, hidrg_ (H2x.out HT.out)⟩
        case measure => simp [intOf]; omega
    · have tl : ¬ (ii : Int) < (jj : Int) := by omega
      obtain rfl : ii = jj := by omega
      have HF := hidrg_ (show FstP L pl ii from ⟨by rw [HN.out]; exact hjn, H1.out, H2.out⟩)
      by_cases hn2 : ii < n
      · have tn : decide ((ii : Int) < (n : Int)) = true := decide_eq_true (by omega)
        have tn2 : decide (ii < n) = true := decide_eq_true hn2
        have ta : (ii : Int) < (n : Int) := by omega
        have hr2 := (HR.out.below HB.out)
        obtain ⟨b, off, rfl, hbl, hcs⟩ := hr2 (by have := HN.out; omega)
        obtain ⟨_, hcell⟩ := rdd_at hr2 ii (by have := HN.out; omega)
        obtain ⟨x, hx⟩ : ∃ x, L.getD ii ⟨0, 0⟩ = x := ⟨_, rfl⟩
        rw [hx] at hcell
        have k1 := (show wr.cell? ⟨b, off + ii * 2, none⟩ = some (.int .u64 (x.p : Int)) from hcell 0 (by show 0 < 2; omega))
        have k2 := (show wr.cell? ⟨b, off + ii * 2 + 1, none⟩ = some (.int .i64 (x.r : Int)) from hcell 1 (by show 1 < 2; omega))
        have cd := cc wr x
        unfold PtV.row at cd
        clear hr2 hcs hcell hx
        go_wp2_with (go_at_call 34; ((with_reducible refine cd.mono ?_); clear cd; rintro e w2 ⟨rfl, hb⟩; have HB2 := hidrg_ (HB.out.trans (hb.mono HB.out.size)); clear hb))
        go_ret2
        exact ⟨ii, _, rfl, HF.out, HB2.out⟩
      · have tn : decide ((ii : Int) < (n : Int)) = false := decide_eq_false (by omega)
        have tn2 : decide (ii < n) = false := decide_eq_false hn2
        go_wp2
        go_ret2
        exact ⟨ii, _, rfl, HF.out, HB.out⟩
end Go.Proofs.YtkhmghmilnfngaaDoor
