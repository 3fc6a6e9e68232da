/-
  Merged: Rgc Rgd Rge.
-/
import Derived.Test.YtegfnlnbhhmkjaaDoorRB
import Derived.Test.YtegfnlnbhhmkjaaDoorQc
namespace Go.Proofs.YtegfnlnbhhmkjaaDoor
set_option maxRecDepth 100000
open Go.ChangeShapes Go.WideShapes Go.ChangeAt Go.RowKit
set_option linter.unusedVariables false
set_option linter.unusedSimpArgs false

theorem hidrg_ {p : Prop} (h : p) : Hid p := h
set_option maxRecDepth 100000 in
set_option maxHeartbeats 1000000 in
theorem nan64_any (w : World) (z : Int) : Calls Tryd.prog 51 #[.int .u64 z] w fun e w' => e = .returned (.bool false) ∧ w = w' := by
  have h1 : (z == z) = true := by simp
  go_enter Tryd.func51, Tryd.ntmps51
  go_wp2
  go_ret
  exact ⟨by simp, rfl⟩
set_option maxRecDepth 100000 in
set_option maxHeartbeats 1000000 in
theorem compare64_any (w : World) (a b : Nat) : Calls Tryd.prog 17 #[.int .u64 (a : Int), .int .u64 (b : Int)] w fun e w' => e = .returned (.int .i64 (cmpU a b)) ∧ w = w' := by
  have ca := fun W => nan64_any W (a : Int)
  have cb := fun W => nan64_any W (b : Int)
  by_cases h1 : a < b
  · have d1 : decide ((a : Int) < (b : Int)) = true := decide_eq_true (by omega)
    have d3 : decide (a < b) = true := decide_eq_true h1
    rw [show cmpU a b = -1 from if_pos h1]
    go_enter Tryd.func17, Tryd.ntmps17
    go_wp2_with (first
      | (go_at_call 51; ((with_reducible refine (ca _).mono ?_); clear ca; rintro e w2 ⟨rfl, rfl⟩))
      | (go_at_call 51; ((with_reducible refine (cb _).mono ?_); clear cb; rintro e w2 ⟨rfl, rfl⟩)))
    go_ret
    exact ⟨rfl, rfl⟩
  · have d1 : decide ((a : Int) < (b : Int)) = false := decide_eq_false (by omega)
    have d3 : decide (a < b) = false := decide_eq_false h1
    by_cases h2 : b < a
    · have d2 : decide ((b : Int) < (a : Int)) = true := decide_eq_true (by omega)
      have d4 : decide (b < a) = true := decide_eq_true h2
      rw [show cmpU a b = 1 by unfold cmpU; rw [if_neg h1, if_pos h2]]
      go_enter Tryd.func17, Tryd.ntmps17
      go_wp2_with (first
        | (go_at_call 51; ((with_reducible refine (ca _).mono ?_); clear ca; rintro e w2 ⟨rfl, rfl⟩))
        | (go_at_call 51; ((with_reducible refine (cb _).mono ?_); clear cb; rintro e w2 ⟨rfl, rfl⟩)))
      go_ret
      exact ⟨rfl, rfl⟩
    · have d2 : decide ((b : Int) < (a : Int)) = false := decide_eq_false (by omega)
      have d4 : decide (b < a) = false := decide_eq_false h2
      rw [show cmpU a b = 0 by unfold cmpU; rw [if_neg h1, if_neg h2]]
      go_enter Tryd.func17, Tryd.ntmps17
      go_wp2_with (first
        | (go_at_call 51; ((with_reducible refine (ca _).mono ?_); clear ca; rintro e w2 ⟨rfl, rfl⟩))
        | (go_at_call 51; ((with_reducible refine (cb _).mono ?_); clear cb; rintro e w2 ⟨rfl, rfl⟩)))
      go_ret
      exact ⟨rfl, rfl⟩
/-- Where bytes stand. -/
def plB (l : List UInt8) : Nat := beN (l.take 8)
theorem plB_lt (l : List UInt8) : plB l < 18446744073709551616 := by
  have h := beN_lt (l.take 8)
  have : (256 : Nat) ^ (l.take 8).length ≤ 256 ^ 8 := Nat.pow_le_pow_right (by omega) (by rw [List.length_take]; omega)
  have h8 : (256 : Nat) ^ 8 = 18446744073709551616 := by decide
  unfold plB
  omega
set_option maxRecDepth 100000 in
set_option maxHeartbeats 1000000 in
theorem placeOf_any (w : World) (l : List UInt8) (hl : l.length = 32) : Calls Tryd.prog 13 #[.agg (rowOf l)] w fun e w' => e = .returned (.int .u64 (plB l : Nat)) ∧ Below w.heap.size w w' := by
  obtain ⟨g, hg⟩ : ∃ g, w.heap.size = g := ⟨_, rfl⟩
  obtain ⟨w1, hw1⟩ : ∃ W, w.alloc (.cells (rowOf l) 22) = W := ⟨_, rfl⟩
  have B1 := hidrg_ (show Below w.heap.size w w1 by rw [← hw1]; exact (Below.refl _ _).alloc (Nat.le_refl _) _)
  have R1 := (show Bk w1 g 22 (rowOf l) by rw [← hw1, ← hg]; exact Bk.new w _ _)
  have t8 := fun W => dig_to g 8 (by omega) W
  have ch := high64_yes (some ⟨g, 0, none⟩) w1.heap.size 32 (l.take 8) w1 (by rw [List.length_take, hl]; rfl) ((R1.rd R1.lt).take 8)
  obtain ⟨z, hz⟩ : ∃ z, beN (l.take 8) = z := ⟨_, rfl⟩
  rw [hz] at ch
  rw [show plB l = z from hz]
  clear R1 hl hz
  go_enter Tryd.func13, Tryd.ntmps13
  go_wp2_with (go_at_call 45; ((with_reducible refine ch.mono ?_); clear ch; rintro e w2 ⟨rfl, rfl⟩))
  go_ret
  exact ⟨rfl, B1.out⟩
def PtV.row (x : PtV) : Array Value := #[.int .u64 (x.p : Int), .int .i64 (x.r : Int)]
theorem pt_cells (x : PtV) : x.cells.toArray = x.row := rfl
theorem iPt (x : PtV) : (Tryd.prog.info? 61).map (·.size) = some x.row.size := by kernel_rfl
set_option maxRecDepth 100000 in
set_option maxHeartbeats 1000000 in
theorem ptCmp_any (w : World) (x y : PtV) : Calls Tryd.prog 16 #[.agg x.row, .agg y.row] w fun e w' => e = .returned (.int .i64 (cmpU x.p y.p)) ∧ w' = (w.alloc (.cells x.row 61)).alloc (.cells y.row 61) := by
  obtain ⟨w1, hw1⟩ : ∃ W, w.alloc (.cells x.row 61) = W := ⟨_, rfl⟩
  obtain ⟨w2, hw2⟩ : ∃ W, w1.alloc (.cells y.row 61) = W := ⟨_, rfl⟩
  obtain ⟨g, hg⟩ : ∃ g, w.heap.size = g := ⟨_, rfl⟩
  have s1 : w1.heap.size = g + 1 := by rw [← hw1, ← hg]; simp
  have K1 : Bk w2 g 61 x.row := by have k := Bk.new w 61 x.row; rw [hw1, hg] at k; rw [← hw2]; exact k.alloc _
  have K2 : Bk w2 (g + 1) 61 y.row := by have k := Bk.new w1 61 y.row; rw [hw2, s1] at k; exact k
  have k1 := (show w2.cell? ⟨g, 0, none⟩ = some (.int .u64 (x.p : Int)) from K1.cell 0)
  have k2 := (show w2.cell? ⟨g + 1, 0, none⟩ = some (.int .u64 (y.p : Int)) from K2.cell 0)
  have cc := compare64_any w2 x.p y.p
  rw [hw1, hw2]
  clear K1 K2
  go_enter Tryd.func16, Tryd.ntmps16
  go_wp2_with (go_at_call 17; ((with_reducible refine cc.mono ?_); clear cc; rintro e w3 ⟨rfl, rfl⟩))
  go_ret
  exact ⟨rfl, rfl⟩
set_option maxRecDepth 100000 in
set_option maxHeartbeats 1000000 in
theorem behindCmp_any (w : World) (x : PtV) (pl : Nat) : Calls Tryd.prog 69 #[.agg x.row, .int .u64 (pl : Int)] w fun e w' => e = .returned (.int .i64 (cmpU x.p pl)) ∧ Below w.heap.size w w' := by
  obtain ⟨w1, hw1⟩ : ∃ W, w.alloc (.cells x.row 61) = W := ⟨_, rfl⟩
  obtain ⟨g, hg⟩ : ∃ g, w.heap.size = g := ⟨_, rfl⟩
  have B1 := hidrg_ (show Below w.heap.size w w1 by rw [← hw1]; exact (Below.refl _ _).alloc (Nat.le_refl _) _)
  have K1 : Bk w1 g 61 x.row := by have k := Bk.new w 61 x.row; rw [hw1, hg] at k; exact k
  have k1 := (show w1.cell? ⟨g, 0, none⟩ = some (.int .u64 (x.p : Int)) from K1.cell 0)
  have cc := compare64_any w1 x.p pl
  clear K1
  go_enter Tryd.func69, Tryd.ntmps69
  go_wp2_with (go_at_call 17; ((with_reducible refine cc.mono ?_); clear cc; rintro e w3 ⟨rfl, rfl⟩))
  go_ret
  exact ⟨rfl, B1.out⟩
theorem rdd_at {w : World} {B b off : Nat} {L : List PtV} (h : RdD w B (some ⟨b, off, none⟩) L) (j : Nat) (hj : j < L.length) : b < B ∧ ∀ i, i < (L.getD j ⟨0, 0⟩).row.size → w.cell? ⟨b, off + j * 2 + i, none⟩ = (L.getD j ⟨0, 0⟩).row[i]? := by
  obtain ⟨b', off', e, hlt, hc⟩ := h (by omega)
  injection e with e
  injection e with e1 e2
  subst e1 e2
  refine ⟨hlt, fun i hi => ?_⟩
  have hi2 : i < 2 := hi
  obtain ⟨h1, h2⟩ := hc j hj
  rcases (by omega : i = 0 ∨ i = 1) with rfl | rfl
  · exact h1
  · exact h2
theorem cmpU_lt (a b : Nat) : decide (cmpU a b < 0) = decide (a < b) := by
  unfold cmpU
  split
  · simp [*]
  · split <;> simp [*]
/-- The search: how many stand below a place. -/
def FstP (L : List PtV) (pl f : Nat) : Prop := f ≤ L.length ∧ (∀ j x, j < f → L[j]? = some x → x.p < pl) ∧ (∀ j x, f ≤ j → L[j]? = some x → pl ≤ x.p)
def SrchP (w : World) (L : List PtV) (pl : Nat) (e : Ending) (w' : World) : Prop := ∃ (f : Nat) (b : Bool), e = .returned (.tuple #[.int .i64 (f : Int), .bool b]) ∧ FstP L pl f ∧ Below w.heap.size w w'
set_option maxRecDepth 100000 in
set_option maxHeartbeats 4000000 in
theorem search_any (w : World) (A : Option Addr) (n c : Nat) (L : List PtV) (hn : L.length = n) (hr : RdD w w.heap.size A L) (hs : Srt ltP L) (hm : n ≤ 1000000) (pl : Nat) :
    Calls Tryd.prog 68 #[.slice A n c, .int .u64 (pl : Int), .func (.func 69) #[] #[]] w (SrchP w L pl) := by
  have HN := hidrg_ hn
  have HR := hidrg_ hr
  have HS := hidrg_ hs
  have cc := fun W x => behindCmp_any W x pl
  clear hn hr hs
  go_enter Tryd.func68, Tryd.ntmps68
  go_wp2
  go_loopw [9, 10] (fun i j wr => ∃ (ii jj : Nat), i = .int .i64 ii ∧ j = .int .i64 jj ∧ ii ≤ jj ∧ jj ≤ n ∧ Hid (Below w.heap.size w wr) ∧ Hid (∀ k x, k < ii → L[k]? = some x → x.p < pl) ∧ Hid (∀ k x, jj ≤ k → L[k]? = some x → pl ≤ x.p)) (fun i j _ => (intOf j).toNat - (intOf i).toNat)
  case atStart => exact ⟨0, n, rfl, rfl, Nat.zero_le _, Nat.le_refl _, hidrg_ (Below.refl _ _), hidrg_ (fun k x h => absurd h (by omega)), hidrg_ (fun k x h hx => by have := (List.getElem?_eq_some_iff.1 hx).1; have := HN.out; omega)⟩
  case round =>
    obtain ⟨ii, jj, rfl, rfl, hij, hjn, HB, H1, H2⟩ := hrel
    by_cases hlt : ii < jj
    · have tl : (ii : Int) < (jj : Int) := by omega
      obtain ⟨h, hh⟩ : ∃ h, h = (ii + jj) / 2 := ⟨_, rfl⟩
      have hb1 : ii ≤ h ∧ h < jj := by omega
      have c1 : IntKind.u64.wrap ((ii : Int) + (jj : Int)) = (ii : Int) + (jj : Int) := by rw [IntKind.wrap_u64]; omega
      have c0 : ((ii : Int) + (jj : Int)) / 2 = (h : Int) := by omega
      have hr2 := (HR.out.below HB.out)
      obtain ⟨b, off, rfl, hbl, hcs⟩ := hr2 (by have := HN.out; omega)
      obtain ⟨_, hcell⟩ := rdd_at hr2 h (by have := HN.out; omega)
      obtain ⟨x, hx⟩ : ∃ x, L.getD h ⟨0, 0⟩ = x := ⟨_, rfl⟩
      have HX := hidrg_ (show L[h]? = some x by have e := List.getElem?_eq_getElem (l := L) (i := h) (by have := HN.out; omega); rw [e, ← hx]; simp [List.getD_eq_getElem?_getD, e])
      rw [hx] at hcell
      have HC := hidrg_ hcell
      have ta : (h : Int) < (n : Int) := by omega
      have cd := cc wr x
      have H1x := hidrg_ (show decide (x.p < pl) = true → ∀ k y, k < h + 1 → L[k]? = some y → y.p < pl from fun e k y hk hy => by
        have e := of_decide_eq_true e
        have := srt_get' wkP HS.out (show k ≤ h by omega) hy HX.out
        unfold ltP at this
        simp at this
        omega)
      have H2x := hidrg_ (show decide (x.p < pl) = false → ∀ k y, h ≤ k → L[k]? = some y → pl ≤ y.p from fun e k y hk hy => by
        have e := of_decide_eq_false e
        have := srt_get' wkP HS.out hk HX.out hy
        unfold ltP at this
        simp at this
        omega)
      have HU := hidrg_ (cmpU_lt x.p pl)
      obtain ⟨cz, hcz⟩ : ∃ z, cmpU x.p pl = z := ⟨_, rfl⟩
      rw [hcz] at cd HU
      clear hr2 hcs hcell hx hh hcz
      by_cases hc : cz < 0
      · have tc : decide (cz < 0) = true := decide_eq_true hc
        have HT := hidrg_ (show decide (x.p < pl) = true by rw [← HU.out]; exact tc)
        go_wp2_with (first
          | (refine wpList_load_sub rfl 61 (.tmp 27) rfl b (off + h * 2) rfl x.row HC.out _ Tryd.underlying61 rfl (iPt x) ?_)
          | (go_at_call 69; ((with_reducible refine cd.mono ?_); clear cd; rintro e w2 ⟨rfl, hb⟩; have HB2 := hidrg_ (HB.out.trans (hb.mono HB.out.size)); clear hb)))
        go_roundw
        case rel => exact ⟨h + 1, jj, by go_num, rfl, by omega, hjn, HB2, hidrg_ (H1x.out HT.out), H2⟩
        case measure => simp [intOf]; omega
      · have tc : decide (cz < 0) = false := decide_eq_false hc
        have HT := hidrg_ (show decide (x.p < pl) = false by rw [← HU.out]; exact tc)
        go_wp2_with (first
          | (refine wpList_load_sub rfl 61 (.tmp 27) rfl b (off + h * 2) rfl x.row HC.out _ Tryd.underlying61 rfl (iPt x) ?_)
          | (go_at_call 69; ((with_reducible refine cd.mono ?_); clear cd; rintro e w2 ⟨rfl, hb⟩; have HB2 := hidrg_ (HB.out.trans (hb.mono HB.out.size)); clear hb)))
        go_roundw
        case rel => exact ⟨ii, h, rfl, rfl, by omega, by omega, HB2, H1, hidrg_ (H2x.out HT.out)⟩
        case measure => simp [intOf]; omega
    · have tl : ¬ (ii : Int) < (jj : Int) := by omega
      obtain rfl : ii = jj := by omega
      have HF := hidrg_ (show FstP L pl ii from ⟨by rw [HN.out]; exact hjn, H1.out, H2.out⟩)
      by_cases hn2 : ii < n
      · have tn : decide ((ii : Int) < (n : Int)) = true := decide_eq_true (by omega)
        have tn2 : decide (ii < n) = true := decide_eq_true hn2
        have ta : (ii : Int) < (n : Int) := by omega
        have hr2 := (HR.out.below HB.out)
        obtain ⟨b, off, rfl, hbl, hcs⟩ := hr2 (by have := HN.out; omega)
        obtain ⟨_, hcell⟩ := rdd_at hr2 ii (by have := HN.out; omega)
        obtain ⟨x, hx⟩ : ∃ x, L.getD ii ⟨0, 0⟩ = x := ⟨_, rfl⟩
        rw [hx] at hcell
        have k1 := (show wr.cell? ⟨b, off + ii * 2, none⟩ = some (.int .u64 (x.p : Int)) from hcell 0 (by show 0 < 2; omega))
        have k2 := (show wr.cell? ⟨b, off + ii * 2 + 1, none⟩ = some (.int .i64 (x.r : Int)) from hcell 1 (by show 1 < 2; omega))
        have cd := cc wr x
        unfold PtV.row at cd
        clear hr2 hcs hcell hx
        go_wp2_with (go_at_call 69; ((with_reducible refine cd.mono ?_); clear cd; rintro e w2 ⟨rfl, hb⟩; have HB2 := hidrg_ (HB.out.trans (hb.mono HB.out.size)); clear hb))
        go_ret2
        exact ⟨ii, _, rfl, HF.out, HB2.out⟩
      · have tn : decide ((ii : Int) < (n : Int)) = false := decide_eq_false (by omega)
        have tn2 : decide (ii < n) = false := decide_eq_false hn2
        go_wp2
        go_ret2
        exact ⟨ii, _, rfl, HF.out, HB.out⟩
end Go.Proofs.YtegfnlnbhhmkjaaDoor

namespace Go.Proofs.YtegfnlnbhhmkjaaDoor
set_option maxRecDepth 100000
open Go.ChangeShapes Go.WideShapes Go.ChangeAt Go.RowKit
set_option linter.unusedVariables false
set_option linter.unusedSimpArgs false

/-- What lies behind a Ring's pointer: its points. -/
def RingIs (w : World) (g : Nat) (L : List PtV) : Prop := ∃ A c, Bk w g 57 #[.slice A L.length c] ∧ RdD w w.heap.size A L
theorem RingIs.below {w w' : World} {g : Nat} {L : List PtV} (h : RingIs w g L) (hb : Below w.heap.size w w') : RingIs w' g L := by
  obtain ⟨A, c, k, r⟩ := h
  exact ⟨A, c, k.below hb k.lt, (r.below hb).more hb.size⟩
def FbP (w : World) (L : List PtV) (pl : Nat) (e : Ending) (w' : World) : Prop := ∃ (f : Nat), e = .returned (.int .i64 (f : Int)) ∧ FstP L pl f ∧ Below w.heap.size w w'
set_option maxRecDepth 100000 in
set_option maxHeartbeats 1000000 in
theorem firstBehind_any (w : World) (g : Nat) (L : List PtV) (hr : RingIs w g L) (hs : Srt ltP L) (hm : L.length ≤ 1000000) (pl : Nat) :
    Calls Tryd.prog 52 #[.pointer (some ⟨g, 0, none⟩), .int .u64 (pl : Int)] w (FbP w L pl) := by
  obtain ⟨A, c, k, r⟩ := hr
  have k0 := (show w.cell? ⟨g, 0, none⟩ = some (.slice A L.length c) from k.cell 0)
  have cs := search_any w A L.length c L rfl r hs hm pl
  clear k r hs
  go_enter Tryd.func52, Tryd.ntmps52
  go_wp2_with (go_at_call 68; ((with_reducible refine cs.mono ?_); clear cs; rintro e w2 ⟨f, b, rfl, hf, hb⟩; have HF := hidrg_ hf; have HB := hidrg_ hb; clear hf hb))
  go_ret
  exact ⟨f, rfl, HF.out, HB.out⟩
def IxP (w : World) (l : List Nat) (x : Nat) (e : Ending) (w' : World) : Prop := ∃ z : Int, e = .returned (.int .i64 z) ∧ decide (0 ≤ z) = decide (x ∈ l) ∧ Below w.heap.size w w'
set_option maxRecDepth 100000 in
set_option maxHeartbeats 2000000 in
theorem indexZ_any (w : World) (A : Option Addr) (n c : Nat) (l : List Nat) (hn : l.length = n) (hr : RdZ w w.heap.size A l) (hm : n ≤ 1000000) (x : Nat) :
    Calls Tryd.prog 70 #[.slice A n c, .int .i64 (x : Int)] w (IxP w l x) := by
  have HN := hidrg_ hn
  have HR := hidrg_ hr
  clear hn hr
  go_enter Tryd.func70, Tryd.ntmps70
  go_wp2
  go_loopw [8] (fun i wr => ∃ (k : Nat), i = .int .i64 k ∧ k ≤ n ∧ Hid (Below w.heap.size w wr) ∧ Hid (∀ j, j < k → l.getD j 0 ≠ x)) (fun i _ => n - (intOf i).toNat)
  case atStart => exact ⟨0, rfl, Nat.zero_le _, hidrg_ (Below.refl _ _), hidrg_ (fun j h => absurd h (by omega))⟩
  case round =>
    obtain ⟨k, rfl, hk, HB, H1⟩ := hrel
    by_cases hlt : k < n
    · have tl : (k : Int) < (n : Int) := by omega
      obtain ⟨b, off, rfl, hbl, hc⟩ := (HR.out.below HB.out).at_ (k := k) (by rw [HN.out]; exact hlt)
      obtain ⟨y, hy⟩ : ∃ y, l.getD k 0 = y := ⟨_, rfl⟩
      rw [hy] at hc
      have HY := hidrg_ hy
      clear hy
      by_cases he : x = y
      · have te : ((x : Int) == (y : Int)) = true := by simp; omega
        have HE := hidrg_ (show x ∈ l by
          rw [he, ← HY.out, List.getD_eq_getElem?_getD, List.getElem?_eq_getElem (by rw [HN.out]; exact hlt)]
          exact List.getElem_mem _)
        go_wp2
        go_ret
        exact ⟨(k : Int), rfl, by rw [decide_eq_true HE.out, decide_eq_true (by omega)], HB.out⟩
      · have te : ((x : Int) == (y : Int)) = false := by simp; omega
        go_wp2
        go_roundw
        case rel => exact ⟨k + 1, by go_num, by omega, HB, hidrg_ (fun j hj => by
          rcases Nat.lt_or_eq_of_le (Nat.le_of_lt_succ hj) with h | h
          · exact H1.out j h
          · rw [h, HY.out]; exact fun e => he e.symm)⟩
        case measure => simp [intOf]; omega
    · have tl : ¬ (k : Int) < (n : Int) := by omega
      have HE := hidrg_ (show x ∉ l from fun hx => by
        obtain ⟨j, hj, e⟩ := List.mem_iff_getElem.1 hx
        refine H1.out j (by have := HN.out; omega) ?_
        rw [List.getD_eq_getElem?_getD, List.getElem?_eq_getElem hj]
        exact e)
      go_wp2
      go_ret
      exact ⟨-1, rfl, by rw [decide_eq_false HE.out]; rfl, HB.out⟩
set_option maxRecDepth 100000 in
set_option maxHeartbeats 1000000 in
theorem containsZ_any (w : World) (A : Option Addr) (n c : Nat) (l : List Nat) (hn : l.length = n) (hr : RdZ w w.heap.size A l) (hm : n ≤ 1000000) (x : Nat) :
    Calls Tryd.prog 53 #[.slice A n c, .int .i64 (x : Int)] w fun e w' => e = .returned (.bool (decide (x ∈ l))) ∧ Below w.heap.size w w' := by
  have ci := indexZ_any w A n c l hn hr hm x
  obtain ⟨b, hb⟩ : ∃ b, decide (x ∈ l) = b := ⟨_, rfl⟩
  rw [hb]
  have HB := hidrg_ hb
  clear hn hr hb
  go_enter Tryd.func53, Tryd.ntmps53
  go_upto_region 2 with (go_at_call 70; ((with_reducible refine ci.mono ?_); clear ci; rintro e w2 ⟨z, rfl, hz, hb⟩; have HZ : decide (0 ≤ z) = b := (hz.trans HB.out); have HW := hidrg_ hb; clear hz hb))
  go_ret
  exact ⟨by simp_all, HW.out⟩
end Go.Proofs.YtegfnlnbhhmkjaaDoor

namespace Go.Proofs.YtegfnlnbhhmkjaaDoor
set_option maxRecDepth 100000
open Go.ChangeShapes Go.WideShapes Go.ChangeAt Go.RowKit
set_option linter.unusedVariables false
set_option linter.unusedSimpArgs false

/-- What a call tells that makes a row of ints of its own. -/
def NewZ (w : World) (l : List Nat) (e : Ending) (w' : World) : Prop := ∃ A c, e = .returned (.slice A l.length c) ∧ OwnZ w' w.heap.size (.slice A l.length c) l ∧ Below w.heap.size w w'
theorem OwnZ.lower {w : World} {b b' : Nat} {v : Value} {l : List Nat} (h : OwnZ w b v l) (hb : b' ≤ b) : OwnZ w b' v l := by
  refine ⟨h.1, ?_⟩
  rcases h.2 with h0 | ⟨g, cap, cur, hv, hg, rest⟩
  · exact .inl h0
  · exact .inr ⟨g, cap, cur, hv, Nat.le_trans hb hg, rest⟩
theorem sliceZ_to (A : Option Addr) (n c : Nat) (z : Int) (k : Nat) (hz : z = (k : Int)) (hk : k ≤ c) (W : World) :
    (Instr.slice 25 (.slice A n c) none (some (.int .i64 z)) none).run Tryd.prog W = .ok (.slice A k c) W := by
  subst hz
  have he : Tryd.prog.elem 25 = 3 := by kernel_rfl
  rw [run_slice_h W 25 A n c (by rw [he]; exact Tryd.underlying25) .i64 k (by omega) (by omega)]
  have hs : (sizeOf (Tryd.prog.elem 25)).run Tryd.prog W = .ok 1 W := by
    rw [he]
    obtain ⟨i, hi, hz, hsize, hby⟩ := info_parts infoZ
    simp [sizeOf, typeInfo, hi, hsize]
  rw [hs]
  simp only [Result.andThen, sliced]
  congr 2
  by_cases h : c = 0
  · rw [if_pos h]
  · rw [if_neg h]
    cases A with
    | none => rfl
    | some a => simp [Addr.add]
theorem OwnZ.cap {w : World} {b : Nat} {A : Option Addr} {n c : Nat} {l : List Nat} (h : OwnZ w b (.slice A n c) l) : n ≤ c ∧ c ≤ 9223372036854775807 := by
  rcases h.2 with ⟨h0, _⟩ | ⟨g, cap, cur, hv, _, _, h1, h2, _⟩
  · injection h0 with e1 e2 e3
    omega
  · injection hv with e1 e2 e3
    unfold maxLen at h2
    omega
theorem iBlind (K : List UInt8) (hK : K.length = 32) : (Tryd.prog.info? 23).map (·.size) = some (rowOf K).size := by rw [rowOf_size, hK]; kernel_rfl
def wsK (R : List PtV) (k : Nat) : List Nat := ddf [] ((R.take k).map (·.r))
theorem wsK_succ {R : List PtV} {k : Nat} {x : PtV} (h : R[k]? = some x) : wsK R (k + 1) = if x.r ∈ wsK R k then wsK R k else wsK R k ++ [x.r] := by
  obtain ⟨hk, e⟩ := List.getElem?_eq_some_iff.1 h
  unfold wsK
  rw [List.take_succ_eq_append_getElem hk, e, List.map_append, List.map_singleton, ddf_snoc]
theorem wsK_len (R : List PtV) (k : Nat) : (wsK R k).length ≤ k := by
  induction k with
  | zero => simp [wsK, ddf]
  | succ k ih =>
    by_cases h : k < R.length
    · rw [wsK_succ (List.getElem?_eq_getElem h)]
      split
      · omega
      · rw [List.length_append, List.length_singleton]; omega
    · have e : wsK R (k + 1) = wsK R k := by unfold wsK; rw [List.take_of_length_le (by omega), List.take_of_length_le (by omega)]
      rw [e]
      omega
theorem rdz_one (w : World) (x : Nat) : RdZ (w.alloc (.cells #[.int .i64 (x : Int)] 3)) (w.alloc (.cells #[.int .i64 (x : Int)] 3)).heap.size (some ⟨w.heap.size, 0, none⟩) [x] := fun _ =>
  ⟨_, 0, rfl, by simp, fun j hj => by
    have : j = 0 := by simpa using hj
    subst this
    exact World.cell?_alloc_mark w #[.int .i64 (x : Int)] 3 _ 0⟩
set_option maxRecDepth 100000 in
set_option maxHeartbeats 4000000 in
theorem walk_any (w : World) (g : Nat) (L : List PtV) (hr : RingIs w g L) (hs : Srt ltP L) (hm : L.length ≤ 1000000) (K : List UInt8) (hK : K.length = 32) :
    Calls Tryd.prog 18 #[.pointer (some ⟨g, 0, none⟩), .agg (rowOf K)] w (NewZ w (walkV (plB K) L)) := by
  obtain ⟨gk, hgk⟩ : ∃ g, w.heap.size = g := ⟨_, rfl⟩
  obtain ⟨w1, hw1⟩ : ∃ W, w.alloc (.cells (rowOf K) 23) = W := ⟨_, rfl⟩
  have B1 := hidrg_ (show Below w.heap.size w w1 by rw [← hw1]; exact (Below.refl _ _).alloc (Nat.le_refl _) _)
  have K1 := hidrg_ (show Bk w1 gk 23 (rowOf K) by rw [← hw1, ← hgk]; exact Bk.new w _ _)
  have R1 := hidrg_ (hr.below B1.out)
  have KL := hidrg_ (iBlind K hK)
  have HS := hidrg_ hs
  have cp := placeOf_any w1 K hK
  obtain ⟨pl, hpl⟩ : ∃ p, plB K = p := ⟨_, rfl⟩
  rw [hpl] at cp ⊢
  obtain ⟨n, hn⟩ : ∃ n, L.length = n := ⟨_, rfl⟩
  have HN := hidrg_ hn
  have hm2 : n ≤ 1000000 := by omega
  have HM := hidrg_ hm
  clear hr hs hK hpl hn hm
  go_enter Tryd.func18, Tryd.ntmps18
  go_upto_region 5 with (first
    | (refine wpList_load_row rfl 23 (.tmp 3) rfl gk rfl 23 (rowOf K) (0, 0) _ K1.out Tryd.underlying23 rfl KL.out ?_)
    | (go_at_call 13; ((with_reducible refine cp.mono ?_); clear cp; rintro e w2 ⟨rfl, hb⟩; have B2 := hidrg_ (B1.out.trans (hb.mono B1.out.size)); have R2 := hidrg_ (R1.out.below hb); have cf := firstBehind_any w2 g L R2.out HS.out HM.out pl; clear hb))
    | (go_at_call 52; ((with_reducible refine cf.mono ?_); clear cf; rintro e w3 ⟨f, rfl, hf, hb⟩; have HF := hidrg_ hf; have B3 := hidrg_ (B2.out.trans (hb.mono B2.out.size)); have R3 := hidrg_ (R2.out.below hb); clear hf hb)))
  clear B1 K1 R1 KL B2 R2 hgk
  obtain ⟨A, c, hkb, hrd⟩ := R3.out
  have kg := (show w3.cell? ⟨g, 0, none⟩ = some (.slice A L.length c) from hkb.cell 0)
  have GL := hidrg_ (show g < w3.heap.size from hkb.lt)
  rw [HN.out] at kg
  have KG := hidrg_ kg
  have RD := hidrg_ hrd
  obtain ⟨R, hR⟩ : ∃ R, L.drop f ++ L.take f = R := ⟨_, rfl⟩
  have HRL := hidrg_ (show R.length = n by rw [← hR, List.length_append, List.length_drop, List.length_take, HN.out]; have := HF.out.1; have := HN.out; omega)
  have HRR := hidrg_ (show walkV pl L = wsK R n by
    unfold walkV wsK
    rw [← rotP_at HF.out.1 HF.out.2.1 HF.out.2.2, hR, List.take_of_length_le (by rw [HRL.out]; exact Nat.le_refl _)])
  have HRG := hidrg_ (show ∀ k, k < n → R[k]? = L[(f + k) % n]? from fun k hk => by rw [← hR, rot_get HF.out.1 (by rw [HN.out]; exact hk), HN.out])
  have fn : f ≤ n := by have := HF.out.1; have := HN.out; omega
  clear hkb hrd hR R3
  go_wp2
  clear kg
  go_loopw [20, 5] (fun i o wr => ∃ (k : Nat) (A5 : Option Addr) (c5 m : Nat), i = .int .i64 k ∧ k ≤ n ∧ o = .slice A5 m c5 ∧ m ≤ k ∧ Hid ((wsK R k).length = m) ∧ Hid (OwnZ wr w3.heap.size (.slice A5 m c5) (wsK R k)) ∧ Hid (Below w.heap.size w wr) ∧ Hid (Below w3.heap.size w3 wr)) (fun i _ _ => n - (intOf i).toNat)
  case atStart => exact ⟨0, none, 0, 0, rfl, Nat.zero_le _, rfl, Nat.le_refl _, hidrg_ rfl, hidrg_ (OwnZ.nil_ _ _), B3, hidrg_ (Below.refl _ _)⟩
  case round =>
    obtain ⟨k, A5, c5, m, rfl, hk, rfl, hmk, HWL, HO, HB, HB3⟩ := hrel
    by_cases hlt : k < n
    · have tl : (k : Int) < (n : Int) := by omega
      have kg := (HB3.out.cell (p := ⟨g, 0, none⟩) GL.out).trans KG.out
      obtain ⟨s, hs⟩ : ∃ s, f + k = s := ⟨_, rfl⟩
      have wf : IntKind.i64.wrap ((f : Int) + (k : Int)) = (s : Int) := by rw [IntKind.wrap_i64]; omega
      obtain ⟨r, hr⟩ : ∃ r, s % n = r := ⟨_, rfl⟩
      have hrn : r < n := by rw [← hr]; exact Nat.mod_lt _ (by omega)
      have tr : (s : Int).tmod (n : Int) = (r : Int) := by rw [Int.tmod_eq_emod_of_nonneg (by omega), ← hr]; rfl
      have n0 : ¬ (n : Int) = 0 := by omega
      have n1 : ((n : Int) == 0) = false := by simp; omega
      have tb : (r : Int) < (n : Int) := by omega
      obtain ⟨b, off, rfl, hbl, hcs⟩ := RD.out (by rw [HN.out]; omega)
      obtain ⟨x, hx⟩ : ∃ x, L.getD r ⟨0, 0⟩ = x := ⟨_, rfl⟩
      have kx := (HB3.out.cell (p := ⟨b, off + r * 2 + 1, none⟩) hbl).trans (hcs r (by rw [HN.out]; exact hrn)).2
      rw [hx] at kx
      have HX := hidrg_ (show R[k]? = some x by
        rw [HRG.out k hlt, hs, hr, ← hx, List.getD_eq_getElem?_getD, List.getElem?_eq_getElem (by rw [HN.out]; exact hrn)]
        rfl)
      have wr1 : IntKind.i64.wrap (r : Int) = (r : Int) := IntWalk.i64_in _ (by omega)
      clear hcs hx hs hr
      go_upto_region 8 with fail
      go_quiet (fail)
      clear kg kx wf tr n0 n1 tb wr1 tl
      have HB2 := hidrg_ (show Below w.heap.size w (wr.drewN nq) from below_drewN HB.out nq)
      have HB4 := hidrg_ (show Below w3.heap.size w3 (wr.drewN nq) from below_drewN HB3.out nq)
      have HO2 := hidrg_ (HO.out.drewN nq)
      clear HB HB3 HO
      generalize wr.drewN nq = wd at *
      have cc := containsZ_any wd A5 m c5 (wsK R k) HWL.out HO2.out.rd.1 (by omega) x.r
      obtain ⟨y, hy⟩ : ∃ y, x.r = y := ⟨_, rfl⟩
      rw [hy] at cc ⊢
      have HY := hidrg_ hy
      clear hy
      by_cases hin : y ∈ wsK R k
      · have HW := hidrg_ (show wsK R (k + 1) = wsK R k by rw [wsK_succ HX.out, HY.out, if_pos hin])
        rw [decide_eq_true hin] at cc
        clear hin
        go_wp2_with (go_at_call 53; ((with_reducible refine cc.mono ?_); clear cc; rintro e w5 ⟨rfl, hb⟩; have B5 := hidrg_ (HB2.out.trans (hb.mono HB2.out.size)); have B53 := hidrg_ (HB4.out.trans (hb.mono HB4.out.size)); have O5 := hidrg_ (HO2.out.below hb (Nat.le_refl _)); clear hb))
        go_roundw
        case rel => exact ⟨k + 1, A5, c5, m, by go_num, by omega, rfl, by omega, hidrg_ (by rw [HW.out]; exact HWL.out), hidrg_ (by rw [HW.out]; exact O5.out), B5, B53⟩
        case measure => simp [intOf]; omega
      · have HW := hidrg_ (show wsK R (k + 1) = wsK R k ++ [y] by rw [wsK_succ HX.out, HY.out, if_neg hin])
        rw [decide_eq_false hin] at cc
        clear hin
        go_wp2_with (first
          | (go_at_call 53; ((with_reducible refine cc.mono ?_); clear cc; rintro e w5 ⟨rfl, hb⟩; have B5 := hidrg_ (HB2.out.trans (hb.mono HB2.out.size)); have B53 := hidrg_ (HB4.out.trans (hb.mono HB4.out.size)); have O5 := hidrg_ ((HO2.out.below hb (Nat.le_refl _)).alloc (.cells #[.int .i64 (y : Int)] 3)); have RY := hidrg_ (rdz_one w5 y); have hl1 : (wsK R k).length + 1 ≤ 1000000 := (by rw [HWL.out]; omega); have hb1 : w3.heap.size ≤ (w5.alloc (.cells #[.int .i64 (y : Int)] 3)).heap.size := (by simp; have := B53.out.size; omega); clear hb))
          | (at_builtin; refine wpList_appZ rfl (.tmp 43) (.tmp 45) rfl O5.out rfl 1 1 rfl RY.out rfl hl1 hb1 ?_; intro A6 c6 w6 h1 h2 h3; rw [HWL.out] at h1 h3 ⊢; have O6 := hidrg_ h1; have BA := B5.out.alloc B5.out.size (.cells #[.int .i64 (y : Int)] 3); have BA3 := B53.out.alloc B53.out.size (.cells #[.int .i64 (y : Int)] 3); have own := fun k hk => (World.ownsRow.lt O5.out k hk).1; have B6 := hidrg_ (BA.grown h2 BA.size (fun k hk => Nat.le_trans B3.out.size (own k hk))); have B63 := hidrg_ (BA3.grown h2 BA3.size (fun k hk => own k hk)); clear h1 h2 h3 BA BA3 own))
        go_roundw
        case rel => exact ⟨k + 1, A6, c6, m + 1, by go_num, by omega, rfl, by omega, hidrg_ (by rw [HW.out, List.length_append, HWL.out]; rfl), hidrg_ (by rw [HW.out]; exact O6.out), B6, B63⟩
        case measure => simp [intOf]; omega
    · have tl : ¬ (k : Int) < (n : Int) := by omega
      have HE := hidrg_ (show k = n by omega)
      go_wp2
      go_ret
      have e : walkV pl L = wsK R k := by rw [HRR.out, HE.out]
      exact ⟨A5, c5, by rw [e, HWL.out]; rfl, by rw [e, HWL.out]; exact HO.out.lower B3.out.size, HB.out⟩
/-- The first ones, or that there aren't so many. -/
def PrfP (w : World) (ws : List Nat) (z : Int) (e : Ending) (w' : World) : Prop :=
  ∃ A n c, e = .returned (.tuple #[.slice A n c, .int .i64 (if 1 ≤ z ∧ z ≤ (ws.length : Int) then 0 else 1)]) ∧ n = (if 1 ≤ z ∧ z ≤ (ws.length : Int) then ws.take z.toNat else []).length ∧ RdZ w' w'.heap.size A (if 1 ≤ z ∧ z ≤ (ws.length : Int) then ws.take z.toNat else []) ∧ Below w.heap.size w w'
end Go.Proofs.YtegfnlnbhhmkjaaDoor
