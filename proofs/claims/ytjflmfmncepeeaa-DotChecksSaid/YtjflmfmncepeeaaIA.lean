/-
  Merged: Ia Ib Ic.
-/
import Derived.Test.YtjflmfmncepeeaaFj
import Derived.Test.YtjflmfmncepeeaaQc
import Derived.Deep.DeepCutAuto
import Derived.BigFrame
namespace Go.Proofs.Ytjflmfmncepeeaa
open Go.ChangeShapes Go.WideShapes Go.ChangeAt Go.RowKit
set_option linter.unusedVariables false
set_option linter.unusedSimpArgs false

theorem hidd_ {p : Prop} (h : p) : Hid p := h
/-- A dot: of which client, its number. -/
structure DotV where
  c : Int
  n : Int
deriving DecidableEq
def DotV.row (d : DotV) : Array Value := #[.int .i64 d.c, .int .i64 d.n]
def isC (z : Int) : Bool := decide (1 ≤ z ∧ z ≤ 16)
def isD (d : DotV) : Bool := decide ((1 ≤ d.c ∧ d.c ≤ 16) ∧ 1 ≤ d.n ∧ d.n ≤ 1099511627776)
def cmpI (a b : Int) : Int := if a < b then -1 else if b < a then 1 else 0
def cmpD (a b : DotV) : Int := if cmpI a.c b.c ≠ 0 then cmpI a.c b.c else cmpI a.n b.n

set_option maxRecDepth 100000 in
set_option maxHeartbeats 1000000 in
theorem isClient_any (w : World) (z : Int) : Calls Try.prog 35 #[.int .i64 z] w fun e w' => e = .returned (.bool (isC z)) ∧ w = w' := by
  obtain ⟨b, hb⟩ : ∃ b, isC z = b := ⟨_, rfl⟩
  rw [hb]
  unfold isC at hb
  by_cases h1 : 1 ≤ z
  · have d1 : decide (1 ≤ z) = true := decide_eq_true h1
    by_cases h2 : z ≤ 16
    · have d2 : decide (z ≤ 16) = true := decide_eq_true h2
      obtain rfl : true = b := by rw [← hb]; exact (decide_eq_true ⟨h1, h2⟩).symm
      clear hb
      go_enter Try.func35, Try.ntmps35
      go_wp2
      go_ret
      exact ⟨rfl, rfl⟩
    · have d2 : decide (z ≤ 16) = false := decide_eq_false h2
      obtain rfl : false = b := by rw [← hb]; exact (decide_eq_false (fun h => h2 h.2)).symm
      clear hb
      go_enter Try.func35, Try.ntmps35
      go_wp2
      go_ret
      exact ⟨rfl, rfl⟩
  · have d1 : decide (1 ≤ z) = false := decide_eq_false h1
    obtain rfl : false = b := by rw [← hb]; exact (decide_eq_false (fun h => h1 h.1)).symm
    clear hb
    go_enter Try.func35, Try.ntmps35
    go_wp2
    go_ret
    exact ⟨rfl, rfl⟩
set_option maxRecDepth 100000 in
set_option maxHeartbeats 1000000 in
theorem isDot_any (w : World) (d : DotV) : Calls Try.prog 36 #[.agg d.row] w fun e w' => e = .returned (.bool (isD d)) ∧ Below w.heap.size w w' := by
  obtain ⟨c, n⟩ := d
  have HB := hidd_ ((Below.refl w.heap.size w).alloc (Nat.le_refl _) (.cells #[.int .i64 c, .int .i64 n] 27))
  obtain ⟨b, hb⟩ : ∃ b, isD ⟨c, n⟩ = b := ⟨_, rfl⟩
  obtain ⟨q, hq⟩ : ∃ q, isC c = q := ⟨_, rfl⟩
  have cc := fun W => isClient_any W c
  rw [hb]
  unfold isD at hb
  rw [hq] at cc
  unfold isC at hq
  simp only at hb
  unfold DotV.row
  cases q
  · have h1 : ¬ (1 ≤ c ∧ c ≤ 16) := of_decide_eq_false hq
    obtain rfl : false = b := by rw [← hb]; exact (decide_eq_false (fun h => h1 h.1)).symm
    clear hb hq h1
    go_enter Try.func36, Try.ntmps36
    go_wp2_with (go_at_call 35; ((with_reducible refine (cc _).mono ?_); rintro e w2 ⟨rfl, rfl⟩))
    go_ret
    exact ⟨rfl, HB.out⟩
  · have h1 : 1 ≤ c ∧ c ≤ 16 := of_decide_eq_true hq
    by_cases h2 : 1 ≤ n
    · have d2 : decide (1 ≤ n) = true := decide_eq_true h2
      by_cases h3 : n ≤ 1099511627776
      · have d3 : decide (n ≤ 1099511627776) = true := decide_eq_true h3
        obtain rfl : true = b := by rw [← hb]; exact (decide_eq_true ⟨h1, h2, h3⟩).symm
        clear hb hq h1
        go_enter Try.func36, Try.ntmps36
        go_wp2_with (go_at_call 35; ((with_reducible refine (cc _).mono ?_); rintro e w2 ⟨rfl, rfl⟩))
        go_ret
        exact ⟨rfl, HB.out⟩
      · have d3 : decide (n ≤ 1099511627776) = false := decide_eq_false h3
        obtain rfl : false = b := by rw [← hb]; exact (decide_eq_false (fun h => h3 h.2.2)).symm
        clear hb hq h1
        go_enter Try.func36, Try.ntmps36
        go_wp2_with (go_at_call 35; ((with_reducible refine (cc _).mono ?_); rintro e w2 ⟨rfl, rfl⟩))
        go_ret
        exact ⟨rfl, HB.out⟩
    · have d2 : decide (1 ≤ n) = false := decide_eq_false h2
      obtain rfl : false = b := by rw [← hb]; exact (decide_eq_false (fun h => h2 h.2.1)).symm
      clear hb hq h1
      go_enter Try.func36, Try.ntmps36
      go_wp2_with (go_at_call 35; ((with_reducible refine (cc _).mono ?_); rintro e w2 ⟨rfl, rfl⟩))
      go_ret
      exact ⟨rfl, HB.out⟩
set_option maxRecDepth 100000 in
set_option maxHeartbeats 1000000 in
theorem nan_any (w : World) (z : Int) : Calls Try.prog 70 #[.int .i64 z] w fun e w' => e = .returned (.bool false) ∧ w = w' := by
  have h1 : (z == z) = true := by simp
  go_enter Try.func70, Try.ntmps70
  go_wp2
  go_ret
  exact ⟨by simp, rfl⟩
set_option maxRecDepth 100000 in
set_option maxHeartbeats 1000000 in
theorem compare_any (w : World) (a b : Int) : Calls Try.prog 58 #[.int .i64 a, .int .i64 b] w fun e w' => e = .returned (.int .i64 (cmpI a b)) ∧ w = w' := by
  have ca := fun W => nan_any W a
  have cb := fun W => nan_any W b
  by_cases h1 : a < b
  · have d1 : decide (a < b) = true := decide_eq_true h1
    rw [show cmpI a b = -1 from if_pos h1]
    go_enter Try.func58, Try.ntmps58
    go_wp2_with (first
      | (go_at_call 70; ((with_reducible refine (ca _).mono ?_); clear ca; rintro e w2 ⟨rfl, rfl⟩))
      | (go_at_call 70; ((with_reducible refine (cb _).mono ?_); clear cb; rintro e w2 ⟨rfl, rfl⟩)))
    go_ret
    exact ⟨rfl, rfl⟩
  · have d1 : decide (a < b) = false := decide_eq_false h1
    by_cases h2 : b < a
    · have d2 : decide (b < a) = true := decide_eq_true h2
      rw [show cmpI a b = 1 by unfold cmpI; rw [if_neg h1, if_pos h2]]
      go_enter Try.func58, Try.ntmps58
      go_wp2_with (first
        | (go_at_call 70; ((with_reducible refine (ca _).mono ?_); clear ca; rintro e w2 ⟨rfl, rfl⟩))
        | (go_at_call 70; ((with_reducible refine (cb _).mono ?_); clear cb; rintro e w2 ⟨rfl, rfl⟩)))
      go_ret
      exact ⟨rfl, rfl⟩
    · have d2 : decide (b < a) = false := decide_eq_false h2
      rw [show cmpI a b = 0 by unfold cmpI; rw [if_neg h1, if_neg h2]]
      go_enter Try.func58, Try.ntmps58
      go_wp2_with (first
        | (go_at_call 70; ((with_reducible refine (ca _).mono ?_); clear ca; rintro e w2 ⟨rfl, rfl⟩))
        | (go_at_call 70; ((with_reducible refine (cb _).mono ?_); clear cb; rintro e w2 ⟨rfl, rfl⟩)))
      go_ret
      exact ⟨rfl, rfl⟩
end Go.Proofs.Ytjflmfmncepeeaa

namespace Go.Proofs.Ytjflmfmncepeeaa
open Go.ChangeShapes Go.WideShapes Go.ChangeAt Go.RowKit
set_option linter.unusedVariables false
set_option linter.unusedSimpArgs false

set_option maxRecDepth 100000 in
set_option maxHeartbeats 1000000 in
theorem or_any (w : World) (q : Nat) (a b : Int) (h : Bk w q 3 #[.int .i64 a, .int .i64 b]) : Calls Try.prog 57 #[.slice (some ⟨q, 0, none⟩) 2 2] w fun e w' => e = .returned (.int .i64 (if a ≠ 0 then a else b)) ∧ w = w' := by
  have h0 := h.cell 0
  have h1 := h.cell 1
  simp only [List.getElem?_toArray, List.getElem?_cons_zero, List.getElem?_cons_succ] at h0 h1
  have H : Hid (∀ k, k < 2 → w.cell? ⟨q, k, none⟩ = some (.int .i64 (if k = 0 then a else b))) := hidd_ (fun k hk => by
    rcases (by omega : k = 0 ∨ k = 1) with rfl | rfl
    · exact h0
    · exact h1)
  obtain ⟨r, hr⟩ : ∃ r, (if a ≠ 0 then a else b) = r := ⟨_, rfl⟩
  have HR := hidd_ hr
  rw [hr]
  clear h h0 h1 hr
  go_enter Try.func57, Try.ntmps57
  go_upto_region 3 with fail
  go_loopw [5, 8] (fun v i wr => ∃ k : Nat, k ≤ 2 ∧ i = .int .i64 k ∧ w = wr ∧ Hid (0 < k → a = 0) ∧ Hid (1 < k → b = 0)) (fun _ i _ => 2 - (intOf i).toNat)
  case atStart => exact ⟨0, by omega, rfl, rfl, hidd_ (fun h => by omega), hidd_ (fun h => by omega)⟩
  case round =>
    obtain ⟨k, hk, rfl, rfl, Ha, Hb⟩ := hrel
    by_cases hlt : k < 2
    · have hc := H.out k hlt
      obtain ⟨x, hx⟩ : ∃ x, (if k = 0 then a else b) = x := ⟨_, rfl⟩
      rw [hx] at hc
      have HX := hidd_ hx
      clear hx
      have t0 : (0 : Int) ≤ (k : Int) := by omega
      have t2 : (k : Int) < 2 := by omega
      by_cases h0 : x = 0
      · have hb0 : (x != 0) = false := by simp [h0]
        have hb1 : (x == 0) = true := by simp [h0]
        have HA' := hidd_ (show 0 < k + 1 → a = 0 from fun _ => by
          have := HX.out
          rcases (by omega : k = 0 ∨ k = 1) with rfl | rfl
          · rw [if_pos rfl] at this; omega
          · exact Ha.out (by omega))
        have HB' := hidd_ (show 1 < k + 1 → b = 0 from fun _ => by
          have := HX.out
          rw [if_neg (by omega)] at this; omega)
        clear h0
        go_wp2
        go_roundw
        case rel => exact ⟨k + 1, by omega, by go_num, by first | trivial | rfl, HA', HB'⟩
        case measure => simp [intOf]; omega
      · have hb0 : (x != 0) = true := by simpa using h0
        have hb1 : (x == 0) = false := by simpa using h0
        have HQ := hidd_ (show x = r by
          have h1 := HX.out
          have h2 := HR.out
          rcases (by omega : k = 0 ∨ k = 1) with rfl | rfl
          · rw [if_pos rfl] at h1; rw [if_pos (by rw [h1]; exact h0)] at h2; omega
          · have h3 := Ha.out (by omega)
            rw [if_neg (by omega)] at h1; rw [if_neg (by omega)] at h2; omega)
        go_wp2
        go_ret
        exact ⟨by first | rfl | (rw [HQ.out]; rfl) | (rw [← HQ.out]; rfl), rfl⟩
    · obtain rfl : k = 2 := by omega
      have d1 : decide (((2 : Nat) : Int) < 2) = false := decide_eq_false (by omega)
      have HQ := hidd_ (show r = 0 by
        have h2 := HR.out
        rw [if_neg (by have := Ha.out (by omega); omega)] at h2
        have := Hb.out (by omega)
        omega)
      go_wp2
      go_ret
      exact ⟨by first | rfl | (rw [HQ.out]; rfl) | (rw [← HQ.out]; rfl), rfl⟩
theorem Bk.twod {w : World} {g : Nat} {ty : TypeId} {a b : Value} (h : Bk w g ty #[a, b]) : w.cell? ⟨g, 0, none⟩ = some a ∧ w.cell? ⟨g, 1, none⟩ = some b := by
  have h0 := h.cell 0
  have h1 := h.cell 1
  simp only [List.getElem?_toArray, List.getElem?_cons_zero, List.getElem?_cons_succ] at h0 h1
  exact ⟨h0, h1⟩
set_option maxRecDepth 100000 in
set_option maxHeartbeats 2000000 in
theorem byDot_any (w : World) (a b : DotV) : Calls Try.prog 37 #[.agg a.row, .agg b.row] w fun e w' => e = .returned (.int .i64 (cmpD a b)) ∧ Below w.heap.size w w' := by
  obtain ⟨a0, a1⟩ := a
  obtain ⟨b0, b1⟩ := b
  obtain ⟨g, hg⟩ : ∃ g, w.heap.size = g := ⟨_, rfl⟩
  obtain ⟨w1, hw1⟩ : ∃ w1, w.alloc (.cells #[.int .i64 a0, .int .i64 a1] 27) = w1 := ⟨_, rfl⟩
  have A1 : Bk w1 g 27 #[.int .i64 a0, .int .i64 a1] := by rw [← hw1, ← hg]; exact Bk.new w _ _
  have X1 : Below g w w1 := by rw [← hw1, ← hg]; exact (Below.refl _ _).alloc (Nat.le_refl _) _
  have s1 : w1.heap.size = g + 1 := by rw [← hw1, ← hg]; simp
  obtain ⟨w2, hw2⟩ : ∃ w2, w1.alloc (.cells #[.int .i64 b0, .int .i64 b1] 27) = w2 := ⟨_, rfl⟩
  have B2 : Bk w2 (g + 1) 27 #[.int .i64 b0, .int .i64 b1] := by rw [← s1, ← hw2]; exact Bk.new w1 _ _
  have b12 : Below w1.heap.size w1 w2 := by rw [← hw2]; exact (Below.refl _ _).alloc (Nat.le_refl _) _
  have A2 := hidd_ (A1.below b12 A1.lt)
  have B2h := hidd_ B2
  have X2 := hidd_ (X1.trans (b12.mono (by omega)))
  have HG := hidd_ hg
  have hlg : g ≤ w2.heap.size := by have := B2.lt; omega
  have V : Hid (∀ W, Below w2.heap.size w2 W → W.cell? ⟨g, 0, none⟩ = some (.int .i64 a0) ∧ W.cell? ⟨g, 1, none⟩ = some (.int .i64 a1) ∧ W.cell? ⟨g + 1, 0, none⟩ = some (.int .i64 b0) ∧ W.cell? ⟨g + 1, 1, none⟩ = some (.int .i64 b1)) := hidd_ (fun W h => ⟨(Bk.twod (A2.out.below h A2.out.lt)).1, (Bk.twod (A2.out.below h A2.out.lt)).2, (Bk.twod (B2h.out.below h B2h.out.lt)).1, (Bk.twod (B2h.out.below h B2h.out.lt)).2⟩)
  have P1 : Hid (∀ W, Below w2.heap.size w2 W → Calls Try.prog 58 #[.int .i64 a0, .int .i64 b0] W fun e w' => e = .returned (.int .i64 (cmpI a0 b0)) ∧ Below w2.heap.size w2 w') := hidd_ (fun W h => (compare_any W a0 b0).mono fun e w' hh => ⟨hh.1, hh.2 ▸ h⟩)
  have P2 : Hid (∀ W, Below w2.heap.size w2 W → Calls Try.prog 58 #[.int .i64 a1, .int .i64 b1] W fun e w' => e = .returned (.int .i64 (cmpI a1 b1)) ∧ Below w2.heap.size w2 w') := hidd_ (fun W h => (compare_any W a1 b1).mono fun e w' hh => ⟨hh.1, hh.2 ▸ h⟩)
  have HC := hidd_ (show cmpD ⟨a0, a1⟩ ⟨b0, b1⟩ = if cmpI a0 b0 ≠ 0 then cmpI a0 b0 else cmpI a1 b1 from rfl)
  generalize cmpI a0 b0 = x at *
  generalize cmpI a1 b1 = y at *
  unfold DotV.row
  clear A1 X1 B2 b12
  go_enter Try.func37, Try.ntmps37
  go_upto_region 1 with fail
  clear hw1 hw2 hg s1
  refine region_quiet_tail (C := fun W => Below w2.heap.size w2 W) 10 (by kernel_rfl) (by kernel_rfl) ((Below.refl _ _).drew) ?_
  simp only [List.take_succ_cons, List.take_zero]
  repeat (go_big_quiet_want; (first
    | (refine BigFrame.quiet_move _ rfl ?_; go_simp)
    | (refine quiet_run (.pointer (some ⟨g, 0, none⟩)) ?_ ?_; (focus (intro W hW; go_simp; done)); go_simp)
    | (refine quiet_run (.pointer (some ⟨g, 1, none⟩)) ?_ ?_; (focus (intro W hW; go_simp; done)); go_simp)
    | (refine quiet_run (.pointer (some ⟨g + 1, 0, none⟩)) ?_ ?_; (focus (intro W hW; go_simp; done)); go_simp)
    | (refine quiet_run (.pointer (some ⟨g + 1, 1, none⟩)) ?_ ?_; (focus (intro W hW; go_simp; done)); go_simp)
    | (refine quiet_run (.int .i64 a0) ?_ ?_; (focus (intro W hW; have h := V.out W hW; obtain ⟨h1, h2, h3, h4⟩ := h; go_simp; done)); go_simp)
    | (refine quiet_run (.int .i64 a1) ?_ ?_; (focus (intro W hW; have h := V.out W hW; obtain ⟨h1, h2, h3, h4⟩ := h; go_simp; done)); go_simp)
    | (refine quiet_run (.int .i64 b0) ?_ ?_; (focus (intro W hW; have h := V.out W hW; obtain ⟨h1, h2, h3, h4⟩ := h; go_simp; done)); go_simp)
    | (refine quiet_run (.int .i64 b1) ?_ ?_; (focus (intro W hW; have h := V.out W hW; obtain ⟨h1, h2, h3, h4⟩ := h; go_simp; done)); go_simp)
    | (refine quiet_call (.int .i64 x) 58 #[.int .i64 a0, .int .i64 b0] ?_ P1.out ?_; (focus (intro W; go_simp; done)); go_simp)
    | (refine quiet_call (.int .i64 y) 58 #[.int .i64 a1, .int .i64 b1] ?_ P2.out ?_; (focus (intro W; go_simp; done)); go_simp)); go_big_quiet_on)
  refine wpQuiet_nil ?_
  intro w5 hw5
  have X5 := hidd_ (X2.out.trans (Below.mono hw5 hlg))
  simp only [List.drop_succ_cons, List.drop_zero]
  have co := or_any (w5.alloc (.cells #[.int .i64 x, .int .i64 y] 3)) w5.heap.size x y (Bk.new w5 _ _)
  rw [← HC.out] at co
  clear hw5 V P1 P2
  have hs5 : g ≤ w5.heap.size := by have := X5.out.size; have := HG.out; omega
  go_wp2_with (go_at_call 57; ((with_reducible refine co.mono ?_); rintro e w6 ⟨rfl, rfl⟩))
  go_ret
  exact ⟨rfl, by rw [HG.out]; exact X5.out.alloc hs5 _⟩
end Go.Proofs.Ytjflmfmncepeeaa

namespace Go.Proofs.Ytjflmfmncepeeaa
open Go.ChangeShapes Go.WideShapes Go.ChangeAt Go.RowKit
set_option linter.unusedVariables false
set_option linter.unusedSimpArgs false

theorem run_load_sub {P : Program} {w : World} (ty : TypeId) (g off : Nat) (cs : Array Value) (hc : ∀ j, j < cs.size → w.cell? ⟨g, off + j, none⟩ = cs[j]?) (d : TypeDesc)
    (hu : P.underlying ty = some d) (hd : (match d with | .struct _ | .array _ _ => true | _ => false) = true) (hi : (P.info? ty).map (·.size) = some cs.size) : (loadVar ty ⟨g, off, none⟩).run P w = .ok (.agg cs) w := by
  have hl : (loadCells ⟨g, off, none⟩ cs.toList.length).run P w = .ok cs.toList.toArray w :=
    run_loadCells_list (P := P) w ⟨g, off, none⟩ cs.toList (fun j v hv => by
      have hadd : (⟨g, off, none⟩ : Addr).add j = ⟨g, off + j, none⟩ := by unfold Addr.add; split <;> simp_all
      have hj : j < cs.size := by
        have := (List.getElem?_eq_some_iff.1 hv).1
        simpa using this
      rw [hadd, hc j hj]
      simpa using hv)
  cases hq : P.info? ty with
  | none => simp [hq] at hi
  | some i =>
    have hs : i.size = cs.size := by simpa [hq] using hi
    have hagg : (isAgg ty).run P w = .ok true w := by
      unfold isAgg
      rw [Sem.run_bind, run_underlying hu w]
      cases d <;> simp_all
    simp only [Array.length_toList, Array.toArray_toList] at hl
    simp [loadVar, Sem.run_bind, hagg, sizeOf, typeInfo, hq, hs, hl]
theorem quiet_load_sub {P : Program} {C : World → Prop} {o : Oper} {a : Act} {K : Act → Prop} (ty : TypeId) (x : Operand) (ho : o.op = .load ty x) (g off : Nat) (hx : a.eval x = .pointer (some ⟨g, off, none⟩)) (cs : Array Value) (d : TypeDesc)
    (hu : P.underlying ty = some d) (hd : (match d with | .struct _ | .array _ _ => true | _ => false) = true) (hi : (P.info? ty).map (·.size) = some cs.size)
    (h : ∀ W, C W → ∀ j, j < cs.size → W.cell? ⟨g, off + j, none⟩ = cs[j]?) (hk : K (a.put o.dst (.agg cs))) : o.quiet P a C K :=
  quiet_run (.agg cs) (fun W hW => by
    have hrun := run_load_sub (P := P) ty g off cs (h W hW) d hu hd hi
    unfold execOp
    simp only [ho, hx, Instr.loadAt, Instr.sureAddr, Sem.run_bind, Sem.run_pure, Result.andThen_ok, hrun]) hk

theorem quiet_load_rowd {P : Program} {C : World → Prop} {o : Oper} {a : Act} {K0 : Act → Prop} (ty : TypeId) (x : Operand) (ho : o.op = .load ty x) (g : Nat) (hx : a.eval x = .pointer (some ⟨g, 0, none⟩)) (t : TypeId) (cs : Array Value) (d : TypeDesc)
    (hu : P.underlying ty = some d) (hd : (match d with | .struct _ | .array _ _ => true | _ => false) = true) (hi : (P.info? ty).map (·.size) = some cs.size)
    (hC : ∀ W, C W → Bk W g t cs) (hk : K0 (a.put o.dst (.agg cs))) : o.quiet P a C K0 :=
  quiet_load_sub ty x ho g 0 hx cs d hu hd hi (fun W hW j _ => by rw [Nat.zero_add]; exact (hC W hW).cell j) hk
/-- A row of sixteen numbers. -/
def intRow (up : List Int) : Array Value := (up.map fun z => Value.int .i64 z).toArray
theorem intRow_size (up : List Int) : (intRow up).size = up.length := by simp [intRow]
theorem intRow_at (up : List Int) (k : Nat) (h : k < up.length) : (intRow up)[k]? = some (.int .i64 (up.getD k 0)) := by
  simp [intRow, List.getD, h]
theorem size_int_ (W : World) : (sizeOf 3).run Try.prog W = .ok 1 W := by kernel_rfl
theorem agg_int_ (W : World) : (isAgg 3).run Try.prog W = .ok false W := by
  unfold isAgg
  rw [Sem.run_bind, run_underlying Try.underlying3 W]
  rfl
theorem index_up (up : List Int) (k : Nat) (hv : up.length = 16) (hk : k < 16) (W : World) :
    (Instr.index 22 (.agg (intRow up)) (.int .i64 (k : Int))).run Try.prog W = .ok (.int .i64 (up.getD k 0)) W := by
  have hc := intRow_at up k (by omega)
  have h1 : (0 : Int) ≤ (k : Int) ∧ (k : Int) < ((16 : Nat) : Int) := by omega
  unfold Instr.index
  simp only [asIntOf, Sem.run_bind, Sem.run_pure, Result.andThen_ok, run_underlying Try.underlying22 W]
  simp only [if_pos h1, Sem.run_bind, size_int_, Result.andThen_ok, part, agg_int_, Int.toNat_natCast, Nat.mul_one]
  simp [hc]
/-- A context's cells. -/
def ctxRow (up : List Int) (A : Option Addr) (n c : Nat) : Array Value := ((up.map fun z => Value.int .i64 z) ++ [Value.slice A n c]).toArray
theorem ctxRow_size (up : List Int) (A : Option Addr) (n c : Nat) (h : up.length = 16) : (ctxRow up A n c).size = 17 := by simp [ctxRow, h]
theorem ctxRow_up (up : List Int) (A : Option Addr) (n c k : Nat) (h : up.length = 16) (hk : k < 16) : (ctxRow up A n c)[k]? = some (.int .i64 (up.getD k 0)) := by
  simp [ctxRow, List.getElem?_append_left, h, hk, List.getD]
theorem ctxRow_more (up : List Int) (A : Option Addr) (n c : Nat) (h : up.length = 16) : (ctxRow up A n c)[16]? = some (.slice A n c) := by
  simp [ctxRow, List.getElem?_append_right, h]
/-- A slice of dots that reads as ms, below B. -/
def RdD (w : World) (B : Nat) (A : Option Addr) (ms : List DotV) : Prop :=
  0 < ms.length → ∃ b off, A = some ⟨b, off, none⟩ ∧ b < B ∧ ∀ j, j < ms.length → w.cell? ⟨b, off + j * 2, none⟩ = some (.int .i64 (ms.getD j ⟨0, 0⟩).c) ∧ w.cell? ⟨b, off + j * 2 + 1, none⟩ = some (.int .i64 (ms.getD j ⟨0, 0⟩).n)
theorem RdD.below {w w' : World} {B : Nat} {A : Option Addr} {ms : List DotV} (h : RdD w B A ms) (hb : Below B w w') : RdD w' B A ms := fun hn => by
  obtain ⟨b, off, e, hlt, hc⟩ := h hn
  exact ⟨b, off, e, hlt, fun j hj => ⟨(hb.cell (p := ⟨b, _, none⟩) hlt).trans (hc j hj).1, (hb.cell (p := ⟨b, _, none⟩) hlt).trans (hc j hj).2⟩⟩
theorem RdD.more {w : World} {B C : Nat} {A : Option Addr} {ms : List DotV} (h : RdD w B A ms) (hB : B ≤ C) : RdD w C A ms := fun hn => by
  obtain ⟨b, off, e, hlt, hc⟩ := h hn
  exact ⟨b, off, e, by omega, hc⟩
theorem row_two {w : World} {b o : Nat} {d : DotV} (h1 : w.cell? ⟨b, o, none⟩ = some (.int .i64 d.c)) (h2 : w.cell? ⟨b, o + 1, none⟩ = some (.int .i64 d.n)) : ∀ j, j < d.row.size → w.cell? ⟨b, o + j, none⟩ = d.row[j]? := fun j hj => by
  have : j < 2 := hj
  rcases (by omega : j = 0 ∨ j = 1) with rfl | rfl
  · exact h1
  · exact h2
theorem row_one (d : DotV) : d.row.all (·.oneCell') = true := by simp [DotV.row, Value.oneCell']
theorem iD_ : (Try.prog.info? 27).map (·.size) = some 2 := by kernel_rfl
theorem iU_ : (Try.prog.info? 22).map (·.size) = some 16 := by kernel_rfl
theorem iX_ : (Try.prog.info? 29).map (·.size) = some 17 := by kernel_rfl
theorem zD_ (W : World) : (zeroValue 27).run Try.prog W = .ok (.agg #[.int .i64 0, .int .i64 0]) W := by kernel_rfl

/-- What Check looks at. -/
def okU (z : Int) : Bool := decide (0 ≤ z ∧ z ≤ 1099511627776)
def okAt (up : List Int) (ms : List DotV) (j : Nat) : Bool :=
  isD (ms.getD j ⟨0, 0⟩) && (decide (j = 0) || decide (cmpD (ms.getD (j - 1) ⟨0, 0⟩) (ms.getD j ⟨0, 0⟩) < 0)) && decide (up.getD ((ms.getD j ⟨0, 0⟩).c - 1).toNat 0 + 2 ≤ (ms.getD j ⟨0, 0⟩).n)
/-- The first n all say yes. -/
def allN (n : Nat) (f : Nat → Bool) : Bool := (List.range n).all f
theorem allN_iff (n : Nat) (f : Nat → Bool) : allN n f = true ↔ ∀ j, j < n → f j = true := by simp [allN]
theorem allN_no {n : Nat} {f : Nat → Bool} {j : Nat} (hj : j < n) (h : f j = false) : allN n f = false := by
  cases hq : allN n f with
  | false => rfl
  | true => rw [(allN_iff n f).1 hq j hj] at h; cases h
def chk (up : List Int) (ms : List DotV) : Int :=
  if allN 16 (fun j => okU (up.getD j 0)) = false then 1 else if 32 < ms.length then 11 else if allN ms.length (okAt up ms) = false then 1 else 0
end Go.Proofs.Ytjflmfmncepeeaa
