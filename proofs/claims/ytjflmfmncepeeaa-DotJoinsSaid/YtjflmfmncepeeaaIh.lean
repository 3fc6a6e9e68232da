/-
  Two dots compared; slices.Index, slices.Contains, dot.Has.
-/
import Derived.Test.YtjflmfmncepeeaaIg
import Derived.Laws.StructEq
namespace Go.Proofs.Ytjflmfmncepeeaa
open Go.ChangeShapes Go.WideShapes Go.ChangeAt Go.RowKit
set_option linter.unusedVariables false
set_option linter.unusedSimpArgs false

set_option maxRecDepth 100000 in
theorem equalD (d x : DotV) (W : World) : (Op.equalIn 10000 27 (.agg d.row) (.agg x.row)).run Try.prog W = .ok (decide (d = x)) W := by
  obtain ⟨a0, a1⟩ := d
  obtain ⟨b0, b1⟩ := x
  have ht : Try.prog.underlying 27 = some (.struct (Try.prog.fieldsOf 27)) := by kernel_rfl
  have hp : Try.prog.stoodInHeld 27 = false := by kernel_rfl
  have hd : decide ((⟨a0, a1⟩ : DotV) = ⟨b0, b1⟩) = (a0 == b0 && a1 == b1) := by
    rw [Bool.eq_iff_iff]
    simp
  rw [hd, run_equalIn_struct W 9999 27 _ _ ht hp]
  have pi : ∀ (u : Array Value) (i : Nat) (z : Int), u[i]? = some (.int .i64 z) → (part 3 u i).run Try.prog W = .ok (.int .i64 z) W := fun u i z h => by
    unfold part
    simp [agg_int_, Sem.run_bind, h]
  have pe : ∀ (n : Nat) (x y : Int), (Op.equalIn (n + 1) 3 (.int .i64 x) (.int .i64 y)).run Try.prog W = .ok (x == y) W := fun n x y => run_equalIn_int W n 3 .i64 .i64 x y Try.underlying3
  obtain ⟨fs, hfs⟩ : ∃ fs, (Try.prog.fieldsOf 27).toList = fs := ⟨_, rfl⟩
  have hff : ∃ f1 f2, fs = [f1, f2] ∧ f1.name ≠ "_" ∧ f1.type = 3 ∧ f1.offset = 0 ∧ f2.name ≠ "_" ∧ f2.type = 3 ∧ f2.offset = 1 := by
    rw [← hfs]
    exact ⟨_, _, rfl, by decide, rfl, rfl, by decide, rfl, rfl⟩
  obtain ⟨f1, f2, e, n1, t1, o1, n2, t2, o2⟩ := hff
  rw [hfs, e]
  have p1 := pi #[.int .i64 a0, .int .i64 a1] 0 a0 rfl
  have p2 := pi #[.int .i64 b0, .int .i64 b1] 0 b0 rfl
  have p3 := pi #[.int .i64 a0, .int .i64 a1] 1 a1 rfl
  have p4 := pi #[.int .i64 b0, .int .i64 b1] 1 b1 rfl
  unfold DotV.row
  simp only [Op.eqFields, n1, n2, t1, t2, o1, o2, ne_eq, not_false_eq_true, if_true, Sem.run_bind, p1, p2, p3, p4, pe 9998, Result.andThen_ok]
  cases h0 : (a0 == b0)
  · simp
  · cases h1 : (a1 == b1) <;> simp [Sem.run_bind, p3, p4, pe 9998, h1]
theorem eqlD (d x : DotV) (W : World) : (binOp .eql 27 (.agg d.row) (.agg x.row)).run Try.prog W = .ok (.bool (decide (d = x))) W := by
  rw [run_eql_struct, equalD d x W]
  rfl

theorem quiet_eqlD {C : World → Prop} {o : Oper} {a : Act} {K0 : Act → Prop} (x y : Operand) (t : TypeId) (ho : o.op = .binOp .eql 27 x y t) (d e : DotV) (hx : a.eval x = .agg d.row) (hy : a.eval y = .agg e.row) (hk : K0 (a.put o.dst (.bool (decide (d = e))))) : o.quiet Try.prog a C K0 :=
  quiet_run (.bool (decide (d = e))) (fun W hW => by
    have hg := run_eqGuard_agg (P := Try.prog) W .eql 27 x y d.row e.row (by kernel_rfl)
    have h := eqlD d e W
    unfold execOp
    simp only [ho, hx, hy, Sem.run_bind, Sem.run_pure, hg, h, Result.andThen_ok]) hk
/-- The place of a dot in a slice: not below nought just if it is there. -/
def IdxP (w : World) (ms : List DotV) (d : DotV) (e : Ending) (w' : World) : Prop := ∃ i : Int, e = .returned (.int .i64 i) ∧ decide (0 ≤ i) = decide (d ∈ ms) ∧ Below w.heap.size w w'
theorem in_take {ms : List DotV} {d : DotV} : ∀ {k : Nat}, (∀ j, j < k → ms.getD j ⟨0, 0⟩ ≠ d) → ms.length ≤ k → d ∉ ms := fun {k} h hk hm => by
  obtain ⟨j, hj, e⟩ := List.mem_iff_getElem.1 hm
  exact h j (by omega) (by simp [List.getD, hj, e])

set_option maxRecDepth 100000 in
set_option maxHeartbeats 4000000 in
theorem index_any (w : World) (A : Option Addr) (n c : Nat) (ms : List DotV) (hn : ms.length = n) (hn6 : n ≤ 1000000) (hr : RdD w w.heap.size A ms) (d : DotV) :
    Calls Try.prog 59 #[.slice A n c, .agg d.row] w (IdxP w ms d) := by
  obtain ⟨g, hg⟩ : ∃ g, w.heap.size = g := ⟨_, rfl⟩
  obtain ⟨w1, hw1⟩ : ∃ w1, w.alloc (.cells d.row 27) = w1 := ⟨_, rfl⟩
  have K1 := hidd_ (show Bk w1 g 27 d.row by rw [← hw1, ← hg]; exact Bk.new w _ _)
  have X1 := hidd_ (show Below g w w1 by rw [← hw1, ← hg]; exact (Below.refl _ _).alloc (Nat.le_refl _) _)
  rw [hg] at hr
  have R1 := hidd_ (hr.below X1.out)
  have HG := hidd_ hg
  have HN := hidd_ hn
  have hgl : g < w1.heap.size := K1.out.lt
  have ID := hidd_ (show (Try.prog.info? 27).map (·.size) = some d.row.size from iD_)
  have EQ := hidd_ (fun x W => eqlD d x W)
  have EQ2 := hidd_ (fun x W => equalD d x W)
  have EG := hidd_ (show Try.prog.eqGuardType Try.prog.depth 27 = false by kernel_rfl)
  clear hr hn
  go_enter Try.func59, Try.ntmps59
  go_upto_region 2 with fail
  clear hw1 hg
  go_loopw [5, 8] (fun v5 i wr => ∃ k : Nat, k ≤ n ∧ i = .int .i64 k ∧ Hid (Below w1.heap.size w1 wr) ∧ Hid (∀ j, j < k → ms.getD j ⟨0, 0⟩ ≠ d)) (fun _ i _ => n - (intOf i).toNat)
  case atStart => exact ⟨0, by omega, rfl, hidd_ (Below.refl _ _), hidd_ (fun j hj => by omega)⟩
  case round =>
    obtain ⟨k, hk, rfl, HB, HO⟩ := hrel
    by_cases hlt : k < n
    · obtain ⟨b, off, rfl, hbl, hcell⟩ := R1.out (by rw [HN.out]; omega)
      have hbw : b < w1.heap.size := by omega
      obtain ⟨x, hx⟩ : ∃ x, ms.getD k ⟨0, 0⟩ = x := ⟨_, rfl⟩
      have hcx := hcell k (by rw [HN.out]; exact hlt)
      rw [hx] at hcx
      have HXX := hidd_ hx
      have t0 : (0 : Int) ≤ (k : Int) := by omega
      have tn : (k : Int) < (n : Int) := by omega
      have hle : w1.heap.size ≤ wr.heap.size := HB.out.size
      have CX := hidd_ (fun W (h : Below wr.heap.size wr W) => row_two (((h.cell (p := ⟨b, _, none⟩) (Nat.lt_of_lt_of_le hbw hle)).trans (HB.out.cell (p := ⟨b, _, none⟩) hbw)).trans hcx.1) (((h.cell (p := ⟨b, _, none⟩) (Nat.lt_of_lt_of_le hbw hle)).trans (HB.out.cell (p := ⟨b, _, none⟩) hbw)).trans hcx.2))
      have CD := hidd_ (fun W (h : Below wr.heap.size wr W) => (K1.out.below HB.out hgl).below h (Nat.lt_of_lt_of_le hgl hle))
      have IXX := hidd_ (show (Try.prog.info? 27).map (·.size) = some x.row.size from iD_)
      obtain ⟨bq, hbq⟩ : ∃ q, decide (d = x) = q := ⟨_, rfl⟩
      have E1 := hidd_ (fun W => EQ.out x W)
      have E2 := hidd_ (fun W => EQ2.out x W)
      rw [hbq] at E1 E2
      have HBQ := hidd_ hbq
      clear hx hcx hcell hbq
      go_upto_region 4 with fail
      refine region_quiet_in (C := fun W => Below wr.heap.size wr W) (by kernel_rfl) (by kernel_rfl) ((Below.refl _ _).drew) ?_
      repeat (first | go_big_quiet_skip | (go_big_quiet_want; (first
        | (refine BigFrame.quiet_move _ rfl ?_; go_simp)
        | (refine BigFrame.quiet_assign _ rfl ?_; go_simp)
        | (refine quiet_load_rowd 27 (.tmp 3) rfl g rfl 27 d.row _ Try.underlying27 rfl ID.out CD.out ?_; go_simp)
        | (refine quiet_load_sub 27 (.tmp 14) rfl b (off + k * 2) rfl x.row _ Try.underlying27 rfl IXX.out CX.out ?_; go_simp)
        | (refine quiet_run (.pointer (some ⟨b, off + k * 2, none⟩)) ?_ ?_; (focus (intro W hW; go_simp; done)); go_simp)
        | (refine quiet_eqlD (.tmp 11) (.tmp 15) _ rfl d x rfl rfl ?_; rw [HBQ.out]; go_simp)); go_big_quiet_on))
      refine wpQuiet_nil ?_
      intro w7 hw7
      have B7 := hidd_ (HB.out.trans (Below.mono hw7 hle))
      clear hw7 CX CD E1 E2
      cases bq
      · have hne : ¬ d = x := of_decide_eq_false HBQ.out
        have HO2 := hidd_ (show ∀ j, j < k + 1 → ms.getD j ⟨0, 0⟩ ≠ d from fun j hj => by
          rcases Nat.lt_or_ge j k with h | h
          · exact HO.out j h
          · obtain rfl : j = k := by omega
            rw [HXX.out]; exact fun e => hne e.symm)
        clear hne
        go_wp2
        go_roundw
        case rel => exact ⟨k + 1, by omega, by go_num, B7, HO2⟩
        case measure => simp [intOf]; omega
      · have he : d = x := of_decide_eq_true HBQ.out
        have HM := hidd_ (show d ∈ ms by
          rw [he, ← HXX.out]
          have : k < ms.length := by rw [HN.out]; exact hlt
          simp only [List.getD, List.getElem?_eq_getElem this, Option.getD_some]
          exact List.getElem_mem this)
        clear he
        go_wp2
        go_ret
        exact ⟨(k : Int), rfl, by rw [decide_eq_true HM.out]; exact decide_eq_true t0, by first | exact X1.out.trans (B7.out.mono (Nat.le_of_lt hgl)) | (rw [HG.out]; exact X1.out.trans (B7.out.mono (Nat.le_of_lt hgl)))⟩
    · have d1 : decide ((k : Int) < (n : Int)) = false := decide_eq_false (by omega)
      have d2 : decide (k < n) = false := decide_eq_false hlt
      have HM := hidd_ (show d ∉ ms from in_take HO.out (by rw [HN.out]; omega))
      go_wp2
      go_ret
      exact ⟨-1, rfl, by rw [decide_eq_false HM.out]; rfl, by first | exact X1.out.trans (HB.out.mono (Nat.le_of_lt hgl)) | (rw [HG.out]; exact X1.out.trans (HB.out.mono (Nat.le_of_lt hgl)))⟩
set_option maxRecDepth 100000 in
set_option maxHeartbeats 2000000 in
theorem contains_any (w : World) (A : Option Addr) (n c : Nat) (ms : List DotV) (hn : ms.length = n) (hn6 : n ≤ 1000000) (hr : RdD w w.heap.size A ms) (d : DotV) :
    Calls Try.prog 38 #[.slice A n c, .agg d.row] w fun e w' => e = .returned (.bool (decide (d ∈ ms))) ∧ Below w.heap.size w w' := by
  obtain ⟨w1, hw1⟩ : ∃ w1, w.alloc (.cells d.row 27) = w1 := ⟨_, rfl⟩
  have K1 := hidd_ (show Bk w1 w.heap.size 27 d.row by rw [← hw1]; exact Bk.new w _ _)
  have X1 := hidd_ (show Below w.heap.size w w1 by rw [← hw1]; exact (Below.refl _ _).alloc (Nat.le_refl _) _)
  have ci := index_any w1 A n c ms hn hn6 ((hr.below X1.out).more X1.out.size) d
  have ID := hidd_ (show (Try.prog.info? 27).map (·.size) = some d.row.size from iD_)
  obtain ⟨q, hq⟩ : ∃ q, decide (d ∈ ms) = q := ⟨_, rfl⟩
  rw [hq]
  have HQ := hidd_ hq
  clear hr hn hq
  go_enter Try.func38, Try.ntmps38
  go_wp2_with (first
    | (refine wpList_load_row rfl 27 (.tmp 3) rfl w.heap.size rfl 27 d.row (0, 0) _ K1.out Try.underlying27 rfl ID.out ?_)
    | (go_at_call 59; ((with_reducible refine ci.mono ?_); clear ci; rintro e w2 ⟨i, rfl, hi, hb⟩; rw [HQ.out] at hi; have X2 := hidd_ (X1.out.trans (hb.mono X1.out.size)); clear hb))
  )
  go_ret
  exact ⟨rfl, X2.out⟩
end Go.Proofs.Ytjflmfmncepeeaa
