/-
  slices.Equal at dots, dot.Same, casketref14.Dot, casketref14.Same.
-/
import Derived.Test.YtjflmfmncepeeaaIh
import Derived.Test.YtjflmfmncepeeaaIi
import Derived.Test.YtjflmfmncepeeaaIq
namespace Go.Proofs.Ytjflmfmncepeeaa
open Go.ChangeShapes Go.WideShapes Go.ChangeAt Go.RowKit
set_option linter.unusedVariables false
set_option linter.unusedSimpArgs false

theorem wpList_load_part {P : Program} {ops : Array Oper} {rest : List Oper} {o : Oper} {a : Act} {w : World} {Q : Exit → Act → World → Prop} (hw : Region.wanted o (yielded ops a.tmps) = true) (ty : TypeId) (x : Operand) (ho : o.op = .load ty x) (g off : Nat) (hx : a.eval x = .pointer (some ⟨g, off, none⟩)) (cs : Array Value) (hc : ∀ j, j < cs.size → w.cell? ⟨g, off + j, none⟩ = cs[j]?) (d : TypeDesc)
    (hu : P.underlying ty = some d) (hd : (match d with | .struct _ | .array _ _ => true | _ => false) = true) (hi : (P.info? ty).map (·.size) = some cs.size)
    (h : wpList P ops Q rest (a.put o.dst (.agg cs)) w) : wpList P ops Q (o :: rest) a w := by
  have hrun : (loadVar ty ⟨g, off, none⟩).run P w = .ok (.agg cs) w := run_load_sub ty g off cs hc d hu hd hi
  refine BigFrame.wpList_want hw fun K hK => ?_
  unfold Oper.wp execOp
  simp only [ho, hx, Instr.loadAt, Instr.sureAddr, Sem.run_bind, Sem.run_pure, Result.andThen_ok, hrun]
  exact hK _ _ h
theorem all_range_eqI : ∀ (xs ys : List Int), xs.length = ys.length → ((List.range xs.length).all fun i => xs.getD i 0 == ys.getD i 0) = decide (xs = ys)
  | [], [], _ => rfl
  | x :: xs, y :: ys, h => by
    have ih := all_range_eqI xs ys (by simpa using h)
    rw [List.length_cons, List.range_succ_eq_map, List.all_cons, List.all_map]
    simp only [List.getD_cons_zero, Function.comp_def, List.getD_cons_succ, ih]
    rw [Bool.eq_iff_iff]
    simp
  | [], _ :: _, h => by simp at h
  | _ :: _, [], h => by simp at h
theorem run_equalIn_intsN {P : Program} (w : World) (d : Nat) (t e : TypeId) (n : Nat) (ht : P.underlying t = some (.array n e)) (he : P.underlying e = some (.int .i64)) (hsz : ∀ w, (sizeOf e).run P w = .ok 1 w)
    (xs ys : List Int) (hx : xs.length = n) (hy : ys.length = n) :
    (Op.equalIn (d + 2) t (.agg (intRow xs)) (.agg (intRow ys))).run P w = .ok (decide (xs = ys)) w := by
  rw [← all_range_eqI xs ys (hx.trans hy.symm), hx, List.range_eq_range', Op.equalIn]
  simp only [Sem.run_bind, run_underlying ht, Result.andThen_ok, hsz, Std.Legacy.Range.forIn_eq_forIn_range', Std.Legacy.Range.size, Nat.sub_zero, Nat.add_sub_cancel, Nat.div_one]
  have hl : ∀ i ∈ List.range' 0 n 1, i < n := fun i hi => by simpa using (List.mem_range'_1.1 hi).2
  generalize List.range' 0 n 1 = l at hl ⊢
  induction l with
  | nil => simp
  | cons i l ih =>
    have hi : i < n := hl i (by simp)
    have px : (part e (intRow xs) (i * 1)).run P w = .ok (.int .i64 (xs.getD i 0)) w := by
      simp [part, isAgg, run_underlying he, intRow, List.getD, List.getElem?_eq_getElem (show i < xs.length by omega)]
    have py : (part e (intRow ys) (i * 1)).run P w = .ok (.int .i64 (ys.getD i 0)) w := by
      simp [part, isAgg, run_underlying he, intRow, List.getD, List.getElem?_eq_getElem (show i < ys.length by omega)]
    have pe : (Op.equalIn (d + 1) e (.int .i64 (xs.getD i 0)) (.int .i64 (ys.getD i 0))).run P w = .ok (xs.getD i 0 == ys.getD i 0) w := run_equalIn_int w d e .i64 .i64 _ _ he
    simp only [List.forIn_cons, Sem.run_bind, px, py, pe, Result.andThen_ok, List.all_cons]
    cases hb : (xs.getD i 0 == ys.getD i 0)
    · simp
    · simp only [Bool.not_true, Bool.false_eq_true, if_false, Sem.run_pure, Result.andThen_ok, Bool.true_and]
      exact ih fun j hj => hl j (by simp [hj])
theorem eqlIn16 (xs ys : List Int) (hx : xs.length = 16) (hy : ys.length = 16) (W : World) : (Op.equalIn 10000 22 (.agg (intRow xs)) (.agg (intRow ys))).run Try.prog W = .ok (decide (xs = ys)) W :=
  run_equalIn_intsN W 9998 22 3 16 Try.underlying22 Try.underlying3 (fun W => by kernel_rfl) xs ys hx hy
theorem eql16 (xs ys : List Int) (hx : xs.length = 16) (hy : ys.length = 16) (W : World) : (binOp .eql 22 (.agg (intRow xs)) (.agg (intRow ys))).run Try.prog W = .ok (.bool (decide (xs = ys))) W := by
  rw [run_eql_struct, eqlIn16 xs ys hx hy W]
  rfl
theorem ext_getD {a b : List DotV} (hl : a.length = b.length) (h : ∀ j, j < a.length → a.getD j ⟨0, 0⟩ = b.getD j ⟨0, 0⟩) : a = b :=
  List.ext_getElem hl fun j h1 h2 => by
    have := h j h1
    simpa only [List.getD, List.getElem?_eq_getElem h1, List.getElem?_eq_getElem h2, Option.getD_some] using this

set_option maxRecDepth 100000 in
set_option maxHeartbeats 4000000 in
theorem equal_any (w : World) (A : Option Addr) (n c : Nat) (ms : List DotV) (hn : ms.length = n) (hn6 : n ≤ 1000000) (hr : RdD w w.heap.size A ms) (A' : Option Addr) (n' c' : Nat) (ms' : List DotV) (hn' : ms'.length = n') (hn6' : n' ≤ 1000000) (hr' : RdD w w.heap.size A' ms') :
    Calls Try.prog 48 #[.slice A n c, .slice A' n' c'] w fun e w' => e = .returned (.bool (decide (ms = ms'))) ∧ Below w.heap.size w w' := by
  have HN := hidd_ hn
  have HN' := hidd_ hn'
  have R1 := hidd_ hr
  have R2 := hidd_ hr'
  by_cases hnn : n = n'
  · subst hnn
    have hb : ((n : Int) != (n : Int)) = false := by simp
    obtain ⟨r, hrr⟩ : ∃ r, decide (ms = ms') = r := ⟨_, rfl⟩
    rw [hrr]
    have HRR := hidd_ hrr
    clear hn hn' hr hr' hrr
    go_enter Try.func48, Try.ntmps48
    go_upto_region 4 with fail
    go_loopw [5, 13] (fun v5 i wr => ∃ k : Nat, k ≤ n ∧ i = .int .i64 k ∧ Hid (Below w.heap.size w wr) ∧ Hid (∀ j, j < k → ms.getD j ⟨0, 0⟩ = ms'.getD j ⟨0, 0⟩)) (fun _ i _ => n - (intOf i).toNat)
    case atStart => exact ⟨0, by omega, rfl, hidd_ (Below.refl _ _), hidd_ (fun j hj => by omega)⟩
    case round =>
      obtain ⟨k, hk, rfl, HB, HO⟩ := hrel
      by_cases hlt : k < n
      · obtain ⟨b, off, rfl, hbl, hcell⟩ := R1.out (by rw [HN.out]; omega)
        obtain ⟨b', off', rfl, hbl', hcell'⟩ := R2.out (by rw [HN'.out]; omega)
        obtain ⟨x, hx⟩ : ∃ x, ms.getD k ⟨0, 0⟩ = x := ⟨_, rfl⟩
        obtain ⟨y, hy⟩ : ∃ y, ms'.getD k ⟨0, 0⟩ = y := ⟨_, rfl⟩
        have hcx := hcell k (by rw [HN.out]; exact hlt)
        have hcy := hcell' k (by rw [HN'.out]; exact hlt)
        rw [hx] at hcx
        rw [hy] at hcy
        have HXX := hidd_ hx
        have HYY := hidd_ hy
        have t0 : (0 : Int) ≤ (k : Int) := by omega
        have tn : (k : Int) < (n : Int) := by omega
        have hle : w.heap.size ≤ wr.heap.size := HB.out.size
        have CX := hidd_ (fun W (h : Below wr.heap.size wr W) => row_two (((h.cell (p := ⟨b, _, none⟩) (Nat.lt_of_lt_of_le hbl hle)).trans (HB.out.cell (p := ⟨b, _, none⟩) hbl)).trans hcx.1) (((h.cell (p := ⟨b, _, none⟩) (Nat.lt_of_lt_of_le hbl hle)).trans (HB.out.cell (p := ⟨b, _, none⟩) hbl)).trans hcx.2))
        have CY := hidd_ (fun W (h : Below wr.heap.size wr W) => row_two (((h.cell (p := ⟨b', _, none⟩) (Nat.lt_of_lt_of_le hbl' hle)).trans (HB.out.cell (p := ⟨b', _, none⟩) hbl')).trans hcy.1) (((h.cell (p := ⟨b', _, none⟩) (Nat.lt_of_lt_of_le hbl' hle)).trans (HB.out.cell (p := ⟨b', _, none⟩) hbl')).trans hcy.2))
        have IXX := hidd_ (show (Try.prog.info? 27).map (·.size) = some x.row.size from iD_)
        have IYY := hidd_ (show (Try.prog.info? 27).map (·.size) = some y.row.size from iD_)
        obtain ⟨bq, hbq⟩ : ∃ q, (!decide (x = y)) = q := ⟨_, rfl⟩
        have HBQ := hidd_ hbq
        clear hx hy hcx hcy hcell hcell' hbq
        go_upto_region 6 with fail
        refine region_quiet_in (C := fun W => Below wr.heap.size wr W) (by kernel_rfl) (by kernel_rfl) ((Below.refl _ _).drew) ?_
        repeat (first | go_big_quiet_skip | (go_big_quiet_want; (first
          | (refine BigFrame.quiet_move _ rfl ?_; go_simp)
          | (refine BigFrame.quiet_assign _ rfl ?_; go_simp)
          | (refine quiet_load_sub 27 (.tmp 18) rfl b (off + k * 2) rfl x.row _ Try.underlying27 rfl IXX.out CX.out ?_; go_simp)
          | (refine quiet_load_sub 27 (.tmp 22) rfl b' (off' + k * 2) rfl y.row _ Try.underlying27 rfl IYY.out CY.out ?_; go_simp)
          | (refine quiet_run (.pointer (some ⟨b, off + k * 2, none⟩)) ?_ ?_; (focus (intro W hW; go_simp; done)); go_simp)
          | (refine quiet_run (.pointer (some ⟨b', off' + k * 2, none⟩)) ?_ ?_; (focus (intro W hW; go_simp; done)); go_simp)
          | (refine quiet_neqD (.tmp 19) (.tmp 23) _ rfl x y rfl rfl ?_; rw [HBQ.out]; go_simp)); go_big_quiet_on))
        refine wpQuiet_nil ?_
        intro w7 hw7
        have B7 := hidd_ (HB.out.trans (Below.mono hw7 hle))
        clear hw7 CX CY
        cases bq
        · have heq : x = y := by have := HBQ.out; simpa using this
          have HO2 := hidd_ (show ∀ j, j < k + 1 → ms.getD j ⟨0, 0⟩ = ms'.getD j ⟨0, 0⟩ from fun j hj => by
            rcases Nat.lt_or_ge j k with h | h
            · exact HO.out j h
            · obtain rfl : j = k := by omega
              rw [HXX.out, HYY.out]; exact heq)
          clear heq
          go_wp2
          go_roundw
          case rel => exact ⟨k + 1, by omega, by go_num, B7, HO2⟩
          case measure => simp [intOf]; omega
        · have hne : ¬ x = y := by have := HBQ.out; simpa using this
          obtain rfl : r = false := by
            rw [← HRR.out]
            exact decide_eq_false fun e => hne (by rw [← HXX.out, ← HYY.out, e])
          clear hne
          go_wp2
          go_ret
          exact ⟨rfl, B7.out⟩
      · have d1 : decide ((k : Int) < (n : Int)) = false := decide_eq_false (by omega)
        have d2 : decide (k < n) = false := decide_eq_false hlt
        obtain rfl : r = true := by
          rw [← HRR.out]
          exact decide_eq_true (ext_getD (by rw [HN.out, HN'.out]) fun j hj => HO.out j (by have := HN.out; omega))
        go_wp2
        go_ret
        exact ⟨rfl, HB.out⟩
  · have hb : ((n : Int) != (n' : Int)) = true := by simp; omega
    have hb2 : ((n : Int) == (n' : Int)) = false := by simp; omega
    have hq : decide (ms = ms') = false := decide_eq_false fun e => hnn (by rw [← HN.out, ← HN'.out, e])
    rw [hq]
    clear hn hn' hr hr' hq hnn
    go_enter Try.func48, Try.ntmps48
    go_wp2
    go_ret
    exact ⟨rfl, Below.refl _ _⟩

def sameR (up up' : List Int) (ms ms' : List DotV) : Bool := decide (up = up') && decide (ms = ms')
set_option maxRecDepth 100000 in
set_option maxHeartbeats 4000000 in
theorem same_ctx (w : World) (up : List Int) (hu : up.length = 16) (A : Option Addr) (n c : Nat) (ms : List DotV) (hn : ms.length = n) (hn6 : n ≤ 1000000) (hr : RdD w w.heap.size A ms) (up' : List Int) (hu' : up'.length = 16) (A' : Option Addr) (n' c' : Nat) (ms' : List DotV) (hn' : ms'.length = n') (hn6' : n' ≤ 1000000) (hr' : RdD w w.heap.size A' ms') :
    Calls Try.prog 30 #[.agg (ctxRow up A n c), .agg (ctxRow up' A' n' c')] w fun e w' => e = .returned (.bool (sameR up up' ms ms')) ∧ Below w.heap.size w w' := by
  obtain ⟨g, hg⟩ : ∃ g, w.heap.size = g := ⟨_, rfl⟩
  obtain ⟨wa, hwa⟩ : ∃ w0, w.alloc (.cells (ctxRow up A n c) 29) = w0 := ⟨_, rfl⟩
  have Ka := show Bk wa g 29 (ctxRow up A n c) by rw [← hwa, ← hg]; exact Bk.new w _ _
  have Xa := show Below g w wa by rw [← hwa, ← hg]; exact (Below.refl _ _).alloc (Nat.le_refl _) _
  have Sa : wa.heap.size = g + 1 := by rw [← hwa, ← hg]; simp
  obtain ⟨w0, hw0⟩ : ∃ w0, wa.alloc (.cells (ctxRow up' A' n' c') 29) = w0 := ⟨_, rfl⟩
  have b0 : Below wa.heap.size wa w0 := by rw [← hw0]; exact (Below.refl _ _).alloc (Nat.le_refl _) _
  have D0 := hidd_ (show Bk w0 (g + 1) 29 (ctxRow up' A' n' c') by rw [← Sa, ← hw0]; exact Bk.new wa _ _)
  have K0 := hidd_ (Ka.below b0 Ka.lt)
  have X0 := hidd_ (Xa.trans (b0.mono (by omega)))
  rw [hg] at hr hr'
  have ce := equal_any w0 A n c ms hn hn6 ((hr.below X0.out).more (Nat.le_of_lt K0.out.lt)) A' n' c' ms' hn' hn6' ((hr'.below X0.out).more (Nat.le_of_lt K0.out.lt))
  have HG := hidd_ hg
  have IU := hidd_ (fun (up : List Int) (hu : up.length = 16) => (show (Try.prog.info? 22).map (·.size) = some (intRow up).size by rw [intRow_size, hu]; exact iU_))
  have hE := fun W => eqlIn16 up up' hu hu' W
  have hE2 := fun W => eql16 up up' hu hu' W
  have KU := hidd_ (fun j (hj : j < (intRow up).size) => (show w0.cell? ⟨g, 0 + j, none⟩ = (intRow up)[j]? by rw [intRow_size, hu] at hj; rw [Nat.zero_add, K0.out.cell j, ctxRow_up up A n c j hu hj, intRow_at up j (by omega)]))
  have KU' := hidd_ (fun j (hj : j < (intRow up').size) => (show w0.cell? ⟨g + 1, 0 + j, none⟩ = (intRow up')[j]? by rw [intRow_size, hu'] at hj; rw [Nat.zero_add, D0.out.cell j, ctxRow_up up' A' n' c' j hu' hj, intRow_at up' j (by omega)]))
  have hm := (K0.out.cell 16).trans (ctxRow_more up A n c hu)
  have hm' := (D0.out.cell 16).trans (ctxRow_more up' A' n' c' hu')
  have IV := hidd_ (IU.out up hu)
  have IV' := hidd_ (IU.out up' hu')
  have hS := hidd_ (show sameR up up' ms ms' = (decide (up = up') && decide (ms = ms')) from rfl)
  obtain ⟨bu, hbu⟩ : ∃ b, decide (up = up') = b := ⟨_, rfl⟩
  obtain ⟨bm, hbm⟩ : ∃ b, decide (ms = ms') = b := ⟨_, rfl⟩
  obtain ⟨r, hrr⟩ : ∃ r, sameR up up' ms ms' = r := ⟨_, rfl⟩
  rw [hbm] at ce
  have HR := hidd_ (show r = (bu && bm) by rw [← hrr, hS.out, hbu, hbm])
  rw [hrr]
  rw [hbu] at hE hE2
  clear hu hu' hn hn' hr hr' Ka Xa b0 hbu hbm hrr hS IU
  go_enter Try.func30, Try.ntmps30
  go_upto_region 1 with fail
  clear hw0 hwa Sa hg
  cases bu
  all_goals
    go_wp2_with (first
      | (refine wpList_load_part (wanted_none rfl) 22 (.tmp 5) rfl g 0 rfl (intRow up) KU.out _ Try.underlying22 rfl IV.out ?_)
      | (refine wpList_load_part (wanted_none rfl) 22 (.tmp 7) rfl (g + 1) 0 rfl (intRow up') KU'.out _ Try.underlying22 rfl IV'.out ?_)
      | (go_at_call 48; ((with_reducible refine ce.mono ?_); clear ce; rintro e w1 ⟨rfl, hb⟩; have X1 := hidd_ (X0.out.trans (hb.mono (Nat.le_of_lt K0.out.lt))); clear hb)))
    go_ret
    exact ⟨by rw [HR.out]; rfl, by rw [HG.out]; first | exact X1.out | exact X0.out⟩

set_option maxRecDepth 100000 in
set_option maxHeartbeats 2000000 in
theorem refDot_any (w : World) (d : DotV) : Calls Try.prog 18 #[.agg d.row] w fun e w' => e = .returned (.bool (isD d)) ∧ Below w.heap.size w w' := by
  obtain ⟨b, hb⟩ : ∃ b, isD d = b := ⟨_, rfl⟩
  rw [hb]
  unfold isD at hb
  obtain ⟨dc, dn⟩ := d
  have HB := hidd_ hb
  have X1 := hidd_ ((Below.refl w.heap.size w).alloc (Nat.le_refl _) (.cells #[.int .i64 dc, .int .i64 dn] 27))
  have HX := hidd_ (show (DotV.row ⟨dc, dn⟩) = #[.int .i64 dc, .int .i64 dn] from rfl)
  rw [HX.out]
  clear hb
  by_cases h1 : 1 ≤ dc
  · by_cases h2 : dc ≤ 16
    · by_cases h3 : 1 ≤ dn
      · by_cases h4 : dn ≤ 1099511627776
        · have d1 : decide (1 ≤ dc) = true := decide_eq_true h1
          have d2 : decide (dc ≤ 16) = true := decide_eq_true h2
          have d3 : decide (1 ≤ dn) = true := decide_eq_true h3
          have d4 : decide (dn ≤ 1099511627776) = true := decide_eq_true h4
          have HQ := hidd_ (show b = true by rw [← HB.out]; exact decide_eq_true ⟨⟨h1, h2⟩, h3, h4⟩)
          go_enter Try.func18, Try.ntmps18
          go_wp2
          go_ret
          exact ⟨by rw [HQ.out]; rfl, X1.out⟩
        · have d1 : decide (1 ≤ dc) = true := decide_eq_true h1
          have d2 : decide (dc ≤ 16) = true := decide_eq_true h2
          have d3 : decide (1 ≤ dn) = true := decide_eq_true h3
          have d4 : decide (dn ≤ 1099511627776) = false := decide_eq_false h4
          have HQ := hidd_ (show b = false by rw [← HB.out]; exact decide_eq_false fun h => h4 h.2.2)
          go_enter Try.func18, Try.ntmps18
          go_wp2
          go_ret
          exact ⟨by rw [HQ.out]; rfl, X1.out⟩
      · have d1 : decide (1 ≤ dc) = true := decide_eq_true h1
        have d2 : decide (dc ≤ 16) = true := decide_eq_true h2
        have d3 : decide (1 ≤ dn) = false := decide_eq_false h3
        have HQ := hidd_ (show b = false by rw [← HB.out]; exact decide_eq_false fun h => h3 h.2.1)
        go_enter Try.func18, Try.ntmps18
        go_wp2
        go_ret
        exact ⟨by rw [HQ.out]; rfl, X1.out⟩
    · have d1 : decide (1 ≤ dc) = true := decide_eq_true h1
      have d2 : decide (dc ≤ 16) = false := decide_eq_false h2
      have HQ := hidd_ (show b = false by rw [← HB.out]; exact decide_eq_false fun h => h2 h.1.2)
      go_enter Try.func18, Try.ntmps18
      go_wp2
      go_ret
      exact ⟨by rw [HQ.out]; rfl, X1.out⟩
  · have d1 : decide (1 ≤ dc) = false := decide_eq_false h1
    have HQ := hidd_ (show b = false by rw [← HB.out]; exact decide_eq_false fun h => h1 h.1.1)
    go_enter Try.func18, Try.ntmps18
    go_wp2
    go_ret
    exact ⟨by rw [HQ.out]; rfl, X1.out⟩
end Go.Proofs.Ytjflmfmncepeeaa
