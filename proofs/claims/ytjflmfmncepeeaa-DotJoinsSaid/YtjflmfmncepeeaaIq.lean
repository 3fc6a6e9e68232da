/-
  slices.Compact at dots, at a slice of the call's own.
-/
import Derived.Test.YtjflmfmncepeeaaIk
import Derived.Test.YtjflmfmncepeeaaIp
namespace Go.Proofs.Ytjflmfmncepeeaa
open Go.ChangeShapes Go.WideShapes Go.ChangeAt Go.RowKit
set_option linter.unusedVariables false
set_option linter.unusedSimpArgs false

/-- The first k, no two neighbours alike. -/
def ddN (ms : List DotV) : Nat → List DotV
  | 0 => []
  | k + 1 => if 0 < k ∧ ms.getD k ⟨0, 0⟩ = ms.getD (k - 1) ⟨0, 0⟩ then ddN ms k else ddN ms k ++ [ms.getD k ⟨0, 0⟩]
theorem ddN_one (ms : List DotV) (h : 0 < ms.length) : ddN ms 1 = ms.take 1 := by
  cases ms with
  | nil => simp at h
  | cons a l => rfl
theorem take_snocD (ms : List DotV) (k : Nat) (h : k < ms.length) : ms.take (k + 1) = ms.take k ++ [ms.getD k ⟨0, 0⟩] := by
  rw [List.take_succ_eq_append_getElem h]
  simp [List.getD, h]
theorem ddN_step {ms : List DotV} {p : Nat} (h : ms.getD (p + 1) ⟨0, 0⟩ ≠ ms.getD p ⟨0, 0⟩) : ddN ms (p + 1 + 1) = ddN ms (p + 1) ++ [ms.getD (p + 1) ⟨0, 0⟩] := by
  rw [ddN, if_neg]
  rintro ⟨_, e⟩
  exact h e
theorem ddN_skip {ms : List DotV} {p : Nat} (h : ms.getD (p + 1) ⟨0, 0⟩ = ms.getD p ⟨0, 0⟩) : ddN ms (p + 1 + 1) = ddN ms (p + 1) := by
  rw [ddN, if_pos ⟨by omega, h⟩]
theorem sliceD_from (g n c k : Nat) (hk : k < n) (hc : n ≤ c) (W : World) :
    (Instr.slice 23 (.slice (some ⟨g, 0, none⟩) n c) (some (.int .i64 (k : Int))) none none).run Try.prog W = .ok (.slice (some ⟨g, k * 2, none⟩) (n - k) (c - k)) W := by
  have he : Try.prog.elem 23 = 27 := by kernel_rfl
  rw [run_slice_l W 23 (some ⟨g, 0, none⟩) n c (by rw [he]; exact Try.underlying23) .i64 k (by omega) (by omega)]
  have hs : (sizeOf (Try.prog.elem 23)).run Try.prog W = .ok 2 W := by
    rw [he]
    kernel_rfl
  have hne : c ≠ k := by omega
  rw [hs]
  simp [Result.andThen, sliced, hne, Addr.add]
  try omega
theorem quiet_neqD {C : World → Prop} {o : Oper} {a : Act} {K0 : Act → Prop} (x y : Operand) (t : TypeId) (ho : o.op = .binOp .neq 27 x y t) (d e : DotV) (hx : a.eval x = .agg d.row) (hy : a.eval y = .agg e.row) (hk : K0 (a.put o.dst (.bool (!decide (d = e))))) : o.quiet Try.prog a C K0 :=
  quiet_run (.bool (!decide (d = e))) (fun W hW => by
    have hg := run_eqGuard_agg (P := Try.prog) W .neq 27 x y d.row e.row (by kernel_rfl)
    have h : (binOp .neq 27 (.agg d.row) (.agg e.row)).run Try.prog W = .ok (.bool (!decide (d = e))) W := by
      rw [run_neq_struct, equalD d e W]
      rfl
    unfold execOp
    simp only [ho, hx, hy, Sem.run_bind, Sem.run_pure, hg, h, Result.andThen_ok]) hk
/-- The cells of a dot in an own slice. -/
theorem OwnD.two {w : World} {base g n c : Nat} {l : List DotV} (h : OwnD w base (.slice (some ⟨g, 0, none⟩) n c) l) (k : Nat) (hk : k < n) : w.cell? ⟨g, k * 2, none⟩ = some (.int .i64 (l.getD k ⟨0, 0⟩).c) ∧ w.cell? ⟨g, k * 2 + 1, none⟩ = some (.int .i64 (l.getD k ⟨0, 0⟩).n) := by
  obtain ⟨hr, hn⟩ := h.rd
  obtain ⟨b, off, e, _, hc⟩ := hr (by omega)
  injection e with e
  injection e with e1 e2 e3
  subst e1 e2
  have := hc k (by omega)
  rwa [Nat.zero_add] at this

theorem wpList_clearD {ops : Array Oper} {rest : List Oper} {o : Oper} {a : Act} {w : World} {Q : Exit → Act → World → Prop} {base g n c : Nat} {l : List DotV} (hgd : o.guard = none) (x : Operand)
    (ho : o.op = .call { callee := .builtin .clear, args := #[x], argTypes := #[23] })
    (h : OwnD w base (.slice (some ⟨g, 0, none⟩) n c) l) (k : Nat) (hk : k < n) (c' : Nat) (hx : a.eval x = .slice (some ⟨g, k * 2, none⟩) (n - k) c')
    (hK : ∀ w', OwnD w' base (.slice (some ⟨g, 0, none⟩) k c) (l.take k) → w.grownBy w' (some g) → w'.heap.size = w.heap.size → wpList Try.prog ops Q rest (a.put o.dst (.tuple #[])) w') : wpList Try.prog ops Q (o :: rest) a w := by
  refine wpList_plain hgd fun _ hk' => ?_
  obtain ⟨w', hrun, h1, h2, h3⟩ := run_clearD h k hk c' o.type
  unfold Oper.wp execOp
  simp only [ho, resolve, invoke, builtin, Sem.run_bind, Sem.run_pure, Result.andThen_ok, List.map_toArray, List.map_cons, List.map_nil, hx, hrun]
  exact hk' _ _ (hK w' h1 h2 h3)
theorem set_takeD {R : List DotV} {k : Nat} (x : DotV) (h : k < R.length) : (R.set k x).take (k + 1) = R.take k ++ [x] := by
  rw [take_snocD _ k (by rw [List.length_set]; exact h), List.take_set, List.set_eq_of_length_le (by simp; omega)]
  simp [List.getD, h]

set_option maxRecDepth 100000 in
set_option maxHeartbeats 8000000 in
theorem compact_any (w : World) (base g n c : Nat) (ms : List DotV) (hn6 : n ≤ 1000000) (h : OwnD w base (.slice (some ⟨g, 0, none⟩) n c) ms) :
    Calls Try.prog 65 #[.slice (some ⟨g, 0, none⟩) n c] w fun e w' => ∃ m, e = .returned (.slice (some ⟨g, 0, none⟩) m c) ∧ OwnD w' base (.slice (some ⟨g, 0, none⟩) m c) (ddN ms n) ∧ w.grownBy w' (some g) := by
  obtain ⟨_, hn⟩ := h.rd
  have hcap := h.cap
  have hgl := (h.lt g rfl).2
  have HO := hidd_ h
  have HN := hidd_ hn
  by_cases h2 : n < 2
  · have d2 : decide ((n : Int) < 2) = true := decide_eq_true (by omega)
    have HD := hidd_ (show ddN ms n = ms by
      rcases (by omega : n = 0 ∨ n = 1) with rfl | rfl
      · rw [List.eq_nil_of_length_eq_zero hn.symm]; rfl
      · rw [ddN_one ms (by omega), List.take_of_length_le (by omega)])
    clear h hn
    go_enter Try.func65, Try.ntmps65
    go_wp2
    go_ret
    exact ⟨n, rfl, by rw [HD.out]; exact HO.out, World.grownBy.refl _ _⟩
  · have d2 : decide ((n : Int) < 2) = false := decide_eq_false (by omega)
    have D1 := hidd_ (ddN_one ms (by omega))
    have ID := hidd_ (fun (d : DotV) => (show (Try.prog.info? 27).map (·.size) = some d.row.size from iD_))
    clear h hn
    go_enter Try.func65, Try.ntmps65
    go_upto_region 4 with fail
    go_loopw [3] (fun v wr => ∃ j p : Nat, p < n ∧ v = .int .i64 j ∧ Hid (j = p + 1) ∧ Hid (Below w.heap.size w wr) ∧ Hid (ddN ms (p + 1) = ms.take (p + 1))) (fun v _ => n - (intOf v).toNat)
    case atStart => exact ⟨1, 0, by omega, rfl, hidd_ rfl, hidd_ (Below.refl _ _), D1⟩
    case round =>
      obtain ⟨j, p, hp, rfl, HJ, HB, HT⟩ := hrel
      by_cases hlt : j < n
      · have jp := HJ.out
        have e1 : IntKind.i64.wrap ((j : Int) - 1) = (p : Int) := by rw [IntWalk.i64_in _ (by omega)]; omega
        have t0 : (0 : Int) ≤ (j : Int) := by omega
        have t1 : (0 : Int) ≤ (p : Int) := by omega
        have tn : (j : Int) < (n : Int) := by omega
        have tp : (p : Int) < (n : Int) := by omega
        obtain ⟨x, hx⟩ : ∃ x, ms.getD j ⟨0, 0⟩ = x := ⟨_, rfl⟩
        obtain ⟨y, hy⟩ : ∃ y, ms.getD p ⟨0, 0⟩ = y := ⟨_, rfl⟩
        have hle : w.heap.size ≤ wr.heap.size := HB.out.size
        have cx := HO.out.two j hlt
        have cy := HO.out.two p hp
        rw [hx] at cx
        rw [hy] at cy
        have CX := hidd_ (fun W (h : Below wr.heap.size wr W) => have b := HB.out.trans (h.mono hle); row_two ((b.cell (p := ⟨g, j * 2, none⟩) hgl).trans cx.1) ((b.cell (p := ⟨g, j * 2 + 1, none⟩) hgl).trans cx.2))
        have CY := hidd_ (fun W (h : Below wr.heap.size wr W) => have b := HB.out.trans (h.mono hle); row_two ((b.cell (p := ⟨g, p * 2, none⟩) hgl).trans cy.1) ((b.cell (p := ⟨g, p * 2 + 1, none⟩) hgl).trans cy.2))
        have HX := hidd_ hx
        have HY := hidd_ hy
        obtain ⟨bq, hbq⟩ : ∃ q, decide (x = y) = q := ⟨_, rfl⟩
        have HBQ := hidd_ hbq
        clear hx hy cx cy hbq jp
        go_upto_region 6 with fail
        refine region_quiet_in (C := fun W => Below wr.heap.size wr W) (by kernel_rfl) (by kernel_rfl) ((Below.refl _ _).drew) ?_
        repeat (first | go_big_quiet_skip | (go_big_quiet_want; (first
          | (refine BigFrame.quiet_move _ rfl ?_; go_simp)
          | (refine quiet_load_sub 27 (.tmp 18) rfl g (j * 2) rfl x.row _ Try.underlying27 rfl (ID.out x) CX.out ?_; go_simp)
          | (refine quiet_load_sub 27 (.tmp 23) rfl g (p * 2) rfl y.row _ Try.underlying27 rfl (ID.out y) CY.out ?_; go_simp)
          | (refine quiet_run (.pointer (some ⟨g, j * 2, none⟩)) ?_ ?_; (focus (intro W hW; go_simp; done)); go_simp)
          | (refine quiet_run (.pointer (some ⟨g, p * 2, none⟩)) ?_ ?_; (focus (intro W hW; go_simp; done)); go_simp)
          | (refine quiet_run (.int .i64 (p : Int)) ?_ ?_; (focus (intro W hW; go_simp; done)); go_simp)
          | (refine quiet_eqlD (.tmp 19) (.tmp 24) _ rfl x y rfl rfl ?_; rw [HBQ.out]; go_simp)); go_big_quiet_on))
        refine wpQuiet_nil ?_
        intro w7 hw7
        have B7 := hidd_ (HB.out.trans (Below.mono hw7 hle))
        clear hw7 CX CY
        cases bq
        · have HT2 := hidd_ (show ddN ms (p + 1 + 1) = ms.take (p + 1 + 1) by
            have hne : ¬ x = y := of_decide_eq_false HBQ.out
            have hj := HJ.out
            rw [ddN_step (by rw [← hj, HX.out, HY.out]; exact hne), HT.out, take_snocD ms (p + 1) (by have := HN.out; omega)])
          go_wp2
          go_roundw
          case rel => exact ⟨j + 1, p + 1, by have := HJ.out; omega, by go_num, hidd_ (by rw [HJ.out]), B7, HT2⟩
          case measure => simp [intOf]; omega
        · obtain ⟨q, hq⟩ : ∃ q, q = n - j := ⟨_, rfl⟩
          obtain ⟨r, hrr⟩ : ∃ r, r = c - j := ⟨_, rfl⟩
          have hs1 := fun W => sliceD_from g n c j hlt hcap.1 W
          rw [← hq, ← hrr] at hs1
          have HQ := hidd_ hq
          have HRR := hidd_ hrr
          have q1 : 1 ≤ q := by omega
          have hxy : x = y := of_decide_eq_true HBQ.out
          have W0 := hidd_ (HO.out.below B7.out (Nat.le_refl _))
          have G0 := hidd_ (show w.grownBy w7 (some g) from ⟨B7.out.os, B7.out.tape, B7.out.output, B7.out.size, fun k hk _ => B7.out.block k hk⟩)
          have R0 := hidd_ (show ms.take j = ddN ms (j + 1) by
            have hj := HJ.out
            have hX := HX.out
            have hY := HY.out
            subst hj
            rw [ddN_skip (by rw [hX, hY]; exact hxy), HT.out])
          clear hq hrr hxy B7 HB HX HY HBQ HT e1 t1 tp
          go_upto_region 9 with fail
          clear hs1
          go_loopw [3, 5] (fun v3 v5 wr => ∃ (kk k2 p2 : Nat) (R : List DotV), kk < n ∧ v3 = .int .i64 kk ∧ v5 = .int .i64 k2 ∧ Hid (k2 = p2 + 1) ∧ Hid (k2 ≤ q) ∧ Hid (kk + 1 ≤ j + k2) ∧ Hid (OwnD wr base (.slice (some ⟨g, 0, none⟩) n c) R) ∧ Hid (R.take kk = ddN ms (j + k2)) ∧ Hid (∀ i, kk ≤ i → R.getD i ⟨0, 0⟩ = ms.getD i ⟨0, 0⟩) ∧ Hid (w.grownBy wr (some g))) (fun _ v _ => q - (intOf v).toNat)
          case atStart => exact ⟨j, 1, 0, ms, hlt, rfl, rfl, hidd_ rfl, hidd_ q1, hidd_ (by omega), W0, R0, hidd_ (fun _ _ => rfl), G0⟩
          case round =>
            obtain ⟨kk, k2, p2, R, hkk, rfl, rfl, H1, H2, H3, H4, H5, H6, H7⟩ := hrel
            have hown := H4.out
            have hkk2 : kk + 1 ≤ j + k2 := H3.out
            by_cases hlt2 : k2 < q
            · have hj2 : j + k2 < n := by have := HQ.out; omega
              have q6 : q ≤ 1000000 := by have := HQ.out; omega
              have hk1 := H1.out
              have e2 : IntKind.i64.wrap ((k2 : Int) - 1) = (p2 : Int) := by rw [IntWalk.i64_in _ (by omega)]; omega
              have s0 : (0 : Int) ≤ (k2 : Int) := by omega
              have s1 : (0 : Int) ≤ (p2 : Int) := by omega
              have s2 : (k2 : Int) < (q : Int) := by omega
              have s3 : (p2 : Int) < (q : Int) := by omega
              have s4 : (0 : Int) ≤ (kk : Int) := by omega
              have s5 : (kk : Int) < (n : Int) := by omega
              obtain ⟨x2, hx⟩ : ∃ x, ms.getD (j + k2) ⟨0, 0⟩ = x := ⟨_, rfl⟩
              obtain ⟨y2, hy⟩ : ∃ y, ms.getD (j + p2) ⟨0, 0⟩ = y := ⟨_, rfl⟩
              have hglr : g < wr.heap.size := (hown.lt g rfl).2
              have cx := hown.two (j + k2) hj2
              have cy := hown.two (j + p2) (by omega)
              rw [H6.out _ (by omega), hx, Nat.add_mul] at cx
              rw [H6.out _ (by omega), hy, Nat.add_mul] at cy
              have CX := hidd_ (fun W (b : Below wr.heap.size wr W) => row_two ((b.cell (p := ⟨g, j * 2 + k2 * 2, none⟩) hglr).trans cx.1) ((b.cell (p := ⟨g, j * 2 + k2 * 2 + 1, none⟩) hglr).trans cx.2))
              have CY := hidd_ (fun W (b : Below wr.heap.size wr W) => row_two ((b.cell (p := ⟨g, j * 2 + p2 * 2, none⟩) hglr).trans cy.1) ((b.cell (p := ⟨g, j * 2 + p2 * 2 + 1, none⟩) hglr).trans cy.2))
              have HX := hidd_ hx
              have HY := hidd_ hy
              obtain ⟨bq2, hbq⟩ : ∃ q, decide (x2 = y2) = q := ⟨_, rfl⟩
              have HBQ2 := hidd_ hbq
              have HJ2 := hidd_ hj2
              have HK2 := hidd_ hkk2
              have HRL := hidd_ hown.rd.2
              clear hx hy cx cy hbq hk1 hj2 hkk2 hown
              go_upto_region 11 with fail
              refine region_quiet_in (C := fun W => Below wr.heap.size wr W) (by kernel_rfl) (by kernel_rfl) ((Below.refl _ _).drew) ?_
              repeat (first | go_big_quiet_skip | (go_big_quiet_want; (first
                | (refine BigFrame.quiet_move _ rfl ?_; go_simp)
                | (refine quiet_load_sub 27 (.tmp 37) rfl g (j * 2 + k2 * 2) rfl x2.row _ Try.underlying27 rfl (ID.out x2) CX.out ?_; go_simp)
                | (refine quiet_load_sub 27 (.tmp 42) rfl g (j * 2 + p2 * 2) rfl y2.row _ Try.underlying27 rfl (ID.out y2) CY.out ?_; go_simp)
                | (refine quiet_run (.pointer (some ⟨g, j * 2 + k2 * 2, none⟩)) ?_ ?_; (focus (intro W hW; go_simp; done)); go_simp)
                | (refine quiet_run (.pointer (some ⟨g, j * 2 + p2 * 2, none⟩)) ?_ ?_; (focus (intro W hW; go_simp; done)); go_simp)
                | (refine quiet_run (.int .i64 (p2 : Int)) ?_ ?_; (focus (intro W hW; go_simp; done)); go_simp)
                | (refine quiet_neqD (.tmp 38) (.tmp 43) _ rfl x2 y2 rfl rfl ?_; rw [HBQ2.out]; go_simp)); go_big_quiet_on))
              refine wpQuiet_nil ?_
              intro w8 hw8
              have O8 := hidd_ (H4.out.below hw8 (Nat.le_refl _))
              have G8 := hidd_ (grown_of_below H7.out hw8)
              have CX8 := hidd_ (CX.out w8 hw8)
              clear hw8 CX CY H4 H7
              cases bq2
              · have HN2 := hidd_ (show ddN ms (j + (k2 + 1)) = ddN ms (j + k2) ++ [x2] by
                  have hne : ¬ x2 = y2 := of_decide_eq_false HBQ2.out
                  have hk := H1.out
                  have h1 := HX.out
                  have h2 := HY.out
                  subst hk
                  rw [← h1, ← h2] at hne
                  rw [← h1]
                  exact ddN_step (p := j + p2) hne)
                go_wp2_with (first
                  | (refine wpList_load_sub rfl 27 (.tmp 49) rfl g (j * 2 + k2 * 2) rfl x2.row CX8.out _ Try.underlying27 rfl (ID.out x2) ?_)
                  | (refine wpList_put_dot rfl (.tmp 51) (.tmp 50) rfl O8.out kk hkk rfl x2 rfl ?_; intro w9 o9 g9 s9; have O9 := hidd_ o9; have G9 := hidd_ (World.grownBy.trans G8.out g9); clear o9 g9 s9))
                go_roundw
                case rel => exact ⟨kk + 1, k2 + 1, p2 + 1, R.set kk x2, by have := HK2.out; have := HJ2.out; omega, by go_num, by go_num, hidd_ (by rw [H1.out]), hidd_ (by omega), hidd_ (by have := HK2.out; omega), O9, hidd_ (by rw [set_takeD x2 (by have := HRL.out; omega), H5.out, HN2.out]), hidd_ (fun i hi => by rw [← H6.out i (by omega)]; simp only [List.getD_eq_getElem?_getD]; rw [List.getElem?_set_ne (by omega)]), G9⟩
                case measure => simp [intOf]; omega
              · have HN2 := hidd_ (show ddN ms (j + (k2 + 1)) = ddN ms (j + k2) by
                  have heq : x2 = y2 := of_decide_eq_true HBQ2.out
                  have hk := H1.out
                  have h1 := HX.out
                  have h2 := HY.out
                  subst hk
                  rw [← h1, ← h2] at heq
                  exact ddN_skip (p := j + p2) heq)
                go_wp2
                go_roundw
                case rel => exact ⟨kk, k2 + 1, p2 + 1, R, hkk, by first | rfl | go_num, by go_num, hidd_ (by rw [H1.out]), hidd_ (by omega), hidd_ (by have := HK2.out; omega), O8, hidd_ (by rw [H5.out, HN2.out]), H6, G8⟩
                case measure => simp [intOf]; omega
            · have d1 : decide ((k2 : Int) < (q : Int)) = false := decide_eq_false (by omega)
              have hs2 := fun W => sliceD_from g n c kk hkk hcap.1 W
              have hs3 := fun W => sliceD_to (some ⟨g, 0, none⟩) n c (kk : Int) kk rfl (by omega) W
              have HE := hidd_ (show R.take kk = ddN ms n by
                have h1 := H2.out
                have h3 := HQ.out
                rw [H5.out, show j + k2 = n by omega])
              clear hown hkk2
              go_wp2_with (refine wpList_clearD rfl (.tmp 56) rfl H4.out kk hkk (c - kk) rfl ?_; intro w9 o9 g9 s9; have O9 := hidd_ o9; have G9 := hidd_ (World.grownBy.trans H7.out g9); clear o9 g9 s9)
              go_ret
              exact ⟨kk, rfl, by rw [← HE.out]; exact O9.out, G9.out⟩
      · have d1 : decide ((j : Int) < (n : Int)) = false := decide_eq_false (by omega)
        have HD := hidd_ (show ddN ms n = ms by
          have hj := HJ.out
          have hnn := HN.out
          obtain rfl : n = p + 1 := by omega
          rw [HT.out, List.take_of_length_le (by omega)])
        go_wp2
        go_ret
        exact ⟨n, rfl, by rw [HD.out]; exact HO.out.below HB.out (Nat.le_refl _), ⟨HB.out.os, HB.out.tape, HB.out.output, HB.out.size, fun k hk _ => HB.out.block k hk⟩⟩
end Go.Proofs.Ytjflmfmncepeeaa
