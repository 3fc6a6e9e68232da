/-
  casketlaw14.to.
-/
import Derived.Test.YtjflmfmncepeeaaIk
import Derived.Test.YtjflmfmncepeeaaFr
namespace Go.Proofs.Ytjflmfmncepeeaa
open Go.ChangeShapes Go.WideShapes Go.ChangeAt Go.RowKit
set_option linter.unusedVariables false
set_option linter.unusedSimpArgs false

/-- What 'to' leaves in its result. -/
def ToFin (g n : Nat) (up : List Int) (ms : List DotV) (W : World) : Prop :=
  ∃ A' c', Bk W (g + 1) 29 (ctxRow up A' n c') ∧ RdD W W.heap.size A' ms ∧ n ≤ c' ∧ c' ≤ 9223372036854775807 ∧ (0 < ms.length → ∀ b off, A' = some ⟨b, off, none⟩ → b ≠ g + 1) ∧ TyD W A' ms
def ToT (g n : Nat) (up : List Int) (ms : List DotV) (W W' : World) : Prop :=
  W.grownBy W' (some (g + 1)) ∧ (W'.heap[g + 1]? = W.heap[g + 1]? ∨ ToFin g n up ms W')
theorem ToT.refl_ (g n : Nat) (up : List Int) (ms : List DotV) (W : World) : ToT g n up ms W W := ⟨World.grownBy.refl _ _, .inl rfl⟩
theorem ToT.of_below {g n : Nat} {up : List Int} {ms : List DotV} {W W' : World} (h : Below W.heap.size W W') (hl : g + 1 < W.heap.size) : ToT g n up ms W W' :=
  ⟨grown_of_below (World.grownBy.refl _ _) h, .inl (h.block _ hl)⟩
structure ToC (w : World) (g n c : Nat) (up : List Int) (A : Option Addr) (ms : List DotV) (W : World) : Prop where
  src : Bk W g 25 (ctxRow up A n c)
  dst : ∃ X, Bk W (g + 1) 29 X ∧ X.size = 17
  rd : RdD W g A ms
  below : Below g w W
theorem ToC.keep {w : World} {g n c : Nat} {up : List Int} {A : Option Addr} {ms : List DotV} {W W' : World} (h : ToC w g n c up A ms W) (hb : Below W.heap.size W W') : ToC w g n c up A ms W' := by
  obtain ⟨X, hX, hs⟩ := h.dst
  have hl := h.src.lt
  exact ⟨h.src.below hb hl, ⟨X, hX.below hb hX.lt, hs⟩, h.rd.below (hb.mono (by omega)), h.below.trans (hb.mono (by omega))⟩
def ToR (g n c : Nat) (up : List Int) (A : Option Addr) (ms : List DotV) : Nat → Value → World → Prop
  | 0, v, _ => v = .pointer (some ⟨g, 0, none⟩)
  | 1, v, _ => v = .agg (intRow up)
  | 2, v, _ => ∃ q, v = .slice (some ⟨q, 0, none⟩) 0 0
  | 3, v, _ => v = .pointer (some ⟨g, 16, none⟩)
  | 4, v, _ => v = .slice A n c
  | 5, v, W => ∃ A' c', v = .slice A' n c' ∧ RdD W W.heap.size A' ms ∧ n ≤ c' ∧ c' ≤ 9223372036854775807 ∧ (0 < ms.length → ∀ b off, A' = some ⟨b, off, none⟩ → b ≠ g + 1) ∧ TyD W A' ms
  | 6, v, W => ∃ A' c', v = .agg (ctxRow up A' n c') ∧ RdD W W.heap.size A' ms ∧ n ≤ c' ∧ c' ≤ 9223372036854775807 ∧ (0 < ms.length → ∀ b off, A' = some ⟨b, off, none⟩ → b ≠ g + 1) ∧ TyD W A' ms
  | 7, _, W => ToFin g n up ms W
  | _, _, _ => True
theorem ToR.keep {g n c : Nat} {up : List Int} {A : Option Addr} {ms : List DotV} (j : Nat) (v : Value) (W W' : World) (hT : ToT g n up ms W W') (h : ToR g n c up A ms j v W) : ToR g n c up A ms j v W' := by
  obtain ⟨hg, hf⟩ := hT
  rcases j with _ | _ | _ | _ | _ | _ | _ | _ | j
  · exact h
  · exact h
  · exact h
  · exact h
  · exact h
  · obtain ⟨A', c', e, hr, h1, h2, h3⟩ := h
    exact ⟨A', c', e, (hr.grownR (Nat.le_refl _) hg h3.1).more hg.size, h1, h2, h3.1, h3.2.grown hg h3.1⟩
  · obtain ⟨A', c', e, hr, h1, h2, h3⟩ := h
    exact ⟨A', c', e, (hr.grownR (Nat.le_refl _) hg h3.1).more hg.size, h1, h2, h3.1, h3.2.grown hg h3.1⟩
  · rcases hf with hf | hf
    · obtain ⟨A', c', e, hr, h1, h2, h3⟩ := h
      exact ⟨A', c', hf.trans e, (hr.grownR (Nat.le_refl _) hg h3.1).more hg.size, h1, h2, h3.1, h3.2.grown hg h3.1⟩
    · exact hf
  · exact h
theorem built_ctx16 (a0 a1 a2 a3 a4 a5 a6 a7 a8 a9 a10 a11 a12 a13 a14 a15 : Int) (A : Option Addr) (n c : Nat) : Try.prog.built 29 [(0, .agg (intRow [a0, a1, a2, a3, a4, a5, a6, a7, a8, a9, a10, a11, a12, a13, a14, a15])), (1, .slice A n c)] = some (ctxRow [a0, a1, a2, a3, a4, a5, a6, a7, a8, a9, a10, a11, a12, a13, a14, a15] A n c) := by kernel_rfl
set_option maxRecDepth 100000 in
theorem built_ctx (up : List Int) (hu : up.length = 16) (A : Option Addr) (n c : Nat) : Try.prog.built 29 [(0, .agg (intRow up)), (1, .slice A n c)] = some (ctxRow up A n c) := by
  match up, hu with
  | [a0, a1, a2, a3, a4, a5, a6, a7, a8, a9, a10, a11, a12, a13, a14, a15], _ => exact built_ctx16 a0 a1 a2 a3 a4 a5 a6 a7 a8 a9 a10 a11 a12 a13 a14 a15 A n c
theorem zX_ (W : World) : (zeroValue 29).run Try.prog W = .ok (.agg (ctxRow (List.replicate 16 0) none 0 0)) W := by kernel_rfl

set_option maxRecDepth 100000 in
set_option maxHeartbeats 8000000 in
theorem to_t (w : World) (up : List Int) (hu : up.length = 16) (A : Option Addr) (n c : Nat) (ms : List DotV) (hn : ms.length = n) (hn6 : n ≤ 1000000) (hc : n ≤ c) (hc7 : c ≤ 9223372036854775807) (hr : RdD w w.heap.size A ms) :
    Calls Try.prog 10 #[.agg (ctxRow up A n c)] w fun e w' => ∃ A' c', e = .returned (.agg (ctxRow up A' n c')) ∧ RdD w' w'.heap.size A' ms ∧ n ≤ c' ∧ c' ≤ 9223372036854775807 ∧ Below w.heap.size w w' ∧ TyD w' A' ms := by
  obtain ⟨g, hg⟩ : ∃ g, w.heap.size = g := ⟨_, rfl⟩
  obtain ⟨w0, hw0⟩ : ∃ w0, w.alloc (.cells (ctxRow up A n c) 25) = w0 := ⟨_, rfl⟩
  have K0 := show Bk w0 g 25 (ctxRow up A n c) by rw [← hw0, ← hg]; exact Bk.new w _ _
  have X0 := show Below g w w0 by rw [← hw0, ← hg]; exact (Below.refl _ _).alloc (Nat.le_refl _) _
  have S0 : w0.heap.size = g + 1 := by rw [← hw0, ← hg]; simp
  have hz := zX_
  go_enter Try.func10, Try.ntmps10
  go_upto_region 1 with fail
  generalize hw1 : w0.alloc _ = w1
  have b1 : Below w0.heap.size w0 w1 := by rw [← hw1]; exact (Below.refl _ _).alloc (Nat.le_refl _) _
  have R1 : Bk w1 (g + 1) 29 (ctxRow (List.replicate 16 0) none 0 0) := by rw [← hw1, ← S0]; exact Bk.new w0 _ _
  have K1 := K0.below b1 K0.lt
  have X1 := X0.trans (b1.mono (by omega))
  have IX : ∀ A n c, (Try.prog.info? 29).map (·.size) = some (ctxRow up A n c).size := fun A n c => by rw [ctxRow_size up A n c hu]; exact iX_
  have IU : (Try.prog.info? 22).map (·.size) = some (intRow up).size := by rw [intRow_size, hu]; exact iU_
  have C1 : ToC w g n c up A ms w1 := ⟨K1, ⟨_, R1, by rw [ctxRow_size _ _ _ _ (by simp)]⟩, (hr.below (by rw [hg]; exact X1)).more (by omega), X1⟩
  clear K0 X0 S0 hz hw0 b1 hw1 R1 K1 X1 hr
  refine region_byF [3, 4, 5, 6, 7, 8, 9] (ToC w g n c up A ms) (ToT g n up ms) (ToR g n c up A ms) (by kernel_rfl) (by kernel_rfl) (by kernel_rfl) rfl (fun j v w w' hT h => h.keep j v w w' hT) (fun j v w hlt hj h => by
    rcases j with _ | _ | _ | _ | _ | _ | _ | _ | j
    all_goals first
      | (exfalso; simp [dstOf] at hj; done)
      | exact h
      | (exfalso; simp at hlt; omega)) (C1.keep ((Below.refl _ _).drew)) ?_ ?_
  · refine ⟨fun a w hC hd hf hv K hK => ?_, fun a w hC hd hf hv K hK => ?_, fun a w hC hd hf hv K hK => ?_, fun a w hC hd hf hv K hK => ?_, fun a w hC hd hf hv K hK => ?_, fun a w hC hd hf hv K hK => ?_, fun a w hC hd hf hv K hK => ?_, fun a w hC hd hf hv K hK => ?_, trivial⟩
    · have e1 := slot_of (a := a) (s := 1) (v := .pointer (some ⟨g, 0, none⟩)) (hf 1 (by kernel_rfl))
      refine step_run (wanted_none rfl) (v := .pointer (some ⟨g, 0, none⟩)) (w' := w) ?_ (hK _ _ hC (ToT.refl_ _ _ _ _ _) rfl)
      go_simp
    · have e1 := eval_of (a := a) (s := 3) (v := .pointer (some ⟨g, 0, none⟩)) (hv 0 (by kernel_rfl))
      have hrun : (loadVar 22 ⟨g, 0, none⟩).run Try.prog w = .ok (.agg (intRow up)) w := run_load_sub 22 g 0 (intRow up) (fun j hj => by
        rw [intRow_size, hu] at hj
        rw [Nat.zero_add, hC.src.cell j, ctxRow_up up A n c j hu hj, intRow_at up j (by omega)]) _ Try.underlying22 rfl IU
      refine step_run (wanted_none rfl) (v := .agg (intRow up)) (w' := w) ?_ (hK _ _ hC (ToT.refl_ _ _ _ _ _) rfl)
      unfold execOp
      simp only [e1, Instr.loadAt, Instr.sureAddr, Sem.run_bind, Sem.run_pure, Result.andThen_ok, Sem.run_map, hrun]
    · have hbn := (Below.refl w.heap.size w).alloc (Nat.le_refl _) (.cells #[] 27)
      obtain ⟨X, hX, _⟩ := hC.dst
      have hxl := hX.lt
      refine step_run (wanted_none rfl) (v := .slice (some ⟨w.heap.size, 0, none⟩) 0 0) (w' := w.alloc (.cells #[] 27)) ?_ (hK _ _ (ToC.keep hC hbn) (ToT.of_below hbn hxl) ⟨_, rfl⟩)
      go_simp
    · have e1 := slot_of (a := a) (s := 1) (v := .pointer (some ⟨g, 0, none⟩)) (hf 1 (by kernel_rfl))
      refine step_run (wanted_none rfl) (v := .pointer (some ⟨g, 16, none⟩)) (w' := w) ?_ (hK _ _ hC (ToT.refl_ _ _ _ _ _) rfl)
      go_simp
    · have e1 := slot_of (a := a) (s := 6) (v := .pointer (some ⟨g, 16, none⟩)) (hv 3 (by kernel_rfl))
      have hcx := (hC.src.cell 16).trans (ctxRow_more up A n c hu)
      refine step_run (wanted_none rfl) (v := .slice A n c) (w' := w) ?_ (hK _ _ hC (ToT.refl_ _ _ _ _ _) rfl)
      go_simp
    · obtain ⟨q, e1'⟩ : ∃ q, a.tmps.getD 5 undef = .slice (some ⟨q, 0, none⟩) 0 0 := hv 2 (by kernel_rfl)
      have e1 := eval_of e1'
      have e2 := eval_of (a := a) (s := 7) (v := .slice A n c) (hv 4 (by kernel_rfl))
      obtain ⟨X, hX, _⟩ := hC.dst
      have hxl := hX.lt
      rw [if_pos (wanted_none rfl)]
      obtain ⟨A', c', w', hrun, h1, h2, h3, h4, h5, h6⟩ := run_appD0 (w := w) ⟨q, 0, none⟩ hC.rd n c hn hn6 23
      unfold Oper.wp execOp
      simp only [resolve, invoke, builtin, Sem.run_bind, Sem.run_pure, Result.andThen_ok, List.map_toArray, List.map_cons, List.map_nil, e1, e2, hrun]
      refine hK _ _ (ToC.keep hC h4) (ToT.of_below h4 hxl) ⟨A', c', rfl, h1, h2, h3, fun h b off e => ?_, h6⟩
      rw [h5 (by omega)] at e
      injection e with e
      injection e with e
      omega
    · obtain ⟨A', c', e2', h1, h2, h3, h4⟩ : ∃ A' c', a.tmps.getD 8 undef = .slice A' n c' ∧ RdD w w.heap.size A' ms ∧ n ≤ c' ∧ c' ≤ 9223372036854775807 ∧ (0 < ms.length → ∀ b off, A' = some ⟨b, off, none⟩ → b ≠ g + 1) ∧ TyD w A' ms := hv 5 (by kernel_rfl)
      have e1 := eval_of (a := a) (s := 4) (v := .agg (intRow up)) (hv 1 (by kernel_rfl))
      have e2 := eval_of e2'
      have hb := built_ctx up hu A' n c'
      rw [if_pos (wanted_none rfl)]
      refine wp_build 29 #[(0, .tmp 4), (1, .tmp 8)] rfl ?_ ?_
      · simp [e1, e2, hb]
      · simp only [List.map_toArray, List.map_cons, List.map_nil, e1, e2, hb, Option.getD_some]
        exact hK _ _ hC (ToT.refl_ _ _ _ _ _) ⟨A', c', rfl, h1, h2, h3, h4⟩
    · obtain ⟨A', c', e2', h1, h2, h3, h4⟩ : ∃ A' c', a.tmps.getD 9 undef = .agg (ctxRow up A' n c') ∧ RdD w w.heap.size A' ms ∧ n ≤ c' ∧ c' ≤ 9223372036854775807 ∧ (0 < ms.length → ∀ b off, A' = some ⟨b, off, none⟩ → b ≠ g + 1) ∧ TyD w A' ms := hv 6 (by kernel_rfl)
      have e1 := eval_of (a := a) (s := 2) (v := .pointer (some ⟨g + 1, 0, none⟩)) (hf 2 (by kernel_rfl))
      have e2 := eval_of e2'
      obtain ⟨X, hX, hXs⟩ := hC.dst
      refine step_put_row rfl 29 _ _ rfl (g + 1) (ctxRow up A' n c') e1 e2 29 X hX (IX A' n c') (by rw [hXs, ctxRow_size _ _ _ _ hu]) (ctxRow_one _ _ _ _) ?_
      intro w' k9 g9 s9
      have hF : ToFin g n up ms w' := ⟨A', c', k9, (h1.grownR (Nat.le_refl _) g9 h4.1).more (by omega), h2, h3, h4.1, h4.2.grown g9 h4.1⟩
      refine hK _ _ ⟨hC.src.grown g9 (by simp), ⟨_, k9, by rw [ctxRow_size _ _ _ _ hu]⟩, hC.rd.grownR (Nat.le_of_lt hC.src.lt) g9 (fun h b off e => ?_), hC.below.grown g9 (by have := hC.src.lt; omega) (fun k hk => by injection hk with hk; omega)⟩ ⟨g9, .inr hF⟩ hF
      obtain ⟨b', off', e', hlt, _⟩ := hC.rd h
      rw [e'] at e
      injection e with e
      injection e with e
      omega
  · intro f W hC hv
    obtain ⟨A', c', k9, h1, h2, h3, h4⟩ : ToFin g n up ms W := hv 7 (by decide)
    simp only [framed, List.foldl_cons, List.foldl_nil, List.setIfInBounds_toArray, List.set_cons_succ, List.set_cons_zero]
    have XB := hidd_ hC.below
    clear hv hC
    rename_i K hK
    refine hK _ _ ?_
    go_wp2
    exact bodyPost_ret (results_cell_row Try.results10 _ _ (g + 1) 29 _ (0, 0) _ rfl k9 Try.underlying29 rfl (IX A' n c')) rfl ⟨A', c', rfl, h1, h2, h3, by rw [hg]; exact XB.out, h4.2⟩
theorem to_any (w : World) (up : List Int) (hu : up.length = 16) (A : Option Addr) (n c : Nat) (ms : List DotV) (hn : ms.length = n) (hn6 : n ≤ 1000000) (hc : n ≤ c) (hc7 : c ≤ 9223372036854775807) (hr : RdD w w.heap.size A ms) :
    Calls Try.prog 10 #[.agg (ctxRow up A n c)] w fun e w' => ∃ A' c', e = .returned (.agg (ctxRow up A' n c')) ∧ RdD w' w'.heap.size A' ms ∧ n ≤ c' ∧ c' ≤ 9223372036854775807 ∧ Below w.heap.size w w' :=
  (to_t w up hu A n c ms hn hn6 hc hc7 hr).mono fun e w' ⟨A', c', h1, h2, h3, h4, h5, _⟩ => ⟨A', c', h1, h2, h3, h4, h5⟩
end Go.Proofs.Ytjflmfmncepeeaa
