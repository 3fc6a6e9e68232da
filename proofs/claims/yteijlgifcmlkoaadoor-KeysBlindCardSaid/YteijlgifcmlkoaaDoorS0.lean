/-
  The two tables of the document's own SHA-256, and laws for whole rows that are stored.
-/
import Derived.Test.YteijlgifcmlkoaaDoorSm
import Derived.Deep.DeepCutAuto
import Derived.RegionTactic
import Derived.Deep.RegionLaw
namespace Go.Proofs.YteijlgifcmlkoaaDoor
open Go.RowKit

theorem z64 (W : World) : (zeroValue 57).run Tryd.prog W = .ok (.agg (wordsRow (zeros 64))) W := by kernel_rfl
theorem z8 (W : World) : (zeroValue 58).run Tryd.prog W = .ok (.agg (wordsRow (zeros 8))) W := by kernel_rfl
theorem i64_ : (Tryd.prog.info? 57).map (·.size) = some 64 := by kernel_rfl
theorem i8_ : (Tryd.prog.info? 58).map (·.size) = some 8 := by kernel_rfl
theorem words_one (l : List Int) : (wordsRow l).all (·.oneCell') = true := by
  rw [Array.all_eq_true_iff_forall_mem]
  intro v hv
  simp [wordsRow] at hv
  obtain ⟨x, _, rfl⟩ := hv
  rfl

/-- The first 64 words behind the point. -/
def roundK : List Int := [
  1116352408, 1899447441, 3049323471, 3921009573, 961987163, 1508970993, 2453635748, 2870763221,
  3624381080, 310598401, 607225278, 1426881987, 1925078388, 2162078206, 2614888103, 3248222580,
  3835390401, 4022224774, 264347078, 604807628, 770255983, 1249150122, 1555081692, 1996064986,
  2554220882, 2821834349, 2952996808, 3210313671, 3336571891, 3584528711, 113926993, 338241895,
  666307205, 773529912, 1294757372, 1396182291, 1695183700, 1986661051, 2177026350, 2456956037,
  2730485921, 2820302411, 3259730800, 3345764771, 3516065817, 3600352804, 4094571909, 275423344,
  430227734, 506948616, 659060556, 883997877, 958139571, 1322822218, 1537002063, 1747873779,
  1955562222, 2024104815, 2227730452, 2361852424, 2428436474, 2756734187, 3204031479, 3329325298]
theorem roundK_len : roundK.length = 64 := rfl
theorem startH_len : startH.length = 8 := rfl
theorem roundK_ok : ∀ x ∈ roundK, ok32 x := by
  have h : roundK.all (fun x => decide (0 ≤ x) && decide (x ≤ 4294967295)) = true := by decide +kernel
  intro x hx
  have := (List.all_eq_true.1 h) x hx
  simp only [Bool.and_eq_true, decide_eq_true_eq] at this
  exact this
theorem startH_ok : ∀ x ∈ startH, ok32 x := by
  have h : startH.all (fun x => decide (0 ≤ x) && decide (x ≤ 4294967295)) = true := by decide +kernel
  intro x hx
  have := (List.all_eq_true.1 h) x hx
  simp only [Bool.and_eq_true, decide_eq_true_eq] at this
  exact this

section
variable {P : Program} {ops : Array Oper} {rest : List Oper} {o : Oper} {a : Act} {w : World} {Q : Exit → Act → World → Prop}
/-- A whole row is stored. -/
theorem wpList_put_row (hgd : o.guard = none) (ty : TypeId) (x y : Operand) (ho : o.op = .store ty x y)
    (g : Nat) (cells : Array Value) (hx : a.eval x = .pointer (some ⟨g, 0, none⟩)) (hy : a.eval y = .agg cells)
    (t : TypeId) (old : Array Value) (hg : Bk w g t old) (hi : (P.info? ty).map (·.size) = some cells.size)
    (hold : old.size = cells.size) (h1 : cells.all (·.oneCell') = true)
    (h : ∀ w', Bk w' g t cells → w.grownBy w' (some g) → w'.heap.size = w.heap.size → wpList P ops Q rest (a.put o.dst undef) w') : wpList P ops Q (o :: rest) a w :=
  wpList_store_row hgd ty x y ho g cells hx hy t old hg hi hold h1 (h _ (hg.rowed cells) (grown_row (World.grownBy.refl w _) cells) (by simp))
/-- A whole row is laid as a value. -/
theorem wpList_built (hg : o.guard = none) (t : TypeId) (parts : Array (Nat × Operand)) (ho : o.op = .build t parts) (X : Array Value)
    (hf : P.built t (parts.map fun (i, x) => (i, a.eval x)).toList = some X)
    (h : wpList P ops Q rest (a.put o.dst (.agg X)) w) : wpList P ops Q (o :: rest) a w :=
  wpList_build hg t parts ho (by rw [hf]; rfl) (by rw [hf]; exact h)
theorem step_load_row {K : Act → World → Prop} {E : Prop} (hgd : o.guard = none) (ty : TypeId) (x : Operand) (ho : o.op = .load ty x)
    (g : Nat) (hx : a.eval x = .pointer (some ⟨g, 0, none⟩)) (t : TypeId) (cs : Array Value) (hg : Bk w g t cs) (d : TypeDesc)
    (hu : P.underlying ty = some d) (hd : (match d with | .struct _ | .array _ _ => true | _ => false) = true) (hi : (P.info? ty).map (·.size) = some cs.size)
    (h : K (a.put o.dst (.agg cs)) w) : if Region.wanted o (yielded ops a.tmps) = true then Oper.wp P o a w K Q else E := by
  have hw : Region.wanted o (yielded ops a.tmps) = true := by simp [Region.wanted, hgd]
  rw [if_pos hw]
  exact wp_load_row ty x ho g hx t cs (0, 0) d hg hu hd hi h
theorem step_put_row {K : Act → World → Prop} {E : Prop} (hgd : o.guard = none) (ty : TypeId) (x y : Operand) (ho : o.op = .store ty x y)
    (g : Nat) (cells : Array Value) (hx : a.eval x = .pointer (some ⟨g, 0, none⟩)) (hy : a.eval y = .agg cells)
    (t : TypeId) (old : Array Value) (hg : Bk w g t old) (hi : (P.info? ty).map (·.size) = some cells.size)
    (hold : old.size = cells.size) (h1 : cells.all (·.oneCell') = true)
    (h : ∀ w', Bk w' g t cells → w.grownBy w' (some g) → w'.heap.size = w.heap.size → K (a.put o.dst undef) w') : if Region.wanted o (yielded ops a.tmps) = true then Oper.wp P o a w K Q else E := by
  have hw : Region.wanted o (yielded ops a.tmps) = true := by simp [Region.wanted, hgd]
  rw [if_pos hw]
  exact wp_store_row ty x y ho g cells hx hy t old hg hi hold h1 (h _ (hg.rowed cells) (grown_row (World.grownBy.refl w _) cells) (by simp))
end

/-- Two results that lie in memory. -/
theorem results_cells2 {P : Program} {fn : Func} {p q : Tmp} {ty ty' : TypeId} (h : fn.results = #[.cell p ty, .cell q ty']) (tmps : Array Value) (w : World) (g g' : Nat) {v v' : Value}
    (hp : tmps.getD p undef = .pointer (some ⟨g, 0, none⟩)) (hq : tmps.getD q undef = .pointer (some ⟨g', 0, none⟩))
    (h1 : (loadVar ty ⟨g, 0, none⟩).run P w = .ok v w) (h2 : (loadVar ty' ⟨g', 0, none⟩).run P w = .ok v' w) :
    (results fn tmps).run P w = .ok (.tuple #[v, v']) w := by
  have hp' : tmps[p]?.getD undef = .pointer (some ⟨g, 0, none⟩) := by simpa using hp
  have hq' : tmps[q]?.getD undef = .pointer (some ⟨g', 0, none⟩) := by simpa using hq
  simp [results, h, hp', hq', asAddr, h1, h2]

set_option maxRecDepth 100000 in
set_option maxHeartbeats 1000000 in
theorem constants_any (w : World) :
    Calls Tryd.prog 29 #[] w fun e w' => e = .returned (.tuple #[.agg (wordsRow roundK), .agg (wordsRow startH)]) ∧ Below w.heap.size w w' := by
  have hz := z64
  have hz8 := z8
  have b0 : Bk (((w.alloc (.cells (wordsRow (zeros 64)) 57)).alloc (.cells (wordsRow (zeros 8)) 58)).alloc (.cells (wordsRow (zeros 64)) 57)) w.heap.size 57 (wordsRow (zeros 64)) := ((Bk.new w _ _).alloc _).alloc _
  have b1 : Bk (((w.alloc (.cells (wordsRow (zeros 64)) 57)).alloc (.cells (wordsRow (zeros 8)) 58)).alloc (.cells (wordsRow (zeros 64)) 57)) (w.heap.size + 1) 58 (wordsRow (zeros 8)) := by simpa using (Bk.new (w.alloc (.cells (wordsRow (zeros 64)) 57)) 58 (wordsRow (zeros 8))).alloc (.cells (wordsRow (zeros 64)) 57)
  have b2 : Bk (((w.alloc (.cells (wordsRow (zeros 64)) 57)).alloc (.cells (wordsRow (zeros 8)) 58)).alloc (.cells (wordsRow (zeros 64)) 57)) (w.heap.size + 1 + 1) 57 (wordsRow (zeros 64)) := by simpa using Bk.new ((w.alloc (.cells (wordsRow (zeros 64)) 57)).alloc (.cells (wordsRow (zeros 8)) 58)) 57 (wordsRow (zeros 64))
  have hw3 : Below w.heap.size w (((w.alloc (.cells (wordsRow (zeros 64)) 57)).alloc (.cells (wordsRow (zeros 8)) 58)).alloc (.cells (wordsRow (zeros 64)) 57)) := (((Below.refl _ _).alloc (Nat.le_refl _) _).alloc (by simp) _).alloc (by simp; omega) _
  have hs3 : (((w.alloc (.cells (wordsRow (zeros 64)) 57)).alloc (.cells (wordsRow (zeros 8)) 58)).alloc (.cells (wordsRow (zeros 64)) 57)).heap.size = w.heap.size + 3 := by simp
  have e64 : (Tryd.prog.info? 57).map (·.size) = some (wordsRow roundK).size := by rw [wordsRow_size, roundK_len]; exact i64_
  have e8 : (Tryd.prog.info? 58).map (·.size) = some (wordsRow startH).size := by rw [wordsRow_size, startH_len]; exact i8_
  have q64 : (wordsRow (zeros 64)).size = (wordsRow roundK).size := by rw [wordsRow_size, wordsRow_size, roundK_len, zeros_len]
  have q8 : (wordsRow (zeros 8)).size = (wordsRow startH).size := by rw [wordsRow_size, wordsRow_size, startH_len, zeros_len]
  have E64 := hid_ e64
  have E8 := hid_ e8
  have Q64 := hid_ q64
  have Q8 := hid_ q8
  have HS3 := hid_ hs3
  clear e64 e8 q64 q8 hs3
  go_enter Tryd.func29, Tryd.ntmps29
  go_upto_region 3 with (first
    | (refine wpList_built rfl 57 _ rfl (wordsRow roundK) (by kernel_rfl) ?_)
    | (refine wpList_built rfl 58 _ rfl (wordsRow startH) (by kernel_rfl) ?_)
    | (refine wpList_put_row rfl 57 (.tmp 2) (.tmp 4) rfl (w.heap.size + 1 + 1) (wordsRow roundK) rfl rfl 57 (wordsRow (zeros 64)) b2 E64.out Q64.out (words_one _) ?_; intro W4 c2 gr4 hs4; have hs4' : W4.heap.size = w.heap.size + 3 := (hs4.trans HS3.out); clear hs4)
    | (refine wpList_put_row rfl 58 (.tmp 3) (.tmp 5) rfl (w.heap.size + 3) (wordsRow startH) rfl rfl 58 (wordsRow (zeros 8)) (by have := Bk.new W4 58 (wordsRow (zeros 8)); rwa [hs4'] at this) E8.out Q8.out (words_one _) ?_; intro W5 c3 gr5 hs5))
  have hs5' : W5.heap.size = w.heap.size + 4 := by rw [hs5]; simp [hs4']
  have k0 : Bk W5 w.heap.size 57 (wordsRow (zeros 64)) := ((b0.grown gr4 (fun e => by injection e with e; omega)).alloc _).grown gr5 (fun e => by injection e with e; omega)
  have k1 : Bk W5 (w.heap.size + 1) 58 (wordsRow (zeros 8)) := ((b1.grown gr4 (fun e => by injection e with e; omega)).alloc _).grown gr5 (fun e => by injection e with e; omega)
  have k2 : Bk W5 (w.heap.size + 1 + 1) 57 (wordsRow roundK) := (c2.alloc _).grown gr5 (fun e => by injection e with e; omega)
  have hw5 : Below w.heap.size w W5 := ((hw3.grown gr4 (by simp; omega) (fun k hk => by injection hk with hk; omega)).alloc (by omega) _).grown gr5 (by simp; omega) (fun k hk => by injection hk with hk; omega)
  clear b0 b1 b2 hw3 gr4 gr5 hs5 c2
  have k0d := k0.drew
  have k1d := k1.drew
  have k2d := k2.drew
  have c3d := c3.drew
  refine wp_region_any (by kernel_rfl) ?_
  change wpAny _ _ _ _ _ _ _ (World.drew _)
  refine wpAny_ready (rs := [0, 1]) (by kernel_rfl) (by simp) ?_
  refine AllReady.cons rfl (fun K hK => ?_) (AllReady.cons rfl (fun K hK => ?_) AllReady.nil)
  · refine step_load_row rfl 57 (.tmp 2) rfl (w.heap.size + 1 + 1) rfl 57 (wordsRow roundK) k2d _ Tryd.underlying57 rfl E64.out ?_
    refine hK _ _ ?_; clear hK K
    refine wpAny_ready (rs := [1, 2]) (by kernel_rfl) (by simp) ?_
    refine AllReady.cons rfl (fun K hK => ?_) (AllReady.cons rfl (fun K hK => ?_) AllReady.nil)
    · refine step_load_row rfl 58 (.tmp 3) rfl (w.heap.size + 3) rfl 58 (wordsRow startH) c3d _ Tryd.underlying58 rfl E8.out ?_
      refine hK _ _ ?_; clear hK K
      refine wpAny_ready (rs := [2]) (by kernel_rfl) (by simp) ?_
      refine AllReady.cons rfl (fun K hK => ?_) AllReady.nil
      refine step_put_row rfl 57 (.tmp 0) (.tmp 6) rfl w.heap.size (wordsRow roundK) rfl rfl 57 _ k0d E64.out Q64.out (words_one _) ?_; intro W6 k0e gr6 hs6; have k1e := k1d.grown gr6 (fun e => by injection e with e; omega); have c3e := c3d.grown gr6 (fun e => by injection e with e; omega)
      refine hK _ _ ?_; clear hK K
      refine wpAny_ready (rs := [3]) (by kernel_rfl) (by simp) ?_
      refine AllReady.cons rfl (fun K hK => ?_) AllReady.nil
      refine step_put_row rfl 58 (.tmp 1) (.tmp 7) rfl (w.heap.size + 1) (wordsRow startH) rfl rfl 58 _ k1e E8.out Q8.out (words_one _) ?_; intro W7 k1f gr7 hs7
      refine hK _ _ ?_; clear hK K
      refine wpAny_done (by kernel_rfl) ?_ _
      have k0f := k0e.grown gr7 (fun e => by injection e with e; omega)
      have hw7 := ((below_drewN hw5 1).grown gr6 (by simp; omega) (fun k hk => by injection hk with hk; omega)).grown gr7 (by rw [hs6]; show _ ≤ W5.heap.size; omega) (fun k hk => by injection hk with hk; omega)
      go_wp2
      exact bodyPost_ret (results_cells2 Tryd.results29 _ _ w.heap.size (w.heap.size + 1) rfl rfl (run_loadVar_row _ _ _ _ _ (0, 0) _ k0f Tryd.underlying57 rfl E64.out) (run_loadVar_row _ _ _ _ _ (0, 0) _ k1f Tryd.underlying58 rfl E8.out)) rfl ⟨rfl, hw7⟩
    · refine step_put_row rfl 57 (.tmp 0) (.tmp 6) rfl w.heap.size (wordsRow roundK) rfl rfl 57 _ k0d E64.out Q64.out (words_one _) ?_; intro W6 k0e gr6 hs6; have k1e := k1d.grown gr6 (fun e => by injection e with e; omega); have c3e := c3d.grown gr6 (fun e => by injection e with e; omega)
      refine hK _ _ ?_; clear hK K
      refine wpAny_ready (rs := [1]) (by kernel_rfl) (by simp) ?_
      refine AllReady.cons rfl (fun K hK => ?_) AllReady.nil
      refine step_load_row rfl 58 (.tmp 3) rfl (w.heap.size + 3) rfl 58 (wordsRow startH) c3e _ Tryd.underlying58 rfl E8.out ?_
      refine hK _ _ ?_; clear hK K
      refine wpAny_ready (rs := [3]) (by kernel_rfl) (by simp) ?_
      refine AllReady.cons rfl (fun K hK => ?_) AllReady.nil
      refine step_put_row rfl 58 (.tmp 1) (.tmp 7) rfl (w.heap.size + 1) (wordsRow startH) rfl rfl 58 _ k1e E8.out Q8.out (words_one _) ?_; intro W7 k1f gr7 hs7
      refine hK _ _ ?_; clear hK K
      refine wpAny_done (by kernel_rfl) ?_ _
      have k0f := k0e.grown gr7 (fun e => by injection e with e; omega)
      have hw7 := ((below_drewN hw5 1).grown gr6 (by simp; omega) (fun k hk => by injection hk with hk; omega)).grown gr7 (by rw [hs6]; show _ ≤ W5.heap.size; omega) (fun k hk => by injection hk with hk; omega)
      go_wp2
      exact bodyPost_ret (results_cells2 Tryd.results29 _ _ w.heap.size (w.heap.size + 1) rfl rfl (run_loadVar_row _ _ _ _ _ (0, 0) _ k0f Tryd.underlying57 rfl E64.out) (run_loadVar_row _ _ _ _ _ (0, 0) _ k1f Tryd.underlying58 rfl E8.out)) rfl ⟨rfl, hw7⟩
  · refine step_load_row rfl 58 (.tmp 3) rfl (w.heap.size + 3) rfl 58 (wordsRow startH) c3d _ Tryd.underlying58 rfl E8.out ?_
    refine hK _ _ ?_; clear hK K
    refine wpAny_ready (rs := [0]) (by kernel_rfl) (by simp) ?_
    refine AllReady.cons rfl (fun K hK => ?_) AllReady.nil
    refine step_load_row rfl 57 (.tmp 2) rfl (w.heap.size + 1 + 1) rfl 57 (wordsRow roundK) k2d _ Tryd.underlying57 rfl E64.out ?_
    refine hK _ _ ?_; clear hK K
    refine wpAny_ready (rs := [2]) (by kernel_rfl) (by simp) ?_
    refine AllReady.cons rfl (fun K hK => ?_) AllReady.nil
    refine step_put_row rfl 57 (.tmp 0) (.tmp 6) rfl w.heap.size (wordsRow roundK) rfl rfl 57 _ k0d E64.out Q64.out (words_one _) ?_; intro W6 k0e gr6 hs6; have k1e := k1d.grown gr6 (fun e => by injection e with e; omega); have c3e := c3d.grown gr6 (fun e => by injection e with e; omega)
    refine hK _ _ ?_; clear hK K
    refine wpAny_ready (rs := [3]) (by kernel_rfl) (by simp) ?_
    refine AllReady.cons rfl (fun K hK => ?_) AllReady.nil
    refine step_put_row rfl 58 (.tmp 1) (.tmp 7) rfl (w.heap.size + 1) (wordsRow startH) rfl rfl 58 _ k1e E8.out Q8.out (words_one _) ?_; intro W7 k1f gr7 hs7
    refine hK _ _ ?_; clear hK K
    refine wpAny_done (by kernel_rfl) ?_ _
    have k0f := k0e.grown gr7 (fun e => by injection e with e; omega)
    have hw7 := ((below_drewN hw5 1).grown gr6 (by simp; omega) (fun k hk => by injection hk with hk; omega)).grown gr7 (by rw [hs6]; show _ ≤ W5.heap.size; omega) (fun k hk => by injection hk with hk; omega)
    go_wp2
    exact bodyPost_ret (results_cells2 Tryd.results29 _ _ w.heap.size (w.heap.size + 1) rfl rfl (run_loadVar_row _ _ _ _ _ (0, 0) _ k0f Tryd.underlying57 rfl E64.out) (run_loadVar_row _ _ _ _ _ (0, 0) _ k1f Tryd.underlying58 rfl E8.out)) rfl ⟨rfl, hw7⟩
end Go.Proofs.YteijlgifcmlkoaaDoor
