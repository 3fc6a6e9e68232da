/-
  The key and the nonce of a sealing.
-/
import Derived.Test.YtoeofifibjelnaaDoorYd
import Derived.Test.YtoeofifibjelnaaDoorHM
namespace Go.Proofs.YtoeofifibjelnaaDoor
set_option maxRecDepth 100000
open Go.RowKit Go.Maps
set_option linter.unusedVariables false
set_option linter.unusedSimpArgs false

theorem results_cells_slot {P : Program} {fn : Func} {p q r : Tmp} {ty ty' : TypeId} (h : fn.results = #[.cell p ty, .cell q ty', .tmp r]) (tmps : Array Value) (w : World) (g g' : Nat) {v v' u : Value}
    (hp : tmps.getD p undef = .pointer (some ⟨g, 0, none⟩)) (hq : tmps.getD q undef = .pointer (some ⟨g', 0, none⟩)) (hr : tmps.getD r undef = u)
    (h1 : (loadVar ty ⟨g, 0, none⟩).run P w = .ok v w) (h2 : (loadVar ty' ⟨g', 0, none⟩).run P w = .ok v' w) :
    (results fn tmps).run P w = .ok (.tuple #[v, v', u]) w := by
  have hp' : tmps[p]?.getD undef = .pointer (some ⟨g, 0, none⟩) := by simpa using hp
  have hq' : tmps[q]?.getD undef = .pointer (some ⟨g', 0, none⟩) := by simpa using hq
  have hr' : tmps[r]?.getD undef = u := by simpa using hr
  simp [results, h, hp', hq', hr', asAddr, h1, h2]
/-- What is told of a key and a nonce that there aren't. -/
def noKeys : Value := .tuple #[.agg (rowOf (zbytes 32)), .agg (rowOf (zbytes 12)), .int .i64 1]
def yesKeys (K : List UInt8) (e c n : Nat) : Value := .tuple #[.agg (rowOf (sealK K e)), .agg (rowOf (nonceB c n)), .int .i64 0]
/-- What stands while both are laid into the results. -/
structure KoC (w : World) (g b2 b4 : Nat) (L No : List UInt8) (W : World) : Prop where
  below : Below g w W
  k : Bk W b2 22 (rowOf L)
  n : Bk W b4 54 (rowOf No)
  h2 : g + 2 ≤ b2
  h4 : g + 2 ≤ b4
  hs : g + 2 ≤ W.heap.size
theorem KoC.grown {w W W2 : World} {g b2 b4 q : Nat} {L No : List UInt8} (h : KoC w g b2 b4 L No W) (hg : W.grownBy W2 (some q)) (hq : g ≤ q ∧ q ≤ g + 1) (hw : w.heap.size = g) : KoC w g b2 b4 L No W2 := by
  have h2 := h.h2
  have h4 := h.h4
  exact ⟨h.below.grown hg (by have := h.hs; omega) (fun k hk => by injection hk with hk; omega), (hg.block b2 h.k.lt (fun e => by injection e with e; omega)).trans h.k, (hg.block b4 h.n.lt (fun e => by injection e with e; omega)).trans h.n, h2, h4, Nat.le_trans h.hs hg.size⟩
def KoR (L No : List UInt8) : Nat → Value → World → Prop
  | 0, u, _ => u = .agg (rowOf L)
  | 1, u, _ => u = .agg (rowOf No)
  | 4, u, _ => u = .int .i64 0
  | _, _, _ => True
theorem KoR.any {L No : List UInt8} {j : Nat} {v : Value} {W W' : World} (h : KoR L No j v W) : KoR L No j v W' := by
  unfold KoR at h ⊢
  split at h <;> first | exact h | trivial
def KoJ (g : Nat) (L No : List UInt8) (D : Nat → Bool) (W : World) : Prop :=
  (D 2 = false → Bk W g 22 (rowOf (zbytes 32))) ∧ (D 2 = true → Bk W g 22 (rowOf L)) ∧ (D 3 = false → Bk W (g + 1) 54 (rowOf (zbytes 12))) ∧ (D 3 = true → Bk W (g + 1) 54 (rowOf No))
theorem KoJ.same {g : Nat} {L No : List UInt8} {D : Nat → Bool} {W : World} (h : KoJ g L No D W) (i : Nat) (h2 : i ≠ 2) (h3 : i ≠ 3) : KoJ g L No (fun j => decide (j = i) || D j) W := by
  have a2 := orf_ne (L := D) (i := i) (fun e : 2 = i => h2 e.symm)
  have a3 := orf_ne (L := D) (i := i) (fun e : 3 = i => h3 e.symm)
  unfold KoJ
  simp only [a2, a3]
  exact h
theorem Bk.oneOf {W W2 : World} {g g' : Nat} {t : TypeId} {cs : Array Value} (h : Bk W g t cs) (hg : W.grownBy W2 (some g')) (hne : g ≠ g') : Bk W2 g t cs := (hg.block g h.lt (fun e => by injection e with e; exact hne e)).trans h
theorem KoJ.put0 {g : Nat} {L No : List UInt8} {D : Nat → Bool} {W W2 : World} (h : KoJ g L No D W) (k : Bk W2 g 22 (rowOf L)) (hg : W.grownBy W2 (some g)) : KoJ g L No (fun j => decide (j = 2) || D j) W2 := by
  have a3 := orf_ne (L := D) (i := 2) (show 3 ≠ 2 by decide)
  unfold KoJ
  simp only [a3]
  exact ⟨fun e => by simp at e, fun _ => k, fun e => (h.2.2.1 e).oneOf hg (by omega), fun e => (h.2.2.2 e).oneOf hg (by omega)⟩
theorem KoJ.put1 {g : Nat} {L No : List UInt8} {D : Nat → Bool} {W W2 : World} (h : KoJ g L No D W) (k : Bk W2 (g + 1) 54 (rowOf No)) (hg : W.grownBy W2 (some (g + 1))) : KoJ g L No (fun j => decide (j = 3) || D j) W2 := by
  have a2 := orf_ne (L := D) (i := 3) (show 2 ≠ 3 by decide)
  unfold KoJ
  simp only [a2]
  exact ⟨fun e => (h.1 e).oneOf hg (by omega), fun e => (h.2.1 e).oneOf hg (by omega), fun e => by simp at e, fun _ => k⟩
section
variable {w : World} {v sp : Nat} {id : Bool} {K : List UInt8} {nm kn : Option Nat}
/-- Where the results lie. -/
theorem keys_start (w : World) : ∃ g w0, w.heap.size = g ∧ (w.alloc (.cells (rowOf (zbytes 32)) 22)).alloc (.cells (rowOf (zbytes 12)) 54) = w0 ∧ Bk w0 g 22 (rowOf (zbytes 32)) ∧ Bk w0 (g + 1) 54 (rowOf (zbytes 12)) ∧ Below g w w0 ∧ w0.heap.size = g + 2 := by
  refine ⟨_, _, rfl, rfl, (Bk.new w _ _).alloc _, ?_, ((Below.refl _ _).alloc (Nat.le_refl _) _).alloc (by simp) _, by simp⟩
  have h := Bk.new (w.alloc (.cells (rowOf (zbytes 32)) 22)) 54 (rowOf (zbytes 12))
  simpa using h
set_option maxRecDepth 100000 in
set_option maxHeartbeats 4000000 in
theorem keysOf_yes (h : Bk w v 50 (vrow id K (some sp) nm kn)) (hK : K.length = 32) (e c n : Nat) (he1 : 1 ≤ e) (he2 : e ≤ 1048576) (hc1 : 1 ≤ c) (hc2 : c ≤ 16) (hn1 : 1 ≤ n) (hn2 : n ≤ 4611686018427387904) (ht : Tab w) (hg1 : 1 < w.heap.size) :
    Calls Tryd.prog 19 #[.pointer (some ⟨v, 0, none⟩), .int .i64 (e : Int), .int .i64 (c : Int), .int .i64 (n : Int)] w fun r w' => r = .returned (yesKeys K e c n) ∧ Below w.heap.size w w' := by
  have hz := z32
  have hz12 := z12
  obtain ⟨g, w0, hg, hw0, A0, A1, X0, S0⟩ := keys_start w
  have V0 := hidyb_ (h.below X0 (by have := h.lt; omega))
  have HX0 := hidyb_ X0
  have Z0 := hidyb_ A0
  have Z1 := hidyb_ A1
  have KL := hidyb_ hK
  have HT := hidyb_ ht
  rw [hg] at hg1
  have T0 : Tab w0 := fun t h => (X0.cell (p := ⟨_, t, none⟩) hg1).trans (ht t h)
  have LL := hidyb_ (sealK_len K e)
  have NL := hidyb_ (nonceB_len c n)
  have I32 := hidyb_ (ib32 K hK)
  have IL := hidyb_ (ib32 (sealK K e) LL.out)
  have IN := hidyb_ (ib12 (nonceB c n) NL.out)
  have QL := hidyb_ (show (rowOf (zbytes 32)).size = (rowOf (sealK K e)).size by rw [rowOf_size, rowOf_size, LL.out, zbytes_len])
  have QN := hidyb_ (show (rowOf (zbytes 12)).size = (rowOf (nonceB c n)).size by rw [rowOf_size, rowOf_size, NL.out, zbytes_len])
  have CK : Hid (∀ j, j < (rowOf K).size → w0.cell? ⟨v, 1 + j, none⟩ = (rowOf K)[j]?) := hidyb_ (fun j hj => by
    rw [V0.out.cell (1 + j)]
    exact vrow_k id K KL.out _ _ _ j (by rw [rowOf_size, KL.out] at hj; exact hj))
  have ck := kseal_yes w0 K hK e he1 he2 T0 (by omega)
  have cn := fun W => nonce_yes W c n hc1 hc2 hn1 hn2
  have cm := made_yes V0.out hK
  obtain ⟨Ls, hLs⟩ : ∃ L, sealK K e = L := ⟨_, rfl⟩
  obtain ⟨No, hNo⟩ : ∃ L, nonceB c n = L := ⟨_, rfl⟩
  unfold yesKeys
  rw [hLs] at LL IL QL ck ⊢
  rw [hNo] at NL IN QN ⊢
  simp only [hNo] at cn
  clear h hK he1 he2 hc1 hc2 hn1 hn2 ht T0 X0 A0 A1 hLs hNo
  go_enter Tryd.func19, Tryd.ntmps19
  go_upto_region 9 with (first
    | (go_at_call 15; ((with_reducible refine cm.mono ?_); clear cm; rintro e w' ⟨rfl, rfl⟩))
    | (refine wpList_load_sub rfl 22 (.tmp 22) rfl v 1 rfl (rowOf K) CK.out _ Tryd.underlying22 rfl I32.out ?_)
    | (go_at_call 28; ((with_reducible refine ck.mono ?_); clear ck; rintro e w2 ⟨rfl, hb⟩; have B2 := hidyb_ hb; clear hb))
    | (refine wpList_put_row rfl 22 (.tmp 11) (.tmp 26) rfl w2.heap.size (rowOf Ls) rfl rfl 22 (rowOf (zbytes 32)) (Bk.new w2 _ _) IL.out QL.out (bytes_one _) ?_; intro w3 k3 g3 s3; have BX : Below w2.heap.size w2 w3 := (((Below.refl w2.heap.size w2).alloc (Nat.le_refl _) (.cells (rowOf (zbytes 32)) 22)).grown g3 (by simp) (fun k hk => by injection hk with hk; omega)); have K3 := hidyb_ k3; have B3 := hidyb_ (B2.out.trans (BX.mono B2.out.size)); clear k3 g3 s3 BX)
    | (go_at_call 29; ((with_reducible refine (cn _).mono ?_); clear cn; rintro e w4 ⟨rfl, hb⟩; have K4 := hidyb_ (K3.out.below hb K3.out.lt); have B4 := hidyb_ (B3.out.trans (hb.mono B3.out.size)); clear hb))
    | (refine wpList_put_row rfl 54 (.tmp 13) (.tmp 37) rfl w4.heap.size (rowOf No) rfl rfl 54 (rowOf (zbytes 12)) (Bk.new w4 _ _) IN.out QN.out (bytes_one _) ?_; intro w5 k5 g5 s5; have BX : Below w4.heap.size w4 w5 := (((Below.refl w4.heap.size w4).alloc (Nat.le_refl _) (.cells (rowOf (zbytes 12)) 54)).grown g5 (by simp) (fun k hk => by injection hk with hk; omega)); have K5 := hidyb_ k5; have L5 := hidyb_ (K4.out.below BX K4.out.lt); have B5 := hidyb_ (B4.out.trans (BX.mono B4.out.size)); clear k5 g5 s5 BX))
  rename_i K9 hK9
  have G2 := hidyb_ B2.out.size
  have G4 := hidyb_ B4.out.size
  generalize w2.heap.size = b2 at *
  generalize w4.heap.size = b4 at *
  clear K3 B3 K4 B2 B4
  have HX5 := hidyb_ (HX0.out.trans (B5.out.mono (by omega)))
  have A5 := hidyb_ (Z0.out.below B5.out (by omega))
  have A6 := hidyb_ (Z1.out.below B5.out (by omega))
  have hs5 := B5.out.size
  have HG := hidyb_ hg
  clear Z0 Z1 V0 CK HX0 HT hw0 B5
  refine region_byJF [44, 45, 10] (KoC w g b2 b4 Ls No) (fun _ _ => True) (KoR Ls No) (fun D _ W => KoJ g Ls No D W) (by kernel_rfl) (by kernel_rfl) (by kernel_rfl) (by kernel_rfl) (fun j v w w' hT hr => hr.any) (fun j v w hlt hj _ => ?_) ⟨HX5.out.drew, L5.out.drew, K5.out.drew, by have := G2.out; omega, by have := G4.out; omega, by show g + 2 ≤ w5.heap.size; omega⟩ ?_ ⟨fun _ => A5.drew, fun e => Bool.noConfusion e, fun _ => A6.drew, fun e => Bool.noConfusion e⟩ ?_
  · rcases j with _ | _ | _ | _ | _ | j
    all_goals first
      | (exfalso; simp [dstOf] at hj; done)
      | trivial
  · refine ⟨fun D a W hC hd hsz hf hv hJ hL hW K hK => ?_, fun D a W hC hd hsz hf hv hJ hL hW K hK => ?_, fun D a W hC hd hsz hf hv hJ hL hW K hK => ?_, fun D a W hC hd hsz hf hv hJ hL hW K hK => ?_, fun D a W hC hd hsz hf hv hJ hL hW K hK => ?_, trivial⟩
    · clear hsz
      have e1 : a.tmps.getD 11 undef = .pointer (some ⟨b2, 0, none⟩) := hf 11 (by kernel_rfl)
      exact step_load_rowW (wanted_none rfl) 22 (.tmp 11) rfl b2 (eval_of e1) 22 (rowOf Ls) hC.k _ Tryd.underlying22 rfl IL.out (hK _ _ hC trivial rfl (hJ.same 0 (by decide) (by decide)))
    · clear hsz
      have e1 : a.tmps.getD 13 undef = .pointer (some ⟨b4, 0, none⟩) := hf 13 (by kernel_rfl)
      exact step_load_rowW (wanted_none rfl) 54 (.tmp 13) rfl b4 (eval_of e1) 54 (rowOf No) hC.n _ Tryd.underlying54 rfl IN.out (hK _ _ hC trivial rfl (hJ.same 1 (by decide) (by decide)))
    · clear hsz
      refine step_put_row rfl 22 (.tmp 8) (.tmp 44) rfl g (rowOf Ls) (eval_of (hf 8 (by kernel_rfl))) (eval_of (hv 0 (by kernel_rfl))) 22 (rowOf (zbytes 32)) (hJ.1 hL) IL.out QL.out (bytes_one _) ?_
      intro W2 k2 g2 s2
      exact hK undef _ (hC.grown g2 (by omega) HG.out) trivial trivial (hJ.put0 k2 g2)
    · clear hsz
      refine step_put_row rfl 54 (.tmp 9) (.tmp 45) rfl (g + 1) (rowOf No) (eval_of (hf 9 (by kernel_rfl))) (eval_of (hv 1 (by kernel_rfl))) 54 (rowOf (zbytes 12)) (hJ.2.2.1 hL) IN.out QN.out (bytes_one _) ?_
      intro W2 k2 g2 s2
      exact hK undef _ (hC.grown g2 (by omega) HG.out) trivial trivial (hJ.put1 k2 g2)
    · clear hsz
      refine step_run (wanted_none rfl) (v := .int .i64 0) (w' := W) ?_ (hK _ _ hC trivial rfl (hJ.same 4 (by decide) (by decide)))
      go_simp
  · intro f w7 hC7 hv7 D7 hD7 hJ7
    obtain ⟨a7, hJ, -⟩ := hJ7
    have K7 := hJ.2.1 (hD7 2 (by decide))
    have N7 := hJ.2.2.2 (hD7 3 (by decide))
    have B7 := hidyb_ hC7.below
    have f5 : f 10 = .int .i64 0 := hv7 4 (by decide)
    simp only [framed, List.foldl_cons, List.foldl_nil, List.setIfInBounds_toArray, List.set_cons_succ, List.set_cons_zero]
    rw [f5]
    clear hv7 hD7 hJ hC7
    refine hK9 _ _ ?_
    go_wp2
    exact bodyPost_ret (results_cells_slot Tryd.results19 _ _ g (g + 1) rfl rfl rfl (run_loadVar_row _ _ _ _ _ (0, 0) _ K7 Tryd.underlying22 rfl IL.out) (run_loadVar_row _ _ _ _ _ (0, 0) _ N7 Tryd.underlying54 rfl IN.out)) rfl ⟨rfl, HG.out ▸ B7.out⟩
theorem kseal_no (w : World) (m : List UInt8) (z : Int) (h : ¬ (1 ≤ z ∧ z ≤ 1048576)) :
    Calls Tryd.prog 28 #[.agg (rowOf m), .int .i64 z] w fun e w' => e = .returned (.tuple #[.agg (rowOf (zbytes 32)), .int .i64 1]) ∧ Below w.heap.size w w' := by
  by_cases h1 : z < 1
  · exact kseal_no1 w m z h1
  · exact kseal_no2 w m z (by omega) (by omega)
set_option maxRecDepth 100000 in
set_option maxHeartbeats 4000000 in
theorem keysOf_no1 (h : Bk w v 50 (vrow id K (some sp) nm kn)) (hK : K.length = 32) (e c n : Int) (he : ¬ (1 ≤ e ∧ e ≤ 1048576)) :
    Calls Tryd.prog 19 #[.pointer (some ⟨v, 0, none⟩), .int .i64 e, .int .i64 c, .int .i64 n] w fun r w' => r = .returned noKeys ∧ Below w.heap.size w w' := by
  have hz := z32
  have hz12 := z12
  obtain ⟨g, w0, hg, hw0, A0, A1, X0, S0⟩ := keys_start w
  have V0 := hidyb_ (h.below X0 (by have := h.lt; omega))
  have HX0 := hidyb_ X0
  have Z0 := hidyb_ A0
  have Z1 := hidyb_ A1
  have KL := hidyb_ hK
  have I32 := hidyb_ (ib32 K hK)
  have IL := hidyb_ (ib32 (zbytes 32) (zbytes_len 32))
  have IN := hidyb_ (ib12 (zbytes 12) (zbytes_len 12))
  have CK : Hid (∀ j, j < (rowOf K).size → w0.cell? ⟨v, 1 + j, none⟩ = (rowOf K)[j]?) := hidyb_ (fun j hj => by
    rw [V0.out.cell (1 + j)]
    exact vrow_k id K KL.out _ _ _ j (by rw [rowOf_size, KL.out] at hj; exact hj))
  have ck := kseal_no w0 K e he
  have cm := made_yes V0.out hK
  have HG := hidyb_ hg
  unfold noKeys
  clear h hK he X0 A0 A1
  go_enter Tryd.func19, Tryd.ntmps19
  go_wp2_with (first
    | (go_at_call 15; ((with_reducible refine cm.mono ?_); clear cm; rintro e w' ⟨rfl, rfl⟩))
    | (refine wpList_load_sub rfl 22 (.tmp 22) rfl v 1 rfl (rowOf K) CK.out _ Tryd.underlying22 rfl I32.out ?_)
    | (go_at_call 28; ((with_reducible refine ck.mono ?_); clear ck; rintro e w2 ⟨rfl, hb⟩; have B2 := hidyb_ hb; clear hb))
    | (refine wpList_put_row rfl 22 (.tmp 11) (.tmp 26) rfl w2.heap.size (rowOf (zbytes 32)) rfl rfl 22 (rowOf (zbytes 32)) (Bk.new w2 _ _) IL.out rfl (bytes_one _) ?_; intro w3 k3 g3 s3; have BX : Below w2.heap.size w2 w3 := (((Below.refl w2.heap.size w2).alloc (Nat.le_refl _) (.cells (rowOf (zbytes 32)) 22)).grown g3 (by simp) (fun k hk => by injection hk with hk; omega)); have B3 := hidyb_ (B2.out.trans (BX.mono B2.out.size)); have Y0 := hidyb_ (Z0.out.below B3.out Z0.out.lt); have Y1 := hidyb_ (Z1.out.below B3.out Z1.out.lt); have HX3 := hidyb_ (HX0.out.trans (B3.out.mono (by omega))); clear k3 g3 s3 BX)
    | (refine wpList_built rfl 22 _ rfl (rowOf (zbytes 32)) (by kernel_rfl) ?_)
    | (refine wpList_built rfl 54 _ rfl (rowOf (zbytes 12)) (by kernel_rfl) ?_)
    | (refine wpList_put_row rfl 22 (.tmp 8) (.tmp 30) rfl g (rowOf (zbytes 32)) rfl rfl 22 (rowOf (zbytes 32)) Y0.out IL.out rfl (bytes_one _) ?_; intro w6 k6 g6 s6; have k7 := hidyb_ (Y1.out.oneOf g6 (by omega)); have k6h := hidyb_ k6; have HX6 := hidyb_ (HX3.out.grown g6 (by have := HX3.out.size; omega) (fun k hk => by injection hk with hk; omega)); clear k6 g6 s6)
    | (refine wpList_put_row rfl 54 (.tmp 9) (.tmp 31) rfl (g + 1) (rowOf (zbytes 12)) rfl rfl 54 (rowOf (zbytes 12)) k7.out IN.out rfl (bytes_one _) ?_; intro w7 k8 g7 s7; have k9 := hidyb_ (k6h.out.oneOf g7 (by omega)); have k8h := hidyb_ k8; have HX7 := hidyb_ (HX6.out.grown g7 (by have := HX6.out.size; omega) (fun k hk => by injection hk with hk; omega)); clear k8 g7 s7))
  exact bodyPost_ret (results_cells_slot Tryd.results19 _ _ g (g + 1) rfl rfl rfl (run_loadVar_row _ _ _ _ _ (0, 0) _ k9.out Tryd.underlying22 rfl IL.out) (run_loadVar_row _ _ _ _ _ (0, 0) _ k8h.out Tryd.underlying54 rfl IN.out)) rfl ⟨rfl, HG.out ▸ HX7.out⟩
set_option maxRecDepth 100000 in
set_option maxHeartbeats 4000000 in
theorem keysOf_no2 (h : Bk w v 50 (vrow id K (some sp) nm kn)) (hK : K.length = 32) (e : Nat) (c n : Int) (he1 : 1 ≤ e) (he2 : e ≤ 1048576) (hcn : ¬ NonceOk c n) (ht : Tab w) (hg1 : 1 < w.heap.size) :
    Calls Tryd.prog 19 #[.pointer (some ⟨v, 0, none⟩), .int .i64 (e : Int), .int .i64 c, .int .i64 n] w fun r w' => r = .returned noKeys ∧ Below w.heap.size w w' := by
  have hz := z32
  have hz12 := z12
  obtain ⟨g, w0, hg, hw0, A0, A1, X0, S0⟩ := keys_start w
  have V0 := hidyb_ (h.below X0 (by have := h.lt; omega))
  have HX0 := hidyb_ X0
  have Z0 := hidyb_ A0
  have Z1 := hidyb_ A1
  have KL := hidyb_ hK
  rw [hg] at hg1
  have T0 : Tab w0 := fun t h => (X0.cell (p := ⟨_, t, none⟩) hg1).trans (ht t h)
  have LL := hidyb_ (sealK_len K e)
  have IS := hidyb_ (ib32 (sealK K e) LL.out)
  have QL := hidyb_ (show (rowOf (zbytes 32)).size = (rowOf (sealK K e)).size by rw [rowOf_size, rowOf_size, LL.out, zbytes_len])
  have I32 := hidyb_ (ib32 K hK)
  have IL := hidyb_ (ib32 (zbytes 32) (zbytes_len 32))
  have IN := hidyb_ (ib12 (zbytes 12) (zbytes_len 12))
  have CK : Hid (∀ j, j < (rowOf K).size → w0.cell? ⟨v, 1 + j, none⟩ = (rowOf K)[j]?) := hidyb_ (fun j hj => by
    rw [V0.out.cell (1 + j)]
    exact vrow_k id K KL.out _ _ _ j (by rw [rowOf_size, KL.out] at hj; exact hj))
  have ck := kseal_yes w0 K hK e he1 he2 T0 (by omega)
  have cn := fun W => nonce_no W c n hcn
  have cm := made_yes V0.out hK
  have HG := hidyb_ hg
  generalize sealK K e = Ls at *
  unfold noKeys
  clear h hK he1 he2 X0 A0 A1 ht T0 hcn
  go_enter Tryd.func19, Tryd.ntmps19
  go_wp2_with (first
    | (go_at_call 15; ((with_reducible refine cm.mono ?_); clear cm; rintro e w' ⟨rfl, rfl⟩))
    | (refine wpList_load_sub rfl 22 (.tmp 22) rfl v 1 rfl (rowOf K) CK.out _ Tryd.underlying22 rfl I32.out ?_)
    | (go_at_call 28; ((with_reducible refine ck.mono ?_); clear ck; rintro e w2 ⟨rfl, hb⟩; have B2 := hidyb_ hb; clear hb))
    | (refine wpList_put_row rfl 22 (.tmp 11) (.tmp 26) rfl w2.heap.size (rowOf Ls) rfl rfl 22 (rowOf (zbytes 32)) (Bk.new w2 _ _) IS.out QL.out (bytes_one _) ?_; intro w3 k3 g3 s3; have BX : Below w2.heap.size w2 w3 := (((Below.refl w2.heap.size w2).alloc (Nat.le_refl _) (.cells (rowOf (zbytes 32)) 22)).grown g3 (by simp) (fun k hk => by injection hk with hk; omega)); have B3 := hidyb_ (B2.out.trans (BX.mono B2.out.size)); clear k3 g3 s3 BX)
    | (go_at_call 29; ((with_reducible refine (cn _).mono ?_); clear cn; rintro e w4 ⟨rfl, hb⟩; have B4 := hidyb_ (B3.out.trans (hb.mono B3.out.size)); clear hb))
    | (refine wpList_put_row rfl 54 (.tmp 13) (.tmp 37) rfl w4.heap.size (rowOf (zbytes 12)) rfl rfl 54 (rowOf (zbytes 12)) (Bk.new w4 _ _) IN.out rfl (bytes_one _) ?_; intro w5 k5 g5 s5; have BX : Below w4.heap.size w4 w5 := (((Below.refl w4.heap.size w4).alloc (Nat.le_refl _) (.cells (rowOf (zbytes 12)) 54)).grown g5 (by simp) (fun k hk => by injection hk with hk; omega)); have B5 := hidyb_ (B4.out.trans (BX.mono B4.out.size)); have Y0 := hidyb_ (Z0.out.below B5.out Z0.out.lt); have Y1 := hidyb_ (Z1.out.below B5.out Z1.out.lt); have HX3 := hidyb_ (HX0.out.trans (B5.out.mono (by omega))); clear k5 g5 s5 BX)
    | (refine wpList_built rfl 22 _ rfl (rowOf (zbytes 32)) (by kernel_rfl) ?_)
    | (refine wpList_built rfl 54 _ rfl (rowOf (zbytes 12)) (by kernel_rfl) ?_)
    | (refine wpList_put_row rfl 22 (.tmp 8) (.tmp 41) rfl g (rowOf (zbytes 32)) rfl rfl 22 (rowOf (zbytes 32)) Y0.out IL.out rfl (bytes_one _) ?_; intro w6 k6 g6 s6; have k7 := hidyb_ (Y1.out.oneOf g6 (by omega)); have k6h := hidyb_ k6; have HX6 := hidyb_ (HX3.out.grown g6 (by have := HX3.out.size; omega) (fun k hk => by injection hk with hk; omega)); clear k6 g6 s6)
    | (refine wpList_put_row rfl 54 (.tmp 9) (.tmp 42) rfl (g + 1) (rowOf (zbytes 12)) rfl rfl 54 (rowOf (zbytes 12)) k7.out IN.out rfl (bytes_one _) ?_; intro w7 k8 g7 s7; have k9 := hidyb_ (k6h.out.oneOf g7 (by omega)); have k8h := hidyb_ k8; have HX7 := hidyb_ (HX6.out.grown g7 (by have := HX6.out.size; omega) (fun k hk => by injection hk with hk; omega)); clear k8 g7 s7))
  exact bodyPost_ret (results_cells_slot Tryd.results19 _ _ g (g + 1) rfl rfl rfl (run_loadVar_row _ _ _ _ _ (0, 0) _ k9.out Tryd.underlying22 rfl IL.out) (run_loadVar_row _ _ _ _ _ (0, 0) _ k8h.out Tryd.underlying54 rfl IN.out)) rfl ⟨rfl, HG.out ▸ HX7.out⟩
end
end Go.Proofs.YtoeofifibjelnaaDoor
