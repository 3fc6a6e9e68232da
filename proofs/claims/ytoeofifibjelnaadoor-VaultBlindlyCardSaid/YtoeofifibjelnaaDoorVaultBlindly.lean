/-
  Proved: for all seeds, rows of acts and bytes VaultBlindly answers true: what an ideal vault answers to names and sealings hangs on the order of names and on the counts of bytes alone. No condition.
-/
import Derived.Test.YtoeofifibjelnaaDoorYn
import Derived.Test.YtoeofifibjelnaaDoorOa
import Derived.Deep.Slices
namespace Go.Proofs.YtoeofifibjelnaaDoor.vaultBlindly
set_option maxRecDepth 100000
open Go.ChangeShapes Go.WideShapes Go.ChangeAt Go.RowKit
set_option linter.unusedVariables false
set_option linter.unusedSimpArgs false

theorem hid_ {p : Prop} (h : p) : Hid p := h
theorem open_u8Y {H : Type} {enc : TypeId × Value → H} {P : Program} {t : TypeId} {w : World} {b0 base : Nat} {sp : Nat → Bool} {held : Bool} {r : Reach} {v : Value} {d : DataW H} {p : List MemPlace}
    (ht : P.underlying t = some (.int .u8)) (hv : Value.okWide P w r b0 t v) (h : DataW.Trod enc P w base sp held t v d p) : ∃ u : UInt8, v = .int .u8 ((u.toNat : Nat) : Int) := by
  obtain ⟨n, rfl, _, _, hw⟩ := open_int ht hv h
  obtain ⟨b1, b2⟩ := bounds_u8 hw
  refine ⟨UInt8.ofNat n.toNat, ?_⟩
  have : (UInt8.ofNat n.toNat).toNat = n.toNat := by simp; omega
  rw [this]
  congr 1
  omega
theorem open_vacts {H : Type} {enc : TypeId × Value → H} {w : World} {b0 : Nat} {sp : Nat → Bool} {held : Bool} {r : Reach} {v : Value} {d : DataW H} {p : List MemPlace}
    (hv : Value.okWide Tryd.prog w r b0 41 v) (h : DataW.Trod enc Tryd.prog w 0 sp held 41 v d p) :
    ∃ A l c, v = .slice A (l : List VAct).length c ∧ RdV w w.heap.size A l ∧ l.length ≤ c ∧ c ≤ maxLen := by
  obtain ⟨a0, len, cap, rfl⟩ := okWide_slice Tryd.underlying41 hv
  obtain ⟨fuel, hf⟩ := h
  rcases Go.Deep.open_slice Tryd.underlying41 hf with ⟨hcs, hx⟩ | ⟨a, len', cap', m, n, D, Pl, hcs, _, hl, hm, hmm, hx, hel⟩
  · simp [Value.cells] at hcs
    obtain ⟨rfl, rfl, rfl⟩ := hcs
    exact ⟨none, [], 0, rfl, fun h => by simp at h, Nat.le_refl _, Nat.zero_le _⟩
  · simp [Value.cells] at hcs
    obtain ⟨rfl, rfl, rfl⟩ := hcs
    have hlm : len ≤ m := by rw [hmm]; split <;> omega
    rw [cellsAct_] at hel
    have hone : ∀ j, j < len → ∃ q : VAct, (∀ t, t < 8 → w.cell? (a.add (j * 8 + t)) = q.row[t]?) ∧ VActOk w w.heap.size q := by
      intro j hj
      obtain ⟨cs', hc1, hc2⟩ := hel j (by omega)
      obtain ⟨_, hlen, hcell⟩ := World.cells?_some hc1
      obtain ⟨q, e, ho⟩ := cells_vact (cs := cs') (by simpa using hlen) hc2
      refine ⟨q, fun t ht => ?_, ho⟩
      have c0 := hcell t (by omega)
      rw [Go.Deep.add_add] at c0
      rw [c0, e]
      simp
    obtain ⟨q, hq⟩ := Go.Deep.choose_lt hone
    refine ⟨some a, (List.range len).map q, cap, by simp, fun hn => ?_, by simpa using hl, hm⟩
    have hn' : 0 < len := by simpa using hn
    obtain ⟨b, off, spot⟩ := a
    have hc0 := (hq 0 hn').1 0 (by decide)
    rw [show (q 0).row[0]? = some (.int .i64 (q 0).what) from rfl] at hc0
    have hspot : spot = none := by simpa [Addr.add] using World.cell?_spot hc0
    subst hspot
    have hplain : ∀ j, (⟨b, off, none⟩ : Addr).add j = ⟨b, off + j, none⟩ := fun j => by unfold Addr.add; split <;> simp_all
    refine ⟨b, off, rfl, World.block_lt_of_cell? w _ hc0, fun j hj => ?_⟩
    have hj' : j < len := by simpa using hj
    obtain ⟨h1, h4⟩ := hq j hj'
    have e : ((List.range len).map q)[j] = q j := by simp
    rw [e]
    refine ⟨fun t ht => ?_, h4⟩
    have h := h1 t ht
    rw [hplain] at h
    rw [← h]
    congr 2
    omega
def FlJ (i0 : Nat) (P Q : World → Prop) (D : Nat → Bool) (W : World) : Prop := (D i0 = false → P W) ∧ (D i0 = true → Q W)
theorem FlJ.same {i0 : Nat} {P Q : World → Prop} {D : Nat → Bool} {W : World} (h : FlJ i0 P Q D W) (i : Nat) (hi : i0 ≠ i) : FlJ i0 P Q (fun j => decide (j = i) || D j) W := by
  have e := orf_ne (L := D) hi
  unfold FlJ
  simp only [e]
  exact h
theorem FlJ.now {i0 : Nat} {P Q : World → Prop} {D : Nat → Bool} {W' : World} (h : Q W') : FlJ i0 P Q (fun j => decide (j = i0) || D j) W' := by
  have e := orf_eq (L := D) (i := i0)
  unfold FlJ
  simp only [e]
  exact ⟨fun e => (by cases e), fun _ => h⟩
/-- What is read in the blocks that came since stays. -/
def StayR (b : Nat) (W W' : World) : Prop := ∀ (A : Option Addr) (l : List UInt8), (∀ a, A = some a → b ≤ a.block) → Rd W W.heap.size A l → Rd W' W'.heap.size A l
def TupR (b : Nat) (out : List UInt8) (z : Int) (u : Value) (W : World) : Prop := ∃ A d, u = .tuple #[.slice A out.length d, .int .i64 z] ∧ (∀ a, A = some a → b ≤ a.block) ∧ Rd W W.heap.size A out
def SliR (b : Nat) (out : List UInt8) (u : Value) (W : World) : Prop := ∃ A d, u = .slice A out.length d ∧ (∀ a, A = some a → b ≤ a.block) ∧ Rd W W.heap.size A out
def SvR (b gx va : Nat) (q : VAct) (mw mb : Nat) (A11 : Option Addr) (c11 : Nat) (out : List UInt8) (z : Int) : Nat → Value → World → Prop
  | 0, u, _ => u = .pointer (some ⟨va, 0, none⟩)
  | 1, u, _ => u = .pointer (some ⟨gx, 1, none⟩)
  | 2, u, _ => u = .int .i64 q.epoch
  | 3, u, _ => u = .pointer (some ⟨gx, 2, none⟩)
  | 4, u, _ => u = .int .i64 q.client
  | 5, u, _ => u = .pointer (some ⟨gx, 3, none⟩)
  | 6, u, _ => u = .int .i64 q.counter
  | 7, u, _ => u = .pointer (some ⟨gx, 4, none⟩)
  | 8, u, _ => u = .slice q.wa q.wl.length q.wc
  | 9, u, _ => u = .pointer (some ⟨gx, 4, none⟩)
  | 10, u, _ => u = .slice q.wa q.wl.length q.wc
  | 11, u, _ => u = .int .i64 (q.wl.length : Int)
  | 12, u, _ => u = .int .i64 (mw : Int)
  | 13, u, _ => u = .slice q.wa mw q.wc
  | 14, u, _ => u = .slice A11 mb c11
  | 15, u, W => TupR b out z u W
  | 16, u, W => TupR b out z u W
  | 17, u, W => SliR b out u W
  | 18, u, _ => u = .int .i64 z
  | 19, u, W => SliR b out u W
  | 20, u, _ => u = .int .i64 z
  | _, _, _ => True
theorem TupR.stay {b : Nat} {out : List UInt8} {z : Int} {u : Value} {W W' : World} (h : TupR b out z u W) (hT : StayR b W W') : TupR b out z u W' := by
  obtain ⟨A, d, e, hf, hr⟩ := h
  exact ⟨A, d, e, hf, hT A _ hf hr⟩
theorem SliR.stay {b : Nat} {out : List UInt8} {u : Value} {W W' : World} (h : SliR b out u W) (hT : StayR b W W') : SliR b out u W' := by
  obtain ⟨A, d, e, hf, hr⟩ := h
  exact ⟨A, d, e, hf, hT A _ hf hr⟩
theorem SvR.stable {b gx va : Nat} {q : VAct} {mw mb : Nat} {A11 : Option Addr} {c11 : Nat} {out : List UInt8} {z : Int} {W W' : World} (hT : StayR b W W') : ∀ (j : Nat) (u : Value), SvR b gx va q mw mb A11 c11 out z j u W → SvR b gx va q mw mb A11 c11 out z j u W'
  | 0, _, h => h
  | 1, _, h => h
  | 2, _, h => h
  | 3, _, h => h
  | 4, _, h => h
  | 5, _, h => h
  | 6, _, h => h
  | 7, _, h => h
  | 8, _, h => h
  | 9, _, h => h
  | 10, _, h => h
  | 11, _, h => h
  | 12, _, h => h
  | 13, _, h => h
  | 14, _, h => h
  | 15, _, h => TupR.stay h hT
  | 16, _, h => TupR.stay h hT
  | 17, _, h => SliR.stay h hT
  | 18, _, h => h
  | 19, _, h => SliR.stay h hT
  | 20, _, h => h
  | _ + 21, _, _ => trivial
def BlR (K : List UInt8) : Nat → Value → World → Prop
  | 0, u, _ => u = .agg (rowOf K)
  | 2, u, _ => u = .agg (rowOf K)
  | _, _, _ => True
theorem BlR.any {K : List UInt8} {j : Nat} {v : Value} {W W' : World} (h : BlR K j v W) : BlR K j v W' := by
  unfold BlR at h ⊢
  split at h <;> first | exact h | trivial
def CuR (gx : Nat) (q : VAct) : Nat → Value → World → Prop
  | 0, u, _ => u = .pointer (some ⟨gx, 5, none⟩)
  | 1, u, _ => u = .slice q.ba q.bl.length q.bc
  | 3, u, _ => u = .pointer (some ⟨gx, 5, none⟩)
  | 4, u, _ => u = .slice q.ba q.bl.length q.bc
  | _, _, _ => True
theorem CuR.any {gx : Nat} {q : VAct} {j : Nat} {v : Value} {W W' : World} (h : CuR gx q j v W) : CuR gx q j v W' := by
  unfold CuR at h ⊢
  split at h <;> first | exact h | trivial
def Small (j : Nat) (N : List (List UInt8)) (S : List (Nat × Nat)) (La Lb : List SealV) : Prop := N.length ≤ j ∧ S.length ≤ j ∧ La.length ≤ j ∧ Lb.length ≤ j

set_option maxRecDepth 100000 in
set_option maxHeartbeats 16000000 in
theorem walk (w : World) (K : List UInt8) (hK : K.length = 32) (A1 : Option Addr) (n1 c1 : Nat) (l : List VAct) (hn : l.length = n1) (hp : RdV w w.heap.size A1 l) (hn9 : n1 ≤ 9223372036854775807) (u : UInt8) (ht : Tab w) (hg1 : 1 < w.heap.size) :
    Calls Tryd.prog 5 #[.agg (rowOf K), .slice A1 n1 c1, .int .u8 ((u.toNat : Nat) : Int)] w fun e w' => e = .returned (.bool true) ∧ Below w.heap.size w w' := by
  obtain ⟨K0, hK0⟩ : ∃ D, K = D := ⟨_, rfl⟩
  rw [hK0] at hK ⊢
  obtain ⟨g, hg⟩ : ∃ g, w.heap.size = g := ⟨_, rfl⟩
  obtain ⟨w0, hw0⟩ : ∃ w0, w.alloc (.cells (rowOf K0) 22) = w0 := ⟨_, rfl⟩
  have B0 := hid_ (show Below g w w0 by rw [← hw0, ← hg]; exact (Below.refl w.heap.size w).alloc (Nat.le_refl _) _)
  have KG := hid_ (show Bk w0 g 22 (rowOf K0) by rw [← hw0, ← hg]; exact Bk.new w _ _)
  have HG := hid_ hg
  rw [hg] at hg1
  have HT := hid_ (show Tab w0 from fun t h => (B0.out.cell (p := ⟨_, t, none⟩) hg1).trans (ht t h))
  have g01 : 1 < w0.heap.size := by have := KG.out.lt; omega
  have gle : g ≤ w0.heap.size := Nat.le_of_lt KG.out.lt
  have HP := hid_ (((hg ▸ hp).below B0.out).more gle)
  have HN := hid_ hn
  have KL := hid_ hK
  have I32 := hid_ (ib32 K0 hK)
  clear ht hK hp hn hK0
  go_enter Tryd.func5, Tryd.ntmps5
  go_upto_region 1 with fail
  rename_i K9 hK9
  clear hw0 hg
  refine region_byJF [22, 23, 24, 25, 7, 8] (fun W => Below w0.heap.size w0 W) (fun _ _ => True) (BlR K0) (fun D a W => JT 1 3 4 5 23 25 7 8 (IV1 w0.heap.size K0) (IV2 w0.heap.size K0) D a W) (by kernel_rfl) (by kernel_rfl) (by kernel_rfl) (by kernel_rfl) (fun j v w w' hT hr => hr.any) (fun j v w hlt hj _ => ?_) ((Below.refl _ _).drew) ?_ (JT.start _) ?_
  · rcases j with _ | _ | _ | _ | _ | _ | j
    all_goals first
      | (exfalso; simp [dstOf] at hj; done)
      | trivial
  · refine ⟨fun D a W hC hd hsz hf hv hJ hL hW K hK => ?_, fun D a W hC hd hsz hf hv hJ hL hW K hK => ?_, fun D a W hC hd hsz hf hv hJ hL hW K hK => ?_, fun D a W hC hd hsz hf hv hJ hL hW K hK => ?_, fun D a W hC hd hsz hf hv hJ hL hW K hK => ?_, fun D a W hC hd hsz hf hv hJ hL hW K hK => ?_, trivial⟩
    · have HSZ := hid_ hsz
      clear hsz
      have e1 : a.tmps.getD 3 undef = .pointer (some ⟨g, 0, none⟩) := hf 3 (by kernel_rfl)
      exact step_load_rowW (wanted_none rfl) 22 (.tmp 3) rfl g (eval_of e1) 22 (rowOf K0) (KG.out.below hC KG.out.lt) _ Tryd.underlying22 rfl I32.out (hK _ _ hC trivial rfl (hJ.other 0 22 _ (by decide) (by decide)))
    · have HSZ := hid_ hsz
      clear hsz
      have e1 := slot_of (a := a) (s := 22) (v := .agg (rowOf K0)) (hv 0 (by kernel_rfl))
      refine step_callx 7 #[.agg (rowOf K0)] (wanted_none rfl) (w' := W) ?_ ((ideal_new W K0 KL.out).mono fun e W2 hh => ?_)
      · go_simp
      · obtain ⟨v, sp, nm, kn, F, rfl, hV, hF, hb⟩ := hh
        exact ⟨_, rfl, hK _ _ (hC.trans (hb.mono hC.size)) trivial trivial (hJ.first _ hL (by decide) (by rw [HSZ.out]; exact of_decide_eq_true (by kernel_rfl)) ⟨v, sp, nm, kn, F, rfl, hV, fun k hk => Nat.le_trans hC.size (hF k hk)⟩)⟩
    · have HSZ := hid_ hsz
      clear hsz
      have e1 : a.tmps.getD 3 undef = .pointer (some ⟨g, 0, none⟩) := hf 3 (by kernel_rfl)
      exact step_load_rowW (wanted_none rfl) 22 (.tmp 3) rfl g (eval_of e1) 22 (rowOf K0) (KG.out.below hC KG.out.lt) _ Tryd.underlying22 rfl I32.out (hK _ _ hC trivial rfl (hJ.other 2 24 _ (by decide) (by decide)))
    · have HSZ := hid_ hsz
      clear hsz
      have e1 := slot_of (a := a) (s := 24) (v := .agg (rowOf K0)) (hv 2 (by kernel_rfl))
      refine step_callx 7 #[.agg (rowOf K0)] (wanted_none rfl) (w' := W) ?_ ((ideal_new W K0 KL.out).mono fun e W2 hh => ?_)
      · go_simp
      · obtain ⟨v, sp, nm, kn, F, rfl, hV, hF, hb⟩ := hh
        exact ⟨_, rfl, hK _ _ (hC.trans (hb.mono hC.size)) trivial trivial (hJ.second _ hL (hW 1 (by kernel_rfl)) (by decide) (by decide) (by rw [HSZ.out]; exact of_decide_eq_true (by kernel_rfl)) (fun h1 => IV2.of h1 hb ⟨v, sp, nm, kn, F, rfl, hV, hF⟩ hC.size))⟩
    · have HSZ := hid_ hsz
      clear hsz
      obtain ⟨uu, hu⟩ : ∃ u, a.tmps.getD 23 undef = u := ⟨_, rfl⟩
      have e1 := slot_of (a := a) (s := 23) (v := uu) hu
      refine step_run (wanted_none rfl) (v := uu) (w' := W) ?_ (hK _ _ hC trivial trivial (by rw [← hu]; exact hJ.third (hW 3 (by kernel_rfl)) (by decide) (by decide) (by rw [HSZ.out]; exact of_decide_eq_true (by kernel_rfl))))
      clear hu
      go_simp
    · have HSZ := hid_ hsz
      clear hsz
      obtain ⟨uu, hu⟩ : ∃ u, a.tmps.getD 25 undef = u := ⟨_, rfl⟩
      have e1 := slot_of (a := a) (s := 25) (v := uu) hu
      refine step_run (wanted_none rfl) (v := uu) (w' := W) ?_ (hK _ _ hC trivial trivial (by rw [← hu]; exact hJ.fourth (hW 3 (by kernel_rfl)) (by decide) (by decide) (by rw [HSZ.out]; exact of_decide_eq_true (by kernel_rfl))))
      clear hu
      go_simp
  · intro f w2 hC2 hv2 D7 hD7 hJ7
    obtain ⟨a7, hJ, hs⟩ := hJ7
    have h2 := hJ.both (hD7 3 (by decide))
    have e7 := (hJ.e1 (hD7 4 (by decide))).2
    have e8 := (hJ.e2 (hD7 5 (by decide))).2
    rw [hs, hs] at h2 e7 e8
    obtain ⟨va, spa, nma, kna, Fa, vb, spb, nmb, knb, Fb, h23, hVa, hoa, h25, hVb, hob, hdis⟩ := h2
    have f7 := e7.trans h23
    have f8 := e8.trans h25
    simp only [framed, List.foldl_cons, List.foldl_nil, List.setIfInBounds_toArray, List.set_cons_succ, List.set_cons_zero]
    rw [f7, f8]
    have T2 := hid_ (show TwoV w0 va spa nma kna vb spb nmb knb K0 u [] [] [] [] Fa Fb w2 from ⟨⟨hVa, hoa, hC2⟩, ⟨hVb, hob, hC2⟩, hdis⟩)
    clear hv2 hD7 hJ hs e7 e8 h23 h25 hVa hoa hVb hob hdis f7 f8 hC2
    refine hK9 _ _ ?_
    clear hK9 K9
    have cv := vaults_any w2 (T2.out.a.tab HT.out g01) (T2.out.a.glt g01)
    go_upto_region 4 with (go_at_call 8; ((with_reducible refine cv.mono ?_); clear cv; rintro r w3 ⟨rfl, hb⟩; have T3 := hid_ (T2.out.then_ hb); clear hb T2))
    go_upto_region 5 with fail
    obtain ⟨M, hM⟩ : ∃ M, M = min n1 20 := ⟨_, rfl⟩
    go_loopw [9] (fun i wr => ∃ (j : Nat) (N : List (List UInt8)) (S : List (Nat × Nat)) (La Lb : List SealV) (Fa1 Fb1 : List Nat), j ≤ M ∧ i = .int .i64 j ∧ Hid (TwoV w0 va spa nma kna vb spb nmb knb K0 u N S La Lb Fa1 Fb1 wr) ∧ Hid (Small j N S La Lb)) (fun i _ => M - (intOf i).toNat)
    case atStart => exact ⟨0, [], [], [], [], Fa, Fb, Nat.zero_le _, rfl, T3, hid_ ⟨Nat.le_refl _, Nat.le_refl _, Nat.le_refl _, Nat.le_refl _⟩⟩
    case round =>
      obtain ⟨j, N, S, La, Lb, Fa1, Fb1, hj, rfl, HT2, HSM⟩ := hrel
      clear T3
      by_cases hlt : j < M
      · have hd1 : decide ((j : Int) < (n1 : Int)) = true := decide_eq_true (by omega)
        have hd2 : decide ((j : Int) < 20) = true := decide_eq_true (by omega)
        have hd3 : decide (j < n1) = true := decide_eq_true (by omega)
        have hd4 : decide (j < 20) = true := decide_eq_true (by omega)
        have j20 : j < 20 := by omega
        obtain ⟨b, off, rfl, hbl, hrow⟩ := HP.out (by rw [HN.out]; omega)
        obtain ⟨hc8, hok⟩ := hrow j (by rw [HN.out]; omega)
        generalize l[j]'(by rw [HN.out]; omega) = q at *
        have HROW := hid_ (fun t (ht : t < q.row.size) => ((HT2.out.a.below).cell (p := ⟨b, off + j * 8 + t, none⟩) hbl).trans (hc8 t ht))
        have HOK := hid_ hok
        have t0 : (0 : Int) ≤ (j : Int) := by omega
        have tn : (j : Int) < (n1 : Int) := by omega
        have HLT := hid_ hlt
        clear hrow hok hlt hc8
        go_upto_region 8 with (first
          | (refine wpList_load_sub rfl 39 (.tmp 40) rfl b (off + j * 8) rfl q.row HROW.out _ Tryd.underlying39 rfl (iActY q) ?_)
          | (refine wpList_put_row rfl 39 (.tmp 10) (.tmp 41) rfl wr.heap.size q.row rfl rfl 39 _ (Bk.new wr _ _) (iActY q) rfl q.row_one ?_; intro w4 k4 g4 s4; have K4 := hid_ k4; have G4 := hid_ g4; clear k4 g4 s4))
        have hb4 : Below wr.heap.size wr w4 := ((Below.refl _ _).alloc (Nat.le_refl _) _).grown G4.out (by simp) (fun k e => by injection e with e; omega)
        have T4 := hid_ (HT2.out.then_ hb4)
        have X4 := hid_ T4.out.a.below
        have NGX : Hid (wr.heap.size ∉ Fa1 ∧ wr.heap.size ∉ Fb1) := hid_ ⟨fun hm => by have := HT2.out.a.vlt.hF _ hm; omega, fun hm => by have := HT2.out.b.vlt.hF _ hm; omega⟩
        clear hb4 HT2 HROW G4
        generalize wr.heap.size = gx at *
        rename_i K9 hK9
        obtain ⟨mb, hmb⟩ : ∃ m, m = min q.bl.length 100 := ⟨_, rfl⟩
        have MB := hid_ hmb
        have YL0 := hid_ (show (q.bl.take 100).length = mb by rw [List.length_take, hmb, Nat.min_comm])
        have mb100 : mb ≤ 100 := by omega
        have C5 : Hid (∀ W, Below w4.heap.size w4 W → W.cell? ⟨gx, 5, none⟩ = some (.slice q.ba q.bl.length q.bc)) := hid_ (fun W hW => (K4.out.below hW K4.out.lt).cell 5)
        clear hmb hd1 hd2 hd3 hd4 t0 tn
        refine region_byJF [42, 43, 44, 45, 46, 47, 11, 12] (fun W => Below w4.heap.size w4 W) (fun _ _ => True) (CuR gx q) (fun D a W => JT 2 5 6 7 44 47 11 12 (OW1 w4.heap.size mb (q.bl.take 100)) (OW2 w4.heap.size mb (q.bl.take 100)) D a W) (by kernel_rfl) (by kernel_rfl) (by kernel_rfl) (by kernel_rfl) (fun j v w w' hT hr => hr.any) (fun j v w hlt hj _ => ?_) ((Below.refl _ _).drew) ?_ (JT.start _) ?_
        · rcases j with _ | _ | _ | _ | _ | _ | _ | _ | j
          all_goals first
            | (exfalso; simp [dstOf] at hj; done)
            | trivial
        · refine ⟨fun D a W hC hd hsz hf hv hJ hL hW K hK => ?_, fun D a W hC hd hsz hf hv hJ hL hW K hK => ?_, fun D a W hC hd hsz hf hv hJ hL hW K hK => ?_, fun D a W hC hd hsz hf hv hJ hL hW K hK => ?_, fun D a W hC hd hsz hf hv hJ hL hW K hK => ?_, fun D a W hC hd hsz hf hv hJ hL hW K hK => ?_, fun D a W hC hd hsz hf hv hJ hL hW K hK => ?_, fun D a W hC hd hsz hf hv hJ hL hW K hK => ?_, trivial⟩
          · have HSZ := hid_ hsz
            clear hsz
            have e1 := slot_of (a := a) (s := 10) (v := .pointer (some ⟨gx, 0, none⟩)) (hf 10 (by kernel_rfl))
            refine step_run (wanted_none rfl) (v := .pointer (some ⟨gx, 5, none⟩)) (w' := W) ?_ (hK _ _ hC trivial rfl (hJ.other 0 42 _ (by decide) (by decide)))
            go_simp
          · have HSZ := hid_ hsz
            clear hsz
            have e1 := slot_of (a := a) (s := 42) (v := .pointer (some ⟨gx, 5, none⟩)) (hv 0 (by kernel_rfl))
            have c5 := C5.out W hC
            refine step_run (wanted_none rfl) (v := .slice q.ba q.bl.length q.bc) (w' := W) ?_ (hK _ _ hC trivial rfl (hJ.other 1 43 _ (by decide) (by decide)))
            go_simp
          · have HSZ := hid_ hsz
            clear hsz
            have e1 := slot_of (a := a) (s := 43) (v := .slice q.ba q.bl.length q.bc) (hv 1 (by kernel_rfl))
            have cc : Calls Tryd.prog 9 #[.slice q.ba q.bl.length q.bc, .int .i64 100] W (NewP W mb (q.bl.take 100)) := vcut_any W q.ba q.bl q.bl.length _ 100 mb rfl MB.out (by omega) ((HOK.out.brd.below (X4.out.trans (hC.mono X4.out.size))).more (by have h1 := X4.out.size; have h2 := hC.size; omega)) HOK.out.blen HOK.out.bcap
            refine step_callx 9 #[.slice q.ba q.bl.length q.bc, .int .i64 100] (wanted_none rfl) (w' := W) ?_ (cc.mono fun e W2 hh => ?_)
            · go_simp
            · obtain ⟨A, d, rfl, ho, hb⟩ := hh
              exact ⟨_, rfl, hK _ _ (hC.trans (hb.mono hC.size)) trivial trivial (hJ.first _ hL (by decide) (by rw [HSZ.out]; exact of_decide_eq_true (by kernel_rfl)) ⟨A, d, rfl, ho.lower hC.size⟩)⟩
          · have HSZ := hid_ hsz
            clear hsz
            have e1 := slot_of (a := a) (s := 10) (v := .pointer (some ⟨gx, 0, none⟩)) (hf 10 (by kernel_rfl))
            refine step_run (wanted_none rfl) (v := .pointer (some ⟨gx, 5, none⟩)) (w' := W) ?_ (hK _ _ hC trivial rfl (hJ.other 3 45 _ (by decide) (by decide)))
            go_simp
          · have HSZ := hid_ hsz
            clear hsz
            have e1 := slot_of (a := a) (s := 45) (v := .pointer (some ⟨gx, 5, none⟩)) (hv 3 (by kernel_rfl))
            have c5 := C5.out W hC
            refine step_run (wanted_none rfl) (v := .slice q.ba q.bl.length q.bc) (w' := W) ?_ (hK _ _ hC trivial rfl (hJ.other 4 46 _ (by decide) (by decide)))
            go_simp
          · have HSZ := hid_ hsz
            clear hsz
            have e1 := slot_of (a := a) (s := 46) (v := .slice q.ba q.bl.length q.bc) (hv 4 (by kernel_rfl))
            have cc : Calls Tryd.prog 9 #[.slice q.ba q.bl.length q.bc, .int .i64 100] W (NewP W mb (q.bl.take 100)) := vcut_any W q.ba q.bl q.bl.length _ 100 mb rfl MB.out (by omega) ((HOK.out.brd.below (X4.out.trans (hC.mono X4.out.size))).more (by have h1 := X4.out.size; have h2 := hC.size; omega)) HOK.out.blen HOK.out.bcap
            refine step_callx 9 #[.slice q.ba q.bl.length q.bc, .int .i64 100] (wanted_none rfl) (w' := W) ?_ (cc.mono fun e W2 hh => ?_)
            · go_simp
            · obtain ⟨A, d, rfl, ho, hb⟩ := hh
              exact ⟨_, rfl, hK _ _ (hC.trans (hb.mono hC.size)) trivial trivial (hJ.second _ hL (hW 2 (by kernel_rfl)) (by decide) (by decide) (by rw [HSZ.out]; exact of_decide_eq_true (by kernel_rfl)) (fun h1 => OW2.of h1 hb ⟨A, d, rfl, ho⟩ hC.size))⟩
          · have HSZ := hid_ hsz
            clear hsz
            obtain ⟨uu, hu⟩ : ∃ u, a.tmps.getD 44 undef = u := ⟨_, rfl⟩
            have e1 := slot_of (a := a) (s := 44) (v := uu) hu
            refine step_run (wanted_none rfl) (v := uu) (w' := W) ?_ (hK _ _ hC trivial trivial (by rw [← hu]; exact hJ.third (hW 5 (by kernel_rfl)) (by decide) (by decide) (by rw [HSZ.out]; exact of_decide_eq_true (by kernel_rfl))))
            clear hu
            go_simp
          · have HSZ := hid_ hsz
            clear hsz
            obtain ⟨uu, hu⟩ : ∃ u, a.tmps.getD 47 undef = u := ⟨_, rfl⟩
            have e1 := slot_of (a := a) (s := 47) (v := uu) hu
            refine step_run (wanted_none rfl) (v := uu) (w' := W) ?_ (hK _ _ hC trivial trivial (by rw [← hu]; exact hJ.fourth (hW 5 (by kernel_rfl)) (by decide) (by decide) (by rw [HSZ.out]; exact of_decide_eq_true (by kernel_rfl))))
            clear hu
            go_simp
        · intro f w5 hC5 hv5 D7 hD7 hJ7
          obtain ⟨a7, hJ, hs⟩ := hJ7
          have h2 := hJ.both (hD7 5 (by decide))
          have e7 := (hJ.e1 (hD7 6 (by decide))).2
          have e8 := (hJ.e2 (hD7 7 (by decide))).2
          rw [hs, hs] at h2 e7 e8
          obtain ⟨A11, c11, A12, c12, h44, ho11, h47, ho12, hdi⟩ := h2
          have f7 := e7.trans h44
          have f8 := e8.trans h47
          simp only [framed, List.foldl_cons, List.foldl_nil, List.setIfInBounds_toArray, List.set_cons_succ, List.set_cons_zero]
          rw [f7, f8]
          have O11 := hid_ ho11
          have O12 := hid_ ho12
          have DIS := hid_ hdi
          have T5 := hid_ (T4.out.then_ hC5)
          have K5 := hid_ (K4.out.below hC5 K4.out.lt)
          have X5 := hid_ (X4.out.trans (hC5.mono X4.out.size))
          have S45 := hid_ hC5.size
          clear hv5 hD7 hJ hs e7 e8 h44 h47 ho11 ho12 hdi f7 f8 hC5 C5
          refine hK9 _ _ ?_
          clear hK9 K9
          have YL := YL0
          generalize q.bl.take 100 = Y at *
          go_upto_region 10 with fail
          go_loopw [13] (fun i wq => ∃ a : Nat, a ≤ mb ∧ i = .int .i64 a ∧ Hid (Untouched (blkOf A12) w5 wq) ∧ Hid (Own8 wq w4.heap.size (.slice A12 mb c12) (xorU u (Y.take a) ++ Y.drop a))) (fun i _ => mb - (intOf i).toNat)
          case atStart => exact ⟨0, Nat.zero_le _, rfl, hid_ (Untouched.refl _ _), hid_ (by simpa [xorU] using O12.out)⟩
          case round =>
            obtain ⟨a, ha, rfl, HQ, HO⟩ := hrel
            by_cases hlt2 : a < mb
            · have he1 : decide ((a : Int) < (mb : Int)) = true := decide_eq_true (by omega)
              have he2 : decide (a < mb) = true := decide_eq_true hlt2
              obtain ⟨g5, hA⟩ := HO.out.block_ (by omega)
              subst hA
              obtain ⟨y, hy⟩ : ∃ y, Y.getD a 0 = y := ⟨_, rfl⟩
              have hcz := HO.out.cellz a hlt2
              rw [xorU_get u Y a (by rw [YL.out]; exact hlt2), hy] at hcz
              have hfz := HO.out.frozenz a
              have hx1 := xor8 y u
              have hyb := y.toNat_lt
              obtain ⟨hput, hge⟩ := HO.out.put_ a (y ^^^ u)
              rw [← hy, xorU_step u Y a (by rw [YL.out]; exact hlt2), hy] at hput
              have HPUT := hid_ hput
              have HW := hid_ (HQ.out.trans (Grew.refl _ _) (Untouched.set (w := wr) (F := blkOf (some ⟨g5, 0, none⟩)) g5 a (by simp [blkOf]) (.int .u8 ((y ^^^ u).toNat : Int))))
              have t1 : (0 : Int) ≤ (a : Int) := by omega
              have t2 : (a : Int) < (mb : Int) := by omega
              clear hput hy
              go_wp2
              go_roundw
              case rel => exact ⟨a + 1, by omega, by go_num, HW, HPUT⟩
              case measure => simp [intOf]; omega
            · obtain rfl : mb = a := by omega
              have he1 : decide ((mb : Int) < (mb : Int)) = false := decide_eq_false (by omega)
              have he2 : decide (mb < mb) = false := decide_eq_false hlt2
              have O126 := hid_ (show Own8 wr w4.heap.size (.slice A12 mb c12) (xorU u Y) by have h := HO.out; rw [List.take_of_length_le (by rw [YL.out]; exact Nat.le_refl _), List.drop_eq_nil_of_le (by rw [YL.out]; exact Nat.le_refl _), List.append_nil] at h; exact h)
              have HBK : Hid (∀ k ∈ blkOf A12, w4.heap.size ≤ k) := hid_ (fun k hk => by
                simp only [blkOf, Option.mem_toList, Option.map_eq_some_iff] at hk
                obtain ⟨a2, rfl, rfl⟩ := hk
                exact (World.ownsRow.lt O126.out _ rfl).1)
              have X6 := hid_ (X5.out.trans (HQ.out.below (fun k hk => Nat.le_trans X4.out.size (HBK.out k hk)) X5.out.size))
              have T6 := hid_ (show TwoV w0 va spa nma kna vb spb nmb knb K0 u N S La Lb Fa1 Fb1 wr from ⟨T5.out.a.other HQ.out (fun k hk hm => by have h1 := HBK.out k hk; have h2 := T4.out.a.vlt.hF k hm; omega) X6.out, T5.out.b.other HQ.out (fun k hk hm => by have h1 := HBK.out k hk; have h2 := T4.out.b.vlt.hF k hm; omega) X6.out, T5.out.dis⟩)
              have K6 := hid_ (K5.out.untouched HQ.out (fun hm => by have h1 := HBK.out gx hm; have h2 := K4.out.lt; omega))
              have O116 := hid_ (show Own8 wr w4.heap.size (.slice A11 mb c11) Y from ownsRow_heapy O11.out (fun k hk => HQ.out.block k (World.ownsRow.lt O11.out k hk).2 (fun hm => by
                obtain ⟨a1, ea, eb⟩ := ownBlock_some hk
                simp only [blkOf, Option.mem_toList, Option.map_eq_some_iff] at hm
                obtain ⟨a2, ea2, eb2⟩ := hm
                exact DIS.out a1 a2 ea ea2 (by omega))))
              have YX := hid_ (show (xorU u Y).length = mb by rw [xorU_len, YL.out])
              clear O11 O12 HO HQ T5 K5 he1 he2 hlt2 X5
              have ca100 : mb ≤ 100 := by omega
              have C0 : wr.cell? ⟨gx, 0, none⟩ = some (.int .i64 q.what) := K6.out.cell 0
              obtain ⟨z, hz⟩ : ∃ z, q.what.tmod 2 = z := ⟨_, rfl⟩
              have hzb : -2 < z ∧ z < 2 := by rw [← hz]; exact ⟨Int.neg_lt_of_neg_lt (by have := Int.tmod_lt_of_pos (-q.what) (show (0 : Int) < 2 by omega); rw [Int.neg_tmod] at this; omega), Int.tmod_lt_of_pos _ (by omega)⟩
              have wz : IntKind.i64.wrap z = z := IntWalk.i64_in _ (by omega)
              by_cases hz0 : z = 0
              · subst hz0
                have ba := vblind_out T6.out.a.vlt A11 mb c11 Y YL.out O116.out.cap.1 O116.out.cap.2 O116.out.rd.1 (by have := HSM.out.1; omega) (T6.out.a.tab HT.out g01) (T6.out.a.glt g01)
                obtain ⟨D, hD⟩ : ∃ D, blB K0 N Y = D := ⟨_, rfl⟩
                obtain ⟨ez, hez⟩ : ∃ D, blE Y = D := ⟨_, rfl⟩
                have DL := hid_ (show D.length = 32 by rw [← hD]; exact blB_len _ _ _)
                have ID := hid_ (iB D DL.out)
                have QD := hid_ (show (rowOf (zbytes 32)).size = (rowOf D).size by rw [rowOf_size, rowOf_size, DL.out, zbytes_len])
                have HD := hid_ hD
                have HEZ := hid_ hez
                rw [hD, hez] at ba
                have hzB := zB
                have q1 := neqBY D DL.out
                have q2 := eqInBY D DL.out
                clear hD hez hzb wz
                go_upto_region 15 with (first
                  | (go_at_call 10; ((with_reducible refine ba.mono ?_); clear ba; rintro r w7 ⟨rfl, hl⟩; have A7 := hid_ (T6.out.a.next hl); have B7 := hid_ (T6.out.b.other hl.2.2 (fun k hk hm => T6.out.dis k hk hm) (T6.out.a.next hl).below); have O127 := hid_ (O126.out.untouched hl.2.2 (fun k hk => T4.out.a.vlt.hF k hk)); clear hl))
                  | (refine wpList_put_row rfl 31 (.tmp 14) (.tmp 69) rfl w7.heap.size (rowOf D) rfl rfl 31 (rowOf (zbytes 32)) (Bk.new w7 _ _) ID.out QD.out (bytes_one _) ?_; intro w8 k8 g8 s8; have BX : Below w7.heap.size w7 w8 := (((Below.refl w7.heap.size w7).alloc (Nat.le_refl _) (.cells (rowOf (zbytes 32)) 31)).grown g8 (by simp) (fun k hk => by injection hk with hk; omega)); have K8 := hid_ k8; have A8 := hid_ (A7.out.then_ BX); have B8 := hid_ (B7.out.then_ BX); have O128 := hid_ (O127.out.below BX (Nat.le_refl _)); clear k8 g8 s8 BX))
                have N8 : Hid (w7.heap.size ∉ Fb1) := hid_ (fun hm => by have := B7.out.vlt.hF _ hm; omega)
                generalize w7.heap.size = g8 at *
                have bb := vblind_out B8.out.vlt A12 mb c12 (xorU u Y) YX.out O128.out.cap.1 O128.out.cap.2 O128.out.rd.1 (by rw [List.length_map]; have := HSM.out.1; omega) (B8.out.tab HT.out g01) (B8.out.glt g01)
                rw [blB_xorU, blE_xorU, blN_xorU, HD.out, HEZ.out] at bb
                go_upto_region 16 with (first
                  | (go_at_call 10; ((with_reducible refine bb.mono ?_); clear bb; rintro r w9 ⟨rfl, hl⟩; have B9 := hid_ (B8.out.next hl); have A9 := hid_ (A8.out.other hl.2.2 (fun k hk hm => T6.out.dis k hm hk) (B8.out.next hl).below); have K9x := hid_ (K8.out.untouched hl.2.2 N8.out); clear hl))
                  | (refine wpList_put_row rfl 31 (.tmp 16) (.tmp 75) rfl w9.heap.size (rowOf D) rfl rfl 31 (rowOf (zbytes 32)) (Bk.new w9 _ _) ID.out QD.out (bytes_one _) ?_; intro w10 k10 g10 s10; have BX : Below w9.heap.size w9 w10 := (((Below.refl w9.heap.size w9).alloc (Nat.le_refl _) (.cells (rowOf (zbytes 32)) 31)).grown g10 (by simp) (fun k hk => by injection hk with hk; omega)); have J10 := hid_ k10; have K10 := hid_ (K9x.out.below BX K9x.out.lt); have A10 := hid_ (A9.out.then_ BX); have B10 := hid_ (B9.out.then_ BX); clear k10 g10 s10 BX))
                go_wp2_with (first
                  | (refine wpList_load_row rfl 31 (.tmp 14) rfl g8 rfl 31 (rowOf D) (0, 0) _ K10.out Tryd.underlying31 rfl ID.out ?_)
                  | (refine wpList_load_row rfl 31 (.tmp 16) rfl w9.heap.size rfl 31 (rowOf D) (0, 0) _ J10.out Tryd.underlying31 rfl ID.out ?_))
                go_roundw
                case rel => exact ⟨j + 1, blN N Y, S, La, Lb, Fa1, Fb1, by have := HLT.out; omega, by go_num, hid_ ⟨A10.out, B10.out, T6.out.dis⟩, hid_ ⟨by have := blN_len N Y; have := HSM.out.1; omega, by have := HSM.out.2.1; omega, by have := HSM.out.2.2.1; omega, by have := HSM.out.2.2.2; omega⟩⟩
                case measure => have := HLT.out; simp [intOf]; omega
              · have hz1 : (z == 0) = false := by simp [hz0]
                have hz2 : decide (z = 0) = false := decide_eq_false hz0
                go_upto_region 18 with fail
                clear C0 hz hz1 hz2 wz hzb
                rename_i K8 hK8
                obtain ⟨mw, hmw⟩ : ∃ m, m = min q.wl.length 40 := ⟨_, rfl⟩
                have XL := hid_ (show (q.wl.take 40).length = mw by rw [List.length_take, hmw, Nat.min_comm])
                have mw40 : mw ≤ 40 := by omega
                have hmn : ∀ (W : World) (ts : Array TypeId) (t : TypeId), (Builtin.min_ ts t #[.int .i64 (q.wl.length : Int), .int .i64 40]).run Tryd.prog W = .ok (.int .i64 (mw : Int)) W := fun W ts t => run_min2 q.wl.length 40 mw hmw W ts t
                have hsl := fun W => slice_to q.wa q.wl.length q.wc (mw : Int) mw rfl (by have := HOK.out.wlen; omega) W
                have RWX : Hid (Rd w0 w0.heap.size q.wa (q.wl.take 40)) := hid_ (HOK.out.wrd.take 40)
                clear hmw
                obtain ⟨out, hout⟩ : ∃ o, slB K0 S q.epoch q.client q.counter mb = o := ⟨_, rfl⟩
                obtain ⟨ze, hze⟩ : ∃ o, slE S q.epoch q.client q.counter = o := ⟨_, rfl⟩
                have HOUT := hid_ hout
                have HZE := hid_ hze
                have HFA : Hid (∀ k ∈ Fa1, k < wr.heap.size) := hid_ T6.out.a.vlt.hF
                have HFB : Hid (∀ k ∈ Fb1, k < wr.heap.size) := hid_ T6.out.b.vlt.hF
                clear hout hze
                refine region_byJF [86, 87, 88, 89, 90, 91, 92, 93, 94, 95, 96, 97, 98, 99, 100, 101, 85, 102, 103, 18, 19] (fun W => Bk W gx 39 q.row) (StayR wr.heap.size) (SvR wr.heap.size gx va q mw mb A11 c11 out ze) (fun D _ W => FlJ 15 (fun W => Below wr.heap.size wr W) (fun W => ∃ L8 F8, Mine w0 va spa nma kna K0 N (slS S q.epoch q.client q.counter) L8 F8 W ∧ Mine w0 vb spb nmb knb K0 (N.map (xorU u)) S Lb Fb1 W ∧ Own8 W w4.heap.size (.slice A12 mb c12) (xorU u Y) ∧ (∀ k ∈ F8, k ∉ Fb1) ∧ L8.length ≤ La.length + 1) D W) (by kernel_rfl) (by kernel_rfl) (by kernel_rfl) (by kernel_rfl) (fun j v w w' hT hr => SvR.stable hT j v hr) (fun j v w hlt hj _ => ?_) (K6.out.drew) ?_ ⟨fun _ => (Below.refl _ _).drew, fun e => Bool.noConfusion e⟩ ?_
                · rcases j with _ | _ | _ | _ | _ | _ | _ | _ | _ | _ | _ | _ | _ | _ | _ | _ | _ | _ | _ | _ | _ | j
                  all_goals first
                    | (exfalso; simp [dstOf] at hj; done)
                    | trivial
                · refine ⟨fun D a W hC hd hsz hf hv hJ hL hW K hK => ?_, fun D a W hC hd hsz hf hv hJ hL hW K hK => ?_, fun D a W hC hd hsz hf hv hJ hL hW K hK => ?_, fun D a W hC hd hsz hf hv hJ hL hW K hK => ?_, fun D a W hC hd hsz hf hv hJ hL hW K hK => ?_, fun D a W hC hd hsz hf hv hJ hL hW K hK => ?_, fun D a W hC hd hsz hf hv hJ hL hW K hK => ?_, fun D a W hC hd hsz hf hv hJ hL hW K hK => ?_, fun D a W hC hd hsz hf hv hJ hL hW K hK => ?_, fun D a W hC hd hsz hf hv hJ hL hW K hK => ?_, fun D a W hC hd hsz hf hv hJ hL hW K hK => ?_, fun D a W hC hd hsz hf hv hJ hL hW K hK => ?_, fun D a W hC hd hsz hf hv hJ hL hW K hK => ?_, fun D a W hC hd hsz hf hv hJ hL hW K hK => ?_, fun D a W hC hd hsz hf hv hJ hL hW K hK => ?_, fun D a W hC hd hsz hf hv hJ hL hW K hK => ?_, fun D a W hC hd hsz hf hv hJ hL hW K hK => ?_, fun D a W hC hd hsz hf hv hJ hL hW K hK => ?_, fun D a W hC hd hsz hf hv hJ hL hW K hK => ?_, fun D a W hC hd hsz hf hv hJ hL hW K hK => ?_, fun D a W hC hd hsz hf hv hJ hL hW K hK => ?_, trivial⟩
                  · clear hsz
                    have e1 := slot_of (a := a) (s := 7) (v := .pointer (some ⟨va, 0, none⟩)) (hf 7 (by kernel_rfl))
                    refine step_run (wanted_none rfl) (v := .pointer (some ⟨va, 0, none⟩)) (w' := W) ?_ (hK _ _ hC (fun A l _ h => h) rfl (hJ.same 0 (by decide)))
                    go_simp
                  · clear hsz
                    have e1 := slot_of (a := a) (s := 10) (v := .pointer (some ⟨gx, 0, none⟩)) (hf 10 (by kernel_rfl))
                    refine step_run (wanted_none rfl) (v := .pointer (some ⟨gx, 1, none⟩)) (w' := W) ?_ (hK _ _ hC (fun A l _ h => h) rfl (hJ.same 1 (by decide)))
                    go_simp
                  · clear hsz
                    have e1 := slot_of (a := a) (s := 87) (v := .pointer (some ⟨gx, 1, none⟩)) (hv 1 (by kernel_rfl))
                    have cc : W.cell? ⟨gx, 1, none⟩ = some (.int .i64 q.epoch) := hC.cell 1
                    refine step_run (wanted_none rfl) (v := .int .i64 q.epoch) (w' := W) ?_ (hK _ _ hC (fun A l _ h => h) rfl (hJ.same 2 (by decide)))
                    go_simp
                  · clear hsz
                    have e1 := slot_of (a := a) (s := 10) (v := .pointer (some ⟨gx, 0, none⟩)) (hf 10 (by kernel_rfl))
                    refine step_run (wanted_none rfl) (v := .pointer (some ⟨gx, 2, none⟩)) (w' := W) ?_ (hK _ _ hC (fun A l _ h => h) rfl (hJ.same 3 (by decide)))
                    go_simp
                  · clear hsz
                    have e1 := slot_of (a := a) (s := 89) (v := .pointer (some ⟨gx, 2, none⟩)) (hv 3 (by kernel_rfl))
                    have cc : W.cell? ⟨gx, 2, none⟩ = some (.int .i64 q.client) := hC.cell 2
                    refine step_run (wanted_none rfl) (v := .int .i64 q.client) (w' := W) ?_ (hK _ _ hC (fun A l _ h => h) rfl (hJ.same 4 (by decide)))
                    go_simp
                  · clear hsz
                    have e1 := slot_of (a := a) (s := 10) (v := .pointer (some ⟨gx, 0, none⟩)) (hf 10 (by kernel_rfl))
                    refine step_run (wanted_none rfl) (v := .pointer (some ⟨gx, 3, none⟩)) (w' := W) ?_ (hK _ _ hC (fun A l _ h => h) rfl (hJ.same 5 (by decide)))
                    go_simp
                  · clear hsz
                    have e1 := slot_of (a := a) (s := 91) (v := .pointer (some ⟨gx, 3, none⟩)) (hv 5 (by kernel_rfl))
                    have cc : W.cell? ⟨gx, 3, none⟩ = some (.int .i64 q.counter) := hC.cell 3
                    refine step_run (wanted_none rfl) (v := .int .i64 q.counter) (w' := W) ?_ (hK _ _ hC (fun A l _ h => h) rfl (hJ.same 6 (by decide)))
                    go_simp
                  · clear hsz
                    have e1 := slot_of (a := a) (s := 10) (v := .pointer (some ⟨gx, 0, none⟩)) (hf 10 (by kernel_rfl))
                    refine step_run (wanted_none rfl) (v := .pointer (some ⟨gx, 4, none⟩)) (w' := W) ?_ (hK _ _ hC (fun A l _ h => h) rfl (hJ.same 7 (by decide)))
                    go_simp
                  · clear hsz
                    have e1 := slot_of (a := a) (s := 93) (v := .pointer (some ⟨gx, 4, none⟩)) (hv 7 (by kernel_rfl))
                    have cc : W.cell? ⟨gx, 4, none⟩ = some (.slice q.wa q.wl.length q.wc) := hC.cell 4
                    refine step_run (wanted_none rfl) (v := .slice q.wa q.wl.length q.wc) (w' := W) ?_ (hK _ _ hC (fun A l _ h => h) rfl (hJ.same 8 (by decide)))
                    go_simp
                  · clear hsz
                    have e1 := slot_of (a := a) (s := 10) (v := .pointer (some ⟨gx, 0, none⟩)) (hf 10 (by kernel_rfl))
                    refine step_run (wanted_none rfl) (v := .pointer (some ⟨gx, 4, none⟩)) (w' := W) ?_ (hK _ _ hC (fun A l _ h => h) rfl (hJ.same 9 (by decide)))
                    go_simp
                  · clear hsz
                    have e1 := slot_of (a := a) (s := 95) (v := .pointer (some ⟨gx, 4, none⟩)) (hv 9 (by kernel_rfl))
                    have cc : W.cell? ⟨gx, 4, none⟩ = some (.slice q.wa q.wl.length q.wc) := hC.cell 4
                    refine step_run (wanted_none rfl) (v := .slice q.wa q.wl.length q.wc) (w' := W) ?_ (hK _ _ hC (fun A l _ h => h) rfl (hJ.same 10 (by decide)))
                    go_simp
                  · clear hsz
                    have e1 := slot_of (a := a) (s := 96) (v := .slice q.wa q.wl.length q.wc) (hv 10 (by kernel_rfl))
                    refine step_run (wanted_none rfl) (v := .int .i64 (q.wl.length : Int)) (w' := W) ?_ (hK _ _ hC (fun A l _ h => h) rfl (hJ.same 11 (by decide)))
                    go_simp
                  · clear hsz
                    have e1 := slot_of (a := a) (s := 97) (v := .int .i64 (q.wl.length : Int)) (hv 11 (by kernel_rfl))
                    have hm := hmn W
                    refine step_run (wanted_none rfl) (v := .int .i64 (mw : Int)) (w' := W) ?_ (hK _ _ hC (fun A l _ h => h) rfl (hJ.same 12 (by decide)))
                    go_simp
                  · clear hsz
                    have e1 := slot_of (a := a) (s := 94) (v := .slice q.wa q.wl.length q.wc) (hv 8 (by kernel_rfl))
                    have e2 := slot_of (a := a) (s := 98) (v := .int .i64 (mw : Int)) (hv 12 (by kernel_rfl))
                    have h := hsl W
                    refine step_run (wanted_none rfl) (v := .slice q.wa mw q.wc) (w' := W) ?_ (hK _ _ hC (fun A l _ h => h) rfl (hJ.same 13 (by decide)))
                    go_simp
                  · clear hsz
                    have e1 := slot_of (a := a) (s := 11) (v := .slice A11 mb c11) (hf 11 (by kernel_rfl))
                    refine step_run (wanted_none rfl) (v := .slice A11 mb c11) (w' := W) ?_ (hK _ _ hC (fun A l _ h => h) rfl (hJ.same 14 (by decide)))
                    go_simp
                  · clear hsz
                    have e1 := slot_of (a := a) (s := 86) (v := .pointer (some ⟨va, 0, none⟩)) (hv 0 (by kernel_rfl))
                    have e2 := slot_of (a := a) (s := 88) (v := .int .i64 q.epoch) (hv 2 (by kernel_rfl))
                    have e3 := slot_of (a := a) (s := 90) (v := .int .i64 q.client) (hv 4 (by kernel_rfl))
                    have e4 := slot_of (a := a) (s := 92) (v := .int .i64 q.counter) (hv 6 (by kernel_rfl))
                    have e5 := slot_of (a := a) (s := 99) (v := .slice q.wa mw q.wc) (hv 13 (by kernel_rfl))
                    have e6 := slot_of (a := a) (s := 100) (v := .slice A11 mb c11) (hv 14 (by kernel_rfl))
                    have hbw := hJ.1 hL
                    have T7 := T6.out.then_ hbw
                    have X7 := X6.out.trans (hbw.mono X6.out.size)
                    have sa := vseal_out T7.a.vlt q.wa A11 mw q.wc mb c11 (q.wl.take 40) Y XL.out YL.out ((RWX.out.below X7).more X7.size) (O116.out.below hbw (Nat.le_refl _)).rd.1 (by omega) (by omega) q.epoch q.client q.counter (by have := HSM.out.2.1; omega) (by have := HSM.out.2.2.1; omega) (T7.a.tab HT.out g01) (T7.a.glt g01)
                    unfold SealOut at sa
                    rw [HOUT.out, HZE.out] at sa
                    refine step_callx 11 #[.pointer (some ⟨va, 0, none⟩), .int .i64 q.epoch, .int .i64 q.client, .int .i64 q.counter, .slice q.wa mw q.wc, .slice A11 mb c11] (wanted_none rfl) (w' := W) ?_ (sa.mono fun e W2 hh => ?_)
                    · go_simp
                    · obtain ⟨A18, c18, L8, F8, rfl, hrd, hl, hle, hfr⟩ := hh
                      have hsW : wr.heap.size ≤ W.heap.size := hbw.size
                      refine ⟨_, rfl, hK _ _ (hC.untouched hl.2.2 (fun hm => NGX.out.1 hm)) (fun A l hA h => ?_) ⟨A18, c18, rfl, fun a e => Nat.le_trans hsW (hfr a e), hrd⟩ (FlJ.now ⟨L8, F8, T7.a.next hl, T7.b.other hl.2.2 (fun k hk hm => T7.dis k hk hm) (T7.a.next hl).below, (O126.out.below hbw (Nat.le_refl _)).untouched hl.2.2 (fun k hk => T4.out.a.vlt.hF k hk), fun k hk hm => ?_, hle⟩)⟩
                      · exact (h.untouchedF hl.2.2 (fun a e hm => by have h1 := hA a e; have h2 := HFA.out _ hm; omega)).more hl.2.2.size
                      · rcases hl.2.1 k hk with h1 | h1
                        · exact T7.dis k h1 hm
                        · have h2 := HFB.out k hm
                          omega
                  · clear hsz
                    obtain ⟨A, d, eA, hA1, hA2⟩ : TupR wr.heap.size out ze (a.tmps.getD 101 undef) W := hv 15 (by kernel_rfl)
                    have e1 := slot_of (a := a) (s := 101) eA
                    refine step_run (wanted_none rfl) (v := .tuple #[.slice A out.length d, .int .i64 ze]) (w' := W) ?_ (hK _ _ hC (fun A l _ h => h) ⟨A, d, rfl, hA1, hA2⟩ (hJ.same 16 (by decide)))
                    go_simp
                  · clear hsz
                    obtain ⟨A, d, eA, hA1, hA2⟩ : TupR wr.heap.size out ze (a.tmps.getD 85 undef) W := hv 16 (by kernel_rfl)
                    have e1 := slot_of (a := a) (s := 85) eA
                    refine step_run (wanted_none rfl) (v := .slice A out.length d) (w' := W) ?_ (hK _ _ hC (fun A l _ h => h) ⟨A, d, rfl, hA1, hA2⟩ (hJ.same 17 (by decide)))
                    go_simp
                  · clear hsz
                    obtain ⟨A, d, eA, hA1, hA2⟩ : TupR wr.heap.size out ze (a.tmps.getD 85 undef) W := hv 16 (by kernel_rfl)
                    have e1 := slot_of (a := a) (s := 85) eA
                    refine step_run (wanted_none rfl) (v := .int .i64 ze) (w' := W) ?_ (hK _ _ hC (fun A l _ h => h) rfl (hJ.same 18 (by decide)))
                    go_simp
                  · clear hsz
                    obtain ⟨A, d, eA, hA1, hA2⟩ : SliR wr.heap.size out (a.tmps.getD 102 undef) W := hv 17 (by kernel_rfl)
                    have e1 := slot_of (a := a) (s := 102) eA
                    refine step_run (wanted_none rfl) (v := .slice A out.length d) (w' := W) ?_ (hK _ _ hC (fun A l _ h => h) ⟨A, d, rfl, hA1, hA2⟩ (hJ.same 19 (by decide)))
                    go_simp
                  · clear hsz
                    have e1 := slot_of (a := a) (s := 103) (v := .int .i64 ze) (hv 18 (by kernel_rfl))
                    refine step_run (wanted_none rfl) (v := .int .i64 ze) (w' := W) ?_ (hK _ _ hC (fun A l _ h => h) rfl (hJ.same 20 (by decide)))
                    go_simp
                · intro f w8 hC8 hv8 D8 hD8 hJ8
                  obtain ⟨a8, hJ, hs⟩ := hJ8
                  obtain ⟨L8, F8, hA8, hB8, hO8, hd8, hle8⟩ := hJ.2 (hD8 15 (by decide))
                  obtain ⟨A18, c18, f18, hf18, hr18⟩ : SliR wr.heap.size out (f 18) w8 := hv8 19 (by decide)
                  have f19 : f 19 = .int .i64 ze := hv8 20 (by decide)
                  simp only [framed, List.foldl_cons, List.foldl_nil, List.setIfInBounds_toArray, List.set_cons_succ, List.set_cons_zero]
                  rw [f18, f19]
                  have A8 := hid_ hA8
                  have B8 := hid_ hB8
                  have O128 := hid_ hO8
                  have DI8 := hid_ hd8
                  have LE8 := hid_ hle8
                  have K8x := hid_ hC8
                  have R18 := hid_ hr18
                  have FR18 := hid_ hf18
                  clear hv8 hD8 hJ hs hA8 hB8 hO8 hd8 hle8 hC8 hr18 hf18 f18 f19
                  refine hK8 _ _ ?_
                  clear hK8 K8
                  have C1 : w8.cell? ⟨gx, 1, none⟩ = some (.int .i64 q.epoch) := K8x.out.cell 1
                  have C2 : w8.cell? ⟨gx, 2, none⟩ = some (.int .i64 q.client) := K8x.out.cell 2
                  have C3 : w8.cell? ⟨gx, 3, none⟩ = some (.int .i64 q.counter) := K8x.out.cell 3
                  have sb := vseal_out B8.out.vlt none A12 0 0 mb c12 [] (xorU u Y) rfl YX.out Rd.nil O128.out.rd.1 (by omega) (by omega) q.epoch q.client q.counter (by have := HSM.out.2.1; omega) (by have := HSM.out.2.2.2; omega) (B8.out.tab HT.out g01) (B8.out.glt g01)
                  unfold SealOut at sb
                  rw [HOUT.out, HZE.out] at sb
                  go_upto_region 20 with (go_at_call 11; ((with_reducible refine sb.mono ?_); clear sb; rintro r w9 ⟨A20, c20, L9, F9, rfl, hrd, hl, hle, hfr⟩; have B9 := hid_ (B8.out.next hl); have A9 := hid_ (A8.out.other hl.2.2 (fun k hk hm => DI8.out k hm hk) (B8.out.next hl).below); have D9 := hid_ (show ∀ k ∈ F8, k ∉ F9 from fun k hk hm => (by rcases hl.2.1 k hm with h1 | h1; exact DI8.out k hk h1; have h2 := A8.out.vlt.hF k hk; omega)); have R19 := hid_ (R18.out.untouchedF hl.2.2 (fun a e hm => by have h1 := FR18.out a e; have h2 := HFB.out _ hm; omega)); have R20 := hid_ hrd; have LE9 := hid_ hle; clear hrd hl hle hfr))
                  clear C1 C2 C3
                  have V1 : (convert 29 9 (.slice A18 out.length c18)).run Tryd.prog w9 = .ok (.string (strOf out)) w9 := conv_strn R19.out out.length c18 rfl
                  have V2 : (convert 29 9 (.slice A20 out.length c20)).run Tryd.prog w9 = .ok (.string (strOf out)) w9 := conv_strn R20.out out.length c20 rfl
                  go_wp2
                  go_roundw
                  case rel => exact ⟨j + 1, N, slS S q.epoch q.client q.counter, L8, L9, F8, F9, by have := HLT.out; omega, by go_num, hid_ ⟨A9.out, B9.out, D9.out⟩, hid_ ⟨by have := HSM.out.1; omega, by have := slS_len S q.epoch q.client q.counter; have := HSM.out.2.1; omega, by have := HSM.out.2.2.1; have := LE8.out; omega, by have := HSM.out.2.2.2; have := LE9.out; omega⟩⟩
                  case measure => have := HLT.out; simp [intOf]; omega
      · have ca : Calls Tryd.prog 14 #[.pointer (some ⟨va, 0, none⟩)] wr _ := count_yes HT2.out.a.vlt.blk HT2.out.a.vlt.len HT2.out.a.vlt.spent
        have cb : Calls Tryd.prog 14 #[.pointer (some ⟨vb, 0, none⟩)] wr _ := count_yes HT2.out.b.vlt.blk HT2.out.b.vlt.len HT2.out.b.vlt.spent
        by_cases hj1 : j < n1
        · have hd1 : decide ((j : Int) < (n1 : Int)) = true := decide_eq_true (by omega)
          have hd2 : decide ((j : Int) < 20) = false := decide_eq_false (by omega)
          have hd3 : decide (j < n1) = true := decide_eq_true (by omega)
          have hd4 : decide (j < 20) = false := decide_eq_false (by omega)
          go_wp2_with (first
            | (go_at_call 14; ((with_reducible refine ca.mono ?_); clear ca; rintro r w' ⟨rfl, rfl⟩))
            | (go_at_call 14; ((with_reducible refine cb.mono ?_); clear cb; rintro r w' ⟨rfl, rfl⟩)))
          go_ret
          exact ⟨rfl, by rw [HG.out]; exact B0.out.trans (HT2.out.a.below.mono gle)⟩
        · have hd1 : decide ((j : Int) < (n1 : Int)) = false := decide_eq_false (by omega)
          have hd3 : decide (j < n1) = false := decide_eq_false (by omega)
          go_wp2_with (first
            | (go_at_call 14; ((with_reducible refine ca.mono ?_); clear ca; rintro r w' ⟨rfl, rfl⟩))
            | (go_at_call 14; ((with_reducible refine cb.mono ?_); clear cb; rintro r w' ⟨rfl, rfl⟩)))
          go_ret
          exact ⟨rfl, by rw [HG.out]; exact B0.out.trans (HT2.out.a.below.mono gle)⟩

theorem laid_metV (os : Os) : laidMet Tryd.prog [("casket/sha2.roundWords", Rows.laid_casket_sha2_roundWords)] ((laidWorld os).forCall (fun _ _ => 0) ⟨#[], #[.agg (rowOf (zbytes 32)), .slice none 0 0, .int .u8 0], []⟩).memory :=
  laidMet_of_run' 8 (by kernel_rfl) (by kernel_rfl)

/-- What the walk gives, for every argument and every world in which the constants lie. -/
theorem contract (H : Type) (enc : TypeId × Value → H) (W : World) (base : Nat) (args : Array Value) (ds gs : List (DataW H)) (before : List MemPlace)
    (hval : ∀ (j : Nat) t v, Tryd.f5.params[j]? = some t → args[j]? = some v → Value.okWide Tryd.prog W .any base t v)
    (hW : DataW.Whole enc Tryd.prog Tryd.f5.params.toList Rows.vaultBlindlySpec.vars false W args.toList ds gs before) (hL : laidMetH Tryd.prog Rows.vaultBlindlyRow.laid W) :
    Calls Tryd.prog 5 args W fun e W' => ∃ v, e = .returned v ∧ Rows.vaultBlindlySpec.post enc Tryd.prog Tryd.f5 false true false false W args v W' := by
  obtain ⟨ht, hg1⟩ := tab_of hL
  have hW' := hW
  obtain ⟨p, q, hA0, hV, rfl, hfz, hnd⟩ := hW
  have hA : DataW.TrodAll enc Tryd.prog W 0 (fun _ => true) true Tryd.f5.params.toList args.toList ds p := hA0
  rw [Tryd.params5] at hA hval
  obtain ⟨v0, vs0, d0, ds0, p0, q0, hargs, rfl, rfl, h0, r0⟩ := trodAll_cons hA
  obtain ⟨v1, vs1, d1, ds1, p1, q1, rfl, rfl, rfl, h1, r1⟩ := trodAll_cons r0
  obtain ⟨v2, vs2, d2, ds2, p2, q2, rfl, rfl, rfl, h2, r2⟩ := trodAll_cons r1
  obtain ⟨rfl, rfl, rfl⟩ := trodAll_nil r2
  obtain rfl : args = #[v0, v1, v2] := by cases args; simp_all
  obtain ⟨rfl, rfl⟩ := trodVars_none hV
  obtain ⟨M, rfl, hM⟩ := open_arr8 Tryd.underlying22 Tryd.underlying5 (by kernel_rfl) (by kernel_rfl) (hval 0 22 v0 rfl rfl) h0
  obtain ⟨A1, l1, c1, rfl, hp1, hl1, hm1⟩ := open_vacts (hval 1 41 v1 rfl rfl) h1
  obtain ⟨u, rfl⟩ := open_u8Y Tryd.underlying5 (hval 2 5 v2 rfl rfl) h2
  refine (walk W M hM A1 l1.length c1 l1 rfl hp1 (by unfold maxLen at hm1; omega) u ht hg1).mono fun e W' ⟨he, hg⟩ => ⟨_, he, ?_⟩
  exact law_post laidOut_ (of_decide_eq_true (by kernel_rfl)) rfl rfl Tryd.underlying4 rfl hW' hg

theorem reads (os : Os) {H : Type} (enc : TypeId × Value → H) : ∃ places, DataW.whole enc Tryd.prog ((laidWorld os).forCall (fun _ _ => 0) ⟨#[], #[.agg (rowOf (zbytes 32)), .slice none 0 0, .int .u8 0], []⟩).memory Tryd.f5.params.toList Rows.vaultBlindlySpec.vars false (#[.agg (rowOf (zbytes 32)), .slice none 0 0, .int .u8 0] : Array Value).toList 8 = some ([.agg [.lit (.int .u8 0), .lit (.int .u8 0), .lit (.int .u8 0), .lit (.int .u8 0), .lit (.int .u8 0), .lit (.int .u8 0), .lit (.int .u8 0), .lit (.int .u8 0), .lit (.int .u8 0), .lit (.int .u8 0), .lit (.int .u8 0), .lit (.int .u8 0), .lit (.int .u8 0), .lit (.int .u8 0), .lit (.int .u8 0), .lit (.int .u8 0), .lit (.int .u8 0), .lit (.int .u8 0), .lit (.int .u8 0), .lit (.int .u8 0), .lit (.int .u8 0), .lit (.int .u8 0), .lit (.int .u8 0), .lit (.int .u8 0), .lit (.int .u8 0), .lit (.int .u8 0), .lit (.int .u8 0), .lit (.int .u8 0), .lit (.int .u8 0), .lit (.int .u8 0), .lit (.int .u8 0), .lit (.int .u8 0)], .nil, .lit (.int .u8 0)], [], places) :=
  ⟨[], by kernel_rfl⟩

set_option maxRecDepth 100000 in
theorem lifted (os : Os) (started : os.Started) (H : Type) (enc : TypeId × Value → H) (F : Stop.Interp) :
    ReturnsInHanded {} Tryd.checked os 5 .any ((OpenSpec.ofChange Rows.vaultBlindlySpec).preRow enc Tryd.prog Tryd.f5 Rows.vaultBlindlyRow.domain false Rows.vaultBlindlyRow.laid) (((OpenSpec.ofChange Rows.vaultBlindlySpec).at F).post enc Tryd.prog Tryd.f5 false true false false) := by
  obtain ⟨places, hx⟩ := reads os enc
  refine returnsInHanded_of_row (C := Tryd.checked) (s := OpenSpec.ofChange Rows.vaultBlindlySpec) own_ started (by kernel_rfl) Tryd.func5
    (witness_row_at (enc := enc) (C := Tryd.checked) false (laidWorld os) #[.agg (rowOf (zbytes 32)), .slice none 0 0, .int .u8 0] rfl (by kernel_rfl) (by kernel_rfl) (by kernel_rfl)
      (OpenSpec.preRow_of_cond 8 hx (by kernel_rfl) (fun k hk => by cases hk) (by kernel_rfl) (laid_metV os))) ?_
  intro W base args ds gs before hval hW _ _ _ hL _ _
  exact contract H enc W base args ds gs before hval hW hL

theorem said : Rows.VaultBlindlySaid :=
  OpenClaim.holds_of_cond 5 Tryd.f5 rfl rfl rfl rfl rfl rfl rfl ⟨rfl, rfl, rfl, rfl, rfl⟩ rfl rfl rfl rfl rfl (by kernel_rfl) Tryd.func5 (by kernel_rfl)
    (of_decide_eq_true (by kernel_rfl)) (by unfold Func.isWrapper; first | (rw [if_pos (by decide +kernel)]; kernel_rfl) | (rw [if_neg (by decide +kernel)]; exact ⟨rfl, rfl⟩))
    (fun os started H enc _ F => by rw [OpenClaim.pre_eq_preRow]; exact lifted os started H enc F)

/-- No parameter wants a stand-in; the program's own looks are off: what the card asks. -/
theorem plain (f : FuncId) (fn : Func) (hf : Tryd.pinned.checked.prog.funcNamed "casket/casketlaw12.VaultBlindly" = some f) (hfn : Tryd.pinned.checked.prog.funcs[f]? = some fn) :
    false = Tryd.pinned.checked.prog.looks [] ∧ ∀ (j : Nat) t, fn.params[j]? = some t → Tryd.pinned.checked.prog.wantsStandIn t = false := by
  obtain rfl : f = 5 := Option.some.inj ((show Tryd.prog.funcNamed "casket/casketlaw12.VaultBlindly" = some 5 by kernel_rfl).symm.trans hf) |>.symm
  obtain rfl : fn = Tryd.f5 := (Option.some.inj (Tryd.func5.symm.trans hfn)).symm
  refine ⟨by kernel_rfl, fun j t ht => ?_⟩
  rw [Tryd.params5] at ht
  have hm := Array.mem_of_getElem? ht
  simp only [List.mem_toArray, List.mem_cons, List.not_mem_nil, or_false] at hm
  rcases hm with rfl | rfl | rfl
  · exact (show Tryd.prog.wantsStandIn 22 = false by kernel_rfl)
  · exact (show Tryd.prog.wantsStandIn 41 = false by kernel_rfl)
  · exact (show Tryd.prog.wantsStandIn 5 = false by kernel_rfl)

/-- The card. -/
theorem proved : Rows.VaultBlindlyCardSaid :=
  Claim7.holds_tied_plain_at .later [] _ _ _ _ said (fun _ h => by cases h) (by kernel_rfl) (fun _ h => by cases h) vaultBlindly_row_tie rfl ⟨rfl, rfl⟩ (by kernel_rfl) rfl plain (by kernel_rfl)
#print axioms proved
end Go.Proofs.YtoeofifibjelnaaDoor.vaultBlindly
