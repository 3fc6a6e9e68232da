/-
  casketlaw22.from.
-/
import Derived.Test.YtnlipmcnpekifaaMon
namespace Go.Proofs.Ytnlipmcnpekifaa
set_option maxRecDepth 100000
open Go.RowKit
set_option linter.unusedVariables false
set_option linter.unusedSimpArgs false

theorem step_store_rowX {P : Program} {ops : Array Oper} {o : Oper} {a : Act} {w : World} {Q : Exit → Act → World → Prop} {K : Act → World → Prop} {E : Prop} (hw : Region.wanted o (yielded ops a.tmps) = true) (ty : TypeId) (x y : Operand) (ho : o.op = .store ty x y)
    (g : Nat) (cells : Array Value) (hx : a.eval x = .pointer (some ⟨g, 0, none⟩)) (hy : a.eval y = .agg cells)
    (t : TypeId) (old : Array Value) (hg : Bk w g t old) (hi : (P.info? ty).map (·.size) = some cells.size)
    (hold : old.size = cells.size) (h1 : cells.all (·.oneCell') = true) (h : K (a.put o.dst undef) (w.setRow g cells)) : if Region.wanted o (yielded ops a.tmps) = true then Oper.wp P o a w K Q else E := by
  rw [if_pos hw]
  exact wp_store_row ty x y ho g cells hx hy t old hg hi hold h1 h
theorem OwnG.type_ne {α : Type} {N : Enc α} {te t2 : TypeId} {w : World} {b2 : Nat} {u : Value} {L : List α} {g : Nat} {cs : Array Value} (ho : OwnG N te w b2 u L) (hb : Bk w g t2 cs) (hne : te ≠ t2) : u.ownBlock ≠ some g := fun e => by
  rcases ho.2 with ⟨hn, _⟩ | ⟨g2, cap2, cur2, rfl, _, hb2, _⟩
  · rw [hn] at e; cases e
  · have e2 : g2 = g := by injection e
    unfold Bk at hb
    rw [← e2, hb2] at hb
    injection hb with hb
    injection hb with _ hb
    exact hne hb
theorem own_apart {α β : Type} {N : Enc α} {M : Enc β} {te t2 : TypeId} {w : World} {b1 b2 : Nat} {u v : Value} {L : List α} {R : List β} (ho : OwnG N te w b1 u L) (hv : OwnG M t2 w b2 v R) (hne : te ≠ t2) : u.ownBlock = none ∨ u.ownBlock ≠ v.ownBlock := by
  rcases hv.2 with ⟨hn, _⟩ | ⟨g2, cap2, cur2, rfl, _, hb2, _⟩
  · subst hn
    cases h : u.ownBlock with
    | none => exact .inl rfl
    | some k => exact .inr (by simp [Value.ownBlock])
  · exact .inr (ho.type_ne (t2 := t2) (cs := cur2) hb2 hne)
theorem ld_same {D : Nat → Bool} {a b : Nat} (h : D a = true → D b = true) (i : Nat) (hi : a ≠ i) : (decide (a = i) || D a) = true → (decide (b = i) || D b) = true := fun ha => by
  simp [hi] at ha
  simp [h ha]
theorem ld_at {D : Nat → Bool} {b i : Nat} (hb : D b = true) : (decide (b = i) || D b) = true := by simp [hb]
/-- Exact worlds, one behind the other. -/
def ExW (ws : List World) : Nat → World → Prop := fun m W => ws[m]? = some W
theorem ChJ.ex {ix : List Nat} {ws : List World} {D : Nat → Bool} {W : World} (h : ChJ ix (ExW ws) D W) : W ∈ ws := by
  obtain ⟨m, _, _, h2⟩ := h
  exact List.mem_of_getElem? h2
theorem ChJ.exat {ix : List Nat} {ws : List World} {D : Nat → Bool} {W : World} (h : ChJ ix (ExW ws) D W) (k : Nat) (hk : k < ix.length) (hL : D ix[k] = false) (hW : ∀ j, (hj : j < ix.length) → j + 1 = k → D ix[j] = true) : ws[k]? = some W ∧ ∀ i, (hi : i < ix.length) → D ix[i] = decide (i < k) := h.at_ k hk hL hW
theorem built_from (k f a e fo lv : Int) (x y : ByteArray) (A : Option Addr) (n c : Nat) : Try.prog.built 28 [(0, .int .i64 k), (1, .int .i64 f), (2, .int .i64 a), (3, .int .i64 e), (4, .int .i64 fo), (5, .int .i64 lv), (6, .agg #[.string x, .string y]), (7, .slice A n c)] = some #[.int .i64 k, .int .i64 f, .int .i64 a, .int .i64 e, .int .i64 fo, .int .i64 lv, .string x, .string y, .slice A n c, .slice none 0 0, .slice none 0 0] := by kernel_rfl
theorem built_rr (x y : ByteArray) : Try.prog.built 23 [(0, .string x), (1, .string y)] = some #[.string x, .string y] := by kernel_rfl
def FrP (q : MgA) (w : World) (e : Ending) (w' : World) : Prop := ∃ q' : RmV, e = .returned (.agg (rmC q')) ∧ q'.v = q.v ∧ q'.Ok w' w'.heap.size ∧ Below w.heap.size w w'
set_option maxRecDepth 100000 in
set_option maxHeartbeats 16000000 in
theorem from_any (w : World) (q : MgA) (hq : q.Ok w w.heap.size) (hd : q.digs.length ≤ 1000) (hr : q.rows.length ≤ 1000) :
    Calls Try.prog 14 #[.agg (mgC q).toArray] w (FrP q w) := by
  obtain ⟨kind, frm, ask, err, for_, level, ⟨⟨K, s⟩, sa, sc⟩, ats, aa, ac, digs, da, dc, rows, ra, rc⟩ := q
  obtain ⟨g, hg⟩ : ∃ g, w.heap.size = g := ⟨_, rfl⟩
  obtain ⟨w1, hw1⟩ : ∃ x, w.alloc (.cells (mgC ⟨kind, frm, ask, err, for_, level, ⟨⟨K, s⟩, sa, sc⟩, ats, aa, ac, digs, da, dc, rows, ra, rc⟩).toArray 41) = x := ⟨_, rfl⟩
  obtain ⟨w2, hw2⟩ : ∃ x, w1.alloc (.cells (rmC rmZ) 28) = x := ⟨_, rfl⟩
  have S1 : w1.heap.size = g + 1 := by rw [← hw1, ← hg]; simp
  have B1 := show Below w.heap.size w w1 by rw [← hw1]; exact (Below.refl _ _).alloc (Nat.le_refl _) _
  have B2 := show Below w1.heap.size w1 w2 by rw [← hw2]; exact (Below.refl _ _).alloc (Nat.le_refl _) _
  have S2 := hidm_ (show w2.heap.size = g + 2 by rw [← hw2]; simp [S1])
  have M2 := hidm_ (show Bk w2 g 41 (mgC ⟨kind, frm, ask, err, for_, level, ⟨⟨K, s⟩, sa, sc⟩, ats, aa, ac, digs, da, dc, rows, ra, rc⟩).toArray by
    have h0 : Bk w1 g 41 (mgC ⟨kind, frm, ask, err, for_, level, ⟨⟨K, s⟩, sa, sc⟩, ats, aa, ac, digs, da, dc, rows, ra, rc⟩).toArray := by rw [← hw1, ← hg]; exact Bk.new w _ _
    exact h0.below B2 h0.lt)
  have R2 := hidm_ (show Bk w2 (g + 1) 28 (rmC rmZ) by rw [← hw2, ← S1]; exact Bk.new w1 _ _)
  have X2 := hidm_ (show Below g w w2 by rw [← hg]; exact B1.trans (B2.mono (by omega)))
  rw [hg] at hq
  have KL := hidm_ (show K.length = 32 from hq.row.key)
  have HQ := hidm_ hq
  have HG := hidm_ hg
  obtain ⟨nD, hnD⟩ : ∃ n, digs.length = n := ⟨_, rfl⟩
  obtain ⟨nR, hnR⟩ : ∃ n, rows.length = n := ⟨_, rfl⟩
  obtain ⟨nA, hnA⟩ : ∃ n, ats.length = n := ⟨_, rfl⟩
  obtain ⟨nS, hnS⟩ : ∃ n, s.length = n := ⟨_, rfl⟩
  have HND := hidm_ hnD
  have HNR := hidm_ hnR
  have HNA := hidm_ hnA
  have HNS := hidm_ hnS
  have fD : nD ≤ 1000 := by rw [← hnD]; exact hd
  have fR : nR ≤ 1000 := by rw [← hnR]; exact hr
  have LO := hidm_ (show ∀ W, Below (g + 2) w2 W → W.cell? ⟨g, 0, none⟩ = some (.int .i64 kind) ∧ W.cell? ⟨g, 1, none⟩ = some (.int .i64 frm) ∧ W.cell? ⟨g, 2, none⟩ = some (.int .i64 ask) ∧ W.cell? ⟨g, 3, none⟩ = some (.int .i64 err) ∧ W.cell? ⟨g, 4, none⟩ = some (.int .i64 for_) ∧ W.cell? ⟨g, 5, none⟩ = some (.int .i64 level) from fun W h => by
    have hb := M2.out.below h (by omega)
    exact ⟨(hb.cell 0).trans rfl, (hb.cell 1).trans rfl, (hb.cell 2).trans rfl, (hb.cell 3).trans rfl, (hb.cell 4).trans rfl, (hb.cell 5).trans rfl⟩)
  have HI := hidm_ (show ∀ W, Below (g + 2) w2 W → W.cell? ⟨g, 38, none⟩ = some (.slice sa nS sc) ∧ W.cell? ⟨g, 39, none⟩ = some (.slice aa nA ac) ∧ W.cell? ⟨g, 40, none⟩ = some (.slice da nD dc) ∧ W.cell? ⟨g, 41, none⟩ = some (.slice ra nR rc) from fun W h => by
    have hb := M2.out.below h (by omega)
    rw [← hnS, ← hnA, ← hnD, ← hnR]
    exact ⟨(hb.cell (6 + 32)).trans ((mgC_row _ KL.out 32 (by omega)).trans (krC_last _ KL.out)), (hb.cell (39 + 0)).trans (mgC_hi _ KL.out 0), (hb.cell (39 + 1)).trans (mgC_hi _ KL.out 1), (hb.cell (39 + 2)).trans (mgC_hi _ KL.out 2)⟩)
  have RK := hidm_ (show ∀ W, Below (g + 2) w2 W → Rd W (g + 1) (some ⟨g, 6, none⟩) K from fun W h => fun _ => ⟨g, 6, rfl, by omega, fun j hj => by
    have hb := M2.out.below h (by omega)
    rw [hb.cell (6 + j), mgC_row _ KL.out j (by have := KL.out; omega), krC_key _ KL.out j (by have := KL.out; omega)]
    exact rowOf_at K j hj⟩)
  have RS := hidm_ (show ∀ W, Below (g + 2) w2 W → Rd W g sa s from fun W h => (HQ.out.row.rd.below X2.out).below (h.mono (by omega)))
  have hz := zRm
  clear hq hnD hnR hnA hnS B1 B2 hd hr
  go_enter Try.func14, Try.ntmps14
  go_upto_region 1 with fail
  rename_i K9 hK9
  clear hw1 hw2 S1 hg
  obtain ⟨wd, hwd⟩ : ∃ x, w2.drew = x := ⟨_, rfl⟩
  have BD := hidm_ (show Below (g + 2) w2 wd by rw [← hwd]; exact below_drewN (Below.refl _ _) 1)
  have SD := hidm_ (show wd.heap.size = g + 2 by rw [← hwd]; exact S2.out)
  obtain ⟨wB, hwB⟩ : ∃ x, wd.alloc (.cells (rmC rmZ) 28) = x := ⟨_, rfl⟩
  have BB := hidm_ (show Below (g + 2) w2 wB by rw [← hwB]; exact BD.out.alloc (by rw [SD.out]; omega) _)
  have PB := hidm_ (show Bk wB (g + 2) 28 (rmC rmZ) by rw [← hwB, ← SD.out]; exact Bk.new wd _ _)
  obtain ⟨wC, hwC⟩ : ∃ x, wB.setRow (g + 2) (rmC (⟨kind, frm, ask, err, for_, level, K, s, ats, aa, ac, [], none, 0, [], none, 0⟩ : RmV)) = x := ⟨_, rfl⟩
  have PC := hidm_ (show Bk wC (g + 2) 28 (rmC (⟨kind, frm, ask, err, for_, level, K, s, ats, aa, ac, [], none, 0, [], none, 0⟩ : RmV)) by rw [← hwC]; exact PB.out.rowed _)
  have GC := hidm_ (show wB.grownBy wC (some (g + 2)) by rw [← hwC]; exact grown_row (World.grownBy.refl wB _) _)
  have BC := hidm_ (show Below (g + 2) w2 wC from BB.out.grown GC.out (by have := PB.out.lt; omega) (fun k hk => by injection hk with hk; omega))
  have HWB := hidm_ hwB
  have HWC := hidm_ hwC
  have BW := hidm_ (show ∀ (D : Nat → Bool) (W : World), ChJ [24, 25] (ExW [wd, wB, wC]) D W → Below (g + 2) w2 W from fun D W h => by
    have h := h.ex
    simp only [List.mem_cons, List.not_mem_nil, or_false] at h
    rcases h with rfl | rfl | rfl
    · exact BD.out
    · exact BB.out
    · exact BC.out)
  refine region_byJF [6, 7, 8, 9, 10, 11, 12, 13, 14, 15, 16, 17, 18, 19, 20, 21, 22, 23, 24, 25, 26, 27, 28, 29, 3] (fun _ => True) (fun _ _ => True) (fun jR_ vR_ (wR_ : World) => (match jR_ with | 0 => vR_ = .pointer (some ⟨g, 0, none⟩) | 1 => vR_ = .int .i64 kind | 2 => vR_ = .pointer (some ⟨g, 1, none⟩) | 3 => vR_ = .int .i64 frm | 4 => vR_ = .pointer (some ⟨g, 2, none⟩) | 5 => vR_ = .int .i64 ask | 6 => vR_ = .pointer (some ⟨g, 3, none⟩) | 7 => vR_ = .int .i64 err | 8 => vR_ = .pointer (some ⟨g, 4, none⟩) | 9 => vR_ = .int .i64 for_ | 10 => vR_ = .pointer (some ⟨g, 5, none⟩) | 11 => vR_ = .int .i64 level | 12 => vR_ = .pointer (some ⟨g, 6, none⟩) | 13 => vR_ = .pointer (some ⟨g, 6, none⟩) | 14 => vR_ = .slice (some ⟨g, 6, none⟩) 32 32 | 15 => vR_ = .string (strOf K) | 16 => vR_ = .pointer (some ⟨g, 6, none⟩) | 17 => vR_ = .pointer (some ⟨g, 38, none⟩) | 18 => vR_ = .slice sa nS sc | 19 => vR_ = .string (strOf s) | 20 => vR_ = .agg #[.string (strOf K), .string (strOf s)] | 21 => vR_ = .pointer (some ⟨g, 39, none⟩) | 22 => vR_ = .slice aa nA ac | 23 => vR_ = .agg (rmC (⟨kind, frm, ask, err, for_, level, K, s, ats, aa, ac, [], none, 0, [], none, 0⟩ : RmV)) | 24 => vR_ = .pointer (some ⟨g + 2, 0, none⟩) | _ => True)) (fun D _ W => ChJ [24, 25] (ExW [wd, wB, wC]) D W) (by kernel_rfl) (by kernel_rfl) (by kernel_rfl) (by kernel_rfl) (fun j v w w' hT hr => hr) (fun j v w hlt hj _ => ?_) trivial ?_ (ChJ.start (show ([wd, wB, wC] : List World)[0]? = some _ from by rw [← hwd]; rfl)) ?_
  · rcases j with _ | _ | _ | _ | _ | _ | _ | _ | _ | _ | _ | _ | _ | _ | _ | _ | _ | _ | _ | _ | _ | _ | _ | _ | _ | _ | j
    all_goals first
      | (exfalso; simp [dstOf] at hj; done)
      | trivial
  · refine ⟨fun D a9 W hC hd hsz hf hv hJ hL hW K8 hK => ?_, fun D a9 W hC hd hsz hf hv hJ hL hW K8 hK => ?_, fun D a9 W hC hd hsz hf hv hJ hL hW K8 hK => ?_, fun D a9 W hC hd hsz hf hv hJ hL hW K8 hK => ?_, fun D a9 W hC hd hsz hf hv hJ hL hW K8 hK => ?_, fun D a9 W hC hd hsz hf hv hJ hL hW K8 hK => ?_, fun D a9 W hC hd hsz hf hv hJ hL hW K8 hK => ?_, fun D a9 W hC hd hsz hf hv hJ hL hW K8 hK => ?_, fun D a9 W hC hd hsz hf hv hJ hL hW K8 hK => ?_, fun D a9 W hC hd hsz hf hv hJ hL hW K8 hK => ?_, fun D a9 W hC hd hsz hf hv hJ hL hW K8 hK => ?_, fun D a9 W hC hd hsz hf hv hJ hL hW K8 hK => ?_, fun D a9 W hC hd hsz hf hv hJ hL hW K8 hK => ?_, fun D a9 W hC hd hsz hf hv hJ hL hW K8 hK => ?_, fun D a9 W hC hd hsz hf hv hJ hL hW K8 hK => ?_, fun D a9 W hC hd hsz hf hv hJ hL hW K8 hK => ?_, fun D a9 W hC hd hsz hf hv hJ hL hW K8 hK => ?_, fun D a9 W hC hd hsz hf hv hJ hL hW K8 hK => ?_, fun D a9 W hC hd hsz hf hv hJ hL hW K8 hK => ?_, fun D a9 W hC hd hsz hf hv hJ hL hW K8 hK => ?_, fun D a9 W hC hd hsz hf hv hJ hL hW K8 hK => ?_, fun D a9 W hC hd hsz hf hv hJ hL hW K8 hK => ?_, fun D a9 W hC hd hsz hf hv hJ hL hW K8 hK => ?_, fun D a9 W hC hd hsz hf hv hJ hL hW K8 hK => ?_, fun D a9 W hC hd hsz hf hv hJ hL hW K8 hK => ?_, fun D a9 W hC hd hsz hf hv hJ hL hW K8 hK => ?_, trivial⟩
    · clear hsz
      have eS1_ := slot_of (a := a9) (s := 1) (v := .pointer (some ⟨g, 0, none⟩)) (hf 1 (by kernel_rfl))
      refine step_run (wanted_none rfl) (v := .pointer (some ⟨g, 0, none⟩)) (w' := W) ?_ (hK _ _ trivial trivial rfl (hJ.same 0 (by decide)))
      go_simp
    · clear hsz
      have eS1_ := slot_of (a := a9) (s := 6) (v := .pointer (some ⟨g, 0, none⟩)) (hv 0 (by kernel_rfl))
      obtain ⟨l0, l1, l2, l3, l4, l5⟩ := LO.out W (BW.out D W hJ)
      refine step_run (wanted_none rfl) (v := .int .i64 kind) (w' := W) ?_ (hK _ _ trivial trivial rfl (hJ.same 1 (by decide)))
      go_simp
    · clear hsz
      have eS1_ := slot_of (a := a9) (s := 1) (v := .pointer (some ⟨g, 0, none⟩)) (hf 1 (by kernel_rfl))
      refine step_run (wanted_none rfl) (v := .pointer (some ⟨g, 1, none⟩)) (w' := W) ?_ (hK _ _ trivial trivial rfl (hJ.same 2 (by decide)))
      go_simp
    · clear hsz
      have eS1_ := slot_of (a := a9) (s := 8) (v := .pointer (some ⟨g, 1, none⟩)) (hv 2 (by kernel_rfl))
      obtain ⟨l0, l1, l2, l3, l4, l5⟩ := LO.out W (BW.out D W hJ)
      refine step_run (wanted_none rfl) (v := .int .i64 frm) (w' := W) ?_ (hK _ _ trivial trivial rfl (hJ.same 3 (by decide)))
      go_simp
    · clear hsz
      have eS1_ := slot_of (a := a9) (s := 1) (v := .pointer (some ⟨g, 0, none⟩)) (hf 1 (by kernel_rfl))
      refine step_run (wanted_none rfl) (v := .pointer (some ⟨g, 2, none⟩)) (w' := W) ?_ (hK _ _ trivial trivial rfl (hJ.same 4 (by decide)))
      go_simp
    · clear hsz
      have eS1_ := slot_of (a := a9) (s := 10) (v := .pointer (some ⟨g, 2, none⟩)) (hv 4 (by kernel_rfl))
      obtain ⟨l0, l1, l2, l3, l4, l5⟩ := LO.out W (BW.out D W hJ)
      refine step_run (wanted_none rfl) (v := .int .i64 ask) (w' := W) ?_ (hK _ _ trivial trivial rfl (hJ.same 5 (by decide)))
      go_simp
    · clear hsz
      have eS1_ := slot_of (a := a9) (s := 1) (v := .pointer (some ⟨g, 0, none⟩)) (hf 1 (by kernel_rfl))
      refine step_run (wanted_none rfl) (v := .pointer (some ⟨g, 3, none⟩)) (w' := W) ?_ (hK _ _ trivial trivial rfl (hJ.same 6 (by decide)))
      go_simp
    · clear hsz
      have eS1_ := slot_of (a := a9) (s := 12) (v := .pointer (some ⟨g, 3, none⟩)) (hv 6 (by kernel_rfl))
      obtain ⟨l0, l1, l2, l3, l4, l5⟩ := LO.out W (BW.out D W hJ)
      refine step_run (wanted_none rfl) (v := .int .i64 err) (w' := W) ?_ (hK _ _ trivial trivial rfl (hJ.same 7 (by decide)))
      go_simp
    · clear hsz
      have eS1_ := slot_of (a := a9) (s := 1) (v := .pointer (some ⟨g, 0, none⟩)) (hf 1 (by kernel_rfl))
      refine step_run (wanted_none rfl) (v := .pointer (some ⟨g, 4, none⟩)) (w' := W) ?_ (hK _ _ trivial trivial rfl (hJ.same 8 (by decide)))
      go_simp
    · clear hsz
      have eS1_ := slot_of (a := a9) (s := 14) (v := .pointer (some ⟨g, 4, none⟩)) (hv 8 (by kernel_rfl))
      obtain ⟨l0, l1, l2, l3, l4, l5⟩ := LO.out W (BW.out D W hJ)
      refine step_run (wanted_none rfl) (v := .int .i64 for_) (w' := W) ?_ (hK _ _ trivial trivial rfl (hJ.same 9 (by decide)))
      go_simp
    · clear hsz
      have eS1_ := slot_of (a := a9) (s := 1) (v := .pointer (some ⟨g, 0, none⟩)) (hf 1 (by kernel_rfl))
      refine step_run (wanted_none rfl) (v := .pointer (some ⟨g, 5, none⟩)) (w' := W) ?_ (hK _ _ trivial trivial rfl (hJ.same 10 (by decide)))
      go_simp
    · clear hsz
      have eS1_ := slot_of (a := a9) (s := 16) (v := .pointer (some ⟨g, 5, none⟩)) (hv 10 (by kernel_rfl))
      obtain ⟨l0, l1, l2, l3, l4, l5⟩ := LO.out W (BW.out D W hJ)
      refine step_run (wanted_none rfl) (v := .int .i64 level) (w' := W) ?_ (hK _ _ trivial trivial rfl (hJ.same 11 (by decide)))
      go_simp
    · clear hsz
      have eS1_ := slot_of (a := a9) (s := 1) (v := .pointer (some ⟨g, 0, none⟩)) (hf 1 (by kernel_rfl))
      refine step_run (wanted_none rfl) (v := .pointer (some ⟨g, 6, none⟩)) (w' := W) ?_ (hK _ _ trivial trivial rfl (hJ.same 12 (by decide)))
      go_simp
    · clear hsz
      have eS1_ := slot_of (a := a9) (s := 18) (v := .pointer (some ⟨g, 6, none⟩)) (hv 12 (by kernel_rfl))
      refine step_run (wanted_none rfl) (v := .pointer (some ⟨g, 6, none⟩)) (w' := W) ?_ (hK _ _ trivial trivial rfl (hJ.same 13 (by decide)))
      go_simp
    · clear hsz
      have eS1_ := slot_of (a := a9) (s := 19) (v := .pointer (some ⟨g, 6, none⟩)) (hv 13 (by kernel_rfl))
      have hsb := slice_allBm g 6
      refine step_run (wanted_none rfl) (v := .slice (some ⟨g, 6, none⟩) 32 32) (w' := W) ?_ (hK _ _ trivial trivial rfl (hJ.same 14 (by decide)))
      go_simp
    · clear hsz
      have eS1_ := slot_of (a := a9) (s := 20) (v := .slice (some ⟨g, 6, none⟩) 32 32) (hv 14 (by kernel_rfl))
      have hcv := conv_strn (RK.out W (BW.out D W hJ)) 32 32 KL.out
      refine step_run (wanted_none rfl) (v := .string (strOf K)) (w' := W) ?_ (hK _ _ trivial trivial rfl (hJ.same 15 (by decide)))
      go_simp
    · clear hsz
      have eS1_ := slot_of (a := a9) (s := 1) (v := .pointer (some ⟨g, 0, none⟩)) (hf 1 (by kernel_rfl))
      refine step_run (wanted_none rfl) (v := .pointer (some ⟨g, 6, none⟩)) (w' := W) ?_ (hK _ _ trivial trivial rfl (hJ.same 16 (by decide)))
      go_simp
    · clear hsz
      have eS1_ := slot_of (a := a9) (s := 22) (v := .pointer (some ⟨g, 6, none⟩)) (hv 16 (by kernel_rfl))
      refine step_run (wanted_none rfl) (v := .pointer (some ⟨g, 38, none⟩)) (w' := W) ?_ (hK _ _ trivial trivial rfl (hJ.same 17 (by decide)))
      go_simp
    · clear hsz
      have eS1_ := slot_of (a := a9) (s := 23) (v := .pointer (some ⟨g, 38, none⟩)) (hv 17 (by kernel_rfl))
      obtain ⟨h0, h1, h2, h3⟩ := HI.out W (BW.out D W hJ)
      refine step_run (wanted_none rfl) (v := .slice sa nS sc) (w' := W) ?_ (hK _ _ trivial trivial rfl (hJ.same 18 (by decide)))
      go_simp
    · clear hsz
      have eS1_ := slot_of (a := a9) (s := 24) (v := .slice sa nS sc) (hv 18 (by kernel_rfl))
      have hcv := conv_strn (RS.out W (BW.out D W hJ)) nS sc HNS.out
      refine step_run (wanted_none rfl) (v := .string (strOf s)) (w' := W) ?_ (hK _ _ trivial trivial rfl (hJ.same 19 (by decide)))
      go_simp
    · clear hsz
      have eS1_ := slot_of (a := a9) (s := 21) (v := .string (strOf K)) (hv 15 (by kernel_rfl))
      have eS2_ := slot_of (a := a9) (s := 25) (v := .string (strOf s)) (hv 19 (by kernel_rfl))
      have eA_ := eval_of (a := a9) (s := 21) (v := .string (strOf K)) (hv 15 (by kernel_rfl))
      have eB_ := eval_of (a := a9) (s := 25) (v := .string (strOf s)) (hv 19 (by kernel_rfl))
      refine step_builtM (wanted_none rfl) 23 #[(0, .tmp 21), (1, .tmp 25)] rfl #[.string (strOf K), .string (strOf s)] ?_ ?_
      · simp only [List.map_toArray, List.map_cons, List.map_nil, eA_, eB_]
        exact built_rr _ _
      · exact hK _ _ trivial trivial rfl (hJ.same 20 (by decide))
    · clear hsz
      have eS1_ := slot_of (a := a9) (s := 1) (v := .pointer (some ⟨g, 0, none⟩)) (hf 1 (by kernel_rfl))
      refine step_run (wanted_none rfl) (v := .pointer (some ⟨g, 39, none⟩)) (w' := W) ?_ (hK _ _ trivial trivial rfl (hJ.same 21 (by decide)))
      go_simp
    · clear hsz
      have eS1_ := slot_of (a := a9) (s := 27) (v := .pointer (some ⟨g, 39, none⟩)) (hv 21 (by kernel_rfl))
      obtain ⟨h0, h1, h2, h3⟩ := HI.out W (BW.out D W hJ)
      refine step_run (wanted_none rfl) (v := .slice aa nA ac) (w' := W) ?_ (hK _ _ trivial trivial rfl (hJ.same 22 (by decide)))
      go_simp
    · clear hsz
      have eS1_ := slot_of (a := a9) (s := 7) (v := .int .i64 kind) (hv 1 (by kernel_rfl))
      have eS2_ := slot_of (a := a9) (s := 9) (v := .int .i64 frm) (hv 3 (by kernel_rfl))
      have eS3_ := slot_of (a := a9) (s := 11) (v := .int .i64 ask) (hv 5 (by kernel_rfl))
      have eS4_ := slot_of (a := a9) (s := 13) (v := .int .i64 err) (hv 7 (by kernel_rfl))
      have eS5_ := slot_of (a := a9) (s := 15) (v := .int .i64 for_) (hv 9 (by kernel_rfl))
      have eS6_ := slot_of (a := a9) (s := 17) (v := .int .i64 level) (hv 11 (by kernel_rfl))
      have eS7_ := slot_of (a := a9) (s := 26) (v := .agg #[.string (strOf K), .string (strOf s)]) (hv 20 (by kernel_rfl))
      have eS8_ := slot_of (a := a9) (s := 28) (v := .slice aa nA ac) (hv 22 (by kernel_rfl))
      have f7 := eval_of (a := a9) (s := 7) (v := .int .i64 kind) (hv 1 (by kernel_rfl))
      have f9 := eval_of (a := a9) (s := 9) (v := .int .i64 frm) (hv 3 (by kernel_rfl))
      have f11 := eval_of (a := a9) (s := 11) (v := .int .i64 ask) (hv 5 (by kernel_rfl))
      have f13 := eval_of (a := a9) (s := 13) (v := .int .i64 err) (hv 7 (by kernel_rfl))
      have f15 := eval_of (a := a9) (s := 15) (v := .int .i64 for_) (hv 9 (by kernel_rfl))
      have f17 := eval_of (a := a9) (s := 17) (v := .int .i64 level) (hv 11 (by kernel_rfl))
      have f26 := eval_of (a := a9) (s := 26) (v := .agg #[.string (strOf K), .string (strOf s)]) (hv 20 (by kernel_rfl))
      have f28 := eval_of (a := a9) (s := 28) (v := .slice aa nA ac) (hv 22 (by kernel_rfl))
      refine step_builtM (wanted_none rfl) 28 #[(0, .tmp 7), (1, .tmp 9), (2, .tmp 11), (3, .tmp 13), (4, .tmp 15), (5, .tmp 17), (6, .tmp 26), (7, .tmp 28)] rfl (rmC (⟨kind, frm, ask, err, for_, level, K, s, ats, aa, ac, [], none, 0, [], none, 0⟩ : RmV)) ?_ ?_
      · simp only [List.map_toArray, List.map_cons, List.map_nil, f7, f9, f11, f13, f15, f17, f26, f28]
        have hb := built_from kind frm ask err for_ level (strOf K) (strOf s) aa nA ac
        rw [hb, ← HNA.out]
        rfl
      · exact hK _ _ trivial trivial rfl (hJ.same 23 (by decide))
    · clear hsz
      obtain ⟨hE, hd⟩ := hJ.exat 0 (by decide) hL (fun j hj e => by omega)
      obtain rfl : wd = W := by simpa using hE
      have hwB := HWB.out
      have hsz := SD.out
      have hz := zRm
      refine step_run (wanted_none rfl) (v := .pointer (some ⟨g + 2, 0, none⟩)) (w' := wB) ?_ (hK _ _ trivial trivial rfl (ChJ.next 0 (by decide) (by decide) hd (show ([wd, wB, wC] : List World)[1]? = some wB from rfl)))
      go_simp
    · clear hsz
      have eS1_ := slot_of (a := a9) (s := 3) (v := .pointer (some ⟨g + 2, 0, none⟩)) (hv 24 (by kernel_rfl))
      have eS2_ := slot_of (a := a9) (s := 29) (v := .agg (rmC (⟨kind, frm, ask, err, for_, level, K, s, ats, aa, ac, [], none, 0, [], none, 0⟩ : RmV))) (hv 23 (by kernel_rfl))
      obtain ⟨hE, hd⟩ := hJ.exat 1 (by decide) hL (fun j hj e => by have hj0 : j = 0 := (by omega); subst hj0; exact hW 24 (by kernel_rfl))
      obtain rfl : wB = W := by simpa using hE
      refine step_store_rowX (wanted_none rfl) 28 (.tmp 3) (.tmp 29) rfl (g + 2) (rmC (⟨kind, frm, ask, err, for_, level, K, s, ats, aa, ac, [], none, 0, [], none, 0⟩ : RmV)) (eval_of (hv 24 (by kernel_rfl))) (eval_of (hv 23 (by kernel_rfl))) 28 (rmC rmZ) PB.out (iRm _) rfl (rmC_one _) ?_
      rw [HWC.out]
      exact hK undef _ trivial trivial trivial (ChJ.next 1 (by decide) (by decide) hd (show ([wd, wB, wC] : List World)[2]? = some wC from rfl))
  · intro f9 w6 hC6 hv6 D6 hD6 hJ6
    obtain ⟨a6, hJ, _⟩ := hJ6
    have hE6 := hJ.last 1 (by decide) rfl (hD6 25 (by decide))
    obtain rfl : wC = w6 := by simpa [ExW] using hE6
    have e3 : f9 3 = .pointer (some ⟨g + 2, 0, none⟩) := hv6 24 (by decide)
    have hno := hv6
    clear hv6 hD6 hJ hC6 hE6 hno
    simp only [framed, List.foldl_cons, List.foldl_nil, List.setIfInBounds_toArray, List.set_cons_succ, List.set_cons_zero]
    rw [e3]
    clear e3
    refine hK9 _ _ ?_
    clear hK9 hwB hwC hwd
    obtain ⟨gp, hgp⟩ : ∃ x, g + 2 = x := ⟨_, rfl⟩
    have GP := hidm_ hgp.symm
    have PC0 := hidm_ (show Bk wC gp 28 (rmC (⟨kind, frm, ask, err, for_, level, K, s, ats, aa, ac, [], none, 0, [], none, 0⟩ : RmV)) by rw [← hgp]; exact PC.out)
    have BC0 := BC
    rw [hgp]
    clear hgp hz PB PC GC BB BD SD BC BW HWB HWC
    go_wp2
    go_loopw [4] (fun i wr => ∃ (k : Nat) (L : List (List UInt8)) (A1 : Option Addr) (c1 : Nat), i = .int .i64 k ∧ k ≤ nD ∧ Hid (L.length = k) ∧ Hid (L = digs.take k) ∧ Hid (OwnG strE 9 wr (g + 2) (.slice A1 k c1) L) ∧ Hid (Bk wr gp 28 (rmC (⟨kind, frm, ask, err, for_, level, K, s, ats, aa, ac, L, A1, c1, [], none, 0⟩ : RmV))) ∧ Hid (Below (g + 2) w2 wr)) (fun i _ => nD - (intOf i).toNat)
    case atStart => exact ⟨0, [], none, 0, rfl, Nat.zero_le _, hidm_ rfl, hidm_ rfl, hidm_ (OwnG.nil_ _ _ _), PC0, BC0⟩
    case round =>
      obtain ⟨k, L, A1, c1, rfl, hk, LK, LE, HO, HP, HBW⟩ := hrel
      clear PC0 BC0
      obtain ⟨q0, q1, q2, q3⟩ := HI.out wr HBW.out
      by_cases hlt : k < nD
      · have tl : (k : Int) < (nD : Int) := by omega
        have hlk : k < digs.length := by rw [HND.out]; exact hlt
        obtain ⟨bb, off, hA, hbl, hcb⟩ := HQ.out.digs (show 0 < digs.length by rw [HND.out]; omega)
        have hA : da = some ⟨bb, off, none⟩ := hA
        have DA := hidm_ hA
        have HZM := hidm_ (List.getElem_mem hlk)
        obtain ⟨z, hz9⟩ : ∃ z, digs[k] = z := ⟨_, rfl⟩
        rw [hz9] at HZM
        have LE2 := hidm_ (show L ++ [z] = digs.take (k + 1) by rw [LE.out, List.take_succ_eq_append_getElem hlk, hz9])
        have ZL := hidm_ (HQ.out.d32 z HZM.out)
        have RZ := hidm_ (show ∀ W, Below (g + 2) w2 W → Rd W g (some ⟨bb, off + k * 32, none⟩) z from fun W h => fun hn => ⟨bb, off + k * 32, rfl, hbl, fun j hj => by
          have hx := hcb k hlk j (by show j < 32; have := ZL.out; omega)
          rw [hz9] at hx
          refine ((h.cell (p := ⟨bb, _, none⟩) (show bb < g + 2 by omega)).trans ((X2.out.cell (p := ⟨bb, _, none⟩) hbl).trans hx)).trans ?_
          show (rowOf (pad32 z)).toList[j]? = _
          rw [pad32_id ZL.out, Array.getElem?_toList]
          exact rowOf_at z j hj⟩)
        go_upto_region 5 with fail
        rename_i K7 hK7
        clear hA hz9 hcb q0 q1 q2 q3
        obtain ⟨wd, hwd⟩ : ∃ W, wr.drew = W := ⟨_, rfl⟩
        have BD := hidm_ (show Below (g + 2) w2 wd by rw [← hwd]; exact below_drewN HBW.out 1)
        have OD := hidm_ (show OwnG strE 9 wd (g + 2) (.slice A1 k c1) L by rw [← hwd]; exact HO.out)
        have PD := hidm_ (show Bk wd gp 28 (rmC (⟨kind, frm, ask, err, for_, level, K, s, ats, aa, ac, L, A1, c1, [], none, 0⟩ : RmV)) by rw [← hwd]; exact HP.out)
        obtain ⟨wB, hwB⟩ : ∃ x, wd.alloc (.cells #[.string (strOf z)] 9) = x := ⟨_, rfl⟩
        have KB := hidm_ (show Bk wB wd.heap.size 9 (strE.c z).toArray by rw [← hwB]; exact Bk.new wd _ _)
        have B6 := hidm_ (show Below wd.heap.size wd wB by rw [← hwB]; exact (Below.refl _ _).alloc (Nat.le_refl _) _)
        have O6 := OD.out.below B6.out (Nat.le_refl _)
        have hsW := hidm_ (show g + 2 ≤ wB.heap.size by have := BD.out.size; have := B6.out.size; have := S2.out; omega)
        obtain ⟨v6, wC, hrun, g1, g2, g3⟩ := run_appG Try.underlying25 infoStr O6 (RdG.of_block KB.out KB.out.lt) 1 1 rfl 25 (by rw [LK.out]; omega) (by decide) hsW.out
        obtain ⟨A6, c6, hv6, _⟩ := g1.form
        rw [List.length_append, LK.out] at hv6
        have HV6 := hidm_ (show v6 = .slice A6 (k + 1) c6 from hv6)
        have OC := hidm_ (show OwnG strE 9 wC (g + 2) (.slice A6 (k + 1) c6) (L ++ [z]) by rw [← HV6.out]; exact g1)
        have HNE := hidm_ (show some gp ≠ (Value.slice A1 k c1).ownBlock from fun e => OD.out.type_ne PD.out (by decide) e.symm)
        have PC := hidm_ (show Bk wC gp 28 (rmC (⟨kind, frm, ask, err, for_, level, K, s, ats, aa, ac, L, A1, c1, [], none, 0⟩ : RmV)) from (PD.out.below B6.out PD.out.lt).grown g2 HNE.out)
        have BB := hidm_ (show Below (g + 2) w2 wB from BD.out.trans (B6.out.mono (by have := BD.out.size; have := S2.out; omega)))
        have BC := hidm_ (show Below (g + 2) w2 wC from BB.out.grown g2 (by have := hsW.out; omega) (fun j hj => by have := (O6.lt j hj).1; omega))
        obtain ⟨wD, hwD⟩ : ∃ x, wC.setCell ⟨gp, 9, none⟩ v6 = x := ⟨_, rfl⟩
        have BDD := hidm_ (show Below (g + 2) w2 wD by rw [← hwD]; exact BC.out.trans ((Untouched.set (F := [gp]) gp 9 (by simp) v6).below (fun j hj => by rw [List.mem_singleton.1 hj]; have := GP.out; omega) (by have := PC.out.lt; have := GP.out; omega)))
        have PDD := hidm_ (show Bk wD gp 28 (rmC (⟨kind, frm, ask, err, for_, level, K, s, ats, aa, ac, L ++ [z], A6, c6, [], none, 0⟩ : RmV)) by
          rw [← hwD, HV6.out]
          have k9 := PC.out.set_ 9 (.slice A6 (k + 1) c6)
          have e9 : (rmC (⟨kind, frm, ask, err, for_, level, K, s, ats, aa, ac, L, A1, c1, [], none, 0⟩ : RmV)).setIfInBounds 9 (.slice A6 (k + 1) c6) = rmC (⟨kind, frm, ask, err, for_, level, K, s, ats, aa, ac, L ++ [z], A6, c6, [], none, 0⟩ : RmV) := by
            unfold rmC
            simp [LK.out]
          rw [e9] at k9
          exact k9)
        have ODD := hidm_ (show OwnG strE 9 wD (g + 2) (.slice A6 (k + 1) c6) (L ++ [z]) by
          rw [← hwD]
          exact OC.out.keep (Untouched.set (F := [gp]) gp 9 (by simp) v6) (fun j hj hm => OC.out.type_ne PC.out (by decide) (by rw [hj, List.mem_singleton.1 hm])))
        have HRUN := hidm_ hrun
        have HWB := hidm_ hwB
        have HWD := hidm_ hwD
        have BW := hidm_ (show ∀ (D : Nat → Bool) (W : World), ChJ [8, 9, 11] (ExW [wd, wB, wC, wD]) D W → Below (g + 2) w2 W from fun D W h => by
          have h := h.ex
          simp only [List.mem_cons, List.not_mem_nil, or_false] at h
          rcases h with rfl | rfl | rfl | rfl
          · exact BD.out
          · exact BB.out
          · exact BC.out
          · exact BDD.out)
        have CP := hidm_ (show ∀ (D : Nat → Bool) (W : World), (ChJ [8, 9, 11] (ExW [wd, wB, wC, wD]) D W ∧ (D 9 = true → D 1 = true)) → D 1 = false → W.cell? ⟨gp, 9, none⟩ = some (.slice A1 k c1) from fun D W h hL => by
          have h9 : D 9 = false := by
            cases e : D 9 with
            | false => rfl
            | true => rw [h.2 e] at hL; cases hL
          obtain ⟨m, hm, hd, hs⟩ := h.1
          have h1 := hd 1 (by decide)
          have hm1 : ¬ 1 < m := fun hlt => by rw [decide_eq_true hlt] at h1; exact absurd (h9.symm.trans h1) (by decide)
          have hzz : (rmC (⟨kind, frm, ask, err, for_, level, K, s, ats, aa, ac, L, A1, c1, [], none, 0⟩ : RmV))[9]? = some (.slice A1 k c1) := by show some (Value.slice A1 L.length c1) = _; rw [LK.out]
          rcases (by omega : m = 0 ∨ m = 1) with rfl | rfl
          · have e : wd = W := by simpa [ExW] using hs
            rw [← e]
            exact (PD.out.cell 9).trans hzz
          · have e : wB = W := by simpa [ExW] using hs
            rw [← e]
            exact ((PD.out.below B6.out PD.out.lt).cell 9).trans hzz)
        clear hwB hwD g1 g2 g3 hrun hv6 HO HP HBW
        refine region_byJF [37, 38, 39, 40, 41, 42, 43, 44, 45, 46, 47] (fun _ => True) (fun _ _ => True) (fun jR_ vR_ (wR_ : World) => (match jR_ with | 0 => vR_ = .pointer (some ⟨gp, 9, none⟩) | 1 => vR_ = .slice A1 k c1 | 2 => vR_ = .pointer (some ⟨g, 40, none⟩) | 3 => vR_ = .slice (some ⟨bb, off, none⟩) nD dc | 4 => vR_ = .int .i64 (k : Int) | 5 => vR_ = .pointer (some ⟨bb, off + k * 32, none⟩) | 6 => vR_ = .slice (some ⟨bb, off + k * 32, none⟩) 32 32 | 7 => vR_ = .string (strOf z) | 8 => vR_ = .slice (some ⟨wd.heap.size, 0, none⟩) 1 1 | 9 => vR_ = v6 | 10 => vR_ = .pointer (some ⟨gp, 9, none⟩) | _ => True)) (fun D _ W => ChJ [8, 9, 11] (ExW [wd, wB, wC, wD]) D W ∧ (D 9 = true → D 1 = true)) (by kernel_rfl) (by kernel_rfl) (by kernel_rfl) (by kernel_rfl) (fun j v w w' hT hr => hr) (fun j v w hlt hj _ => ?_) trivial ?_ ⟨ChJ.start (show ([wd, wB, wC, wD] : List World)[0]? = some _ from by rw [← hwd]; rfl), fun e => Bool.noConfusion e⟩ ?_
        · rcases j with _ | _ | _ | _ | _ | _ | _ | _ | _ | _ | _ | _ | j
          all_goals first
            | (exfalso; simp [dstOf] at hj; done)
            | trivial
        · refine ⟨fun D a9 W hC hd hsz hf hv hJ hL hW K8 hK => ?_, fun D a9 W hC hd hsz hf hv hJ hL hW K8 hK => ?_, fun D a9 W hC hd hsz hf hv hJ hL hW K8 hK => ?_, fun D a9 W hC hd hsz hf hv hJ hL hW K8 hK => ?_, fun D a9 W hC hd hsz hf hv hJ hL hW K8 hK => ?_, fun D a9 W hC hd hsz hf hv hJ hL hW K8 hK => ?_, fun D a9 W hC hd hsz hf hv hJ hL hW K8 hK => ?_, fun D a9 W hC hd hsz hf hv hJ hL hW K8 hK => ?_, fun D a9 W hC hd hsz hf hv hJ hL hW K8 hK => ?_, fun D a9 W hC hd hsz hf hv hJ hL hW K8 hK => ?_, fun D a9 W hC hd hsz hf hv hJ hL hW K8 hK => ?_, fun D a9 W hC hd hsz hf hv hJ hL hW K8 hK => ?_, trivial⟩
          · clear hsz
            have eS1_ := slot_of (a := a9) (s := 3) (v := .pointer (some ⟨gp, 0, none⟩)) (hf 3 (by kernel_rfl))
            refine step_run (wanted_none rfl) (v := .pointer (some ⟨gp, 9, none⟩)) (w' := W) ?_ (hK _ _ trivial trivial rfl (⟨hJ.1.same 0 (by decide), ld_same hJ.2 0 (by decide)⟩))
            go_simp
          · clear hsz
            have eS1_ := slot_of (a := a9) (s := 37) (v := .pointer (some ⟨gp, 9, none⟩)) (hv 0 (by kernel_rfl))
            have hcp := CP.out D W hJ hL
            refine step_run (wanted_none rfl) (v := .slice A1 k c1) (w' := W) ?_ (hK _ _ trivial trivial rfl (⟨hJ.1.same 1 (by decide), ld_same hJ.2 1 (by decide)⟩))
            go_simp
          · clear hsz
            have eS1_ := slot_of (a := a9) (s := 1) (v := .pointer (some ⟨g, 0, none⟩)) (hf 1 (by kernel_rfl))
            refine step_run (wanted_none rfl) (v := .pointer (some ⟨g, 40, none⟩)) (w' := W) ?_ (hK _ _ trivial trivial rfl (⟨hJ.1.same 2 (by decide), ld_same hJ.2 2 (by decide)⟩))
            go_simp
          · clear hsz
            have eS1_ := slot_of (a := a9) (s := 39) (v := .pointer (some ⟨g, 40, none⟩)) (hv 2 (by kernel_rfl))
            obtain ⟨h0, h1, h2, h3⟩ := HI.out W (BW.out D W hJ.1)
            rw [DA.out] at h2
            refine step_run (wanted_none rfl) (v := .slice (some ⟨bb, off, none⟩) nD dc) (w' := W) ?_ (hK _ _ trivial trivial rfl (⟨hJ.1.same 3 (by decide), ld_same hJ.2 3 (by decide)⟩))
            go_simp
          · clear hsz
            have eS1_ := slot_of (a := a9) (s := 4) (v := .int .i64 (k : Int)) (hf 4 (by kernel_rfl))
            refine step_run (wanted_none rfl) (v := .int .i64 (k : Int)) (w' := W) ?_ (hK _ _ trivial trivial rfl (⟨hJ.1.same 4 (by decide), ld_same hJ.2 4 (by decide)⟩))
            go_simp
          · clear hsz
            have eS1_ := slot_of (a := a9) (s := 40) (v := .slice (some ⟨bb, off, none⟩) nD dc) (hv 3 (by kernel_rfl))
            have eS2_ := slot_of (a := a9) (s := 41) (v := .int .i64 (k : Int)) (hv 4 (by kernel_rfl))
            refine step_run (wanted_none rfl) (v := .pointer (some ⟨bb, off + k * 32, none⟩)) (w' := W) ?_ (hK _ _ trivial trivial rfl (⟨hJ.1.same 5 (by decide), ld_same hJ.2 5 (by decide)⟩))
            go_simp
          · clear hsz
            have eS1_ := slot_of (a := a9) (s := 42) (v := .pointer (some ⟨bb, off + k * 32, none⟩)) (hv 5 (by kernel_rfl))
            have hsb := slice_all32m bb (off + k * 32)
            refine step_run (wanted_none rfl) (v := .slice (some ⟨bb, off + k * 32, none⟩) 32 32) (w' := W) ?_ (hK _ _ trivial trivial rfl (⟨hJ.1.same 6 (by decide), ld_same hJ.2 6 (by decide)⟩))
            go_simp
          · clear hsz
            have eS1_ := slot_of (a := a9) (s := 43) (v := .slice (some ⟨bb, off + k * 32, none⟩) 32 32) (hv 6 (by kernel_rfl))
            have hcv := conv_strn (RZ.out W (BW.out D W hJ.1)) 32 32 ZL.out
            refine step_run (wanted_none rfl) (v := .string (strOf z)) (w' := W) ?_ (hK _ _ trivial trivial rfl (⟨hJ.1.same 7 (by decide), ld_same hJ.2 7 (by decide)⟩))
            go_simp
          · clear hsz
            have eS1_ := slot_of (a := a9) (s := 44) (v := .string (strOf z)) (hv 7 (by kernel_rfl))
            obtain ⟨hE, hd⟩ := hJ.1.exat 0 (by decide) hL (fun j hj e => by omega)
            obtain rfl : wd = W := by simpa using hE
            refine step_run (wanted_none rfl) (v := .slice (some ⟨wd.heap.size, 0, none⟩) 1 1) (w' := wB) ?_ (hK _ _ trivial trivial rfl ⟨ChJ.next 0 (by decide) (by decide) hd (show ([wd, wB, wC, wD] : List World)[1]? = some wB from rfl), ld_same hJ.2 _ (by decide)⟩)
            have hwB := HWB.out
            go_simp
          · clear hsz
            have eS1_ := slot_of (a := a9) (s := 38) (v := .slice A1 k c1) (hv 1 (by kernel_rfl))
            have eS2_ := slot_of (a := a9) (s := 45) (v := .slice (some ⟨wd.heap.size, 0, none⟩) 1 1) (hv 8 (by kernel_rfl))
            obtain ⟨hE, hd⟩ := hJ.1.exat 1 (by decide) hL (fun j hj e => by have hj0 : j = 0 := (by omega); subst hj0; exact hW 8 (by kernel_rfl))
            obtain rfl : wB = W := by simpa using hE
            have hrun := HRUN.out
            refine step_run (wanted_none rfl) (v := v6) (w' := wC) ?_ (hK _ _ trivial trivial rfl ⟨ChJ.next 1 (by decide) (by decide) hd (show ([wd, wB, wC, wD] : List World)[2]? = some wC from rfl), fun _ => ld_at (hW 1 (by kernel_rfl))⟩)
            unfold execOp
            simp only [resolve, invoke, builtin, Sem.run_bind, Sem.run_pure, Result.andThen_ok, List.map_toArray, List.map_cons, List.map_nil, eval_of (hv 1 (by kernel_rfl)), eval_of (hv 8 (by kernel_rfl)), hrun]
          · clear hsz
            have eS1_ := slot_of (a := a9) (s := 3) (v := .pointer (some ⟨gp, 0, none⟩)) (hf 3 (by kernel_rfl))
            refine step_run (wanted_none rfl) (v := .pointer (some ⟨gp, 9, none⟩)) (w' := W) ?_ (hK _ _ trivial trivial rfl (⟨hJ.1.same 10 (by decide), ld_same hJ.2 10 (by decide)⟩))
            go_simp
          · clear hsz
            have eS1_ := slot_of (a := a9) (s := 47) (v := .pointer (some ⟨gp, 9, none⟩)) (hv 10 (by kernel_rfl))
            have eS2_ := slot_of (a := a9) (s := 46) (v := v6) (hv 9 (by kernel_rfl))
            obtain ⟨hE, hd⟩ := hJ.1.exat 2 (by decide) hL (fun j hj e => by have hj0 : j = 1 := (by omega); subst hj0; exact hW 9 (by kernel_rfl))
            obtain rfl : wC = W := by simpa using hE
            have hcz := PC.out.cell 9
            have hfz := PC.out.frozen 9
            have hzz : (rmC (⟨kind, frm, ask, err, for_, level, K, s, ats, aa, ac, L, A1, c1, [], none, 0⟩ : RmV))[9]? = some (.slice A1 k c1) := by show some (Value.slice A1 L.length c1) = _; rw [LK.out]
            rw [hzz] at hcz
            refine step_skip (wanted_none rfl) (w' := wD) ?_ (hK undef _ trivial trivial trivial ⟨ChJ.next 2 (by decide) (by decide) hd (show ([wd, wB, wC, wD] : List World)[3]? = some wD from rfl), ld_same hJ.2 _ (by decide)⟩)
            have hwD := HWD.out
            rw [HV6.out] at hwD eS2_
            go_simp
        · intro f9 w6 hC6 hv6 D6 hD6 hJ6
          obtain ⟨a6, hJ, _⟩ := hJ6
          have hE6 := hJ.1.last 2 (by decide) rfl (hD6 11 (by decide))
          obtain rfl : wD = w6 := by simpa [ExW] using hE6
          clear hv6 hD6 hJ hC6 hE6
          simp only [framed, List.foldl_cons, List.foldl_nil, List.setIfInBounds_toArray, List.set_cons_succ, List.set_cons_zero]
          refine hK7 _ _ ?_
          go_wp2
          go_roundw
          case rel => exact ⟨k + 1, L ++ [z], A6, c6, by go_num, by omega, hidm_ (by rw [List.length_append, LK.out]; rfl), LE2, ODD, PDD, BDD⟩
          case measure => simp [intOf]; omega
      · have tl : ¬ (k : Int) < (nD : Int) := by omega
        obtain rfl : nD = k := by omega
        have hLD : digs = L := by rw [LE.out, ← HND.out, List.take_length]
        subst hLD
        obtain ⟨Ad, hAd⟩ : ∃ x, A1 = x := ⟨_, rfl⟩
        obtain ⟨cd, hcd⟩ : ∃ x, c1 = x := ⟨_, rfl⟩
        rw [hAd, hcd] at HO HP
        have HDg := HO
        have HP1 := HP
        have HBW1 := HBW
        clear HO HP HBW hAd hcd LE LK
        go_wp2
        clear q0 q1 q2 q3
        go_loopw [5] (fun i wr => ∃ (k : Nat) (L : List KrV) (A1 : Option Addr) (c1 : Nat), i = .int .i64 k ∧ k ≤ nR ∧ Hid (L.length = k) ∧ Hid (L = (rows.take k).map (·.r)) ∧ Hid (OwnG rrE 23 wr (g + 2) (.slice A1 k c1) L) ∧ Hid (Bk wr gp 28 (rmC (⟨kind, frm, ask, err, for_, level, K, s, ats, aa, ac, digs, Ad, cd, L, A1, c1⟩ : RmV))) ∧ Hid (Below (g + 2) w2 wr) ∧ Hid (OwnG strE 9 wr (g + 2) (.slice Ad nD cd) digs)) (fun i _ => nR - (intOf i).toNat)
        case atStart => exact ⟨0, [], none, 0, rfl, Nat.zero_le _, hidm_ rfl, hidm_ rfl, hidm_ (OwnG.nil_ _ _ _), HP1, HBW1, HDg⟩
        case round =>
          obtain ⟨k, L, A1, c1, rfl, hk, LK, LE, HO, HP, HBW, HDG⟩ := hrel
          clear HP1 HBW1 HDg
          obtain ⟨q0, q1, q2, q3⟩ := HI.out wr HBW.out
          by_cases hlt : k < nR
          · have tl : (k : Int) < (nR : Int) := by omega
            have hlk : k < rows.length := by rw [HNR.out]; exact hlt
            obtain ⟨bb, off, hA, hbl, hcb⟩ := HQ.out.rows (show 0 < rows.length by rw [HNR.out]; omega)
            have hA : ra = some ⟨bb, off, none⟩ := hA
            have DA := hidm_ hA
            have HZM := hidm_ (List.getElem_mem hlk)
            obtain ⟨z, hz9⟩ : ∃ z, rows[k] = z := ⟨_, rfl⟩
            rw [hz9] at HZM
            have LE2 := hidm_ (show L ++ [z.r] = (rows.take (k + 1)).map (·.r) by rw [LE.out, List.take_succ_eq_append_getElem hlk, hz9]; simp)
            have ZK := hidm_ (HQ.out.rok z HZM.out)
            have ZL := hidm_ ZK.out.key
            obtain ⟨zs, hzs⟩ : ∃ n, z.r.set.length = n := ⟨_, rfl⟩
            have ZS := hidm_ hzs
            clear hzs
            have CR := hidm_ (show ∀ W, Below (g + 2) w2 W → ∀ j, j < 33 → W.cell? ⟨bb, off + k * 33 + j, none⟩ = (krC z).toArray[j]? from fun W h j hj => by
              have hx := hcb k hlk j (by exact hj)
              rw [hz9] at hx
              refine ((h.cell (p := ⟨bb, _, none⟩) (show bb < g + 2 by omega)).trans ((X2.out.cell (p := ⟨bb, _, none⟩) hbl).trans hx)).trans ?_
              show (krC (padR z))[j]? = _
              rw [padR_id ZL.out, List.getElem?_toArray])
            have RZ := hidm_ (show ∀ W, Below (g + 2) w2 W → Rd W g (some ⟨bb, off + k * 33, none⟩) z.r.key from fun W h => fun hn => ⟨bb, off + k * 33, rfl, hbl, fun j hj => by
              rw [CR.out W h j (by have := ZL.out; omega), krC_key _ ZL.out j (by have := ZL.out; omega)]
              exact rowOf_at _ j hj⟩)
            have CS := hidm_ (show ∀ W, Below (g + 2) w2 W → W.cell? ⟨bb, off + k * 33 + 32, none⟩ = some (.slice z.sa zs z.sc) from fun W h => by rw [CR.out W h 32 (by omega), krC_last _ ZL.out, ZS.out])
            have RT := hidm_ (show ∀ W, Below (g + 2) w2 W → Rd W g z.sa z.r.set from fun W h => (ZK.out.rd.below X2.out).below (h.mono (by omega)))
            go_upto_region 9 with fail
            rename_i K7 hK7
            clear hA hz9 hcb q0 q1 q2 q3
            obtain ⟨wd, hwd⟩ : ∃ W, wr.drew = W := ⟨_, rfl⟩
            have BD := hidm_ (show Below (g + 2) w2 wd by rw [← hwd]; exact below_drewN HBW.out 1)
            have OD := hidm_ (show OwnG rrE 23 wd (g + 2) (.slice A1 k c1) L by rw [← hwd]; exact HO.out)
            have PD := hidm_ (show Bk wd gp 28 (rmC (⟨kind, frm, ask, err, for_, level, K, s, ats, aa, ac, digs, Ad, cd, L, A1, c1⟩ : RmV)) by rw [← hwd]; exact HP.out)
            obtain ⟨wB, hwB⟩ : ∃ x, wd.alloc (.cells #[.string (strOf z.r.key), .string (strOf z.r.set)] 23) = x := ⟨_, rfl⟩
            have KB := hidm_ (show Bk wB wd.heap.size 23 (rrE.c z.r).toArray by rw [← hwB]; exact Bk.new wd _ _)
            have B6 := hidm_ (show Below wd.heap.size wd wB by rw [← hwB]; exact (Below.refl _ _).alloc (Nat.le_refl _) _)
            have O6 := OD.out.below B6.out (Nat.le_refl _)
            have hsW := hidm_ (show g + 2 ≤ wB.heap.size by have := BD.out.size; have := B6.out.size; have := S2.out; omega)
            obtain ⟨v6, wC, hrun, g1, g2, g3⟩ := run_appG Try.underlying26 infoRr O6 (RdG.of_block KB.out KB.out.lt) 1 1 rfl 26 (by rw [LK.out]; omega) (by decide) hsW.out
            obtain ⟨A6, c6, hv6, _⟩ := g1.form
            rw [List.length_append, LK.out] at hv6
            have HV6 := hidm_ (show v6 = .slice A6 (k + 1) c6 from hv6)
            have OC := hidm_ (show OwnG rrE 23 wC (g + 2) (.slice A6 (k + 1) c6) (L ++ [z.r]) by rw [← HV6.out]; exact g1)
            have HNE := hidm_ (show some gp ≠ (Value.slice A1 k c1).ownBlock from fun e => OD.out.type_ne PD.out (by decide) e.symm)
            have PC := hidm_ (show Bk wC gp 28 (rmC (⟨kind, frm, ask, err, for_, level, K, s, ats, aa, ac, digs, Ad, cd, L, A1, c1⟩ : RmV)) from (PD.out.below B6.out PD.out.lt).grown g2 HNE.out)
            have BB := hidm_ (show Below (g + 2) w2 wB from BD.out.trans (B6.out.mono (by have := BD.out.size; have := S2.out; omega)))
            have BC := hidm_ (show Below (g + 2) w2 wC from BB.out.grown g2 (by have := hsW.out; omega) (fun j hj => by have := (O6.lt j hj).1; omega))
            obtain ⟨wD, hwD⟩ : ∃ x, wC.setCell ⟨gp, 10, none⟩ v6 = x := ⟨_, rfl⟩
            have BDD := hidm_ (show Below (g + 2) w2 wD by rw [← hwD]; exact BC.out.trans ((Untouched.set (F := [gp]) gp 10 (by simp) v6).below (fun j hj => by rw [List.mem_singleton.1 hj]; have := GP.out; omega) (by have := PC.out.lt; have := GP.out; omega)))
            have PDD := hidm_ (show Bk wD gp 28 (rmC (⟨kind, frm, ask, err, for_, level, K, s, ats, aa, ac, digs, Ad, cd, L ++ [z.r], A6, c6⟩ : RmV)) by
              rw [← hwD, HV6.out]
              have k9 := PC.out.set_ 10 (.slice A6 (k + 1) c6)
              have e9 : (rmC (⟨kind, frm, ask, err, for_, level, K, s, ats, aa, ac, digs, Ad, cd, L, A1, c1⟩ : RmV)).setIfInBounds 10 (.slice A6 (k + 1) c6) = rmC (⟨kind, frm, ask, err, for_, level, K, s, ats, aa, ac, digs, Ad, cd, L ++ [z.r], A6, c6⟩ : RmV) := by
                unfold rmC
                simp [LK.out]
              rw [e9] at k9
              exact k9)
            have ODD := hidm_ (show OwnG rrE 23 wD (g + 2) (.slice A6 (k + 1) c6) (L ++ [z.r]) by
              rw [← hwD]
              exact OC.out.keep (Untouched.set (F := [gp]) gp 10 (by simp) v6) (fun j hj hm => OC.out.type_ne PC.out (by decide) (by rw [hj, List.mem_singleton.1 hm])))
            have HRUN := hidm_ hrun
            have HWB := hidm_ hwB
            have HWD := hidm_ hwD
            have BW := hidm_ (show ∀ (D : Nat → Bool) (W : World), ChJ [17, 18, 20] (ExW [wd, wB, wC, wD]) D W → Below (g + 2) w2 W from fun D W h => by
              have h := h.ex
              simp only [List.mem_cons, List.not_mem_nil, or_false] at h
              rcases h with rfl | rfl | rfl | rfl
              · exact BD.out
              · exact BB.out
              · exact BC.out
              · exact BDD.out)
            have DGC := hidm_ (show OwnG strE 9 wD (g + 2) (.slice Ad nD cd) digs by
              have d1 : OwnG strE 9 wd (g + 2) (.slice Ad nD cd) digs := by rw [← hwd]; exact HDG.out
              have d2 := d1.below B6.out (Nat.le_refl _)
              have d3 := d2.kept g2 (own_apart d2 O6 (by decide))
              rw [← hwD]
              exact d3.keep (Untouched.set (F := [gp]) gp 10 (by simp) v6) (fun j hj hm => d3.type_ne PC.out (by decide) (by rw [hj, List.mem_singleton.1 hm])))
            have CP := hidm_ (show ∀ (D : Nat → Bool) (W : World), (ChJ [17, 18, 20] (ExW [wd, wB, wC, wD]) D W ∧ (D 18 = true → D 1 = true)) → D 1 = false → W.cell? ⟨gp, 10, none⟩ = some (.slice A1 k c1) from fun D W h hL => by
              have h9 : D 18 = false := by
                cases e : D 18 with
                | false => rfl
                | true => rw [h.2 e] at hL; cases hL
              obtain ⟨m, hm, hd, hs⟩ := h.1
              have h1 := hd 1 (by decide)
              have hm1 : ¬ 1 < m := fun hlt => by rw [decide_eq_true hlt] at h1; exact absurd (h9.symm.trans h1) (by decide)
              have hzz : (rmC (⟨kind, frm, ask, err, for_, level, K, s, ats, aa, ac, digs, Ad, cd, L, A1, c1⟩ : RmV))[10]? = some (.slice A1 k c1) := by show some (Value.slice A1 L.length c1) = _; rw [LK.out]
              rcases (by omega : m = 0 ∨ m = 1) with rfl | rfl
              · have e : wd = W := by simpa [ExW] using hs
                rw [← e]
                exact (PD.out.cell 10).trans hzz
              · have e : wB = W := by simpa [ExW] using hs
                rw [← e]
                exact ((PD.out.below B6.out PD.out.lt).cell 10).trans hzz)
            clear hwB hwD g1 g2 g3 hrun hv6 HO HP HBW
            refine region_byJF [55, 56, 57, 58, 59, 60, 61, 62, 63, 64, 65, 66, 67, 68, 69, 70, 71, 72, 73, 74] (fun _ => True) (fun _ _ => True) (fun jR_ vR_ (wR_ : World) => (match jR_ with | 0 => vR_ = .pointer (some ⟨gp, 10, none⟩) | 1 => vR_ = .slice A1 k c1 | 2 => vR_ = .pointer (some ⟨g, 41, none⟩) | 3 => vR_ = .slice (some ⟨bb, off, none⟩) nR rc | 4 => vR_ = .int .i64 (k : Int) | 5 => vR_ = .pointer (some ⟨bb, off + k * 33, none⟩) | 6 => vR_ = .pointer (some ⟨bb, off + k * 33, none⟩) | 7 => vR_ = .slice (some ⟨bb, off + k * 33, none⟩) 32 32 | 8 => vR_ = .string (strOf z.r.key) | 9 => vR_ = .pointer (some ⟨g, 41, none⟩) | 10 => vR_ = .slice (some ⟨bb, off, none⟩) nR rc | 11 => vR_ = .int .i64 (k : Int) | 12 => vR_ = .pointer (some ⟨bb, off + k * 33, none⟩) | 13 => vR_ = .pointer (some ⟨bb, off + k * 33 + 32, none⟩) | 14 => vR_ = .slice z.sa zs z.sc | 15 => vR_ = .string (strOf z.r.set) | 16 => vR_ = .agg #[.string (strOf z.r.key), .string (strOf z.r.set)] | 17 => vR_ = .slice (some ⟨wd.heap.size, 0, none⟩) 1 1 | 18 => vR_ = v6 | 19 => vR_ = .pointer (some ⟨gp, 10, none⟩) | _ => True)) (fun D _ W => ChJ [17, 18, 20] (ExW [wd, wB, wC, wD]) D W ∧ (D 18 = true → D 1 = true)) (by kernel_rfl) (by kernel_rfl) (by kernel_rfl) (by kernel_rfl) (fun j v w w' hT hr => hr) (fun j v w hlt hj _ => ?_) trivial ?_ ⟨ChJ.start (show ([wd, wB, wC, wD] : List World)[0]? = some _ from by rw [← hwd]; rfl), fun e => Bool.noConfusion e⟩ ?_
            · rcases j with _ | _ | _ | _ | _ | _ | _ | _ | _ | _ | _ | _ | _ | _ | _ | _ | _ | _ | _ | _ | _ | j
              all_goals first
                | (exfalso; simp [dstOf] at hj; done)
                | trivial
            · refine ⟨fun D a9 W hC hd hsz hf hv hJ hL hW K8 hK => ?_, fun D a9 W hC hd hsz hf hv hJ hL hW K8 hK => ?_, fun D a9 W hC hd hsz hf hv hJ hL hW K8 hK => ?_, fun D a9 W hC hd hsz hf hv hJ hL hW K8 hK => ?_, fun D a9 W hC hd hsz hf hv hJ hL hW K8 hK => ?_, fun D a9 W hC hd hsz hf hv hJ hL hW K8 hK => ?_, fun D a9 W hC hd hsz hf hv hJ hL hW K8 hK => ?_, fun D a9 W hC hd hsz hf hv hJ hL hW K8 hK => ?_, fun D a9 W hC hd hsz hf hv hJ hL hW K8 hK => ?_, fun D a9 W hC hd hsz hf hv hJ hL hW K8 hK => ?_, fun D a9 W hC hd hsz hf hv hJ hL hW K8 hK => ?_, fun D a9 W hC hd hsz hf hv hJ hL hW K8 hK => ?_, fun D a9 W hC hd hsz hf hv hJ hL hW K8 hK => ?_, fun D a9 W hC hd hsz hf hv hJ hL hW K8 hK => ?_, fun D a9 W hC hd hsz hf hv hJ hL hW K8 hK => ?_, fun D a9 W hC hd hsz hf hv hJ hL hW K8 hK => ?_, fun D a9 W hC hd hsz hf hv hJ hL hW K8 hK => ?_, fun D a9 W hC hd hsz hf hv hJ hL hW K8 hK => ?_, fun D a9 W hC hd hsz hf hv hJ hL hW K8 hK => ?_, fun D a9 W hC hd hsz hf hv hJ hL hW K8 hK => ?_, fun D a9 W hC hd hsz hf hv hJ hL hW K8 hK => ?_, trivial⟩
              · clear hsz
                have eS1_ := slot_of (a := a9) (s := 3) (v := .pointer (some ⟨gp, 0, none⟩)) (hf 3 (by kernel_rfl))
                refine step_run (wanted_none rfl) (v := .pointer (some ⟨gp, 10, none⟩)) (w' := W) ?_ (hK _ _ trivial trivial rfl (⟨hJ.1.same 0 (by decide), ld_same hJ.2 0 (by decide)⟩))
                go_simp
              · clear hsz
                have eS1_ := slot_of (a := a9) (s := 55) (v := .pointer (some ⟨gp, 10, none⟩)) (hv 0 (by kernel_rfl))
                have hcp := CP.out D W hJ hL
                refine step_run (wanted_none rfl) (v := .slice A1 k c1) (w' := W) ?_ (hK _ _ trivial trivial rfl (⟨hJ.1.same 1 (by decide), ld_same hJ.2 1 (by decide)⟩))
                go_simp
              · clear hsz
                have eS1_ := slot_of (a := a9) (s := 1) (v := .pointer (some ⟨g, 0, none⟩)) (hf 1 (by kernel_rfl))
                refine step_run (wanted_none rfl) (v := .pointer (some ⟨g, 41, none⟩)) (w' := W) ?_ (hK _ _ trivial trivial rfl (⟨hJ.1.same 2 (by decide), ld_same hJ.2 2 (by decide)⟩))
                go_simp
              · clear hsz
                have eS1_ := slot_of (a := a9) (s := 57) (v := .pointer (some ⟨g, 41, none⟩)) (hv 2 (by kernel_rfl))
                obtain ⟨h0, h1, h2, h3⟩ := HI.out W (BW.out D W hJ.1)
                rw [DA.out] at h3
                refine step_run (wanted_none rfl) (v := .slice (some ⟨bb, off, none⟩) nR rc) (w' := W) ?_ (hK _ _ trivial trivial rfl (⟨hJ.1.same 3 (by decide), ld_same hJ.2 3 (by decide)⟩))
                go_simp
              · clear hsz
                have eS1_ := slot_of (a := a9) (s := 5) (v := .int .i64 (k : Int)) (hf 5 (by kernel_rfl))
                refine step_run (wanted_none rfl) (v := .int .i64 (k : Int)) (w' := W) ?_ (hK _ _ trivial trivial rfl (⟨hJ.1.same 4 (by decide), ld_same hJ.2 4 (by decide)⟩))
                go_simp
              · clear hsz
                have eS1_ := slot_of (a := a9) (s := 58) (v := .slice (some ⟨bb, off, none⟩) nR rc) (hv 3 (by kernel_rfl))
                have eS2_ := slot_of (a := a9) (s := 59) (v := .int .i64 (k : Int)) (hv 4 (by kernel_rfl))
                refine step_run (wanted_none rfl) (v := .pointer (some ⟨bb, off + k * 33, none⟩)) (w' := W) ?_ (hK _ _ trivial trivial rfl (⟨hJ.1.same 5 (by decide), ld_same hJ.2 5 (by decide)⟩))
                go_simp
              · clear hsz
                have eS1_ := slot_of (a := a9) (s := 60) (v := .pointer (some ⟨bb, off + k * 33, none⟩)) (hv 5 (by kernel_rfl))
                refine step_run (wanted_none rfl) (v := .pointer (some ⟨bb, off + k * 33, none⟩)) (w' := W) ?_ (hK _ _ trivial trivial rfl (⟨hJ.1.same 6 (by decide), ld_same hJ.2 6 (by decide)⟩))
                go_simp
              · clear hsz
                have eS1_ := slot_of (a := a9) (s := 61) (v := .pointer (some ⟨bb, off + k * 33, none⟩)) (hv 6 (by kernel_rfl))
                have hsb := slice_allBm bb (off + k * 33)
                refine step_run (wanted_none rfl) (v := .slice (some ⟨bb, off + k * 33, none⟩) 32 32) (w' := W) ?_ (hK _ _ trivial trivial rfl (⟨hJ.1.same 7 (by decide), ld_same hJ.2 7 (by decide)⟩))
                go_simp
              · clear hsz
                have eS1_ := slot_of (a := a9) (s := 62) (v := .slice (some ⟨bb, off + k * 33, none⟩) 32 32) (hv 7 (by kernel_rfl))
                have hcv := conv_strn (RZ.out W (BW.out D W hJ.1)) 32 32 ZL.out
                refine step_run (wanted_none rfl) (v := .string (strOf z.r.key)) (w' := W) ?_ (hK _ _ trivial trivial rfl (⟨hJ.1.same 8 (by decide), ld_same hJ.2 8 (by decide)⟩))
                go_simp
              · clear hsz
                have eS1_ := slot_of (a := a9) (s := 1) (v := .pointer (some ⟨g, 0, none⟩)) (hf 1 (by kernel_rfl))
                refine step_run (wanted_none rfl) (v := .pointer (some ⟨g, 41, none⟩)) (w' := W) ?_ (hK _ _ trivial trivial rfl (⟨hJ.1.same 9 (by decide), ld_same hJ.2 9 (by decide)⟩))
                go_simp
              · clear hsz
                have eS1_ := slot_of (a := a9) (s := 64) (v := .pointer (some ⟨g, 41, none⟩)) (hv 9 (by kernel_rfl))
                obtain ⟨h0, h1, h2, h3⟩ := HI.out W (BW.out D W hJ.1)
                rw [DA.out] at h3
                refine step_run (wanted_none rfl) (v := .slice (some ⟨bb, off, none⟩) nR rc) (w' := W) ?_ (hK _ _ trivial trivial rfl (⟨hJ.1.same 10 (by decide), ld_same hJ.2 10 (by decide)⟩))
                go_simp
              · clear hsz
                have eS1_ := slot_of (a := a9) (s := 5) (v := .int .i64 (k : Int)) (hf 5 (by kernel_rfl))
                refine step_run (wanted_none rfl) (v := .int .i64 (k : Int)) (w' := W) ?_ (hK _ _ trivial trivial rfl (⟨hJ.1.same 11 (by decide), ld_same hJ.2 11 (by decide)⟩))
                go_simp
              · clear hsz
                have eS1_ := slot_of (a := a9) (s := 65) (v := .slice (some ⟨bb, off, none⟩) nR rc) (hv 10 (by kernel_rfl))
                have eS2_ := slot_of (a := a9) (s := 66) (v := .int .i64 (k : Int)) (hv 11 (by kernel_rfl))
                refine step_run (wanted_none rfl) (v := .pointer (some ⟨bb, off + k * 33, none⟩)) (w' := W) ?_ (hK _ _ trivial trivial rfl (⟨hJ.1.same 12 (by decide), ld_same hJ.2 12 (by decide)⟩))
                go_simp
              · clear hsz
                have eS1_ := slot_of (a := a9) (s := 67) (v := .pointer (some ⟨bb, off + k * 33, none⟩)) (hv 12 (by kernel_rfl))
                refine step_run (wanted_none rfl) (v := .pointer (some ⟨bb, off + k * 33 + 32, none⟩)) (w' := W) ?_ (hK _ _ trivial trivial rfl (⟨hJ.1.same 13 (by decide), ld_same hJ.2 13 (by decide)⟩))
                go_simp
              · clear hsz
                have eS1_ := slot_of (a := a9) (s := 68) (v := .pointer (some ⟨bb, off + k * 33 + 32, none⟩)) (hv 13 (by kernel_rfl))
                have hcs := CS.out W (BW.out D W hJ.1)
                refine step_run (wanted_none rfl) (v := .slice z.sa zs z.sc) (w' := W) ?_ (hK _ _ trivial trivial rfl (⟨hJ.1.same 14 (by decide), ld_same hJ.2 14 (by decide)⟩))
                go_simp
              · clear hsz
                have eS1_ := slot_of (a := a9) (s := 69) (v := .slice z.sa zs z.sc) (hv 14 (by kernel_rfl))
                have hcv := conv_strn (RT.out W (BW.out D W hJ.1)) zs z.sc ZS.out
                refine step_run (wanted_none rfl) (v := .string (strOf z.r.set)) (w' := W) ?_ (hK _ _ trivial trivial rfl (⟨hJ.1.same 15 (by decide), ld_same hJ.2 15 (by decide)⟩))
                go_simp
              · clear hsz
                have eS1_ := slot_of (a := a9) (s := 63) (v := .string (strOf z.r.key)) (hv 8 (by kernel_rfl))
                have eS2_ := slot_of (a := a9) (s := 70) (v := .string (strOf z.r.set)) (hv 15 (by kernel_rfl))
                have eA_ := eval_of (a := a9) (s := 63) (v := .string (strOf z.r.key)) (hv 8 (by kernel_rfl))
                have eB_ := eval_of (a := a9) (s := 70) (v := .string (strOf z.r.set)) (hv 15 (by kernel_rfl))
                refine step_builtM (wanted_none rfl) 23 #[(0, .tmp 63), (1, .tmp 70)] rfl #[.string (strOf z.r.key), .string (strOf z.r.set)] ?_ ?_
                · simp only [List.map_toArray, List.map_cons, List.map_nil, eA_, eB_]
                  exact built_rr _ _
                · exact hK _ _ trivial trivial rfl (⟨hJ.1.same 16 (by decide), ld_same hJ.2 16 (by decide)⟩)
              · clear hsz
                have eS1_ := slot_of (a := a9) (s := 71) (v := .agg #[.string (strOf z.r.key), .string (strOf z.r.set)]) (hv 16 (by kernel_rfl))
                obtain ⟨hE, hd⟩ := hJ.1.exat 0 (by decide) hL (fun j hj e => by omega)
                obtain rfl : wd = W := by simpa using hE
                have eC_ := eval_of (a := a9) (s := 71) (v := .agg #[.string (strOf z.r.key), .string (strOf z.r.set)]) (hv 16 (by kernel_rfl))
                refine step_oneG rrE Try.underlying26 infoRr (by decide) (wanted_none rfl) (.tmp 71) rfl #[.string (strOf z.r.key), .string (strOf z.r.set)] eC_ z.r rfl ?_
                rw [HWB.out]
                exact hK _ _ trivial trivial rfl ⟨ChJ.next 0 (by decide) (by decide) hd (show ([wd, wB, wC, wD] : List World)[1]? = some wB from rfl), ld_same hJ.2 _ (by decide)⟩
              · clear hsz
                have eS1_ := slot_of (a := a9) (s := 56) (v := .slice A1 k c1) (hv 1 (by kernel_rfl))
                have eS2_ := slot_of (a := a9) (s := 72) (v := .slice (some ⟨wd.heap.size, 0, none⟩) 1 1) (hv 17 (by kernel_rfl))
                obtain ⟨hE, hd⟩ := hJ.1.exat 1 (by decide) hL (fun j hj e => by have hj0 : j = 0 := (by omega); subst hj0; exact hW 17 (by kernel_rfl))
                obtain rfl : wB = W := by simpa using hE
                have hrun := HRUN.out
                refine step_run (wanted_none rfl) (v := v6) (w' := wC) ?_ (hK _ _ trivial trivial rfl ⟨ChJ.next 1 (by decide) (by decide) hd (show ([wd, wB, wC, wD] : List World)[2]? = some wC from rfl), fun _ => ld_at (hW 1 (by kernel_rfl))⟩)
                unfold execOp
                simp only [resolve, invoke, builtin, Sem.run_bind, Sem.run_pure, Result.andThen_ok, List.map_toArray, List.map_cons, List.map_nil, eval_of (hv 1 (by kernel_rfl)), eval_of (hv 17 (by kernel_rfl)), hrun]
              · clear hsz
                have eS1_ := slot_of (a := a9) (s := 3) (v := .pointer (some ⟨gp, 0, none⟩)) (hf 3 (by kernel_rfl))
                refine step_run (wanted_none rfl) (v := .pointer (some ⟨gp, 10, none⟩)) (w' := W) ?_ (hK _ _ trivial trivial rfl (⟨hJ.1.same 19 (by decide), ld_same hJ.2 19 (by decide)⟩))
                go_simp
              · clear hsz
                have eS1_ := slot_of (a := a9) (s := 74) (v := .pointer (some ⟨gp, 10, none⟩)) (hv 19 (by kernel_rfl))
                have eS2_ := slot_of (a := a9) (s := 73) (v := v6) (hv 18 (by kernel_rfl))
                obtain ⟨hE, hd⟩ := hJ.1.exat 2 (by decide) hL (fun j hj e => by have hj0 : j = 1 := (by omega); subst hj0; exact hW 18 (by kernel_rfl))
                obtain rfl : wC = W := by simpa using hE
                have hcz := PC.out.cell 10
                have hfz := PC.out.frozen 10
                have hzz : (rmC (⟨kind, frm, ask, err, for_, level, K, s, ats, aa, ac, digs, Ad, cd, L, A1, c1⟩ : RmV))[10]? = some (.slice A1 k c1) := by show some (Value.slice A1 L.length c1) = _; rw [LK.out]
                rw [hzz] at hcz
                refine step_skip (wanted_none rfl) (w' := wD) ?_ (hK undef _ trivial trivial trivial ⟨ChJ.next 2 (by decide) (by decide) hd (show ([wd, wB, wC, wD] : List World)[3]? = some wD from rfl), ld_same hJ.2 _ (by decide)⟩)
                have hwD := HWD.out
                rw [HV6.out] at hwD eS2_
                go_simp
            · intro f9 w6 hC6 hv6 D6 hD6 hJ6
              obtain ⟨a6, hJ, _⟩ := hJ6
              have hE6 := hJ.1.last 2 (by decide) rfl (hD6 20 (by decide))
              obtain rfl : wD = w6 := by simpa [ExW] using hE6
              clear hv6 hD6 hJ hC6 hE6
              simp only [framed, List.foldl_cons, List.foldl_nil, List.setIfInBounds_toArray, List.set_cons_succ, List.set_cons_zero]
              refine hK7 _ _ ?_
              go_wp2
              go_roundw
              case rel => exact ⟨k + 1, L ++ [z.r], A6, c6, by go_num, by omega, hidm_ (by rw [List.length_append, LK.out]; rfl), LE2, ODD, PDD, BDD, DGC⟩
              case measure => simp [intOf]; omega
          · have tl : ¬ (k : Int) < (nR : Int) := by omega
            obtain rfl : nR = k := by omega
            have hLE : L = rows.map (·.r) := by rw [LE.out, ← HNR.out, List.take_length]
            go_wp2_with (first
              | (refine wpList_load_row rfl 28 (.tmp 3) rfl gp rfl 28 (rmC (⟨kind, frm, ask, err, for_, level, K, s, ats, aa, ac, digs, Ad, cd, L, A1, c1⟩ : RmV)) (0, 0) _ HP.out Try.underlying28 rfl (iRm _) ?_)
              | (refine wpList_put_row rfl 28 (.tmp 2) (.tmp 75) rfl (g + 1) (rmC (⟨kind, frm, ask, err, for_, level, K, s, ats, aa, ac, digs, Ad, cd, L, A1, c1⟩ : RmV)) rfl rfl 28 (rmC rmZ) (R2.out.below HBW.out (by omega)) (iRm _) rfl (rmC_one _) ?_; intro y9 k9 g9 s9; have Y9 := hidm_ k9; have G9 := hidm_ g9; clear k9 g9 s9))
            have hB9 : Below w.heap.size w y9 := by rw [HG.out]; exact (X2.out.trans (HBW.out.mono (by omega))).grown G9.out (by have := HBW.out.size; have := S2.out; omega) (fun j hj => by injection hj with hj; omega)
            have hz9 : y9.heap.size ≥ g + 2 := by have := HBW.out.size; have := S2.out; have := G9.out.size; omega
            exact bodyPost_ret (results_cellM Try.results14 _ _ (g + 1) rfl (run_loadVar_row _ _ _ _ _ (0, 0) _ Y9.out Try.underlying28 rfl (iRm _))) rfl ⟨(⟨kind, frm, ask, err, for_, level, K, s, ats, aa, ac, digs, Ad, cd, L, A1, c1⟩ : RmV), rfl, by unfold RmV.v MgA.v; simp only [hLE], ⟨(HQ.out.ats.below (by rw [← HG.out]; exact hB9)).more (by omega), ((HDG.out.kept G9.out (.inr (fun e => by have := (HDG.out.lt _ e).1; omega))).rd).1, ((HO.out.kept G9.out (.inr (fun e => by have := (HO.out.lt _ e).1; omega))).rd).1⟩, hB9⟩
end Go.Proofs.Ytnlipmcnpekifaa
