/-
  Proved: for all master keys and rows of acts VaultReal answers true: in every row of calls a real vault answers what the chapter says; of none nothing is told. No condition.
-/
import Derived.Test.YthbkbmckmoleiaaGreatDoorZg
namespace Go.Proofs.YthbkbmckmoleiaaGreatDoor.vaultReal
set_option maxRecDepth 100000
open Go.ChangeShapes Go.WideShapes Go.ChangeAt Go.RowKit
set_option linter.unusedVariables false
set_option linter.unusedSimpArgs false

theorem hid_ {p : Prop} (h : p) : Hid p := h
def LwR (g : Nat) (K : List UInt8) : Nat → Value → World → Prop
  | 0, u, _ => u = .agg (rowOf K)
  | 2, u, _ => u = .slice (some ⟨g, 0, none⟩) 32 32
  | 3, u, _ => u = .string (strOf K)
  | 4, u, _ => u = .agg (rfRow false K)
  | _, _, _ => True
theorem LwR.any {g : Nat} {K : List UInt8} {j : Nat} {v : Value} {W W' : World} (h : LwR g K j v W) : LwR g K j v W' := by
  unfold LwR at h ⊢
  split at h <;> first | exact h | trivial
theorem open_vacts {H : Type} {enc : TypeId × Value → H} {w : World} {b0 : Nat} {sp : Nat → Bool} {held : Bool} {r : Reach} {v : Value} {d : DataW H} {p : List MemPlace}
    (hv : Value.okWide Tryz.prog w r b0 23 v) (h : DataW.Trod enc Tryz.prog w 0 sp held 23 v d p) :
    ∃ A l c, v = .slice A (l : List VAct).length c ∧ RdV w w.heap.size A l ∧ l.length ≤ c ∧ c ≤ maxLen := by
  obtain ⟨a0, len, cap, rfl⟩ := okWide_slice Tryz.underlying23 hv
  obtain ⟨fuel, hf⟩ := h
  rcases Go.Deep.open_slice Tryz.underlying23 hf with ⟨hcs, hx⟩ | ⟨a, len', cap', m, n, D, Pl, hcs, _, hl, hm, hmm, hx, hel⟩
  · simp [Value.cells] at hcs
    obtain ⟨rfl, rfl, rfl⟩ := hcs
    exact ⟨none, [], 0, rfl, fun h => by simp at h, Nat.le_refl _, Nat.zero_le _⟩
  · simp [Value.cells] at hcs
    obtain ⟨rfl, rfl, rfl⟩ := hcs
    have hlm : len ≤ m := by rw [hmm]; split <;> omega
    rw [cellsAct_] at hel
    have hone : ∀ j, j < len → ∃ q : VAct, (∀ t, t < 8 → w.cell? (a.add (j * 8 + t)) = q.row[t]?) ∧ VActOk w w.heap.size q := by
      intro j hj
      obtain ⟨cs', hc1, hc2⟩ := hel j (by omega)
      obtain ⟨_, hlen, hcell⟩ := World.cells?_some hc1
      obtain ⟨q, e, ho⟩ := cells_vact (cs := cs') (by simpa using hlen) hc2
      refine ⟨q, fun t ht => ?_, ho⟩
      have c0 := hcell t (by omega)
      rw [Go.Deep.add_add] at c0
      rw [c0, e]
      simp
    obtain ⟨q, hq⟩ := Go.Deep.choose_lt hone
    refine ⟨some a, (List.range len).map q, cap, by simp, fun hn => ?_, by simpa using hl, hm⟩
    have hn' : 0 < len := by simpa using hn
    obtain ⟨b, off, spot⟩ := a
    have hc0 := (hq 0 hn').1 0 (by decide)
    rw [show (q 0).row[0]? = some (.int .i64 (q 0).what) from rfl] at hc0
    have hspot : spot = none := by simpa [Addr.add] using World.cell?_spot hc0
    subst hspot
    have hplain : ∀ j, (⟨b, off, none⟩ : Addr).add j = ⟨b, off + j, none⟩ := fun j => by unfold Addr.add; split <;> simp_all
    refine ⟨b, off, rfl, World.block_lt_of_cell? w _ hc0, fun j hj => ?_⟩
    have hj' : j < len := by simpa using hj
    obtain ⟨h1, h4⟩ := hq j hj'
    have e : ((List.range len).map q)[j] = q j := by simp
    rw [e]
    refine ⟨fun t ht => ?_, h4⟩
    have h := h1 t ht
    rw [hplain] at h
    rw [← h]
    congr 2
    omega
set_option maxRecDepth 100000 in
set_option maxHeartbeats 16000000 in
theorem walk (w : World) (K : List UInt8) (hK : K.length = 32) (A1 : Option Addr) (n1 c1 : Nat) (l : List VAct) (hn : l.length = n1) (hp : RdV w w.heap.size A1 l) (hn9 : n1 ≤ 9223372036854775807) (ht : Tab w) (hg1 : 2 < w.heap.size) :
    Calls Tryz.prog 3 #[.agg (rowOf K), .slice A1 n1 c1] w fun e w' => e = .returned (.bool true) ∧ Below w.heap.size w w' := by
  obtain ⟨K0, hK0⟩ : ∃ D, K = D := ⟨_, rfl⟩
  rw [hK0] at hK ⊢
  obtain ⟨g, hg⟩ : ∃ g, w.heap.size = g := ⟨_, rfl⟩
  obtain ⟨w0, hw0⟩ : ∃ w0, w.alloc (.cells (rowOf K0) 22) = w0 := ⟨_, rfl⟩
  have B0 := hid_ (show Below g w w0 by rw [← hw0, ← hg]; exact (Below.refl w.heap.size w).alloc (Nat.le_refl _) _)
  have KG := hid_ (show Bk w0 g 22 (rowOf K0) by rw [← hw0, ← hg]; exact Bk.new w _ _)
  have HG := hid_ hg
  rw [hg] at hg1
  have HT := hid_ (show Tab w0 from fun t h => (B0.out.cell (p := ⟨_, t, none⟩) hg1).trans (ht t h))
  have g01 : 2 < w0.heap.size := by have := KG.out.lt; omega
  have gle : g ≤ w0.heap.size := Nat.le_of_lt KG.out.lt
  have HP := hid_ (((hg ▸ hp).below B0.out).more gle)
  have HN := hid_ hn
  have KL := hid_ hK
  have I32 := hid_ (ib32 K0 hK)
  have HBB := hid_ (show Tryz.prog.built 40 [(1, .string (strOf K0))] = some (rfRow false K0) by kernel_rfl)
  clear ht hK hp hn hK0
  go_enter Tryz.func3, Tryz.ntmps3
  have cn := fun W => nnone_any W
  have k1 := Lib.run_convert_bytes_const (P := Tryz.prog) w0 30 5 #[.int .u8 120] 1 1 Tryz.underlying30 Tryz.underlying5
  obtain ⟨g2, w2, hg2', hw2, b2, R2, S2⟩ := mark_world w0 [120] (1, 2)
  rw [show rowOf [120] = #[.int .u8 120] from rfl] at hw2
  rw [hg2'] at k1
  have cb := nblind_any w2 (some ⟨g2, 0, none⟩) 1 1
  have HX2 := hid_ (show Below w0.heap.size w0 w2 from hg2' ▸ b2)
  have IV := hid_ (iB (zbytes 32) (zbytes_len 32))
  have hzB := zB
  clear b2 R2 S2
  go_upto_region 2 with (first
    | (go_at_call 9; ((with_reducible refine (cn _).mono ?_); rintro e wz ⟨rfl, rfl⟩))
    | (go_at_call 10; ((with_reducible refine cb.mono ?_); clear cb; rintro e w3 ⟨rfl, hb⟩; have HX3 := hid_ (HX2.out.trans (hb.mono HX2.out.size)); clear hb))
    | (refine wpList_put_row rfl 24 (.tmp 5) (.tmp 19) rfl w3.heap.size (rowOf (zbytes 32)) rfl rfl 24 (rowOf (zbytes 32)) (Bk.new w3 _ _) IV.out rfl (bytes_one _) ?_; intro w4 k4 g4 s4; have BX : Below w3.heap.size w3 w4 := (((Below.refl w3.heap.size w3).alloc (Nat.le_refl _) (.cells (rowOf (zbytes 32)) 24)).grown g4 (by simp) (fun k hk => by injection hk with hk; omega)); have HX4 := hid_ (HX3.out.trans (BX.mono HX3.out.size)); clear k4 g4 s4 BX))
  clear k1 hw2 hg2' hw0 hg HX2 HX3
  have cs : Calls Tryz.prog 11 #[.pointer none, .int .i64 1, .int .i64 1, .int .i64 1, .slice none 0 0, .slice none 0 0] w4 _ := nseal_no w4 none none 0 0 0 0 1 1 1 (nkeys_any w4 1 1 1)
  go_upto_region 3 with (first
    | (go_at_call 9; ((with_reducible refine (cn _).mono ?_); rintro e wz ⟨rfl, rfl⟩))
    | (go_at_call 11; ((with_reducible refine cs.mono ?_); clear cs; rintro e w5 ⟨rfl, hb⟩; have HX5 := hid_ (HX4.out.trans (hb.mono HX4.out.size)); clear hb)))
  have co : Calls Tryz.prog 12 #[.pointer none, .int .i64 1, .int .i64 1, .int .i64 1, .slice none 0 0, .slice none 0 0] w5 _ := nopen_no w5 none none 0 0 0 0 1 1 1 (nkeys_any w5 1 1 1)
  go_upto_region 4 with (first
    | (go_at_call 9; ((with_reducible refine (cn _).mono ?_); rintro e wz ⟨rfl, rfl⟩))
    | (go_at_call 12; ((with_reducible refine co.mono ?_); clear co; rintro e w6 ⟨rfl, hb⟩; have HX6 := hid_ (HX5.out.trans (hb.mono HX5.out.size)); clear hb)))
  have cv := vaults_any w6 (tab_below HT.out g01 HX6.out).1 (tab_below HT.out g01 HX6.out).2
  have ci := fun W => nideal_any W
  have cc := fun W => ncount_any W
  clear HX4 HX5
  go_upto_region 6 with (first
    | (go_at_call 13; ((with_reducible refine cv.mono ?_); clear cv; rintro r w1 ⟨rfl, hb⟩; have HX1 := hid_ (HX6.out.trans (hb.mono HX6.out.size)); clear hb))
    | (go_at_call 9; ((with_reducible refine (cn _).mono ?_); rintro e wz ⟨rfl, rfl⟩))
    | (go_at_call 14; ((with_reducible refine (ci _).mono ?_); rintro e wz ⟨rfl, rfl⟩))
    | (go_at_call 15; ((with_reducible refine (cc _).mono ?_); rintro e wz ⟨rfl, rfl⟩)))
  rename_i K9 hK9
  have KG1 := hid_ (KG.out.below HX1.out KG.out.lt)
  clear cn ci cc HX6 hzB
  refine region_byJF [54, 55, 56, 57, 58, 59, 11, 12] (fun W => Below w1.heap.size w1 W) (fun _ _ => True) (LwR g K0) (fun D a W => JW 1 5 6 7 55 59 11 12 (WV false K0 w1.heap.size) (WR false K0 w1.heap.size) (WVR false K0 w1.heap.size) D a W) (by kernel_rfl) (by kernel_rfl) (by kernel_rfl) (by kernel_rfl) (fun j v w w' hT hr => hr.any) (fun j v w hlt hj _ => ?_) ((Below.refl _ _).drew) ?_ JW.start ?_
  · rcases j with _ | _ | _ | _ | _ | _ | _ | _ | j
    all_goals first
      | (exfalso; simp [dstOf] at hj; done)
      | trivial
  · refine ⟨fun D a W hC hd hsz hf hv hJ hL hW K hK => ?_, fun D a W hC hd hsz hf hv hJ hL hW K hK => ?_, fun D a W hC hd hsz hf hv hJ hL hW K hK => ?_, fun D a W hC hd hsz hf hv hJ hL hW K hK => ?_, fun D a W hC hd hsz hf hv hJ hL hW K hK => ?_, fun D a W hC hd hsz hf hv hJ hL hW K hK => ?_, fun D a W hC hd hsz hf hv hJ hL hW K hK => ?_, fun D a W hC hd hsz hf hv hJ hL hW K hK => ?_, trivial⟩
    · have HSZ := hid_ hsz
      clear hsz
      have e1 : a.tmps.getD 2 undef = .pointer (some ⟨g, 0, none⟩) := hf 2 (by kernel_rfl)
      exact step_load_rowW (wanted_none rfl) 22 (.tmp 2) rfl g (eval_of e1) 22 (rowOf K0) (KG1.out.below hC KG1.out.lt) _ Tryz.underlying22 rfl I32.out (hK _ _ hC trivial rfl (hJ.other 0 54 _ (by decide) (by decide)))
    · have HSZ := hid_ hsz
      clear hsz
      have e1 := slot_of (a := a) (s := 54) (v := .agg (rowOf K0)) (hv 0 (by kernel_rfl))
      have cn : Calls Tryz.prog 16 #[.agg (rowOf K0)] W _ := vault_new false W K0 KL.out
      refine step_callx 16 #[.agg (rowOf K0)] (wanted_none rfl) (w' := W) ?_ (cn.mono fun e W2 hh => ?_)
      · go_simp
      · obtain ⟨v, sp, nm, kn, F, rfl, hV, hF, hb⟩ := hh
        exact ⟨_, rfl, hK _ _ (hC.trans (hb.mono hC.size)) trivial trivial (hJ.first _ hL (by decide) (by decide) (by rw [HSZ.out]; exact of_decide_eq_true (by kernel_rfl)) ⟨v, sp, nm, kn, F, rfl, hV, fun k hk => Nat.le_trans hC.size (hF k hk)⟩ (WVR.one hV hF hb hC.size))⟩
    · have HSZ := hid_ hsz
      clear hsz
      have e1 := slot_of (a := a) (s := 2) (v := .pointer (some ⟨g, 0, none⟩)) (hf 2 (by kernel_rfl))
      have sl := slice_all32 g
      refine step_run (wanted_none rfl) (v := .slice (some ⟨g, 0, none⟩) 32 32) (w' := W) ?_ (hK _ _ hC trivial rfl (hJ.other 2 56 _ (by decide) (by decide)))
      go_simp
    · have HSZ := hid_ hsz
      clear hsz
      have e1 := slot_of (a := a) (s := 56) (v := .slice (some ⟨g, 0, none⟩) 32 32) (hv 2 (by kernel_rfl))
      have cv := conv_strn (rd_bk (KG1.out.below hC KG1.out.lt)) 32 32 KL.out
      refine step_run (wanted_none rfl) (v := .string (strOf K0)) (w' := W) ?_ (hK _ _ hC trivial rfl (hJ.other 3 57 _ (by decide) (by decide)))
      go_simp
    · have HSZ := hid_ hsz
      clear hsz
      have e1 := eval_of (a := a) (s := 57) (v := .string (strOf K0)) (hv 3 (by kernel_rfl))
      have hb := HBB.out
      have hq : (Tryz.prog.built 40 ((#[(1, .tmp 57)] : Array (Nat × Operand)).map fun x => (x.1, a.eval x.2)).toList) = some (rfRow false K0) := by simp only [List.map_toArray, List.map_cons, List.map_nil, e1]; exact hb
      rw [if_pos (wanted_none rfl)]
      refine wp_build 40 #[(1, .tmp 57)] rfl ?_ ?_
      · rw [show ((#[(1, .tmp 57)] : Array (Nat × Operand)).map fun (i, x) => (i, a.eval x)) = ((#[(1, .tmp 57)] : Array (Nat × Operand)).map fun x => (x.1, a.eval x.2)) from rfl, hq]; rfl
      · rw [show ((#[(1, .tmp 57)] : Array (Nat × Operand)).map fun (i, x) => (i, a.eval x)) = ((#[(1, .tmp 57)] : Array (Nat × Operand)).map fun x => (x.1, a.eval x.2)) from rfl, hq, Option.getD_some]
        exact hK _ _ hC trivial rfl (hJ.other 4 58 _ (by decide) (by decide))
    · have HSZ := hid_ hsz
      clear hsz
      have e1 := slot_of (a := a) (s := 58) (v := .agg (rfRow false K0)) (hv 4 (by kernel_rfl))
      have hb : Below W.heap.size W (W.alloc (.cells (rfRow false K0) 40)) := (Below.refl _ _).alloc (Nat.le_refl _) _
      refine step_run (wanted_none rfl) (v := .pointer (some ⟨W.heap.size, 0, none⟩)) (w' := W.alloc (.cells (rfRow false K0) 40)) ?_ (hK _ _ (hC.trans (hb.mono hC.size)) trivial trivial (hJ.second _ hL (by decide) (by decide) (by rw [HSZ.out]; exact of_decide_eq_true (by kernel_rfl)) ⟨W.heap.size, rfl, Bk.new W _ _, hC.size⟩ (WVR.two (Bk.new W _ _) (Nat.le_refl _) hb hC.size)))
      go_simp
    · have HSZ := hid_ hsz
      clear hsz
      obtain ⟨uu, hu⟩ : ∃ u, a.tmps.getD 55 undef = u := ⟨_, rfl⟩
      have e1 := slot_of (a := a) (s := 55) (v := uu) hu
      refine step_run (wanted_none rfl) (v := uu) (w' := W) ?_ (hK _ _ hC trivial trivial (by rw [← hu]; exact hJ.third (hW 1 (by kernel_rfl)) (by decide) (by decide) (by rw [HSZ.out]; exact of_decide_eq_true (by kernel_rfl))))
      clear hu
      go_simp
    · have HSZ := hid_ hsz
      clear hsz
      obtain ⟨uu, hu⟩ : ∃ u, a.tmps.getD 59 undef = u := ⟨_, rfl⟩
      have e1 := slot_of (a := a) (s := 59) (v := uu) hu
      refine step_run (wanted_none rfl) (v := uu) (w' := W) ?_ (hK _ _ hC trivial trivial (by rw [← hu]; exact hJ.fourth (hW 5 (by kernel_rfl)) (by decide) (by decide) (by rw [HSZ.out]; exact of_decide_eq_true (by kernel_rfl))))
      clear hu
      go_simp
  · intro f w2 hC2 hv2 D7 hD7 hJ7
    obtain ⟨a7, hJ, hs⟩ := hJ7
    have h2 := hJ.both (hD7 1 (by decide)) (hD7 5 (by decide))
    have e7 := (hJ.e1 (hD7 6 (by decide))).2
    have e8 := (hJ.e2 (hD7 7 (by decide))).2
    rw [hs, hs] at h2 e7 e8
    obtain ⟨v, sp, nm, kn, rg, F, h34, h37, hV, hF, hR, hrg, hni⟩ := h2
    have f7 := e7.trans h34
    have f8 := e8.trans h37
    simp only [framed, List.foldl_cons, List.foldl_nil, List.setIfInBounds_toArray, List.set_cons_succ, List.set_cons_zero]
    rw [f7, f8]
    have HX2 := hid_ (HX1.out.trans (hC2.mono HX1.out.size))
    have T2 := hid_ (Duo.start (VS.foot false v sp nm kn K0 [] []) (RS.foot false rg K0 [] []) hV (ref_start hR) HX2.out (fun k hk => Nat.le_trans HX1.out.size (hF k hk)) (fun k hk => by rw [List.mem_singleton.1 hk]; exact Nat.le_trans HX1.out.size hrg) (fun k hk hm => by rw [List.mem_singleton] at hm; rw [hm] at hk; exact hni hk))
    clear hv2 hD7 hJ hs e7 e8 h34 h37 hV hF hR hrg hni f7 f8 hC2 KG1 HX1 HBB
    refine hK9 _ _ ?_
    clear hK9 K9
    have T3 := T2
    clear T2
    go_upto_region 8 with fail
    go_loopw [13] (fun i wr => ∃ (j : Nat) (N : List (List UInt8)) (L : List SealV), j ≤ n1 ∧ j ≤ 12 ∧ i = .int .i64 j ∧ Hid (Duo w0 (fun _ => False) (VS false v sp nm kn K0 N L) (RS false rg K0 N L) wr) ∧ Hid (N.length ≤ j ∧ L.length ≤ j ∧ LOk L)) (fun i _ => 12 - (intOf i).toNat)
    case atStart => exact ⟨0, [], [], Nat.zero_le _, Nat.zero_le _, rfl, T3, hid_ ⟨Nat.le_refl _, Nat.le_refl _, fun t ht => (by cases ht)⟩⟩
    case round =>
      clear T3
      obtain ⟨j, N, L, hj1, hj2, rfl, HD, HS⟩ := hrel
      by_cases hlt1 : j < n1
      · have d1 : decide ((j : Int) < (n1 : Int)) = true := decide_eq_true (by omega)
        have d2 : decide (j < n1) = true := decide_eq_true hlt1
        by_cases hlt2 : j < 12
        · have d3 : decide ((j : Int) < 12) = true := decide_eq_true (by omega)
          have d4 : decide (j < 12) = true := decide_eq_true hlt2
          obtain ⟨b, off, hA, hblt, hrows⟩ := HP.out (by rw [HN.out]; omega)
          subst hA
          obtain ⟨hrow, hok⟩ := hrows j (by rw [HN.out]; omega)
          generalize l[j]'(by rw [HN.out]; omega) = q at *
          have HROW : Hid (∀ i, i < q.row.size → wr.cell? ⟨b, off + j * 8 + i, none⟩ = q.row[i]?) := hid_ (fun i hi => (HD.out.un.cell (p := ⟨b, _, none⟩) hblt).trans (hrow i hi))
          have HOK := hid_ hok
          have t0 : (0 : Int) ≤ (j : Int) := by omega
          have tn : (j : Int) < (n1 : Int) := by omega
          have HL1 := hid_ hlt1
          have HL2 := hid_ hlt2
          have cd := do_any false KL.out HD.out (by have := HS.out.1; omega) (by have := HS.out.2.1; omega) HS.out.2.2 q HOK.out HT.out g01
          unfold DoP at cd
          clear hrow hok hlt1 hlt2 hrows
          go_wp2_with (first
            | (refine wpList_load_sub rfl 42 (.tmp 72) rfl b (off + j * 8) rfl q.row HROW.out _ Tryz.underlying42 rfl (iActY q) ?_)
            | (go_at_call 17; ((with_reducible refine cd.mono ?_); clear cd; rintro r w5 ⟨N', L', rfl, hT, hn1, hn2, hlo⟩; have HD5 := hid_ hT; have HS5 := hid_ (And.intro hn1 (And.intro hn2 hlo)); clear hT hn1 hn2 hlo)))
          go_roundw
          case rel => exact ⟨j + 1, N', L', by have := HL1.out; omega, by have := HL2.out; omega, by go_num, HD5, hid_ ⟨by have h1 := HS5.out.1; have h2 := HS.out.1; omega, by have h1 := HS5.out.2.1; have h2 := HS.out.2.1; omega, HS5.out.2.2⟩⟩
          case measure => have := HL2.out; simp [intOf]; omega
        · have d3 : decide ((j : Int) < 12) = false := decide_eq_false (by omega)
          have d4 : decide (j < 12) = false := decide_eq_false hlt2
          clear hlt1 hlt2 hj2
          go_upto_region 12 with fail
          rename_i K9 hK9
          obtain ⟨F3, G3, hT3⟩ := HD.out
          obtain ⟨vn, vl, hr3⟩ := hT3.two
          obtain ⟨AL, cl, rfl⟩ := OwnSL.form hr3.sls
          have CL : Hid (∀ W, Below wr.heap.size wr W → W.cell? ⟨rg, 3, none⟩ = some (.slice AL L.length cl)) := hid_ (fun W hW => (hr3.below hW).blk.cell 3)
          have CI : Hid (∀ W, Below wr.heap.size wr W → Calls Tryz.prog 14 #[.pointer (some ⟨v, 0, none⟩)] W fun e w' => e = .returned (.bool false) ∧ Below wr.heap.size wr w') := hid_ (fun W hW => by
            obtain ⟨nmo, kno, hbk, -, -⟩ := ((VS.foot false v sp nm kn K0 N L).keep hT3.one (Untouched.of_below (F := []) hW) (fun _ _ => by simp) : VS false v sp nm kn K0 N L W F3).blk
            exact (isideal_any hbk).mono fun e w' ⟨h1, h2⟩ => ⟨h1, h2 ▸ hW⟩)
          have CC : Hid (∀ W, Below wr.heap.size wr W → Calls Tryz.prog 15 #[.pointer (some ⟨v, 0, none⟩)] W fun e w' => e = .returned (.int .i64 (L.length : Int)) ∧ Below wr.heap.size wr w') := hid_ (fun W hW =>
            (vcount_x (show VS false v sp nm kn K0 N L W F3 from (VS.foot false v sp nm kn K0 N L).keep hT3.one (Untouched.of_below (F := []) hW) (fun _ _ => by simp))).mono fun e w' ⟨h1, h2⟩ => ⟨h1, h2 ▸ hW⟩)
          have TU := hid_ HD.out.un
          clear hT3 hr3 HD
          have se := beq_self_eq_true (L.length : Int)
          refine region_quiet_in (C := fun W => Below wr.heap.size wr W) (by kernel_rfl) (by kernel_rfl) ((Below.refl _ _).drew) ?_
          repeat (first | go_big_quiet_skip | (go_big_quiet_want; (first
            | (refine BigFrame.quiet_move _ rfl ?_; go_simp)
            | (refine BigFrame.quiet_assign _ rfl ?_; go_simp)
            | (refine quiet_call (.bool false) 14 #[.pointer (some ⟨v, 0, none⟩)] ?_ CI.out ?_; (focus (intro W; go_simp; done)); go_simp)
            | (refine quiet_call (.int .i64 (L.length : Int)) 15 #[.pointer (some ⟨v, 0, none⟩)] ?_ CC.out ?_; (focus (intro W; go_simp; done)); go_simp)
            | (refine quiet_run (.pointer (some ⟨rg, 0, none⟩)) ?_ ?_; (focus (intro W hW; go_simp; done)); go_simp)
            | (refine quiet_run (.pointer (some ⟨rg, 3, none⟩)) ?_ ?_; (focus (intro W hW; go_simp; done)); go_simp)
            | (refine quiet_run (.slice AL L.length cl) ?_ ?_; (focus (intro W hW; have h := CL.out W hW; go_simp; done)); go_simp)
            | (refine quiet_run (.int .i64 (L.length : Int)) ?_ ?_; (focus (intro W hW; go_simp; done)); go_simp)
            | (refine quiet_run (.bool true) ?_ ?_; (focus (intro W hW; go_simp; done)); go_simp)
            | (refine quiet_run (.bool false) ?_ ?_; (focus (intro W hW; go_simp; done)); go_simp)); go_big_quiet_on))
          refine wpQuiet_nil ?_
          intro w9 hw9
          have B9 := hid_ hw9
          clear hw9 CL CI CC
          refine hK9 _ _ ?_
          go_wp2
          go_ret
          exact ⟨rfl, by rw [HG.out]; exact B0.out.trans ((TU.out.trans (B9.out.mono TU.out.size)).mono gle)⟩
      · have d1 : decide ((j : Int) < (n1 : Int)) = false := decide_eq_false (by omega)
        have d2 : decide (j < n1) = false := decide_eq_false hlt1
        clear hlt1
        go_upto_region 12 with fail
        rename_i K9 hK9
        obtain ⟨F3, G3, hT3⟩ := HD.out
        obtain ⟨vn, vl, hr3⟩ := hT3.two
        obtain ⟨AL, cl, rfl⟩ := OwnSL.form hr3.sls
        have CL : Hid (∀ W, Below wr.heap.size wr W → W.cell? ⟨rg, 3, none⟩ = some (.slice AL L.length cl)) := hid_ (fun W hW => (hr3.below hW).blk.cell 3)
        have CI : Hid (∀ W, Below wr.heap.size wr W → Calls Tryz.prog 14 #[.pointer (some ⟨v, 0, none⟩)] W fun e w' => e = .returned (.bool false) ∧ Below wr.heap.size wr w') := hid_ (fun W hW => by
          obtain ⟨nmo, kno, hbk, -, -⟩ := ((VS.foot false v sp nm kn K0 N L).keep hT3.one (Untouched.of_below (F := []) hW) (fun _ _ => by simp) : VS false v sp nm kn K0 N L W F3).blk
          exact (isideal_any hbk).mono fun e w' ⟨h1, h2⟩ => ⟨h1, h2 ▸ hW⟩)
        have CC : Hid (∀ W, Below wr.heap.size wr W → Calls Tryz.prog 15 #[.pointer (some ⟨v, 0, none⟩)] W fun e w' => e = .returned (.int .i64 (L.length : Int)) ∧ Below wr.heap.size wr w') := hid_ (fun W hW =>
          (vcount_x (show VS false v sp nm kn K0 N L W F3 from (VS.foot false v sp nm kn K0 N L).keep hT3.one (Untouched.of_below (F := []) hW) (fun _ _ => by simp))).mono fun e w' ⟨h1, h2⟩ => ⟨h1, h2 ▸ hW⟩)
        have TU := hid_ HD.out.un
        clear hT3 hr3 HD
        have se := beq_self_eq_true (L.length : Int)
        refine region_quiet_in (C := fun W => Below wr.heap.size wr W) (by kernel_rfl) (by kernel_rfl) ((Below.refl _ _).drew) ?_
        repeat (first | go_big_quiet_skip | (go_big_quiet_want; (first
          | (refine BigFrame.quiet_move _ rfl ?_; go_simp)
          | (refine BigFrame.quiet_assign _ rfl ?_; go_simp)
          | (refine quiet_call (.bool false) 14 #[.pointer (some ⟨v, 0, none⟩)] ?_ CI.out ?_; (focus (intro W; go_simp; done)); go_simp)
          | (refine quiet_call (.int .i64 (L.length : Int)) 15 #[.pointer (some ⟨v, 0, none⟩)] ?_ CC.out ?_; (focus (intro W; go_simp; done)); go_simp)
          | (refine quiet_run (.pointer (some ⟨rg, 0, none⟩)) ?_ ?_; (focus (intro W hW; go_simp; done)); go_simp)
          | (refine quiet_run (.pointer (some ⟨rg, 3, none⟩)) ?_ ?_; (focus (intro W hW; go_simp; done)); go_simp)
          | (refine quiet_run (.slice AL L.length cl) ?_ ?_; (focus (intro W hW; have h := CL.out W hW; go_simp; done)); go_simp)
          | (refine quiet_run (.int .i64 (L.length : Int)) ?_ ?_; (focus (intro W hW; go_simp; done)); go_simp)
          | (refine quiet_run (.bool true) ?_ ?_; (focus (intro W hW; go_simp; done)); go_simp)
          | (refine quiet_run (.bool false) ?_ ?_; (focus (intro W hW; go_simp; done)); go_simp)); go_big_quiet_on))
        refine wpQuiet_nil ?_
        intro w9 hw9
        have B9 := hid_ hw9
        clear hw9 CL CI CC
        refine hK9 _ _ ?_
        go_wp2
        go_ret
        exact ⟨rfl, by rw [HG.out]; exact B0.out.trans ((TU.out.trans (B9.out.mono TU.out.size)).mono gle)⟩

theorem laid_metV (os : Os) : laidMet Tryz.prog [("casket/sha2.roundWords", Rows.laid_casket_sha2_roundWords)] ((laidWorld os).forCall (fun _ _ => 0) ⟨#[], #[.agg (rowOf (zbytes 32)), .slice none 0 0], []⟩).memory :=
  laidMet_of_run' 8 (by kernel_rfl) (by kernel_rfl)

/-- What the walk gives, for every argument and every world in which the constants lie. -/
theorem contract (H : Type) (enc : TypeId × Value → H) (W : World) (base : Nat) (args : Array Value) (ds gs : List (DataW H)) (before : List MemPlace)
    (hval : ∀ (j : Nat) t v, Tryz.f3.params[j]? = some t → args[j]? = some v → Value.okWide Tryz.prog W .any base t v)
    (hW : DataW.Whole enc Tryz.prog Tryz.f3.params.toList Rows.vaultRealSpec.vars false W args.toList ds gs before) (hL : laidMetH Tryz.prog Rows.vaultRealRow.laid W) :
    Calls Tryz.prog 3 args W fun e W' => ∃ v, e = .returned v ∧ Rows.vaultRealSpec.post enc Tryz.prog Tryz.f3 false true false false W args v W' := by
  obtain ⟨ht, hg1⟩ := tab_of hL
  have hW' := hW
  obtain ⟨p, q, hA0, hV, rfl, hfz, hnd⟩ := hW
  have hA : DataW.TrodAll enc Tryz.prog W 0 (fun _ => true) true Tryz.f3.params.toList args.toList ds p := hA0
  rw [Tryz.params3] at hA hval
  obtain ⟨v0, vs0, d0, ds0, p0, q0, hargs, rfl, rfl, h0, r0⟩ := trodAll_cons hA
  obtain ⟨v1, vs1, d1, ds1, p1, q1, rfl, rfl, rfl, h1, r1⟩ := trodAll_cons r0
  obtain ⟨rfl, rfl, rfl⟩ := trodAll_nil r1
  obtain rfl : args = #[v0, v1] := by cases args; simp_all
  obtain ⟨rfl, rfl⟩ := trodVars_none hV
  obtain ⟨M, rfl, hM⟩ := open_arr8 Tryz.underlying22 Tryz.underlying5 (by kernel_rfl) (by kernel_rfl) (hval 0 22 v0 rfl rfl) h0
  obtain ⟨A1, l1, c1, rfl, hp1, hl1, hm1⟩ := open_vacts (hval 1 23 v1 rfl rfl) h1
  refine (walk W M hM A1 l1.length c1 l1 rfl hp1 (by unfold maxLen at hm1; omega) ht hg1).mono fun e W' ⟨he, hg⟩ => ⟨_, he, ?_⟩
  exact law_post laidOut_ (of_decide_eq_true (by kernel_rfl)) rfl rfl Tryz.underlying4 rfl hW' hg

theorem reads (os : Os) {H : Type} (enc : TypeId × Value → H) : ∃ places, DataW.whole enc Tryz.prog ((laidWorld os).forCall (fun _ _ => 0) ⟨#[], #[.agg (rowOf (zbytes 32)), .slice none 0 0], []⟩).memory Tryz.f3.params.toList Rows.vaultRealSpec.vars false (#[.agg (rowOf (zbytes 32)), .slice none 0 0] : Array Value).toList 8 = some ([.agg [.lit (.int .u8 0), .lit (.int .u8 0), .lit (.int .u8 0), .lit (.int .u8 0), .lit (.int .u8 0), .lit (.int .u8 0), .lit (.int .u8 0), .lit (.int .u8 0), .lit (.int .u8 0), .lit (.int .u8 0), .lit (.int .u8 0), .lit (.int .u8 0), .lit (.int .u8 0), .lit (.int .u8 0), .lit (.int .u8 0), .lit (.int .u8 0), .lit (.int .u8 0), .lit (.int .u8 0), .lit (.int .u8 0), .lit (.int .u8 0), .lit (.int .u8 0), .lit (.int .u8 0), .lit (.int .u8 0), .lit (.int .u8 0), .lit (.int .u8 0), .lit (.int .u8 0), .lit (.int .u8 0), .lit (.int .u8 0), .lit (.int .u8 0), .lit (.int .u8 0), .lit (.int .u8 0), .lit (.int .u8 0)], .nil], [], places) :=
  ⟨[], by kernel_rfl⟩

set_option maxRecDepth 100000 in
theorem lifted (os : Os) (started : os.Started) (H : Type) (enc : TypeId × Value → H) (F : Stop.Interp) :
    ReturnsInHanded {} Tryz.checked os 3 .any ((OpenSpec.ofChange Rows.vaultRealSpec).preRow enc Tryz.prog Tryz.f3 Rows.vaultRealRow.domain false Rows.vaultRealRow.laid) (((OpenSpec.ofChange Rows.vaultRealSpec).at F).post enc Tryz.prog Tryz.f3 false true false false) := by
  obtain ⟨places, hx⟩ := reads os enc
  refine returnsInHanded_of_row (C := Tryz.checked) (s := OpenSpec.ofChange Rows.vaultRealSpec) own_ started (by kernel_rfl) Tryz.func3
    (witness_row_at (enc := enc) (C := Tryz.checked) false (laidWorld os) #[.agg (rowOf (zbytes 32)), .slice none 0 0] rfl (by kernel_rfl) (by kernel_rfl) (by kernel_rfl)
      (OpenSpec.preRow_of_cond 8 hx (by kernel_rfl) (fun k hk => by cases hk) (by kernel_rfl) (laid_metV os))) ?_
  intro W base args ds gs before hval hW _ _ _ hL _ _
  exact contract H enc W base args ds gs before hval hW hL

theorem said : Rows.VaultRealSaid :=
  OpenClaim.holds_of_cond 3 Tryz.f3 rfl rfl rfl rfl rfl rfl rfl ⟨rfl, rfl, rfl, rfl, rfl⟩ rfl rfl rfl rfl rfl (by kernel_rfl) Tryz.func3 (by kernel_rfl)
    (of_decide_eq_true (by kernel_rfl)) (by unfold Func.isWrapper; first | (rw [if_pos (by decide +kernel)]; kernel_rfl) | (rw [if_neg (by decide +kernel)]; exact ⟨rfl, rfl⟩))
    (fun os started H enc _ F => by rw [OpenClaim.pre_eq_preRow]; exact lifted os started H enc F)

/-- No parameter wants a stand-in; the program's own looks are off: what the card asks. -/
theorem plain (f : FuncId) (fn : Func) (hf : Tryz.pinned.checked.prog.funcNamed "casket/casketlaw12.VaultReal" = some f) (hfn : Tryz.pinned.checked.prog.funcs[f]? = some fn) :
    false = Tryz.pinned.checked.prog.looks [] ∧ ∀ (j : Nat) t, fn.params[j]? = some t → Tryz.pinned.checked.prog.wantsStandIn t = false := by
  obtain rfl : f = 3 := Option.some.inj ((show Tryz.prog.funcNamed "casket/casketlaw12.VaultReal" = some 3 by kernel_rfl).symm.trans hf) |>.symm
  obtain rfl : fn = Tryz.f3 := (Option.some.inj (Tryz.func3.symm.trans hfn)).symm
  refine ⟨by kernel_rfl, fun j t ht => ?_⟩
  rw [Tryz.params3] at ht
  have hm := Array.mem_of_getElem? ht
  simp only [List.mem_toArray, List.mem_cons, List.not_mem_nil, or_false] at hm
  rcases hm with rfl | rfl
  · exact (show Tryz.prog.wantsStandIn 22 = false by kernel_rfl)
  · exact (show Tryz.prog.wantsStandIn 23 = false by kernel_rfl)

/-- The card. -/
theorem proved : Rows.VaultRealCardSaid :=
  Claim7.holds_tied_plain_at .later [] _ _ _ _ said (fun _ h => by cases h) (by kernel_rfl) (fun _ h => by cases h) vaultReal_row_tie rfl ⟨rfl, rfl⟩ (by kernel_rfl) rfl plain (by kernel_rfl)
#print axioms proved
end Go.Proofs.YthbkbmckmoleiaaGreatDoor.vaultReal
