/-
  Proved: for all keys, replicas that are up and orders CasketRoutes answers true: a message that is sent to each of a key's replicas, and to a stand-in for each that is down, comes to each of them once, as it was written. No condition.
-/
import Derived.Test.YtegfnlnbhhmkjaaDoorRT
import Derived.ChangeKeysEq
namespace Go.Proofs.YtegfnlnbhhmkjaaDoor.casketRoutes
set_option maxRecDepth 100000
open Go.ChangeShapes Go.WideShapes Go.ChangeAt Go.RowKit
set_option linter.unusedVariables false
set_option linter.unusedSimpArgs false

theorem eval_slot {a : Act} {s : Nat} {v : Value} (h : a.tmps[s]?.getD undef = v) : a.eval (.tmp s) = v := by
  show a.tmps.getD s undef = v
  simpa using h
theorem u64_natR (z : Int) : ∃ x : Nat, IntKind.u64.wrap z = (x : Int) ∧ x ≤ 18446744073709551615 := by
  have h : IntKind.u64.wrap z = z % 18446744073709551616 := by simp [IntKind.wrap, IntKind.signed, IntKind.bits]
  have h0 : 0 ≤ z % 18446744073709551616 := Int.emod_nonneg _ (by omega)
  have h1 : z % 18446744073709551616 < 18446744073709551616 := Int.emod_lt_of_pos _ (by omega)
  exact ⟨(z % 18446744073709551616).toNat, by rw [h]; omega, by omega⟩
theorem step_store_rowR {P : Program} {ops : Array Oper} {o : Oper} {a : Act} {w : World} {Q : Exit → Act → World → Prop} {K : Act → World → Prop} {E : Prop} (hw : Region.wanted o (yielded ops a.tmps) = true) (ty : TypeId) (x y : Operand) (ho : o.op = .store ty x y)
    (g : Nat) (cells : Array Value) (hx : a.eval x = .pointer (some ⟨g, 0, none⟩)) (hy : a.eval y = .agg cells)
    (t : TypeId) (old : Array Value) (hg : Bk w g t old) (hi : (P.info? ty).map (·.size) = some cells.size)
    (hold : old.size = cells.size) (h1 : cells.all (·.oneCell') = true) (h : K (a.put o.dst undef) (w.setRow g cells)) : if Region.wanted o (yielded ops a.tmps) = true then Oper.wp P o a w K Q else E := by
  rw [if_pos hw]
  exact wp_store_row ty x y ho g cells hx hy t old hg hi hold h1 h
theorem mark_putR (w w' : World) (g : Nat) (o : Obj) (hgz : w.heap.size = g) (hg : (w.alloc o).grownBy w' (some g)) : Below w.heap.size w w' := by
  subst hgz
  exact ((Below.refl w.heap.size w).alloc (Nat.le_refl _) o).grown hg (by simp) (fun k hk => by injection hk with hk; omega)
theorem strOf_ne1 (x : List UInt8) (h : x ≠ [120]) : ((strOf x).toList == ([120] : List UInt8)) = false := by
  have h2 := strOf_ne (l := x) (m := [120]) h
  rw [strOf_toList [120]] at h2
  exact h2
theorem z5 (W : World) : (zeroValue 37).run Tryd.prog W = .ok (.agg #[.int .i64 0, .int .i64 0, .int .i64 0, .int .i64 0, .int .i64 0]) W := by kernel_rfl
set_option maxRecDepth 100000 in
set_option maxHeartbeats 16000000 in
theorem walk (w : World) (K : List UInt8) (hK : K.length = 32) (A0 : Option Addr) (u0 : List Bool) (c0 : Nat) (hr0 : RdW w w.heap.size A0 u0) (hl0 : u0.length ≤ c0) (hc0 : c0 ≤ 9223372036854775807)
    (Ao : Option Addr) (lo : List Int) (co : Nat) (hro : RdIc w w.heap.size Ao lo) (hlo : lo.length ≤ 9223372036854775807) (ht : Tab w) (hg1 : 0 < w.heap.size) :
    Calls Tryd.prog 3 #[.agg (rowOf K), .slice A0 u0.length c0, .slice Ao lo.length co] w fun e w' => e = .returned (.bool true) ∧ Below w.heap.size w w' := by
  obtain ⟨m, hm⟩ : ∃ m, m = min u0.length 5 := ⟨_, rfl⟩
  have hm1 := fun W => run_min2 u0.length 5 m hm W
  rw [show ((5 : Nat) : Int) = 5 from rfl] at hm1
  have m5 : m ≤ 5 := by omega
  obtain ⟨l0, hl⟩ : ∃ l, u0.length = l := ⟨_, rfl⟩
  have hs1 := fun W => sliceW_to A0 u0.length c0 (m : Int) m rfl (by omega) W
  have RT := hidrt_ (hr0.take m)
  have HML := hidrt_ (show (u0.take m).length = m by rw [List.length_take]; omega)
  rw [hl] at hm1 hs1 ⊢
  obtain ⟨ul, hul⟩ : ∃ ul, u0.take m = ul := ⟨_, rfl⟩
  rw [hul] at RT HML
  obtain ⟨d5, hd5⟩ : ∃ d, 5 - m = d := ⟨_, rfl⟩
  have e5 : (5 : Int) - (m : Int) = (d5 : Int) := by omega
  have w5 : IntKind.i64.wrap (d5 : Int) = (d5 : Int) := IntWalk.i64_in _ (by omega)
  have H5 := hidrt_ (show m + d5 = 5 by omega)
  obtain ⟨nO, hnO⟩ : ∃ n, lo.length = n := ⟨_, rfl⟩
  have HNO := hidrt_ hnO
  rw [hnO] at hlo ⊢
  obtain ⟨gk, hgk⟩ : ∃ g, w.heap.size = g := ⟨_, rfl⟩
  obtain ⟨w1, hw1⟩ : ∃ W, w.alloc (.cells (rowOf K) 23) = W := ⟨_, rfl⟩
  have B1 := hidrt_ (show Below w.heap.size w w1 by rw [← hw1]; exact (Below.refl _ _).alloc (Nat.le_refl _) _)
  have K1 := hidrt_ (show Bk w1 gk 23 (rowOf K) by rw [← hw1, ← hgk]; exact Bk.new w _ _)
  have T1 := hidrt_ (show Tab w1 from fun t h => (B1.out.cell hg1).trans (ht t h))
  have G1 := hidrt_ (show 0 < w1.heap.size from Nat.lt_of_lt_of_le hg1 B1.out.size)
  have KL := hidrt_ (iBlind K hK)
  have HK := hidrt_ hK
  have RO := hidrt_ hro
  have GK := hidrt_ hgk
  have cn : Calls Tryd.prog 4 #[.int .i64 5, .int .i64 4] w1 (NewRP w1 5 4) := new_any w1 5 4 (by omega) (by omega) (by omega) (by omega) T1.out G1.out
  have HS := hidrt_ (show Srt ltP (ringL plcS 5 4) from ringL_srt _ _ _)
  have HL6 := hidrt_ (show (ringL plcS 5 4).length ≤ 1000000 by rw [ringL_len]; omega)
  have HWL := hidrt_ (show (walkV (plB K) (ringL plcS 5 4)).length = 5 from walk_len (plc := plcS) _ (by omega))
  have HLT := hidrt_ (show ∀ z ∈ walkV (plB K) (ringL plcS 5 4), z < 5 from fun z h => walk_lt h)
  have HND := hidrt_ (walkV_nodup (plB K) (ringL plcS 5 4))
  unfold NewRP at cn
  obtain ⟨L, hL⟩ : ∃ L, ringL plcS 5 4 = L := ⟨_, rfl⟩
  rw [hL] at HS HL6 HWL HLT HND cn
  obtain ⟨ws, hws⟩ : ∃ x, walkV (plB K) L = x := ⟨_, rfl⟩
  rw [hws] at HWL HLT HND
  have HWS := hidrt_ hws
  clear hK ht hL hws hm hl0 hc0 hr0 hul hd5 hro hnO
  go_enter Tryd.func3, Tryd.ntmps3
  go_upto_region 2 with (go_at_call 4; ((with_reducible refine cn.mono ?_); clear cn; rintro e w2 ⟨g, rfl, hri, hb⟩; have B2 := hidrt_ (B1.out.trans (hb.mono B1.out.size)); have K2 := hidrt_ (K1.out.below hb K1.out.lt); have R2 := hidrt_ hri; have T2 := hidrt_ (show Tab w2 from fun t h => (hb.cell G1.out).trans (T1.out t h)); have G2 := hidrt_ (Nat.lt_of_lt_of_le G1.out hb.size); clear hri hb))
  clear hw1 hgk B1 K1 T1 G1
  obtain ⟨L0, hL0⟩ : ∃ x : List (List (List UInt8)), List.replicate 12 [] = x := ⟨_, rfl⟩
  have cq : Calls Tryd.prog 5 #[.int .i64 6] w2 (NewI w2 6 L0) := new_i w2 6 6 rfl (by omega) (by omega) L0 hL0
  have HL0 := hidrt_ hL0
  obtain ⟨N, hN⟩ : ∃ N, w2.heap.size = N := ⟨_, rfl⟩
  have HN := hidrt_ hN
  have HKN := hidrt_ (show gk < N by rw [← hN]; exact K2.out.lt)
  clear hL0 hN
  go_upto_region 3 with (go_at_call 5; ((with_reducible refine cq.mono ?_); clear cq; rintro e w3 ⟨p, q, F, rfl, hI⟩; have I3 := hidrt_ hI; have cs := stands_any w3 (fun t h => (hI.un.cell G2.out).trans (T2.out t h)) (Nat.lt_of_lt_of_le G2.out hI.un.size); clear hI))
  go_upto_region 5 with (go_at_call 6; ((with_reducible refine cs.mono ?_); clear cs; rintro e w4 ⟨rfl, hb⟩; have I4 := hidrt_ (I3.out.below hb); clear hb))
  clear I3 T2 G2
  have O3 := hidrt_ (OwnW.lit w4 w4.heap.size [] (Nat.le_refl _) (by simp [maxLen]))
  have RT4 := hidrt_ (show RdW (w4.alloc (.cells #[] 4)) w.heap.size A0 ul from (RT.out.below (B2.out.trans (I4.out.un.mono B2.out.size))).alloc (Nat.le_trans B2.out.size I4.out.un.size) _)
  have hb3 : w4.heap.size ≤ (w4.alloc (.cells #[] 4)).heap.size := by simp
  have hl1 : ([] : List Bool).length + m ≤ 1000000 := by simp; omega
  go_upto_region 6 with (first
    | (at_builtin; refine wpList_appW rfl (.tmp 42) (.tmp 47) rfl O3.out rfl m c0 rfl RT4.out HML.out hl1 hb3 ?_; intro A5 c5 w5' h1 h2 h3; rw [show ([] : List Bool).length + m = m by simp] at h1 h3 ⊢; have O5 := hidrt_ (show OwnW w5' w4.heap.size (.slice A5 m c5) ul from h1); have B45 := hidrt_ (show Below w4.heap.size w4 w5' from (((Below.refl w4.heap.size w4).alloc (Nat.le_refl _) (.cells #[] 4))).grown h2 (by simp) (fun k hk => (World.ownsRow.lt O3.out k hk).1)); clear h1 h2 h3)
    | (refine wpList_appB rfl (.tmp 48) (.tmp 52) rfl O5.out rfl d5 rfl (by rw [HML.out]; omega) B45.out.size ?_; intro A6 c6 w6 h1 h2 h3; rw [HML.out, H5.out] at h1 h3 ⊢; have U6 := hidrt_ (show RdW w6 w6.heap.size A6 (ul ++ List.replicate d5 false) from h1.rd.1); have B46 := hidrt_ (show Below w4.heap.size w4 w6 from B45.out.grown h2 B45.out.size (fun k hk => (World.ownsRow.lt O5.out k hk).1)); clear h1 h2 h3))
  obtain ⟨u5, hu5⟩ : ∃ x, ul ++ List.replicate d5 false = x := ⟨_, rfl⟩
  have HUL := hidrt_ (show u5.length = 5 by rw [← hu5, List.length_append, HML.out, List.length_replicate, H5.out])
  rw [hu5] at U6
  have B26 := hidrt_ (I4.out.un.trans (B46.out.mono I4.out.un.size))
  have K6 := hidrt_ (K2.out.below B26.out K2.out.lt)
  have R6 := hidrt_ (R2.out.below B26.out)
  have I6 := hidrt_ (I4.out.below B46.out)
  clear O3 RT RT4 hb3 hl1 hm1 hs1 O5 B45 B46 I4 K2 R2 hu5 e5 w5
  have HG := hidrt_ (stAll_good (up := upF u5) HND.out 3 3 (Nat.le_refl _) (by rw [HWL.out]; omega))
  have HGD := hidrt_ (stAll_d (up := upF u5) (ws := ws) 3 3 (by rw [HWL.out]; omega))
  have cs : Calls Tryd.prog 7 #[.pointer (some ⟨g, 0, none⟩), .agg (rowOf K), .int .i64 3, .slice A6 5 c6] w6 _ := stand_own w6 g L R6.out HS.out HL6.out K HK.out ws HWS.out 3 (by omega) (by rw [HWL.out]; omega) (by rw [HWL.out]; omega) A6 5 c6 u5 HUL.out HWL.out.symm U6.out (fun x h => by rw [HWL.out]; exact HLT.out x h)
  obtain ⟨ps, hps⟩ : ∃ st, (stAll (upF u5) ws 3 3).1 = st := ⟨_, rfl⟩
  unfold StO at cs
  rw [hps] at cs HG HGD
  obtain ⟨n, hn⟩ : ∃ p, ps.length = p := ⟨_, rfl⟩
  rw [hn] at cs
  have HP := hidrt_ hn
  have n3 : n ≤ 3 := by have := HG.out.2.2.2.2; omega
  have PND := hidrt_ (show (ps.map PrV.p).Nodup from HG.out.1.sublist (List.sublist_append_left _ _))
  have PLT := hidrt_ (show ∀ x ∈ ps, x.p < 5 from fun x hx => HLT.out _ (HG.out.2.2.1 x hx))
  have DLT := hidrt_ (show ∀ x ∈ ps, x.r < 5 from fun x hx => HLT.out _ (HGD.out x hx))
  clear hps hn HG HGD
  have hz5 := z5
  go_upto_region 10 with (first
    | (refine wpList_load_row rfl 23 (.tmp 3) rfl gk rfl 23 (rowOf K) (0, 0) _ K6.out Tryd.underlying23 rfl KL.out ?_)
    | (go_at_call 7; ((with_reducible refine cs.mono ?_); clear cs; rintro e w7 ⟨A7, c7, rfl, hrd, hb⟩; have B67 := hidrt_ hb; have E7 := hidrt_ hrd; clear hb hrd)))
  obtain ⟨gw, hgw⟩ : ∃ g, w7.heap.size = g := ⟨_, rfl⟩
  obtain ⟨w8, hw8⟩ : ∃ W, w7.alloc (.cells #[.int .i64 0, .int .i64 0, .int .i64 0, .int .i64 0, .int .i64 0] 37) = W := ⟨_, rfl⟩
  obtain ⟨mb, hmb⟩ : ∃ f : Nat → List UInt8, f = fun i => mgB (rtV K i (ps.getD i ⟨0, 0⟩).r) := ⟨_, rfl⟩
  have HMB := hidrt_ (show ∀ i, mb i = mgB (rtV K i (ps.getD i ⟨0, 0⟩).r) from fun i => by rw [hmb])
  have R8 := hidrt_ (show RouS w gk p q gw N K A7 c7 ps (wantR ps 0) L0 F w8 by
    have hb8 : Below w7.heap.size w7 w8 := by rw [← hw8]; exact (Below.refl _ _).alloc (Nat.le_refl _) _
    have i7 := I6.out.below B67.out
    have hN2 := HN.out
    have k7 := K6.out.below B67.out K6.out.lt
    have hkN : gk < N := HKN.out
    rw [← HP.out] at E7
    have hs := i7.un.size
    refine ⟨i7.net.below hb8, k7.below hb8 k7.lt, ?_, (E7.out.below hb8 (Nat.le_refl _)).lowerE (by rw [← hN2]; exact B26.out.size), ?_, by rw [← hN2]; exact i7.hi, ⟨by rw [← hN2]; exact B2.out.size, hkN, by rw [← hN2, ← hgw]; exact hs, by rw [← hN2]; exact Nat.le_trans hs hb8.size⟩, ?_, ?_⟩
    · rw [← hw8, ← hgw]
      exact Bk.new w7 _ _
    · exact (B2.out.trans (i7.un.mono B2.out.size)).trans (hb8.mono (Nat.le_trans B2.out.size hs))
    · intro hmm
      have := i7.net.hF _ hmm
      omega
    · intro b hb
      have hlt := E7.out.lt b hb
      refine ⟨fun hmm => ?_, by omega⟩
      have := I6.out.net.hF _ hmm
      omega)
  have X8 := hidrt_ (show BxL mb ps 0 L0 by rw [← HL0.out]; exact BxL.start _ _)
  clear hmb I6 B67 E7 B26 K6 R6 U6 hz5
  rw [hw8, hgw]
  clear hgw hw8
  go_upto_region 11 with fail
  go_loopw [13] (fun i wr => ∃ (k : Nat) (L' : List (List (List UInt8))) (F' : List Nat), i = .int .i64 k ∧ k ≤ n ∧ Hid (BxL mb ps k L') ∧ Hid (RouS w gk p q gw N K A7 c7 ps (wantR ps k) L' F' wr)) (fun i _ => n - (intOf i).toNat)
  case atStart => exact ⟨0, L0, F, rfl, Nat.zero_le _, X8, R8⟩
  case round =>
    obtain ⟨k, L', F', rfl, hk, HX, HR⟩ := hrel
    clear X8 R8
    by_cases hlt : k < n
    · have tl : (k : Int) < (n : Int) := by omega
      have t0 : (0 : Int) ≤ (k : Int) := by omega
      have hkl : k < ps.length := by rw [HP.out]; exact hlt
      obtain ⟨g7, hA7⟩ := HR.out.blk (by omega)
      subst hA7
      obtain ⟨x, hx⟩ : ∃ x, ps.getD k ⟨0, 0⟩ = x := ⟨_, rfl⟩
      have hpm : x ∈ ps := by rw [← hx, List.getD_eq_getElem?_getD, List.getElem?_eq_getElem hkl]; exact List.getElem_mem _
      have CE := hidrt_ (show ∀ (X : Array Value) L F W, RouS w gk p q gw N K (some ⟨g7, 0, none⟩) c7 ps X L F W → W.cell? ⟨g7, k * 2, none⟩ = some (.int .i64 (x.p : Int)) ∧ W.cell? ⟨g7, k * 2 + 1, none⟩ = some (.int .i64 (x.r : Int)) from fun X L F W h => by
        have h2 := h.cells k hkl
        rw [hx] at h2
        exact h2)
      obtain ⟨y, hy⟩ : ∃ y, x.p = y := ⟨_, rfl⟩
      obtain ⟨d, hd⟩ : ∃ d, x.r = d := ⟨_, rfl⟩
      rw [hy, hd] at CE
      have y5 : y < 5 := by rw [← hy]; exact PLT.out x hpm
      have d5' : d < 5 := by rw [← hd]; exact DLT.out x hpm
      have hmk : mb k = mgB (rtV K k d) := by rw [HMB.out, hx, hd]
      have HMK := hidrt_ hmk
      have HPY := hidrt_ (show (ps.getD k ⟨0, 0⟩).p = y by rw [hx, hy])
      have SD := hidrt_ (by
        have h := HX.out.send (by rw [HPY.out]; exact y5) (Nat.le_trans (cntAt_one PND.out k (by omega)) (by omega))
        rw [HPY.out, HMK.out] at h
        exact h)
      have MOK := hidrt_ (rtV_ok K k d (by omega) (by omega))
      have HM48 := hidrt_ (rtV_len K HK.out k d (by omega) (by omega))
      have hz := zMsg
      clear hx hpm hy hd hmk
      go_upto_region 13 with fail
      rename_i K7 hK7
      refine region_byJF [69, 70, 71, 72, 73, 74, 75, 76, 77, 14] (fun _ => True) (fun _ _ => True) (fun jR_ vR_ (wR_ : World) => (match jR_ with | 0 => vR_ = .int .i64 (k : Int) | 1 => vR_ = .slice (some ⟨g7, 0, none⟩) n c7 | 2 => vR_ = .int .i64 (k : Int) | 3 => vR_ = .pointer (some ⟨g7, k * 2, none⟩) | 4 => vR_ = .pointer (some ⟨g7, k * 2 + 1, none⟩) | 5 => vR_ = .int .i64 (d : Int) | 6 => vR_ = .agg (rowOf K) | 7 => vR_ = .agg (krC ⟨⟨K, []⟩, none, 0⟩).toArray | 8 => vR_ = .agg (mgC (rtQ K k d)).toArray | _ => True)) (fun D a W => BxJ 9 10 14 45 (mgC mgZ).toArray wr.heap.size wr (fun b W => Bk W b 45 (mgC (rtQ K k d)).toArray) D a W) (by kernel_rfl) (by kernel_rfl) (by kernel_rfl) (by kernel_rfl) (fun j v w w' hT hr => hr) (fun j v w hlt hj _ => ?_) trivial ?_ (BxJ.start (below_drewN (Below.refl _ _) 1) (Nat.le_refl _)) ?_
      · rcases j with _ | _ | _ | _ | _ | _ | _ | _ | _ | _ | _ | j
        all_goals first
          | (exfalso; simp [dstOf] at hj; done)
          | trivial
      · refine ⟨fun D a9 W hC hd hsz hf hv hJ hL hW K8 hK => ?_, fun D a9 W hC hd hsz hf hv hJ hL hW K8 hK => ?_, fun D a9 W hC hd hsz hf hv hJ hL hW K8 hK => ?_, fun D a9 W hC hd hsz hf hv hJ hL hW K8 hK => ?_, fun D a9 W hC hd hsz hf hv hJ hL hW K8 hK => ?_, fun D a9 W hC hd hsz hf hv hJ hL hW K8 hK => ?_, fun D a9 W hC hd hsz hf hv hJ hL hW K8 hK => ?_, fun D a9 W hC hd hsz hf hv hJ hL hW K8 hK => ?_, fun D a9 W hC hd hsz hf hv hJ hL hW K8 hK => ?_, fun D a9 W hC hd hsz hf hv hJ hL hW K8 hK => ?_, fun D a9 W hC hd hsz hf hv hJ hL hW K8 hK => ?_, trivial⟩
        · clear hsz
          have eS1_ := slot_of (a := a9) (s := 13) (v := .int .i64 (k : Int)) (hf 13 (by kernel_rfl))
          refine step_run (wanted_none rfl) (v := .int .i64 (k : Int)) (w' := W) ?_ (hK _ _ trivial trivial rfl (hJ.same 0 (by decide) (by decide) hL (by decide) _ (Below.refl _ _)))
          go_simp
        · clear hsz
          have eS1_ := slot_of (a := a9) (s := 11) (v := .slice (some ⟨g7, 0, none⟩) n c7) (hf 11 (by kernel_rfl))
          refine step_run (wanted_none rfl) (v := .slice (some ⟨g7, 0, none⟩) n c7) (w' := W) ?_ (hK _ _ trivial trivial rfl (hJ.same 1 (by decide) (by decide) hL (by decide) _ (Below.refl _ _)))
          go_simp
        · clear hsz
          have eS1_ := slot_of (a := a9) (s := 13) (v := .int .i64 (k : Int)) (hf 13 (by kernel_rfl))
          refine step_run (wanted_none rfl) (v := .int .i64 (k : Int)) (w' := W) ?_ (hK _ _ trivial trivial rfl (hJ.same 2 (by decide) (by decide) hL (by decide) _ (Below.refl _ _)))
          go_simp
        · clear hsz
          have eS1_ := slot_of (a := a9) (s := 70) (v := .slice (some ⟨g7, 0, none⟩) n c7) (hv 1 (by kernel_rfl))
          have eS2_ := slot_of (a := a9) (s := 71) (v := .int .i64 (k : Int)) (hv 2 (by kernel_rfl))
          refine step_run (wanted_none rfl) (v := .pointer (some ⟨g7, k * 2, none⟩)) (w' := W) ?_ (hK _ _ trivial trivial rfl (hJ.same 3 (by decide) (by decide) hL (by decide) _ (Below.refl _ _)))
          go_simp
        · clear hsz
          have eS1_ := slot_of (a := a9) (s := 72) (v := .pointer (some ⟨g7, k * 2, none⟩)) (hv 3 (by kernel_rfl))
          refine step_run (wanted_none rfl) (v := .pointer (some ⟨g7, k * 2 + 1, none⟩)) (w' := W) ?_ (hK _ _ trivial trivial rfl (hJ.same 4 (by decide) (by decide) hL (by decide) _ (Below.refl _ _)))
          go_simp
        · clear hsz
          have eS1_ := slot_of (a := a9) (s := 73) (v := .pointer (some ⟨g7, k * 2 + 1, none⟩)) (hv 4 (by kernel_rfl))
          have hR := HR.out.low hJ.bel
          obtain ⟨h1_, h2_⟩ := CE.out _ _ _ _ hR
          refine step_run (wanted_none rfl) (v := .int .i64 (d : Int)) (w' := W) ?_ (hK _ _ trivial trivial rfl (hJ.same 5 (by decide) (by decide) hL (by decide) _ (Below.refl _ _)))
          go_simp
        · clear hsz
          have eS1_ := slot_of (a := a9) (s := 3) (v := .pointer (some ⟨gk, 0, none⟩)) (hf 3 (by kernel_rfl))
          have hR := HR.out.low hJ.bel
          have hrun := run_load_subm 23 gk 0 (rowOf K) (fun j _ => by rw [Nat.zero_add]; exact hR.key.cell j) _ Tryd.underlying23 rfl KL.out
          refine step_run (wanted_none rfl) (v := .agg (rowOf K)) (w' := W) ?_ (hK _ _ trivial trivial rfl (hJ.same 6 (by decide) (by decide) hL (by decide) _ (Below.refl _ _)))
          unfold execOp
          simp only [Instr.loadAt, Instr.sureAddr, Sem.run_bind, Sem.run_pure, Result.andThen_ok, eval_slot (a := a9) (s := 3) eS1_, hrun]
        · clear hsz
          have eS1_ := slot_of (a := a9) (s := 75) (v := .agg (rowOf K)) (hv 6 (by kernel_rfl))
          have f75 := eval_of (a := a9) (s := 75) (v := .agg (rowOf K)) (hv 6 (by kernel_rfl))
          refine step_builtM (wanted_none rfl) 41 #[(0, .tmp 75)] rfl (krC ⟨⟨K, []⟩, none, 0⟩).toArray ?_ ?_
          · simp only [List.map_toArray, List.map_cons, List.map_nil, f75]
            exact builtKr1 K HK.out
          · exact hK _ _ trivial trivial rfl (hJ.same 7 (by decide) (by decide) hL (by decide) _ (Below.refl _ _))
        · clear hsz
          have eS1_ := slot_of (a := a9) (s := 69) (v := .int .i64 (k : Int)) (hv 0 (by kernel_rfl))
          have eS2_ := slot_of (a := a9) (s := 74) (v := .int .i64 (d : Int)) (hv 5 (by kernel_rfl))
          have eS3_ := slot_of (a := a9) (s := 76) (v := .agg (krC ⟨⟨K, []⟩, none, 0⟩).toArray) (hv 7 (by kernel_rfl))
          have f69 := eval_of (a := a9) (s := 69) (v := .int .i64 (k : Int)) (hv 0 (by kernel_rfl))
          have f74 := eval_of (a := a9) (s := 74) (v := .int .i64 (d : Int)) (hv 5 (by kernel_rfl))
          have f76 := eval_of (a := a9) (s := 76) (v := .agg (krC ⟨⟨K, []⟩, none, 0⟩).toArray) (hv 7 (by kernel_rfl))
          refine step_builtM (wanted_none rfl) 45 #[(0, .const (.int .i64 5)), (1, .const (.int .i64 5)), (2, .tmp 69), (4, .tmp 74), (6, .tmp 76)] rfl (mgC (rtQ K k d)).toArray ?_ ?_
          · simp only [List.map_toArray, List.map_cons, List.map_nil, f69, f74, f76]
            exact builtRt K HK.out k d
          · exact hK _ _ trivial trivial rfl (hJ.same 8 (by decide) (by decide) hL (by decide) _ (Below.refl _ _))
        · skip
          have hsz9 : 14 < a9.tmps.size := by rw [hsz]; exact (by decide : 14 < 206)
          have hz := zMsg
          refine step_run (wanted_none rfl) (v := .pointer (some ⟨W.heap.size, 0, none⟩)) (w' := W.alloc (.cells (mgC mgZ).toArray 45)) ?_ (hK _ _ trivial trivial trivial (hJ.alloc (by decide) hL hsz9))
          go_simp
        · clear hsz
          have eS1_ := slot_of (a := a9) (s := 77) (v := .agg (mgC (rtQ K k d)).toArray) (hv 8 (by kernel_rfl))
          have hall : ∀ j, j < 10 → D j = true := fun j hj => by rcases j with _ | _ | _ | _ | _ | _ | _ | _ | _ | _ | j <;> first | omega | exact hW _ (by kernel_rfl)
          obtain ⟨b, h3, hb1, hb2⟩ := hJ.fresh (hall 9 (by decide)) hL
          refine step_store_rowR (wanted_none rfl) 45 (.tmp 14) (.tmp 77) rfl b (mgC (rtQ K k d)).toArray (eval_of h3) (eval_of (hv 8 (by kernel_rfl))) 45 (mgC mgZ).toArray hb2 (i42 _ HK.out) (by rw [List.size_toArray, List.size_toArray, mgC_len _ (zbytes_len 32), mgC_len _ HK.out]) (mgC_one _) ?_
          have g9 : W.grownBy (W.setRow b (mgC (rtQ K k d)).toArray) (some b) := grown_row (World.grownBy.refl W _) _
          exact hK undef _ trivial trivial trivial (hJ.store hall h3 hb1 ((Below.refl wr.heap.size W).grown g9 hJ.siz (fun k hk => by injection hk with hk; omega)) (hb2.rowed _) undef)
      · intro f9 w6 hC6 hv6 D6 hD6 hJ6
        obtain ⟨a6, hJ, hf6⟩ := hJ6
        obtain ⟨gm, e3, hgm, hb7⟩ := hJ.done (hD6 10 (by decide))
        rw [hf6 14] at e3
        have MB := hidrt_ hb7
        have RX := hidrt_ (HR.out.low hJ.bel)
        clear hv6 hD6 hC6 hJ hf6 hb7 hgm
        simp only [framed, List.foldl_cons, List.foldl_nil, List.setIfInBounds_toArray, List.set_cons_succ, List.set_cons_zero]
        rw [e3]
        clear e3
        refine hK7 _ _ ?_
        clear hK7 hz
        have cw := write_any w6 (rtQ K k d) (rtQ_ok K HK.out k d _ _) (rtQ_few K k d)
        have i42' := i42 (rtQ K k d) HK.out
        have k1 := fun W (z : Int) => Lib.run_convert_bytes_const (P := Tryd.prog) W 39 5 #[.int .u8 z] 1 1 Tryd.underlying39 Tryd.underlying5
        simp only [List.size_toArray, List.length_cons, List.length_nil] at k1
        go_upto_region 15 with (first
          | (refine wpList_load_row rfl 45 (.tmp 14) rfl gm rfl 45 (mgC (rtQ K k d)).toArray (0, 0) _ MB.out Tryd.underlying45 rfl i42' ?_)
          | (go_at_call 8; ((with_reducible refine cw.mono ?_); clear cw; rintro e wA ⟨A, r, c, er, rfl, hd, hB⟩; rw [rtQ_v] at hd; obtain ⟨rfl, hn, hO⟩ := hd.1 MOK.out; rw [HM48.out] at hn; subst hn; have RA := hidrt_ (RX.out.low hB); have RD := hidrt_ hO.rd.1; clear hB hO hd)))
        clear i42' MB RX
        obtain ⟨ca1, ca2⟩ := CE.out _ _ _ _ RA.out
        have cs1 : Calls Tryd.prog 9 #[.pointer (some ⟨p, 0, none⟩), .int .i64 (y : Int), .slice A 47 c] wA (NetP wA p q 6 (addL L' y (mgB (rtV K k d))) F' (addE L' y)) := send_yes RA.out.net y (by omega) A 47 c (mgB (rtV K k d)) HM48.out RD.out (by omega)
        rw [SD.out.1] at cs1
        unfold NetP at cs1
        have ty5 : (y : Int) < 5 := by omega
        have ty0 : (0 : Int) ≤ (y : Int) := by omega
        go_upto_region 17 with (first
          | (go_at_call 9; ((with_reducible refine cs1.mono ?_); clear cs1; rintro e wB ⟨rfl, F2, h1, h2, h3⟩; have RB := hidrt_ (RA.out.act h1 h2 h3); clear h1 h2 h3 ca1 ca2; obtain ⟨ca1, ca2⟩ := CE.out _ _ _ _ RB.out; (obtain ⟨wC, hwC⟩ : ∃ x, wB.alloc (.cells #[.int .u8 120] 5 (1, 2)) = x := ⟨_, rfl⟩); have rb := lit_rd wB 120 120 rfl; rw [hwC] at rb; have RC := hidrt_ (RB.out.low (show Below wB.heap.size wB wC by rw [← hwC]; exact (Below.refl _ _).alloc (Nat.le_refl _) _)); have cs2 : Calls Tryd.prog 9 #[.pointer (some ⟨p, 0, none⟩), .int .i64 (y : Int), .slice (some ⟨wB.heap.size, 0, none⟩) 1 1] wC (NetP wC p q 6 (addL (addL L' y (mgB (rtV K k d))) y [120]) F2 (addE (addL L' y (mgB (rtV K k d))) y)) := send_yes RC.out.net y (by omega) _ 1 1 [120] rfl rb (by omega); rw [SD.out.2.1] at cs2; unfold NetP at cs2))
          | (go_at_call 9; ((with_reducible refine cs2.mono ?_); clear cs2; rintro e wD ⟨rfl, F3, h1, h2, h3⟩; have RDD := hidrt_ (RC.out.act h1 h2 h3); clear h1 h2 h3 rb hwC ca1 ca2; obtain ⟨ca1, ca2⟩ := CE.out _ _ _ _ RDD.out)))
        clear k1 RA RB RC RD
        have hcz := (RDD.out.want.cell y).trans (wantR_at ps k y y5)
        have hfz := RDD.out.want.frozen y
        obtain ⟨cn0, hcn⟩ : ∃ c, cntAt ps y k = c := ⟨_, rfl⟩
        have hc1 : cn0 ≤ 1 := by rw [← hcn]; exact cntAt_one PND.out k (by omega)
        have WS := hidrt_ (wantR_set ps k y y5 HPY.out)
        rw [hcn] at hcz WS
        clear hcn
        go_wp2
        generalize hu : wD.setCell _ _ = wE
        have UT := hidrt_ (show Untouched [gw] wD wE by rw [← hu]; exact Untouched.set gw y (by simp) _)
        have RE := hidrt_ (RDD.out.put (show Bk wE gw 37 (wantR ps (k + 1)) by rw [← hu, ← WS.out]; exact RDD.out.want.set_ y _) UT.out)
        clear hu UT hcz hfz ca1 ca2 RDD
        go_roundw
        case rel => exact ⟨k + 1, _, F3, by go_num, by omega, hidrt_ SD.out.2.2, RE⟩
        case measure => simp [intOf]; omega
    · have tl : ¬ (k : Int) < (n : Int) := by omega
      obtain rfl : n = k := by omega
      have DN := hidrt_ (show DnL mb ps 0 L' by have h := HX.out; rw [← HP.out] at h; exact h.dn)
      have R9 := HR
      clear HX HR
      go_upto_region 19 with fail
      go_loopw [17] (fun i wr => ∃ (c : Nat) (L' : List (List (List UInt8))) (F' : List Nat), i = .int .i64 c ∧ c ≤ 5 ∧ Hid (DnL mb ps c L') ∧ Hid (RouS w gk p q gw N K A7 c7 ps (wantR ps n) L' F' wr)) (fun i _ => 5 - (intOf i).toNat)
      case atStart => exact ⟨0, L', F', rfl, by omega, DN, R9⟩
      case round =>
        clear DN R9
        obtain ⟨c, L', F', rfl, hc, HX, HR⟩ := hrel
        by_cases hlt : c < 5
        · have tl : (c : Int) < 5 := by omega
          have t0 : (0 : Int) ≤ (c : Int) := by omega
          obtain ⟨cn0, hcn⟩ : ∃ x, cntAt ps c n = x := ⟨_, rfl⟩
          have hc1 : cn0 ≤ 1 := by rw [← hcn]; exact cntAt_one PND.out n (by rw [HP.out]; exact Nat.le_refl _)
          have HLB := hidrt_ (show (L'.getD (c * 2) []).length = 2 * cn0 by rw [HX.out.box c (Nat.le_refl _) (by omega), bxAt_len, HP.out, hcn])
          have hcz := (HR.out.want.cell c).trans (wantR_at ps n c hlt)
          rw [hcn] at hcz
          have TK := hidrt_ (HX.out.tk hlt (by rw [HP.out, hcn]; exact hc1))
          have w2m : IntKind.i64.wrap (2 * (cn0 : Int)) = 2 * (cn0 : Int) := IntWalk.i64_in _ (by omega)
          have gt1 : ¬ (1 : Int) < (cn0 : Int) := by omega
          clear hcn HX
          go_upto_region 21 with fail
          obtain ⟨wd, hwd⟩ : ∃ x, wr.drew = x := ⟨_, rfl⟩
          have RD := hidrt_ (show RouS w gk p q gw N K A7 c7 ps (wantR ps n) L' F' wd by rw [← hwd]; exact HR.out.drewN 1)
          have hcz2 : wd.cell? ⟨gw, c, none⟩ = some (.int .i64 (cn0 : Int)) := by rw [← hwd]; exact hcz
          have CLN := hidrt_ (len_c RD.out.net c (by omega) (2 * cn0) HLB.out)
          have e2c : ((2 * cn0 : Nat) : Int) = 2 * (cn0 : Int) := by omega
          rw [e2c] at CLN
          have HWD := hidrt_ hwd
          clear hcz hwd e2c
          refine region_quiet_in (C := (fun W => W = wd)) (by kernel_rfl) (by kernel_rfl) (HWD.out) ?_
          go_big_quiet_want
          refine BigFrame.quiet_move _ rfl ?_
          go_simp
          go_big_quiet_on
          go_big_quiet_want
          refine BigFrame.quiet_move _ rfl ?_
          go_simp
          go_big_quiet_on
          go_big_quiet_want
          refine quiet_call (.int .i64 (2 * (cn0 : Int))) 10 #[.pointer (some ⟨p, 0, none⟩), .int .i64 (c : Int)] ?_ (CLN.out) ?_
          · intro W
            go_simp
          go_simp
          go_big_quiet_on
          go_big_quiet_want
          refine BigFrame.quiet_move _ rfl ?_
          go_simp
          go_big_quiet_on
          go_big_quiet_want
          refine quiet_run (.pointer (some ⟨gw, c, none⟩)) ?_ ?_
          · intro W hW
            obtain rfl := hW
            go_simp
          go_simp
          go_big_quiet_on
          go_big_quiet_want
          refine quiet_run (.int .i64 (cn0 : Int)) ?_ ?_
          · intro W hW
            obtain rfl := hW
            go_simp
          go_simp
          go_big_quiet_on
          go_big_quiet_want
          refine quiet_run (.int .i64 (2 * (cn0 : Int))) ?_ ?_
          · intro W hW
            obtain rfl := hW
            go_simp
          go_simp
          go_big_quiet_on
          go_big_quiet_want
          refine quiet_run (.bool false) ?_ ?_
          · intro W hW
            obtain rfl := hW
            go_simp
          go_simp
          go_big_quiet_on
          go_big_quiet_want
          refine BigFrame.quiet_move _ rfl ?_
          go_simp
          go_big_quiet_on
          go_big_quiet_want
          refine BigFrame.quiet_move _ rfl ?_
          go_simp
          go_big_quiet_on
          go_big_quiet_want
          refine quiet_run (.pointer (some ⟨gw, c, none⟩)) ?_ ?_
          · intro W hW
            obtain rfl := hW
            go_simp
          go_simp
          go_big_quiet_on
          go_big_quiet_want
          refine quiet_run (.int .i64 (cn0 : Int)) ?_ ?_
          · intro W hW
            obtain rfl := hW
            go_simp
          go_simp
          go_big_quiet_on
          go_big_quiet_want
          refine quiet_run (.bool false) ?_ ?_
          · intro W hW
            obtain rfl := hW
            go_simp
          go_simp
          go_big_quiet_on
          go_big_quiet_want
          refine quiet_run (.bool false) ?_ ?_
          · intro W hW
            obtain rfl := hW
            go_simp
          go_simp
          go_big_quiet_on
          refine wpQuiet_nil ?_
          intro w9 hw9
          obtain rfl := hw9
          clear hcz2 CLN w2m gt1 HWD
          go_upto_region 24 with fail
          go_loopw [18] (fun i wr => ∃ (j : Nat) (L' : List (List (List UInt8))) (F' : List Nat), i = .int .i64 j ∧ j + (L'.getD (c * 2) []).length ≤ 200 ∧ Hid (TkL mb ps c L') ∧ Hid (RouS w gk p q gw N K A7 c7 ps (wantR ps n) L' F' wr)) (fun i wr => lenC wr q (c * 2))
          case atStart => exact ⟨0, L', F', rfl, by rw [HLB.out]; omega, TK, RD⟩
          case round =>
            clear TK RD HLB hc1
            obtain ⟨j, L', F', rfl, hj, HT, HR⟩ := hrel
            obtain ⟨m9, hm9⟩ : ∃ x, (L'.getD (c * 2) []).length = x := ⟨_, rfl⟩
            have HM9 := hidrt_ hm9
            rw [hm9] at hj
            have cl := len_c HR.out.net c (by omega) m9 hm9 wr rfl
            clear hm9
            by_cases hm0 : m9 = 0
            · subst hm0
              have tz : ¬ (0 : Int) < 0 := by omega
              have DN := hidrt_ HT.out.dn
              go_wp2_with (go_at_call 10; ((with_reducible refine cl.mono ?_); clear cl; rintro e wl ⟨rfl, hwl⟩; have hwl := hwl.symm; subst hwl))
              go_roundw
              case rel => exact ⟨c + 1, L', F', by go_num, by omega, DN, HR⟩
              case measure => simp [intOf]; omega
            · have tm : (0 : Int) < (m9 : Int) := by omega
              have tm1 : (0 : Nat) < m9 := by omega
              have tj : (j : Int) ≤ 1000 := by omega
              by_cases hjo : j < nO
              · have tjo : (j : Int) < (nO : Int) := by omega
                have tj0 : (0 : Int) ≤ (j : Int) := by omega
                go_upto_region 28 with (go_at_call 10; ((with_reducible refine cl.mono ?_); clear cl; rintro e wl ⟨rfl, hwl⟩; have hwl := hwl.symm; subst hwl))
                obtain ⟨bo, oo, hAo, hbo, hco⟩ := RO.out (show 0 < lo.length by rw [HNO.out]; omega)
                have hA2 : Ao = some ⟨bo, oo, none⟩ := hAo
                obtain ⟨z, hz9⟩ : ∃ z, lo.getD j 0 = z := ⟨_, rfl⟩
                obtain ⟨u, hu, hub⟩ := u64_natR z
                obtain ⟨kk, hkk⟩ : ∃ k, u % m9 = k := ⟨_, rfl⟩
                have hkm : kk < m9 := by rw [← hkk]; exact Nat.mod_lt _ (by omega)
                have hmod : (u : Int).tmod (m9 : Int) = (kk : Int) := by rw [Int.tmod_eq_emod_of_nonneg (by omega), ← hkk]; simp
                have hn0 : ¬ (m9 : Int) = 0 := by omega
                have hu1 : IntKind.u64.wrap (m9 : Int) = (m9 : Int) := IntWalk.u64_in _ (by omega)
                have hu2 : IntKind.u64.wrap (kk : Int) = (kk : Int) := IntWalk.u64_in _ (by omega)
                have hu3 : IntKind.i64.wrap (kk : Int) = (kk : Int) := IntWalk.i64_in _ (by omega)
                obtain ⟨wd, hwd⟩ : ∃ x, wr.drew = x := ⟨_, rfl⟩
                have RD := hidrt_ (show RouS w gk p q gw N K A7 c7 ps (wantR ps n) L' F' wd by rw [← hwd]; exact HR.out.drewN 1)
                have hcz2 : wd.cell? ⟨bo, oo + j, none⟩ = some (.int .i64 z) := by
                  have h := (RD.out.bel.cell (p := ⟨bo, oo + j, none⟩) hbo).trans (hco j (by rw [HNO.out]; exact hjo))
                  rw [hz9] at h
                  exact h
                have CLN := hidrt_ (len_c RD.out.net c (by omega) m9 HM9.out)
                have HWD := hidrt_ hwd
                have HLR := hidrt_ (show lenC wr q (c * 2) = m9 by rw [lenC_of HR.out.net c (by omega), HM9.out])
                subst hA2
                clear hco hz9 hkk hwd hAo
                refine region_quiet_in (C := (fun W => W = wd)) (by kernel_rfl) (by kernel_rfl) (HWD.out) ?_
                go_big_quiet_want
                refine BigFrame.quiet_move _ rfl ?_
                go_simp
                go_big_quiet_on
                go_big_quiet_want
                refine BigFrame.quiet_move _ rfl ?_
                go_simp
                go_big_quiet_on
                go_big_quiet_want
                refine quiet_run (.pointer (some ⟨bo, oo + j, none⟩)) ?_ ?_
                · intro W hW
                  obtain rfl := hW
                  go_simp
                go_simp
                go_big_quiet_on
                go_big_quiet_want
                refine quiet_run (.int .i64 z) ?_ ?_
                · intro W hW
                  obtain rfl := hW
                  go_simp
                go_simp
                go_big_quiet_on
                go_big_quiet_want
                refine quiet_run (.int .u64 (u : Int)) ?_ ?_
                · intro W hW
                  obtain rfl := hW
                  go_simp
                go_simp
                go_big_quiet_on
                go_big_quiet_want
                refine BigFrame.quiet_move _ rfl ?_
                go_simp
                go_big_quiet_on
                go_big_quiet_want
                refine BigFrame.quiet_move _ rfl ?_
                go_simp
                go_big_quiet_on
                go_big_quiet_want
                refine quiet_call (.int .i64 (m9 : Int)) 10 #[.pointer (some ⟨p, 0, none⟩), .int .i64 (c : Int)] ?_ (CLN.out) ?_
                · intro W
                  go_simp
                go_simp
                go_big_quiet_on
                go_big_quiet_want
                refine quiet_run (.int .u64 (m9 : Int)) ?_ ?_
                · intro W hW
                  obtain rfl := hW
                  go_simp
                go_simp
                go_big_quiet_on
                go_big_quiet_want
                refine quiet_run (.int .u64 (kk : Int)) ?_ ?_
                · intro W hW
                  obtain rfl := hW
                  go_simp
                go_simp
                go_big_quiet_on
                go_big_quiet_want
                refine quiet_run (.int .i64 (kk : Int)) ?_ ?_
                · intro W hW
                  obtain rfl := hW
                  go_simp
                go_simp
                go_big_quiet_on
                go_big_quiet_want
                refine BigFrame.quiet_assign _ rfl ?_
                go_simp
                go_big_quiet_on
                refine wpQuiet_nil ?_
                intro w9 hw9
                obtain rfl := hw9
                clear hcz2 CLN HWD hmod hn0 hu hu1 hu2 hu3 HR
                obtain ⟨x, hx⟩ : ∃ x, (L'.getD (c * 2) []).getD kk [] = x := ⟨_, rfl⟩
                obtain ⟨r, hr⟩ : ∃ r, x.length = r := ⟨_, rfl⟩
                have hxm : x ∈ L'.getD (c * 2) [] := by rw [← hx]; exact getD_memR (by rw [HM9.out]; exact hkm)
                have hxc := HT.out.cur x hxm
                have HXC := hidrt_ hxc
                have r48 : r ≤ 47 := by
                  rcases hxc with h | ⟨i, h1, h2, h3⟩
                  · rw [← hr, h]; decide
                  · have hps : ps.getD i ⟨0, 0⟩ ∈ ps := getD_memR h1
                    have := DLT.out _ hps
                    rw [← hr, h3, HMB.out, rtV_len K HK.out i _ (by have := HP.out; omega) (by omega)]
                    exact Nat.le_refl _
                have ct : Calls Tryd.prog 11 #[.pointer (some ⟨p, 0, none⟩), .int .i64 (c : Int), .int .i64 (kk : Int)] w9 (TakeP w9 p q 6 (takeL L' c kk) F' r ((L'.getD (c * 2) []).getD kk [])) := take_yes RD.out.net c (by omega) kk (by rw [HM9.out]; exact hkm) (by have := HT.out.few; omega) (by have := HT.out.few; omega) r (by rw [hx]; exact hr) (by omega)
                rw [hx] at ct
                unfold TakeP at ct
                obtain ⟨HT2, hle⟩ := HT.out.take hlt (show kk < (L'.getD (c * 2) []).length by rw [HM9.out]; exact hkm)
                have HTN := hidrt_ HT2
                rw [HM9.out] at hle
                have HLE := hidrt_ hle
                have HRL := hidrt_ hr
                clear hx hxm hxc HT2 hle hr HT hm0 tm1
                have hz := zMsg
                go_upto_region 32 with (go_at_call 11; ((with_reducible refine ct.mono ?_); clear ct; rintro e wA ⟨A5, c5, F5, rfl, ho, _, h1, h2, h3⟩; have RA := hidrt_ (RD.out.act h1 h2 h3); have RX := hidrt_ ho.rd.1; have cr := read_any wA A5 r c5 x HRL.out RX.out (by omega); clear ho h1 h2 h3))
                clear RD
                go_upto_region 33 with (first
                  | (go_at_call 12; ((with_reducible refine cr.mono ?_); clear cr; rintro e wB ⟨q6, er, rfl, hB, hq, hy, _⟩; have RB := hidrt_ (RA.out.low hB); have RX2 := hidrt_ ((RX.out.below hB).more hB.size); have HQ := hidrt_ hq; have HY := hidrt_ hy; have hi42 := i42 q6 hq.row.key; have hs42 : (mgC mgZ).toArray.size = (mgC q6).toArray.size := (List.size_toArray ..).trans ((mgC_len mgZ (zbytes_len 32)).trans ((mgC_len q6 hq.row.key).symm.trans (List.size_toArray ..).symm)); clear hB hq hy))
                  | (refine wpList_put_row rfl 45 (.tmp 22) (.tmp 168) rfl wB.heap.size (mgC q6).toArray rfl rfl 45 (mgC mgZ).toArray (Bk.new wB _ _) hi42 hs42 (mgC_one _) ?_; intro wC kC gC sC; have BC := mark_putR wB wC wB.heap.size _ rfl gC; have RC := hidrt_ (RB.out.low BC); have MC := hidrt_ kC; have RX3 := hidrt_ ((RX2.out.below BC).more BC.size); clear kC gC sC BC))
                obtain ⟨gm, hgm⟩ : ∃ x, wB.heap.size = x := ⟨_, rfl⟩
                rw [hgm] at MC ⊢
                clear hgm hi42 hs42 RA RB RX RX2 hz
                have hcv := conv_strn RX3.out r c5 HRL.out
                have HMS := hidrt_ (show lenC wC q (c * 2) < lenC wr q (c * 2) by rw [lenC_of RC.out.net c (by omega), HLR.out]; have := HLE.out; omega)
                rcases HXC.out with hx1 | ⟨i, hi, hpi, hxi⟩
                · have hb1 : ((strOf x).toList == ([120] : List UInt8)) = true := by rw [hx1, strOf_toList]; rfl
                  have htl : (⟨#[120]⟩ : ByteArray).toList = [120] := strOf_toList [120]
                  clear hx1 HXC HY
                  go_wp2
                  go_roundw
                  case rel => exact ⟨j + 1, _, F5, by go_num, by have := HLE.out; omega, HTN, RC⟩
                  case measure => exact HMS.out
                · obtain ⟨d, hd⟩ : ∃ d, (ps.getD i ⟨0, 0⟩).r = d := ⟨_, rfl⟩
                  have hps : ps.getD i ⟨0, 0⟩ ∈ ps := getD_memR hi
                  have d5' : d < 5 := by rw [← hd]; exact DLT.out _ hps
                  have hin : i < n := by rw [← HP.out]; exact hi
                  have hxe : x = mgB (rtV K i d) := by rw [hxi, HMB.out, hd]
                  have hr48 : r = 47 := by rw [← HRL.out, hxe, rtV_len K HK.out i d (by omega) (by omega)]
                  have hrd : rdMg x = (rtV K i d, [], 0) := by have h := rdMg_rest (rtV_ok K i d (by omega) (by omega)) (rtV_k32 K HK.out i d) []; rw [List.append_nil, ← hxe, rtV_strip] at h; exact h
                  obtain ⟨rfl, hqv⟩ := HY.out (by rw [hrd]; rfl)
                  rw [hrd] at hqv
                  have hx1 : x ≠ [120] := fun h => by have h2 := HRL.out; rw [h] at h2; simp at h2; omega
                  have hb1 : ((strOf x).toList == ([120] : List UInt8)) = false := strOf_ne1 x hx1
                  have htl : (⟨#[120]⟩ : ByteArray).toList = [120] := strOf_toList [120]
                  obtain ⟨g7, hA7⟩ := RC.out.blk (by omega)
                  subst hA7
                  have ha : q6.ask = (i : Int) := congrArg MgV.ask hqv
                  have hf : q6.for_ = (d : Int) := congrArg MgV.for_ hqv
                  have hk6 : q6.row.r.key = K := congrArg (fun v : MgV => v.row.key) hqv
                  have hkl : q6.row.r.key.length = 32 := HQ.out.row.key
                  clear hxi hps hxe hr48 hrd hx1 HXC HY
                  go_upto_region 34 with fail
                  obtain ⟨we, hwe⟩ : ∃ x, wC.drew = x := ⟨_, rfl⟩
                  have RE := hidrt_ (show RouS w gk p q gw N K (some ⟨g7, 0, none⟩) c7 ps (wantR ps n) _ F5 we by rw [← hwe]; exact RC.out.drewN 1)
                  have ME := show Bk we gm 45 (mgC q6).toArray by rw [← hwe]; exact MC.out
                  have f2 : we.cell? ⟨gm, 2, none⟩ = some (.int .i64 (i : Int)) := by rw [← ha]; exact (ME.cell 2).trans rfl
                  have f4 : we.cell? ⟨gm, 4, none⟩ = some (.int .i64 (d : Int)) := by rw [← hf]; exact (ME.cell 4).trans rfl
                  have LK := hidrt_ (show (loadVar 23 ⟨gm, 6, none⟩).run Tryd.prog we = .ok (.agg (rowOf K)) we from run_load_subm 23 gm 6 (rowOf K) (fun jj hjj => by
                    rw [rowOf_size, HK.out] at hjj
                    rw [ME.cell (6 + jj), mgC_row q6 hkl jj (by omega), krC_key _ hkl jj (by omega), hk6]) _ Tryd.underlying23 rfl KL.out)
                  have LK2 := hidrt_ (show (loadVar 23 ⟨gk, 0, none⟩).run Tryd.prog we = .ok (.agg (rowOf K)) we from run_load_subm 23 gk 0 (rowOf K) (fun jj _ => by rw [Nat.zero_add]; exact RE.out.key.cell jj) _ Tryd.underlying23 rfl KL.out)
                  obtain ⟨ce1, ce2⟩ := RE.out.cells i hi
                  rw [hpi] at ce1
                  rw [hd] at ce2
                  have LP := hidrt_ (show (loadVar 38 ⟨g7, i * 2, none⟩).run Tryd.prog we = .ok (.agg #[.int .i64 (c : Int), .int .i64 (d : Int)]) we from run_load_subm 38 g7 (i * 2) #[.int .i64 (c : Int), .int .i64 (d : Int)] (fun jj hjj => by
                    have hjj : jj < 2 := hjj
                    rcases (by omega : jj = 0 ∨ jj = 1) with rfl | rfl
                    · exact ce1
                    · exact ce2) _ Tryd.underlying38 rfl (by kernel_rfl))
                  have eqK := fun W => eqIB32 K K HK.out HK.out W
                  have eqP := fun W => eqIPR (c : Int) (d : Int) W
                  have bK : (K == K) = true := by simp
                  simp only [bK] at eqK
                  have ti0 : ¬ (i : Int) < 0 := by omega
                  have ti1 : ¬ (n : Int) ≤ (i : Int) := by omega
                  have ti2 : (i : Int) < (n : Int) := by omega
                  have ti3 : (0 : Int) ≤ (i : Int) := by omega
                  have HWE := hidrt_ hwe
                  clear hwe ha hf hk6 hqv hpi hd ce1 ce2 ME bK
                  refine region_quiet_in (C := (fun W => W = we)) (by kernel_rfl) (by kernel_rfl) (HWE.out) ?_
                  go_big_quiet_want
                  refine BigFrame.quiet_move _ rfl ?_
                  go_simp
                  go_big_quiet_on
                  go_big_quiet_want
                  refine quiet_run (.bool false) ?_ ?_
                  · intro W hW
                    go_simp
                  go_simp
                  go_big_quiet_on
                  go_big_quiet_want
                  refine BigFrame.quiet_move _ rfl ?_
                  go_simp
                  go_big_quiet_on
                  go_big_quiet_want
                  refine quiet_run (.pointer (some ⟨gm, 6, none⟩)) ?_ ?_
                  · intro W hW
                    go_simp
                  go_simp
                  go_big_quiet_on
                  go_big_quiet_want
                  refine quiet_run (.pointer (some ⟨gm, 6, none⟩)) ?_ ?_
                  · intro W hW
                    go_simp
                  go_simp
                  go_big_quiet_on
                  go_big_quiet_want
                  refine quiet_load_agg 23 (.tmp 177) rfl gm 6 rfl (rowOf K) (fun W hW => by rw [hW]; exact LK.out) ?_
                  go_simp
                  go_big_quiet_on
                  go_big_quiet_want
                  refine quiet_load_agg 23 (.tmp 3) rfl gk 0 rfl (rowOf K) (fun W hW => by rw [hW]; exact LK2.out) ?_
                  go_simp
                  go_big_quiet_on
                  go_big_quiet_want
                  refine quiet_run (.bool false) ?_ ?_
                  · intro W hW
                    go_simp
                  go_simp
                  go_big_quiet_on
                  go_big_quiet_want
                  refine quiet_run (.bool false) ?_ ?_
                  · intro W hW
                    go_simp
                  go_simp
                  go_big_quiet_on
                  go_big_quiet_want
                  refine BigFrame.quiet_move _ rfl ?_
                  go_simp
                  go_big_quiet_on
                  go_big_quiet_want
                  refine quiet_run (.pointer (some ⟨gm, 2, none⟩)) ?_ ?_
                  · intro W hW
                    go_simp
                  go_simp
                  go_big_quiet_on
                  go_big_quiet_want
                  refine quiet_run (.int .i64 (i : Int)) ?_ ?_
                  · intro W hW
                    obtain rfl := hW
                    go_simp
                  go_simp
                  go_big_quiet_on
                  go_big_quiet_want
                  refine quiet_run (.bool false) ?_ ?_
                  · intro W hW
                    go_simp
                  go_simp
                  go_big_quiet_on
                  go_big_quiet_want
                  refine quiet_run (.bool false) ?_ ?_
                  · intro W hW
                    go_simp
                  go_simp
                  go_big_quiet_on
                  go_big_quiet_want
                  refine BigFrame.quiet_move _ rfl ?_
                  go_simp
                  go_big_quiet_on
                  go_big_quiet_want
                  refine quiet_run (.pointer (some ⟨gm, 2, none⟩)) ?_ ?_
                  · intro W hW
                    go_simp
                  go_simp
                  go_big_quiet_on
                  go_big_quiet_want
                  refine quiet_run (.int .i64 (i : Int)) ?_ ?_
                  · intro W hW
                    obtain rfl := hW
                    go_simp
                  go_simp
                  go_big_quiet_on
                  go_big_quiet_want
                  refine BigFrame.quiet_move _ rfl ?_
                  go_simp
                  go_big_quiet_on
                  go_big_quiet_want
                  refine quiet_run (.int .i64 (n : Int)) ?_ ?_
                  · intro W hW
                    go_simp
                  go_simp
                  go_big_quiet_on
                  go_big_quiet_want
                  refine quiet_run (.bool false) ?_ ?_
                  · intro W hW
                    go_simp
                  go_simp
                  go_big_quiet_on
                  go_big_quiet_want
                  refine quiet_run (.bool false) ?_ ?_
                  · intro W hW
                    go_simp
                  go_simp
                  go_big_quiet_on
                  go_big_quiet_want
                  refine BigFrame.quiet_move _ rfl ?_
                  go_simp
                  go_big_quiet_on
                  go_big_quiet_want
                  refine BigFrame.quiet_move _ rfl ?_
                  go_simp
                  go_big_quiet_on
                  go_big_quiet_want
                  refine quiet_run (.pointer (some ⟨gm, 2, none⟩)) ?_ ?_
                  · intro W hW
                    go_simp
                  go_simp
                  go_big_quiet_on
                  go_big_quiet_want
                  refine quiet_run (.int .i64 (i : Int)) ?_ ?_
                  · intro W hW
                    obtain rfl := hW
                    go_simp
                  go_simp
                  go_big_quiet_on
                  go_big_quiet_want
                  refine quiet_run (.pointer (some ⟨g7, i * 2, none⟩)) ?_ ?_
                  · intro W hW
                    go_simp
                  go_simp
                  go_big_quiet_on
                  go_big_quiet_want
                  refine quiet_load_agg 38 (.tmp 198) rfl g7 (i * 2) rfl #[.int .i64 (c : Int), .int .i64 (d : Int)] (fun W hW => by rw [hW]; exact LP.out) ?_
                  go_simp
                  go_big_quiet_on
                  go_big_quiet_want
                  refine BigFrame.quiet_move _ rfl ?_
                  go_simp
                  go_big_quiet_on
                  go_big_quiet_want
                  refine quiet_run (.pointer (some ⟨gm, 4, none⟩)) ?_ ?_
                  · intro W hW
                    go_simp
                  go_simp
                  go_big_quiet_on
                  go_big_quiet_want
                  refine quiet_run (.int .i64 (d : Int)) ?_ ?_
                  · intro W hW
                    obtain rfl := hW
                    go_simp
                  go_simp
                  go_big_quiet_on
                  go_big_quiet_want
                  refine quiet_run (.agg #[.int .i64 (c : Int), .int .i64 (d : Int)]) ?_ ?_
                  · intro W hW
                    go_simp
                  go_simp
                  go_big_quiet_on
                  go_big_quiet_want
                  refine quiet_run (.bool false) ?_ ?_
                  · intro W hW
                    go_simp
                  go_simp
                  go_big_quiet_on
                  go_big_quiet_want
                  refine quiet_run (.bool false) ?_ ?_
                  · intro W hW
                    go_simp
                  go_simp
                  go_big_quiet_on
                  refine wpQuiet_nil ?_
                  intro wf hwf
                  obtain rfl := hwf
                  go_wp2
                  go_roundw
                  case rel => exact ⟨j + 1, _, F5, by go_num, by have := HLE.out; omega, HTN, RE⟩
                  case measure => rw [show lenC wf q (c * 2) = lenC wC q (c * 2) by rw [← HWE.out]; rfl]; exact HMS.out
              · have tjo : ¬ (j : Int) < (nO : Int) := by omega
                have hkm : 0 < m9 := by omega
                have HLR := hidrt_ (show lenC wr q (c * 2) = m9 by rw [lenC_of HR.out.net c (by omega), HM9.out])
                go_upto_region 29 with (go_at_call 10; ((with_reducible refine cl.mono ?_); clear cl; rintro e wl ⟨rfl, hwl⟩; have hwl := hwl.symm; subst hwl))
                have RD := HR
                clear HR
                obtain ⟨x, hx⟩ : ∃ x, (L'.getD (c * 2) []).getD 0 [] = x := ⟨_, rfl⟩
                obtain ⟨r, hr⟩ : ∃ r, x.length = r := ⟨_, rfl⟩
                have hxm : x ∈ L'.getD (c * 2) [] := by rw [← hx]; exact getD_memR (by rw [HM9.out]; exact hkm)
                have hxc := HT.out.cur x hxm
                have HXC := hidrt_ hxc
                have r48 : r ≤ 47 := by
                  rcases hxc with h | ⟨i, h1, h2, h3⟩
                  · rw [← hr, h]; decide
                  · have hps : ps.getD i ⟨0, 0⟩ ∈ ps := getD_memR h1
                    have := DLT.out _ hps
                    rw [← hr, h3, HMB.out, rtV_len K HK.out i _ (by have := HP.out; omega) (by omega)]
                    exact Nat.le_refl _
                have ct : Calls Tryd.prog 11 #[.pointer (some ⟨p, 0, none⟩), .int .i64 (c : Int), .int .i64 0] wr (TakeP wr p q 6 (takeL L' c 0) F' r ((L'.getD (c * 2) []).getD 0 [])) := take_yes RD.out.net c (by omega) 0 (by rw [HM9.out]; exact hkm) (by have := HT.out.few; omega) (by have := HT.out.few; omega) r (by rw [hx]; exact hr) (by omega)
                rw [hx] at ct
                unfold TakeP at ct
                obtain ⟨HT2, hle⟩ := HT.out.take hlt (show 0 < (L'.getD (c * 2) []).length by rw [HM9.out]; exact hkm)
                have HTN := hidrt_ HT2
                rw [HM9.out] at hle
                have HLE := hidrt_ hle
                have HRL := hidrt_ hr
                clear hx hxm hxc HT2 hle hr HT hm0 tm1
                have hz := zMsg
                go_upto_region 32 with (go_at_call 11; ((with_reducible refine ct.mono ?_); clear ct; rintro e wA ⟨A5, c5, F5, rfl, ho, _, h1, h2, h3⟩; have RA := hidrt_ (RD.out.act h1 h2 h3); have RX := hidrt_ ho.rd.1; have cr := read_any wA A5 r c5 x HRL.out RX.out (by omega); clear ho h1 h2 h3))
                clear RD
                go_upto_region 33 with (first
                  | (go_at_call 12; ((with_reducible refine cr.mono ?_); clear cr; rintro e wB ⟨q6, er, rfl, hB, hq, hy, _⟩; have RB := hidrt_ (RA.out.low hB); have RX2 := hidrt_ ((RX.out.below hB).more hB.size); have HQ := hidrt_ hq; have HY := hidrt_ hy; have hi42 := i42 q6 hq.row.key; have hs42 : (mgC mgZ).toArray.size = (mgC q6).toArray.size := (List.size_toArray ..).trans ((mgC_len mgZ (zbytes_len 32)).trans ((mgC_len q6 hq.row.key).symm.trans (List.size_toArray ..).symm)); clear hB hq hy))
                  | (refine wpList_put_row rfl 45 (.tmp 22) (.tmp 168) rfl wB.heap.size (mgC q6).toArray rfl rfl 45 (mgC mgZ).toArray (Bk.new wB _ _) hi42 hs42 (mgC_one _) ?_; intro wC kC gC sC; have BC := mark_putR wB wC wB.heap.size _ rfl gC; have RC := hidrt_ (RB.out.low BC); have MC := hidrt_ kC; have RX3 := hidrt_ ((RX2.out.below BC).more BC.size); clear kC gC sC BC))
                obtain ⟨gm, hgm⟩ : ∃ x, wB.heap.size = x := ⟨_, rfl⟩
                rw [hgm] at MC ⊢
                clear hgm hi42 hs42 RA RB RX RX2 hz
                have hcv := conv_strn RX3.out r c5 HRL.out
                have HMS := hidrt_ (show lenC wC q (c * 2) < lenC wr q (c * 2) by rw [lenC_of RC.out.net c (by omega), HLR.out]; have := HLE.out; omega)
                rcases HXC.out with hx1 | ⟨i, hi, hpi, hxi⟩
                · have hb1 : ((strOf x).toList == ([120] : List UInt8)) = true := by rw [hx1, strOf_toList]; rfl
                  have htl : (⟨#[120]⟩ : ByteArray).toList = [120] := strOf_toList [120]
                  clear hx1 HXC HY
                  go_wp2
                  go_roundw
                  case rel => exact ⟨j + 1, _, F5, by go_num, by have := HLE.out; omega, HTN, RC⟩
                  case measure => exact HMS.out
                · obtain ⟨d, hd⟩ : ∃ d, (ps.getD i ⟨0, 0⟩).r = d := ⟨_, rfl⟩
                  have hps : ps.getD i ⟨0, 0⟩ ∈ ps := getD_memR hi
                  have d5' : d < 5 := by rw [← hd]; exact DLT.out _ hps
                  have hin : i < n := by rw [← HP.out]; exact hi
                  have hxe : x = mgB (rtV K i d) := by rw [hxi, HMB.out, hd]
                  have hr48 : r = 47 := by rw [← HRL.out, hxe, rtV_len K HK.out i d (by omega) (by omega)]
                  have hrd : rdMg x = (rtV K i d, [], 0) := by have h := rdMg_rest (rtV_ok K i d (by omega) (by omega)) (rtV_k32 K HK.out i d) []; rw [List.append_nil, ← hxe, rtV_strip] at h; exact h
                  obtain ⟨rfl, hqv⟩ := HY.out (by rw [hrd]; rfl)
                  rw [hrd] at hqv
                  have hx1 : x ≠ [120] := fun h => by have h2 := HRL.out; rw [h] at h2; simp at h2; omega
                  have hb1 : ((strOf x).toList == ([120] : List UInt8)) = false := strOf_ne1 x hx1
                  have htl : (⟨#[120]⟩ : ByteArray).toList = [120] := strOf_toList [120]
                  obtain ⟨g7, hA7⟩ := RC.out.blk (by omega)
                  subst hA7
                  have ha : q6.ask = (i : Int) := congrArg MgV.ask hqv
                  have hf : q6.for_ = (d : Int) := congrArg MgV.for_ hqv
                  have hk6 : q6.row.r.key = K := congrArg (fun v : MgV => v.row.key) hqv
                  have hkl : q6.row.r.key.length = 32 := HQ.out.row.key
                  clear hxi hps hxe hr48 hrd hx1 HXC HY
                  go_upto_region 34 with fail
                  obtain ⟨we, hwe⟩ : ∃ x, wC.drew = x := ⟨_, rfl⟩
                  have RE := hidrt_ (show RouS w gk p q gw N K (some ⟨g7, 0, none⟩) c7 ps (wantR ps n) _ F5 we by rw [← hwe]; exact RC.out.drewN 1)
                  have ME := show Bk we gm 45 (mgC q6).toArray by rw [← hwe]; exact MC.out
                  have f2 : we.cell? ⟨gm, 2, none⟩ = some (.int .i64 (i : Int)) := by rw [← ha]; exact (ME.cell 2).trans rfl
                  have f4 : we.cell? ⟨gm, 4, none⟩ = some (.int .i64 (d : Int)) := by rw [← hf]; exact (ME.cell 4).trans rfl
                  have LK := hidrt_ (show (loadVar 23 ⟨gm, 6, none⟩).run Tryd.prog we = .ok (.agg (rowOf K)) we from run_load_subm 23 gm 6 (rowOf K) (fun jj hjj => by
                    rw [rowOf_size, HK.out] at hjj
                    rw [ME.cell (6 + jj), mgC_row q6 hkl jj (by omega), krC_key _ hkl jj (by omega), hk6]) _ Tryd.underlying23 rfl KL.out)
                  have LK2 := hidrt_ (show (loadVar 23 ⟨gk, 0, none⟩).run Tryd.prog we = .ok (.agg (rowOf K)) we from run_load_subm 23 gk 0 (rowOf K) (fun jj _ => by rw [Nat.zero_add]; exact RE.out.key.cell jj) _ Tryd.underlying23 rfl KL.out)
                  obtain ⟨ce1, ce2⟩ := RE.out.cells i hi
                  rw [hpi] at ce1
                  rw [hd] at ce2
                  have LP := hidrt_ (show (loadVar 38 ⟨g7, i * 2, none⟩).run Tryd.prog we = .ok (.agg #[.int .i64 (c : Int), .int .i64 (d : Int)]) we from run_load_subm 38 g7 (i * 2) #[.int .i64 (c : Int), .int .i64 (d : Int)] (fun jj hjj => by
                    have hjj : jj < 2 := hjj
                    rcases (by omega : jj = 0 ∨ jj = 1) with rfl | rfl
                    · exact ce1
                    · exact ce2) _ Tryd.underlying38 rfl (by kernel_rfl))
                  have eqK := fun W => eqIB32 K K HK.out HK.out W
                  have eqP := fun W => eqIPR (c : Int) (d : Int) W
                  have bK : (K == K) = true := by simp
                  simp only [bK] at eqK
                  have ti0 : ¬ (i : Int) < 0 := by omega
                  have ti1 : ¬ (n : Int) ≤ (i : Int) := by omega
                  have ti2 : (i : Int) < (n : Int) := by omega
                  have ti3 : (0 : Int) ≤ (i : Int) := by omega
                  have HWE := hidrt_ hwe
                  clear hwe ha hf hk6 hqv hpi hd ce1 ce2 ME bK
                  refine region_quiet_in (C := (fun W => W = we)) (by kernel_rfl) (by kernel_rfl) (HWE.out) ?_
                  go_big_quiet_want
                  refine BigFrame.quiet_move _ rfl ?_
                  go_simp
                  go_big_quiet_on
                  go_big_quiet_want
                  refine quiet_run (.bool false) ?_ ?_
                  · intro W hW
                    go_simp
                  go_simp
                  go_big_quiet_on
                  go_big_quiet_want
                  refine BigFrame.quiet_move _ rfl ?_
                  go_simp
                  go_big_quiet_on
                  go_big_quiet_want
                  refine quiet_run (.pointer (some ⟨gm, 6, none⟩)) ?_ ?_
                  · intro W hW
                    go_simp
                  go_simp
                  go_big_quiet_on
                  go_big_quiet_want
                  refine quiet_run (.pointer (some ⟨gm, 6, none⟩)) ?_ ?_
                  · intro W hW
                    go_simp
                  go_simp
                  go_big_quiet_on
                  go_big_quiet_want
                  refine quiet_load_agg 23 (.tmp 177) rfl gm 6 rfl (rowOf K) (fun W hW => by rw [hW]; exact LK.out) ?_
                  go_simp
                  go_big_quiet_on
                  go_big_quiet_want
                  refine quiet_load_agg 23 (.tmp 3) rfl gk 0 rfl (rowOf K) (fun W hW => by rw [hW]; exact LK2.out) ?_
                  go_simp
                  go_big_quiet_on
                  go_big_quiet_want
                  refine quiet_run (.bool false) ?_ ?_
                  · intro W hW
                    go_simp
                  go_simp
                  go_big_quiet_on
                  go_big_quiet_want
                  refine quiet_run (.bool false) ?_ ?_
                  · intro W hW
                    go_simp
                  go_simp
                  go_big_quiet_on
                  go_big_quiet_want
                  refine BigFrame.quiet_move _ rfl ?_
                  go_simp
                  go_big_quiet_on
                  go_big_quiet_want
                  refine quiet_run (.pointer (some ⟨gm, 2, none⟩)) ?_ ?_
                  · intro W hW
                    go_simp
                  go_simp
                  go_big_quiet_on
                  go_big_quiet_want
                  refine quiet_run (.int .i64 (i : Int)) ?_ ?_
                  · intro W hW
                    obtain rfl := hW
                    go_simp
                  go_simp
                  go_big_quiet_on
                  go_big_quiet_want
                  refine quiet_run (.bool false) ?_ ?_
                  · intro W hW
                    go_simp
                  go_simp
                  go_big_quiet_on
                  go_big_quiet_want
                  refine quiet_run (.bool false) ?_ ?_
                  · intro W hW
                    go_simp
                  go_simp
                  go_big_quiet_on
                  go_big_quiet_want
                  refine BigFrame.quiet_move _ rfl ?_
                  go_simp
                  go_big_quiet_on
                  go_big_quiet_want
                  refine quiet_run (.pointer (some ⟨gm, 2, none⟩)) ?_ ?_
                  · intro W hW
                    go_simp
                  go_simp
                  go_big_quiet_on
                  go_big_quiet_want
                  refine quiet_run (.int .i64 (i : Int)) ?_ ?_
                  · intro W hW
                    obtain rfl := hW
                    go_simp
                  go_simp
                  go_big_quiet_on
                  go_big_quiet_want
                  refine BigFrame.quiet_move _ rfl ?_
                  go_simp
                  go_big_quiet_on
                  go_big_quiet_want
                  refine quiet_run (.int .i64 (n : Int)) ?_ ?_
                  · intro W hW
                    go_simp
                  go_simp
                  go_big_quiet_on
                  go_big_quiet_want
                  refine quiet_run (.bool false) ?_ ?_
                  · intro W hW
                    go_simp
                  go_simp
                  go_big_quiet_on
                  go_big_quiet_want
                  refine quiet_run (.bool false) ?_ ?_
                  · intro W hW
                    go_simp
                  go_simp
                  go_big_quiet_on
                  go_big_quiet_want
                  refine BigFrame.quiet_move _ rfl ?_
                  go_simp
                  go_big_quiet_on
                  go_big_quiet_want
                  refine BigFrame.quiet_move _ rfl ?_
                  go_simp
                  go_big_quiet_on
                  go_big_quiet_want
                  refine quiet_run (.pointer (some ⟨gm, 2, none⟩)) ?_ ?_
                  · intro W hW
                    go_simp
                  go_simp
                  go_big_quiet_on
                  go_big_quiet_want
                  refine quiet_run (.int .i64 (i : Int)) ?_ ?_
                  · intro W hW
                    obtain rfl := hW
                    go_simp
                  go_simp
                  go_big_quiet_on
                  go_big_quiet_want
                  refine quiet_run (.pointer (some ⟨g7, i * 2, none⟩)) ?_ ?_
                  · intro W hW
                    go_simp
                  go_simp
                  go_big_quiet_on
                  go_big_quiet_want
                  refine quiet_load_agg 38 (.tmp 198) rfl g7 (i * 2) rfl #[.int .i64 (c : Int), .int .i64 (d : Int)] (fun W hW => by rw [hW]; exact LP.out) ?_
                  go_simp
                  go_big_quiet_on
                  go_big_quiet_want
                  refine BigFrame.quiet_move _ rfl ?_
                  go_simp
                  go_big_quiet_on
                  go_big_quiet_want
                  refine quiet_run (.pointer (some ⟨gm, 4, none⟩)) ?_ ?_
                  · intro W hW
                    go_simp
                  go_simp
                  go_big_quiet_on
                  go_big_quiet_want
                  refine quiet_run (.int .i64 (d : Int)) ?_ ?_
                  · intro W hW
                    obtain rfl := hW
                    go_simp
                  go_simp
                  go_big_quiet_on
                  go_big_quiet_want
                  refine quiet_run (.agg #[.int .i64 (c : Int), .int .i64 (d : Int)]) ?_ ?_
                  · intro W hW
                    go_simp
                  go_simp
                  go_big_quiet_on
                  go_big_quiet_want
                  refine quiet_run (.bool false) ?_ ?_
                  · intro W hW
                    go_simp
                  go_simp
                  go_big_quiet_on
                  go_big_quiet_want
                  refine quiet_run (.bool false) ?_ ?_
                  · intro W hW
                    go_simp
                  go_simp
                  go_big_quiet_on
                  refine wpQuiet_nil ?_
                  intro wf hwf
                  obtain rfl := hwf
                  go_wp2
                  go_roundw
                  case rel => exact ⟨j + 1, _, F5, by go_num, by have := HLE.out; omega, HTN, RE⟩
                  case measure => rw [show lenC wf q (c * 2) = lenC wC q (c * 2) by rw [← HWE.out]; rfl]; exact HMS.out
        · have tl : ¬ (c : Int) < 5 := by omega
          go_wp2
          go_ret
          exact ⟨rfl, HR.out.bel⟩

theorem laid_met3 (os : Os) : laidMet Tryd.prog [("casket/sha2.roundWords", Rows.laid_casket_sha2_roundWords)] ((laidWorld os).forCall (fun _ _ => 0) ⟨#[], #[.agg (rowOf (List.replicate 32 0)), .slice none 0 0, .slice none 0 0], []⟩).memory :=
  laidMet_of_run' 8 (by kernel_rfl) (by kernel_rfl)

/-- What the walk gives, for every argument and every world in which the constants lie. -/
theorem contract (H : Type) (enc : TypeId × Value → H) (W : World) (base : Nat) (args : Array Value) (ds gs : List (DataW H)) (before : List MemPlace)
    (hval : ∀ (j : Nat) t v, Tryd.f3.params[j]? = some t → args[j]? = some v → Value.okWide Tryd.prog W .any base t v)
    (hW : DataW.Whole enc Tryd.prog Tryd.f3.params.toList Rows.casketRoutesSpec.vars false W args.toList ds gs before) (hL : laidMetH Tryd.prog Rows.casketRoutesRow.laid W) :
    Calls Tryd.prog 3 args W fun e W' => ∃ v, e = .returned v ∧ Rows.casketRoutesSpec.post enc Tryd.prog Tryd.f3 false true false false W args v W' := by
  obtain ⟨ht, hg1⟩ := tab_of hL
  have hW' := hW
  obtain ⟨p, q, hA0, hV, rfl, hfz, hnd⟩ := hW
  have hA : DataW.TrodAll enc Tryd.prog W 0 (fun _ => true) true Tryd.f3.params.toList args.toList ds p := hA0
  rw [Tryd.params3] at hA hval
  obtain ⟨v0, vs0, d0, ds0, p0, q0, hargs, rfl, rfl, h0, r0⟩ := trodAll_cons hA
  obtain ⟨v1, vs1, d1, ds1, p1, q1, rfl, rfl, rfl, h1, r1⟩ := trodAll_cons r0
  obtain ⟨v2, vs2, d2, ds2, p2, q2, rfl, rfl, rfl, h2, r2⟩ := trodAll_cons r1
  obtain ⟨rfl, rfl, rfl⟩ := trodAll_nil r2
  obtain rfl : args = #[v0, v1, v2] := by cases args; simp_all
  obtain ⟨rfl, rfl⟩ := trodVars_none hV
  obtain ⟨K, rfl, hK⟩ := open_arr8 Tryd.underlying23 Tryd.underlying5 (by kernel_rfl) (by kernel_rfl) (hval 0 23 v0 rfl rfl) h0
  obtain ⟨A0, u0, c0, rfl, hr0, hl0, hc0⟩ := open_boolW Tryd.underlying24 Tryd.underlying4 (by kernel_rfl) (hval 1 24 v1 rfl rfl) h1
  obtain ⟨Ao, lo, co, rfl, hro, hlo, hco, _⟩ := open_i64s Tryd.underlying25 Tryd.underlying3 (by kernel_rfl) (hval 2 25 v2 rfl rfl) h2
  refine (walk W K hK A0 u0 c0 hr0 hl0 (by unfold maxLen at hc0; omega) Ao lo co hro (by unfold maxLen at hco; omega) ht hg1).mono fun e W' ⟨he, hg⟩ => ⟨_, he, ?_⟩
  exact law_post laidOut_ (of_decide_eq_true (by kernel_rfl)) rfl rfl Tryd.underlying4 rfl hW' hg

theorem reads (os : Os) {H : Type} (enc : TypeId × Value → H) : ∃ places, DataW.whole enc Tryd.prog ((laidWorld os).forCall (fun _ _ => 0) ⟨#[], #[.agg (rowOf (List.replicate 32 0)), .slice none 0 0, .slice none 0 0], []⟩).memory Tryd.f3.params.toList Rows.casketRoutesSpec.vars false (#[.agg (rowOf (List.replicate 32 0)), .slice none 0 0, .slice none 0 0] : Array Value).toList 8 = some ([.agg [.lit (.int .u8 0), .lit (.int .u8 0), .lit (.int .u8 0), .lit (.int .u8 0), .lit (.int .u8 0), .lit (.int .u8 0), .lit (.int .u8 0), .lit (.int .u8 0), .lit (.int .u8 0), .lit (.int .u8 0), .lit (.int .u8 0), .lit (.int .u8 0), .lit (.int .u8 0), .lit (.int .u8 0), .lit (.int .u8 0), .lit (.int .u8 0), .lit (.int .u8 0), .lit (.int .u8 0), .lit (.int .u8 0), .lit (.int .u8 0), .lit (.int .u8 0), .lit (.int .u8 0), .lit (.int .u8 0), .lit (.int .u8 0), .lit (.int .u8 0), .lit (.int .u8 0), .lit (.int .u8 0), .lit (.int .u8 0), .lit (.int .u8 0), .lit (.int .u8 0), .lit (.int .u8 0), .lit (.int .u8 0)], .nil, .nil], [], places) :=
  ⟨[], by kernel_rfl⟩

set_option maxRecDepth 100000 in
theorem lifted (os : Os) (started : os.Started) (H : Type) (enc : TypeId × Value → H) (F : Stop.Interp) :
    ReturnsInHanded {} Tryd.checked os 3 .any ((OpenSpec.ofChange Rows.casketRoutesSpec).preRow enc Tryd.prog Tryd.f3 Rows.casketRoutesRow.domain false Rows.casketRoutesRow.laid) (((OpenSpec.ofChange Rows.casketRoutesSpec).at F).post enc Tryd.prog Tryd.f3 false true false false) := by
  obtain ⟨places, hx⟩ := reads os enc
  refine returnsInHanded_of_row (C := Tryd.checked) (s := OpenSpec.ofChange Rows.casketRoutesSpec) own_ started (by kernel_rfl) Tryd.func3
    (witness_row_at (enc := enc) (C := Tryd.checked) false (laidWorld os) #[.agg (rowOf (List.replicate 32 0)), .slice none 0 0, .slice none 0 0] rfl (by kernel_rfl) (by kernel_rfl) (by kernel_rfl)
      (OpenSpec.preRow_of_cond 8 hx (by kernel_rfl) (fun k hk => by cases hk) (by kernel_rfl) (laid_met3 os))) ?_
  intro W base args ds gs before hval hW _ _ _ hL _ _
  exact contract H enc W base args ds gs before hval hW hL

theorem said : Rows.CasketRoutesSaid :=
  OpenClaim.holds_of_cond 3 Tryd.f3 rfl rfl rfl rfl rfl rfl rfl ⟨rfl, rfl, rfl, rfl, rfl⟩ rfl rfl rfl rfl rfl (by kernel_rfl) Tryd.func3 (by kernel_rfl)
    (of_decide_eq_true (by kernel_rfl)) (by unfold Func.isWrapper; first | (rw [if_pos (by decide +kernel)]; kernel_rfl) | (rw [if_neg (by decide +kernel)]; exact ⟨rfl, rfl⟩))
    (fun os started H enc _ F => by rw [OpenClaim.pre_eq_preRow]; exact lifted os started H enc F)

/-- No parameter wants a stand-in; the program's own looks are off: what the card asks. -/
theorem plain (f : FuncId) (fn : Func) (hf : Tryd.pinned.checked.prog.funcNamed "casket/caskettop.CasketRoutes" = some f) (hfn : Tryd.pinned.checked.prog.funcs[f]? = some fn) :
    false = Tryd.pinned.checked.prog.looks [] ∧ ∀ (j : Nat) t, fn.params[j]? = some t → Tryd.pinned.checked.prog.wantsStandIn t = false := by
  obtain rfl : f = 3 := Option.some.inj ((show Tryd.prog.funcNamed "casket/caskettop.CasketRoutes" = some 3 by kernel_rfl).symm.trans hf) |>.symm
  obtain rfl : fn = Tryd.f3 := (Option.some.inj (Tryd.func3.symm.trans hfn)).symm
  refine ⟨by kernel_rfl, fun j t ht => ?_⟩
  rw [Tryd.params3] at ht
  have hm := Array.mem_of_getElem? ht
  simp only [List.mem_toArray, List.mem_cons, List.not_mem_nil, or_false] at hm
  rcases hm with rfl | rfl | rfl
  · exact (show Tryd.prog.wantsStandIn 23 = false by kernel_rfl)
  · exact (show Tryd.prog.wantsStandIn 24 = false by kernel_rfl)
  · exact (show Tryd.prog.wantsStandIn 25 = false by kernel_rfl)

/-- The card. -/
theorem proved : Rows.CasketRoutesCardSaid :=
  Claim7.holds_tied_plain_at .later [] _ _ _ _ said (fun _ h => by cases h) (by kernel_rfl) (fun _ h => by cases h) casketRoutes_row_tie rfl ⟨rfl, rfl⟩ (by kernel_rfl) rfl plain (by kernel_rfl)
#print axioms proved
end Go.Proofs.YtegfnlnbhhmkjaaDoor.casketRoutes
