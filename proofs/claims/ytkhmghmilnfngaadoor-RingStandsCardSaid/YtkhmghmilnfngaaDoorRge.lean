/-
  ring: Walk, Prefer.
-/
import Derived.Test.YtkhmghmilnfngaaDoorRgd
namespace Go.Proofs.YtkhmghmilnfngaaDoor
set_option maxRecDepth 100000
open Go.ChangeShapes Go.WideShapes Go.ChangeAt Go.RowKit
set_option linter.unusedVariables false
set_option linter.unusedSimpArgs false

/-- What a call tells that makes a row of ints of its own. -/
def NewZ (w : World) (l : List Nat) (e : Ending) (w' : World) : Prop := ∃ A c, e = .returned (.slice A l.length c) ∧ OwnZ w' w.heap.size (.slice A l.length c) l ∧ Below w.heap.size w w'
theorem OwnZ.lower {w : World} {b b' : Nat} {v : Value} {l : List Nat} (h : OwnZ w b v l) (hb : b' ≤ b) : OwnZ w b' v l := by
  refine ⟨h.1, ?_⟩
  rcases h.2 with h0 | ⟨g, cap, cur, hv, hg, rest⟩
  · exact .inl h0
  · exact .inr ⟨g, cap, cur, hv, Nat.le_trans hb hg, rest⟩
theorem sliceZ_to (A : Option Addr) (n c : Nat) (z : Int) (k : Nat) (hz : z = (k : Int)) (hk : k ≤ c) (W : World) :
    (Instr.slice 24 (.slice A n c) none (some (.int .i64 z)) none).run Tryd.prog W = .ok (.slice A k c) W := by
  subst hz
  have he : Tryd.prog.elem 24 = 3 := by kernel_rfl
  rw [run_slice_h W 24 A n c (by rw [he]; exact Tryd.underlying24) .i64 k (by omega) (by omega)]
  have hs : (sizeOf (Tryd.prog.elem 24)).run Tryd.prog W = .ok 1 W := by
    rw [he]
    obtain ⟨i, hi, hz, hsize, hby⟩ := info_parts infoZ
    simp [sizeOf, typeInfo, hi, hsize]
  rw [hs]
  simp only [Result.andThen, sliced]
  congr 2
  by_cases h : c = 0
  · rw [if_pos h]
  · rw [if_neg h]
    cases A with
    | none => rfl
    | some a => simp [Addr.add]
theorem OwnZ.cap {w : World} {b : Nat} {A : Option Addr} {n c : Nat} {l : List Nat} (h : OwnZ w b (.slice A n c) l) : n ≤ c ∧ c ≤ 9223372036854775807 := by
  rcases h.2 with ⟨h0, _⟩ | ⟨g, cap, cur, hv, _, _, h1, h2, _⟩
  · injection h0 with e1 e2 e3
    omega
  · injection hv with e1 e2 e3
    unfold maxLen at h2
    omega
theorem iBlind (K : List UInt8) (hK : K.length = 32) : (Tryd.prog.info? 23).map (·.size) = some (rowOf K).size := by rw [rowOf_size, hK]; kernel_rfl
def wsK (R : List PtV) (k : Nat) : List Nat := ddf [] ((R.take k).map (·.r))
theorem wsK_succ {R : List PtV} {k : Nat} {x : PtV} (h : R[k]? = some x) : wsK R (k + 1) = if x.r ∈ wsK R k then wsK R k else wsK R k ++ [x.r] := by
  obtain ⟨hk, e⟩ := List.getElem?_eq_some_iff.1 h
  unfold wsK
  rw [List.take_succ_eq_append_getElem hk, e, List.map_append, List.map_singleton, ddf_snoc]
theorem wsK_len (R : List PtV) (k : Nat) : (wsK R k).length ≤ k := by
  induction k with
  | zero => simp [wsK, ddf]
  | succ k ih =>
    by_cases h : k < R.length
    · rw [wsK_succ (List.getElem?_eq_getElem h)]
      split
      · omega
      · rw [List.length_append, List.length_singleton]; omega
    · have e : wsK R (k + 1) = wsK R k := by unfold wsK; rw [List.take_of_length_le (by omega), List.take_of_length_le (by omega)]
      rw [e]
      omega
theorem rdz_one (w : World) (x : Nat) : RdZ (w.alloc (.cells #[.int .i64 (x : Int)] 3)) (w.alloc (.cells #[.int .i64 (x : Int)] 3)).heap.size (some ⟨w.heap.size, 0, none⟩) [x] := fun _ =>
  ⟨_, 0, rfl, by simp, fun j hj => by
    have : j = 0 := by simpa using hj
    subst this
    exact World.cell?_alloc_mark w #[.int .i64 (x : Int)] 3 _ 0⟩
set_option maxRecDepth 100000 in
set_option maxHeartbeats 4000000 in
theorem walk_any (w : World) (g : Nat) (L : List PtV) (hr : RingIs w g L) (hs : Srt ltP L) (hm : L.length ≤ 1000000) (K : List UInt8) (hK : K.length = 32) :
    Calls Tryd.prog 12 #[.pointer (some ⟨g, 0, none⟩), .agg (rowOf K)] w (NewZ w (walkV (plB K) L)) := by
  obtain ⟨gk, hgk⟩ : ∃ g, w.heap.size = g := ⟨_, rfl⟩
  obtain ⟨w1, hw1⟩ : ∃ W, w.alloc (.cells (rowOf K) 23) = W := ⟨_, rfl⟩
  have B1 := hidrg_ (show Below w.heap.size w w1 by rw [← hw1]; exact (Below.refl _ _).alloc (Nat.le_refl _) _)
  have K1 := hidrg_ (show Bk w1 gk 23 (rowOf K) by rw [← hw1, ← hgk]; exact Bk.new w _ _)
  have R1 := hidrg_ (hr.below B1.out)
  have KL := hidrg_ (iBlind K hK)
  have HS := hidrg_ hs
  have cp := placeOf_any w1 K hK
  obtain ⟨pl, hpl⟩ : ∃ p, plB K = p := ⟨_, rfl⟩
  rw [hpl] at cp ⊢
  obtain ⟨n, hn⟩ : ∃ n, L.length = n := ⟨_, rfl⟩
  have HN := hidrg_ hn
  have hm2 : n ≤ 1000000 := by omega
  have HM := hidrg_ hm
  clear hr hs hK hpl hn hm
  go_enter Tryd.func12, Tryd.ntmps12
  go_upto_region 5 with (first
    | (refine wpList_load_row rfl 23 (.tmp 3) rfl gk rfl 23 (rowOf K) (0, 0) _ K1.out Tryd.underlying23 rfl KL.out ?_)
    | (go_at_call 18; ((with_reducible refine cp.mono ?_); clear cp; rintro e w2 ⟨rfl, hb⟩; have B2 := hidrg_ (B1.out.trans (hb.mono B1.out.size)); have R2 := hidrg_ (R1.out.below hb); have cf := firstBehind_any w2 g L R2.out HS.out HM.out pl; clear hb))
    | (go_at_call 23; ((with_reducible refine cf.mono ?_); clear cf; rintro e w3 ⟨f, rfl, hf, hb⟩; have HF := hidrg_ hf; have B3 := hidrg_ (B2.out.trans (hb.mono B2.out.size)); have R3 := hidrg_ (R2.out.below hb); clear hf hb)))
  clear B1 K1 R1 KL B2 R2 hgk
  obtain ⟨A, c, hkb, hrd⟩ := R3.out
  have kg := (show w3.cell? ⟨g, 0, none⟩ = some (.slice A L.length c) from hkb.cell 0)
  have GL := hidrg_ (show g < w3.heap.size from hkb.lt)
  rw [HN.out] at kg
  have KG := hidrg_ kg
  have RD := hidrg_ hrd
  obtain ⟨R, hR⟩ : ∃ R, L.drop f ++ L.take f = R := ⟨_, rfl⟩
  have HRL := hidrg_ (show R.length = n by rw [← hR, List.length_append, List.length_drop, List.length_take, HN.out]; have := HF.out.1; have := HN.out; omega)
  have HRR := hidrg_ (show walkV pl L = wsK R n by
    unfold walkV wsK
    rw [← rotP_at HF.out.1 HF.out.2.1 HF.out.2.2, hR, List.take_of_length_le (by rw [HRL.out]; exact Nat.le_refl _)])
  have HRG := hidrg_ (show ∀ k, k < n → R[k]? = L[(f + k) % n]? from fun k hk => by rw [← hR, rot_get HF.out.1 (by rw [HN.out]; exact hk), HN.out])
  have fn : f ≤ n := by have := HF.out.1; have := HN.out; omega
  clear hkb hrd hR R3
  go_wp2
  clear kg
  go_loopw [20, 5] (fun i o wr => ∃ (k : Nat) (A5 : Option Addr) (c5 m : Nat), i = .int .i64 k ∧ k ≤ n ∧ o = .slice A5 m c5 ∧ m ≤ k ∧ Hid ((wsK R k).length = m) ∧ Hid (OwnZ wr w3.heap.size (.slice A5 m c5) (wsK R k)) ∧ Hid (Below w.heap.size w wr) ∧ Hid (Below w3.heap.size w3 wr)) (fun i _ _ => n - (intOf i).toNat)
  case atStart => exact ⟨0, none, 0, 0, rfl, Nat.zero_le _, rfl, Nat.le_refl _, hidrg_ rfl, hidrg_ (OwnZ.nil_ _ _), B3, hidrg_ (Below.refl _ _)⟩
  case round =>
    obtain ⟨k, A5, c5, m, rfl, hk, rfl, hmk, HWL, HO, HB, HB3⟩ := hrel
    by_cases hlt : k < n
    · have tl : (k : Int) < (n : Int) := by omega
      have kg := (HB3.out.cell (p := ⟨g, 0, none⟩) GL.out).trans KG.out
      obtain ⟨s, hs⟩ : ∃ s, f + k = s := ⟨_, rfl⟩
      have wf : IntKind.i64.wrap ((f : Int) + (k : Int)) = (s : Int) := by rw [IntKind.wrap_i64]; omega
      obtain ⟨r, hr⟩ : ∃ r, s % n = r := ⟨_, rfl⟩
      have hrn : r < n := by rw [← hr]; exact Nat.mod_lt _ (by omega)
      have tr : (s : Int).tmod (n : Int) = (r : Int) := by rw [Int.tmod_eq_emod_of_nonneg (by omega), ← hr]; rfl
      have n0 : ¬ (n : Int) = 0 := by omega
      have n1 : ((n : Int) == 0) = false := by simp; omega
      have tb : (r : Int) < (n : Int) := by omega
      obtain ⟨b, off, rfl, hbl, hcs⟩ := RD.out (by rw [HN.out]; omega)
      obtain ⟨x, hx⟩ : ∃ x, L.getD r ⟨0, 0⟩ = x := ⟨_, rfl⟩
      have kx := (HB3.out.cell (p := ⟨b, off + r * 2 + 1, none⟩) hbl).trans (hcs r (by rw [HN.out]; exact hrn)).2
      rw [hx] at kx
      have HX := hidrg_ (show R[k]? = some x by
        rw [HRG.out k hlt, hs, hr, ← hx, List.getD_eq_getElem?_getD, List.getElem?_eq_getElem (by rw [HN.out]; exact hrn)]
        rfl)
      have wr1 : IntKind.i64.wrap (r : Int) = (r : Int) := IntWalk.i64_in _ (by omega)
      clear hcs hx hs hr
      go_upto_region 8 with fail
      go_quiet (fail)
      clear kg kx wf tr n0 n1 tb wr1 tl
      have HB2 := hidrg_ (show Below w.heap.size w (wr.drewN nq) from below_drewN HB.out nq)
      have HB4 := hidrg_ (show Below w3.heap.size w3 (wr.drewN nq) from below_drewN HB3.out nq)
      have HO2 := hidrg_ (HO.out.drewN nq)
      clear HB HB3 HO
      generalize wr.drewN nq = wd at *
      have cc := containsZ_any wd A5 m c5 (wsK R k) HWL.out HO2.out.rd.1 (by omega) x.r
      obtain ⟨y, hy⟩ : ∃ y, x.r = y := ⟨_, rfl⟩
      rw [hy] at cc ⊢
      have HY := hidrg_ hy
      clear hy
      by_cases hin : y ∈ wsK R k
      · have HW := hidrg_ (show wsK R (k + 1) = wsK R k by rw [wsK_succ HX.out, HY.out, if_pos hin])
        rw [decide_eq_true hin] at cc
        clear hin
        go_wp2_with (go_at_call 24; ((with_reducible refine cc.mono ?_); clear cc; rintro e w5 ⟨rfl, hb⟩; have B5 := hidrg_ (HB2.out.trans (hb.mono HB2.out.size)); have B53 := hidrg_ (HB4.out.trans (hb.mono HB4.out.size)); have O5 := hidrg_ (HO2.out.below hb (Nat.le_refl _)); clear hb))
        go_roundw
        case rel => exact ⟨k + 1, A5, c5, m, by go_num, by omega, rfl, by omega, hidrg_ (by rw [HW.out]; exact HWL.out), hidrg_ (by rw [HW.out]; exact O5.out), B5, B53⟩
        case measure => simp [intOf]; omega
      · have HW := hidrg_ (show wsK R (k + 1) = wsK R k ++ [y] by rw [wsK_succ HX.out, HY.out, if_neg hin])
        rw [decide_eq_false hin] at cc
        clear hin
        go_wp2_with (first
          | (go_at_call 24; ((with_reducible refine cc.mono ?_); clear cc; rintro e w5 ⟨rfl, hb⟩; have B5 := hidrg_ (HB2.out.trans (hb.mono HB2.out.size)); have B53 := hidrg_ (HB4.out.trans (hb.mono HB4.out.size)); have O5 := hidrg_ ((HO2.out.below hb (Nat.le_refl _)).alloc (.cells #[.int .i64 (y : Int)] 3)); have RY := hidrg_ (rdz_one w5 y); have hl1 : (wsK R k).length + 1 ≤ 1000000 := (by rw [HWL.out]; omega); have hb1 : w3.heap.size ≤ (w5.alloc (.cells #[.int .i64 (y : Int)] 3)).heap.size := (by simp; have := B53.out.size; omega); clear hb))
          | (at_builtin; refine wpList_appZ rfl (.tmp 43) (.tmp 45) rfl O5.out rfl 1 1 rfl RY.out rfl hl1 hb1 ?_; intro A6 c6 w6 h1 h2 h3; rw [HWL.out] at h1 h3 ⊢; have O6 := hidrg_ h1; have BA := B5.out.alloc B5.out.size (.cells #[.int .i64 (y : Int)] 3); have BA3 := B53.out.alloc B53.out.size (.cells #[.int .i64 (y : Int)] 3); have own := fun k hk => (World.ownsRow.lt O5.out k hk).1; have B6 := hidrg_ (BA.grown h2 BA.size (fun k hk => Nat.le_trans B3.out.size (own k hk))); have B63 := hidrg_ (BA3.grown h2 BA3.size (fun k hk => own k hk)); clear h1 h2 h3 BA BA3 own))
        go_roundw
        case rel => exact ⟨k + 1, A6, c6, m + 1, by go_num, by omega, rfl, by omega, hidrg_ (by rw [HW.out, List.length_append, HWL.out]; rfl), hidrg_ (by rw [HW.out]; exact O6.out), B6, B63⟩
        case measure => simp [intOf]; omega
    · have tl : ¬ (k : Int) < (n : Int) := by omega
      have HE := hidrg_ (show k = n by omega)
      go_wp2
      go_ret
      have e : walkV pl L = wsK R k := by rw [HRR.out, HE.out]
      exact ⟨A5, c5, by rw [e, HWL.out]; rfl, by rw [e, HWL.out]; exact HO.out.lower B3.out.size, HB.out⟩
/-- The first ones, or that there aren't so many. -/
def PrfP (w : World) (ws : List Nat) (z : Int) (e : Ending) (w' : World) : Prop :=
  ∃ A n c, e = .returned (.tuple #[.slice A n c, .int .i64 (if 1 ≤ z ∧ z ≤ (ws.length : Int) then 0 else 1)]) ∧ n = (if 1 ≤ z ∧ z ≤ (ws.length : Int) then ws.take z.toNat else []).length ∧ RdZ w' w'.heap.size A (if 1 ≤ z ∧ z ≤ (ws.length : Int) then ws.take z.toNat else []) ∧ Below w.heap.size w w'
set_option maxRecDepth 100000 in
set_option maxHeartbeats 4000000 in
theorem prefer_any (w : World) (g : Nat) (L : List PtV) (hr : RingIs w g L) (hs : Srt ltP L) (hm : L.length ≤ 1000000) (K : List UInt8) (hK : K.length = 32) (z : Int) (hwl : (walkV (plB K) L).length ≤ 1000000) :
    Calls Tryd.prog 8 #[.pointer (some ⟨g, 0, none⟩), .agg (rowOf K), .int .i64 z] w (PrfP w (walkV (plB K) L) z) := by
  obtain ⟨gk, hgk⟩ : ∃ g, w.heap.size = g := ⟨_, rfl⟩
  obtain ⟨w1, hw1⟩ : ∃ W, w.alloc (.cells (rowOf K) 23) = W := ⟨_, rfl⟩
  have B1 := hidrg_ (show Below w.heap.size w w1 by rw [← hw1]; exact (Below.refl _ _).alloc (Nat.le_refl _) _)
  have K1 := hidrg_ (show Bk w1 gk 23 (rowOf K) by rw [← hw1, ← hgk]; exact Bk.new w _ _)
  have KL := hidrg_ (iBlind K hK)
  have cw := walk_any w1 g L (hr.below B1.out) hs hm K hK
  obtain ⟨ws, hws⟩ : ∃ x, walkV (plB K) L = x := ⟨_, rfl⟩
  rw [hws] at cw hwl ⊢
  obtain ⟨m, hm1⟩ : ∃ m, ws.length = m := ⟨_, rfl⟩
  have HM := hidrg_ hm1
  have hm6 : m ≤ 1000000 := by omega
  clear hr hs hm hK hws hm1 hwl
  by_cases h1 : z < 1
  · have t1 : z < 1 := h1
    have HN := hidrg_ (show ¬ (1 ≤ z ∧ z ≤ (ws.length : Int)) by omega)
    go_enter Tryd.func8, Tryd.ntmps8
    go_wp2_with (first
      | (refine wpList_load_row rfl 23 (.tmp 4) rfl gk rfl 23 (rowOf K) (0, 0) _ K1.out Tryd.underlying23 rfl KL.out ?_)
      | (go_at_call 12; ((with_reducible refine cw.mono ?_); clear cw; rintro e w2 ⟨A, c, rfl, ho, hb⟩; rw [HM.out] at ho ⊢; have O2 := hidrg_ ho; have B2 := hidrg_ (B1.out.trans (hb.mono B1.out.size)); clear ho hb)))
    go_ret2
    exact ⟨none, 0, 0, by rw [if_neg HN.out]; rfl, by rw [if_neg HN.out]; rfl, by rw [if_neg HN.out]; exact RdZ.nil, B2.out⟩
  · have t1 : ¬ z < 1 := h1
    by_cases h2 : (m : Int) < z
    · have t2 : (m : Int) < z := h2
      have HN := hidrg_ (show ¬ (1 ≤ z ∧ z ≤ (ws.length : Int)) by have := HM.out; omega)
      go_enter Tryd.func8, Tryd.ntmps8
      go_wp2_with (first
        | (refine wpList_load_row rfl 23 (.tmp 4) rfl gk rfl 23 (rowOf K) (0, 0) _ K1.out Tryd.underlying23 rfl KL.out ?_)
        | (go_at_call 12; ((with_reducible refine cw.mono ?_); clear cw; rintro e w2 ⟨A, c, rfl, ho, hb⟩; rw [HM.out] at ho ⊢; have O2 := hidrg_ ho; have B2 := hidrg_ (B1.out.trans (hb.mono B1.out.size)); clear ho hb)))
      go_ret2
      exact ⟨none, 0, 0, by rw [if_neg HN.out]; rfl, by rw [if_neg HN.out]; rfl, by rw [if_neg HN.out]; exact RdZ.nil, B2.out⟩
    · obtain ⟨q, rfl⟩ : ∃ q : Nat, z = (q : Int) := ⟨z.toNat, by omega⟩
      have t2 : ¬ (m : Int) < (q : Int) := h2
      have hqm : q ≤ m := by omega
      have HN := hidrg_ (show (1 ≤ (q : Int) ∧ (q : Int) ≤ (ws.length : Int)) by have := HM.out; omega)
      go_enter Tryd.func8, Tryd.ntmps8
      go_wp2_with (first
        | (refine wpList_load_row rfl 23 (.tmp 4) rfl gk rfl 23 (rowOf K) (0, 0) _ K1.out Tryd.underlying23 rfl KL.out ?_)
        | (go_at_call 12; ((with_reducible refine cw.mono ?_); clear cw; rintro e w2 ⟨A, c, rfl, ho, hb⟩; rw [HM.out] at ho ⊢; have hcap := OwnZ.cap ho; have O2 := hidrg_ ho; have sl := sliceZ_to A m c (q : Int) q rfl (by omega) w2; have B2 := hidrg_ (B1.out.trans (hb.mono B1.out.size)); clear ho hb)))
      go_ret2
      exact ⟨A, q, c, by rw [if_pos HN.out]; rfl, by rw [if_pos HN.out, Int.toNat_natCast, List.length_take, HM.out]; omega, by rw [if_pos HN.out, Int.toNat_natCast]; exact O2.out.rd.1.take q, B2.out⟩
end Go.Proofs.YtkhmghmilnfngaaDoor
