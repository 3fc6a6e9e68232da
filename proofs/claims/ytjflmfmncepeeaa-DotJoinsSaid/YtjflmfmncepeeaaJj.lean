/-
  dot.Join.
-/
import Derived.Test.YtjflmfmncepeeaaJh
import Derived.Test.YtjflmfmncepeeaaJf
import Derived.Test.YtjflmfmncepeeaaIg
namespace Go.Proofs.Ytjflmfmncepeeaa
open Go.ChangeShapes Go.WideShapes Go.ChangeAt Go.RowKit
set_option linter.unusedVariables false
set_option linter.unusedSimpArgs false

/-- Of two rows of sixteen the first k greater ones, and the first row's others. -/
def mxN (up up' : List Int) (k : Nat) : List Int := (List.range 16).map fun j => if j < k then max (up.getD j 0) (up'.getD j 0) else up.getD j 0
theorem mxN_len (up up' : List Int) (k : Nat) : (mxN up up' k).length = 16 := by simp [mxN]
theorem mxN_at (up up' : List Int) (k j : Nat) (hj : j < 16) : (mxN up up' k).getD j 0 = if j < k then max (up.getD j 0) (up'.getD j 0) else up.getD j 0 := by
  simp [mxN, List.getD, hj]
theorem ext_int {a b : List Int} (hl : a.length = b.length) (h : ∀ j, j < a.length → a.getD j 0 = b.getD j 0) : a = b :=
  List.ext_getElem hl fun j h1 h2 => by
    have := h j h1
    simpa only [List.getD, List.getElem?_eq_getElem h1, List.getElem?_eq_getElem h2, Option.getD_some] using this
theorem mxN_zero (up up' : List Int) (hu : up.length = 16) : mxN up up' 0 = up := ext_int (by rw [mxN_len, hu]) fun j hj => by
  rw [mxN_at _ _ _ _ (by rw [← mxN_len up up' 0]; exact hj), if_neg (by omega)]
theorem mxN_set (up up' : List Int) (k : Nat) (hk : k < 16) : (mxN up up' k).set k (max (up.getD k 0) (up'.getD k 0)) = mxN up up' (k + 1) := ext_int (by rw [List.length_set, mxN_len, mxN_len]) fun j hj => by
  rw [List.length_set, mxN_len] at hj
  rw [getD_set_ _ _ _ _ (by rw [mxN_len]; exact hk), mxN_at _ _ _ _ hj, mxN_at _ _ _ _ hj]
  split
  · rename_i h
    subst h
    rw [if_pos (by omega)]
  · rename_i h
    split
    · rw [if_pos (by omega)]
    · rw [if_neg (by omega)]
theorem mxN_up {up up' : List Int} (h : Up16 up) (h' : Up16 up') (k : Nat) : Up16 (mxN up up' k) := by
  refine ⟨mxN_len _ _ _, fun j => ?_⟩
  have a := h.2 j
  have b := h'.2 j
  rcases Nat.lt_or_ge j 16 with hj | hj
  · rw [mxN_at _ _ _ _ hj]
    split <;> omega
  · rw [List.getD_eq_getElem?_getD, List.getElem?_eq_none (by rw [mxN_len]; exact hj)]
    simp
theorem intRow_set (u : List Int) (k : Nat) (z : Int) : (intRow u).setIfInBounds k (.int .i64 z) = intRow (u.set k z) := by
  simp only [intRow, List.setIfInBounds_toArray, List.map_set]
theorem intRow_one (u : List Int) : (intRow u).all (·.oneCell') = true := by
  simp [intRow, Value.oneCell']
/-- What Join tells. -/
def JoinV (up : List Int) (ms : List DotV) (up' : List Int) (ms' : List DotV) (u : List Int) (m : List DotV) (z : Int) : Prop :=
  (chk up ms ≠ 0 ∨ chk up' ms' ≠ 0) ∧ u = List.replicate 16 0 ∧ m = [] ∧ z = 1 ∨ (chk up ms = 0 ∧ chk up' ms' = 0) ∧ ResV (mxN up up' 16) (ms ++ ms') u m z
def JnR (g : Nat) (U : List Int) (A : Option Addr) (n c : Nat) (A' : Option Addr) (n' c' : Nat) : Nat → Value → Prop
  | 0, v => v = .agg (intRow U)
  | 1, v => v = .pointer (some ⟨g, 16, none⟩)
  | 2, v => v = .slice A n c
  | 3, v => v = .pointer (some ⟨g + 1, 16, none⟩)
  | 4, v => v = .slice A' n' c'
  | _, _ => True

set_option maxRecDepth 100000 in
set_option maxHeartbeats 8000000 in
theorem join_any (w : World) (up : List Int) (hu : up.length = 16) (A : Option Addr) (n c : Nat) (ms : List DotV) (hn : ms.length = n) (hn6 : n ≤ 400000) (hc : n ≤ c) (hr : RdD w w.heap.size A ms) (up' : List Int) (hu' : up'.length = 16) (A' : Option Addr) (n' c' : Nat) (ms' : List DotV) (hn' : ms'.length = n') (hn6' : n' ≤ 400000) (hc' : n' ≤ c') (hr' : RdD w w.heap.size A' ms') :
    Calls Try.prog 24 #[.agg (ctxRow up A n c), .agg (ctxRow up' A' n' c')] w (TwoP (JoinV up ms up' ms') w) := by
  obtain ⟨g, hg⟩ : ∃ g, w.heap.size = g := ⟨_, rfl⟩
  obtain ⟨wa, hwa⟩ : ∃ w0, w.alloc (.cells (ctxRow up A n c) 29) = w0 := ⟨_, rfl⟩
  have Ka := show Bk wa g 29 (ctxRow up A n c) by rw [← hwa, ← hg]; exact Bk.new w _ _
  have Xa := show Below g w wa by rw [← hwa, ← hg]; exact (Below.refl _ _).alloc (Nat.le_refl _) _
  have Sa : wa.heap.size = g + 1 := by rw [← hwa, ← hg]; simp
  obtain ⟨w0, hw0⟩ : ∃ w0, wa.alloc (.cells (ctxRow up' A' n' c') 29) = w0 := ⟨_, rfl⟩
  have b0 : Below wa.heap.size wa w0 := by rw [← hw0]; exact (Below.refl _ _).alloc (Nat.le_refl _) _
  have D0 := show Bk w0 (g + 1) 29 (ctxRow up' A' n' c') by rw [← Sa, ← hw0]; exact Bk.new wa _ _
  have S0 : w0.heap.size = g + 2 := by rw [← hw0]; simp [Sa]
  have K0 := Ka.below b0 Ka.lt
  have X0 := Xa.trans (b0.mono (by omega))
  have hz := zX_
  have hzU : ∀ W, (zeroValue 22).run Try.prog W = .ok (.agg (intRow [0, 0, 0, 0, 0, 0, 0, 0, 0, 0, 0, 0, 0, 0, 0, 0])) W := fun W => by kernel_rfl
  have IX := hidd_ (show (Try.prog.info? 29).map (·.size) = some (ctxRow up A n c).size by rw [ctxRow_size up A n c hu]; exact iX_)
  have IX' := hidd_ (show (Try.prog.info? 29).map (·.size) = some (ctxRow up' A' n' c').size by rw [ctxRow_size _ _ _ _ hu']; exact iX_)
  have IZ := hidd_ (show (Try.prog.info? 29).map (·.size) = some (ctxRow (List.replicate 16 0) none 0 0).size by rw [ctxRow_size _ _ _ _ (by simp)]; exact iX_)
  have IU := hidd_ (fun (u : List Int) (hu : u.length = 16) => (show (Try.prog.info? 22).map (·.size) = some (intRow u).size by rw [intRow_size, hu]; exact iU_))
  go_enter Try.func24, Try.ntmps24
  go_upto_region 1 with fail
  generalize hw1 : w0.alloc _ = w1
  have b1 : Below w0.heap.size w0 w1 := by rw [← hw1]; exact (Below.refl _ _).alloc (Nat.le_refl _) _
  have S1 : w1.heap.size = g + 3 := by rw [← hw1]; simp [S0]
  have R1 := hidd_ (show Bk w1 (g + 2) 29 (ctxRow (List.replicate 16 0) none 0 0) by rw [← S0, ← hw1]; exact Bk.new w0 _ _)
  have K1 := hidd_ (K0.below b1 K0.lt)
  have D1 := hidd_ (D0.below b1 D0.lt)
  have X1 := hidd_ (X0.trans (b1.mono (by omega)))
  rw [hg] at hr hr'
  have HR := hidd_ hr
  have HR' := hidd_ hr'
  have cc := check_any w1 up hu A n c ms hn (by omega) hc ((hr.below X1.out).more (by omega))
  have HG := hidd_ hg
  have HU := hidd_ hu
  have HU' := hidd_ hu'
  have HN := hidd_ hn
  have HN' := hidd_ hn'
  have HS1 := hidd_ S1
  obtain ⟨e, he⟩ : ∃ e, chk up ms = e := ⟨_, rfl⟩
  have HE := hidd_ he
  rw [he] at cc
  obtain ⟨e', he'⟩ : ∃ e, chk up' ms' = e := ⟨_, rfl⟩
  have HE' := hidd_ he'
  clear hu hu' hn hn' hr hr' he Ka Xa b0 b1 K0 X0 D0 hw1 hw0 hwa Sa S0 S1 hg
  by_cases he0 : e = 0
  · subst he0
    by_cases he1 : e' = 0
    · subst he1
      go_upto_region 3 with (first
        | (refine wpList_load_row rfl 29 (.tmp 2) rfl g rfl 29 (ctxRow up A n c) (0, 0) _ K1.out Try.underlying29 rfl IX.out ?_)
        | (refine wpList_load_rowWd (by go_simp) 29 (.tmp 3) rfl (g + 1) rfl 29 (ctxRow up' A' n' c') D2.out _ Try.underlying29 rfl IX'.out ?_)
        | (go_at_call 16; ((with_reducible refine cc.mono ?_); clear cc; rintro e w2 ⟨rfl, hb⟩; have X2 := hidd_ (X1.out.trans (hb.mono (by have := HS1.out; omega))); have D2 := hidd_ (D1.out.below hb D1.out.lt); have K2 := hidd_ (K1.out.below hb K1.out.lt); have R2 := hidd_ (R1.out.below hb R1.out.lt); clear hb; have cd := check_any w2 up' HU'.out A' n' c' ms' HN'.out (by omega) hc' ((HR'.out.below X2.out).more (by have := R2.out.lt; omega)); rw [he'] at cd))
        | (go_at_call 16; ((with_reducible refine cd.mono ?_); clear cd; rintro e w3 ⟨rfl, hb⟩; have X3 := hidd_ (X2.out.trans (hb.mono (by have := R2.out.lt; omega))); have D3 := hidd_ (D2.out.below hb D2.out.lt); have K3 := hidd_ (K2.out.below hb K2.out.lt); have R3 := hidd_ (R2.out.below hb R2.out.lt); clear hb)))
      obtain ⟨hcan, hl32⟩ := chk_can HU.out HE.out
      obtain ⟨hcan', hl32'⟩ := chk_can HU'.out HE'.out
      have HCD := hidd_ (show ∀ x ∈ ms ++ ms', isD x = true from fun x hx => by
        rcases List.mem_append.1 hx with h | h
        · exact hcan.dots x h
        · exact hcan'.dots x h)
      have HU16 := hidd_ (mxN_up hcan.up16 hcan'.up16 16)
      have HLN := hidd_ (show (ms ++ ms').length = n + n' by rw [List.length_append, HN.out, HN'.out])
      have hn32 : n ≤ 32 := by have := HN.out; omega
      have hn32' : n' ≤ 32 := by have := HN'.out; omega
      clear R1 R2 K1 K2 D1 D2 X1 X2 hcan hcan' hl32 hl32' he'
      have KU := hidd_ (fun j (hj : j < (intRow up).size) => (show w3.cell? ⟨g, 0 + j, none⟩ = (intRow up)[j]? by have := HU.out; rw [intRow_size, HU.out] at hj; rw [Nat.zero_add, K3.out.cell j, ctxRow_up up A n c j HU.out hj, intRow_at up j (by omega)]))
      go_upto_region 4 with (first
        | (refine wpList_load_part (wanted_none rfl) 22 (.tmp 18) rfl g 0 rfl (intRow up) KU.out _ Try.underlying22 rfl (IU.out up HU.out) ?_)
        | (refine wpList_put_row rfl 22 _ _ rfl w3.heap.size (intRow up) rfl rfl 22 (intRow [0, 0, 0, 0, 0, 0, 0, 0, 0, 0, 0, 0, 0, 0, 0, 0]) (Bk.new w3 _ _) (IU.out up HU.out) (by rw [intRow_size, intRow_size, HU.out]; rfl) (intRow_one _) ?_; intro w4 k4 g4 s4; have B4 := hidd_ (((Below.refl w3.heap.size w3).alloc (Nat.le_refl _) (.cells (intRow [0, 0, 0, 0, 0, 0, 0, 0, 0, 0, 0, 0, 0, 0, 0, 0]) 22)).grown g4 (by simp) (fun k hk => by injection hk with hk; omega)); have P4 := hidd_ k4; clear k4 g4 s4))
      have K4 := hidd_ (K3.out.below B4.out K3.out.lt)
      have D4 := hidd_ (D3.out.below B4.out D3.out.lt)
      have R4 := hidd_ (R3.out.below B4.out R3.out.lt)
      have X4 := hidd_ (X3.out.trans (B4.out.mono (by have := R3.out.lt; omega)))
      have hp3 : g + 2 < w3.heap.size := R3.out.lt
      clear K3 D3 R3 X3 KU B4
      generalize w3.heap.size = p at *
      have P4' := hidd_ (show Bk w4 p 22 (intRow (mxN up up' 0)) by rw [mxN_zero _ _ HU.out]; exact P4.out)
      clear P4
      have KU' := hidd_ (fun j (hj : j < (intRow up').size) => (show w4.cell? ⟨g + 1, 0 + j, none⟩ = (intRow up')[j]? by have := HU'.out; rw [intRow_size, HU'.out] at hj; rw [Nat.zero_add, D4.out.cell j, ctxRow_up up' A' n' c' j HU'.out hj, intRow_at up' j (by omega)]))
      have hix := hidd_ (fun k hk W => index_up up' k HU'.out hk W)
      go_upto_region 5 with (refine wpList_load_part (wanted_none rfl) 22 (.tmp 20) rfl (g + 1) 0 rfl (intRow up') KU'.out _ Try.underlying22 rfl (IU.out up' HU'.out) ?_)
      go_loopw [7, 8, 22] (fun _ _ i wr => ∃ k : Nat, k ≤ 16 ∧ i = .int .i64 k ∧ Hid (Bk wr p 22 (intRow (mxN up up' k))) ∧ Hid (w4.grownBy wr (some p))) (fun _ _ i _ => 16 - (intOf i).toNat)
      case atStart => exact ⟨0, by omega, rfl, P4', hidd_ (World.grownBy.refl _ _)⟩
      case round =>
        obtain ⟨k, hk, rfl, HP, HGR⟩ := hrel
        by_cases hlt : k < 16
        · have hi := fun W => hix.out k hlt W
          obtain ⟨z, hz'⟩ : ∃ z, up'.getD k 0 = z := ⟨_, rfl⟩
          obtain ⟨y, hy⟩ : ∃ z, up.getD k 0 = z := ⟨_, rfl⟩
          have hgy : (mxN up up' k).getD k 0 = y := by rw [mxN_at _ _ _ _ hlt, if_neg (by omega), hy]
          have hcz := (HP.out.cell k).trans (intRow_at _ k (by rw [mxN_len]; exact hlt))
          rw [hgy] at hcz
          have hfz := HP.out.frozen k
          obtain ⟨mx, hmx⟩ : ∃ m, m = max y z := ⟨_, rfl⟩
          have hmax := fun W ts t => run_max2 y z mx hmx W ts t
          have HST := hidd_ (show (intRow (mxN up up' k)).setIfInBounds k (.int .i64 mx) = intRow (mxN up up' (k + 1)) by rw [intRow_set, hmx, ← hy, ← hz', mxN_set _ _ _ hlt])
          rw [hz'] at hi
          have t0 : (0 : Int) ≤ (k : Int) := by omega
          have t1 : (k : Int) < 16 := by omega
          clear hz' hy hgy hmx
          go_upto_region 8 with fail
          generalize hw9 : wr.setCell _ _ = w9
          have g9 : wr.grownBy w9 (some p) := by rw [← hw9]; exact grown_cell _ _ _ _
          have P9 := hidd_ (show Bk w9 p 22 (intRow (mxN up up' (k + 1))) by rw [← hw9, ← HST.out]; exact HP.out.set_ k _)
          have G9 := hidd_ (World.grownBy.trans HGR.out g9)
          clear g9 hw9 hcz hfz hmax hi HP HGR
          go_wp2
          go_roundw
          case rel => exact ⟨k + 1, by omega, by go_num, P9, G9⟩
          case measure => simp [intOf]; omega
        · obtain rfl : k = 16 := by omega
          have d1 : decide (((16 : Nat) : Int) < 16) = false := rfl
          have K5 := hidd_ (K4.out.grown HGR.out (fun e => by injection e with e; omega))
          have D5 := hidd_ (D4.out.grown HGR.out (fun e => by injection e with e; omega))
          have R5 := hidd_ (R4.out.grown HGR.out (fun e => by injection e with e; omega))
          have X5 := hidd_ (X4.out.grown HGR.out (by have := R4.out.lt; omega) (fun k hk => by injection hk with hk; omega))
          have hrg : g + 2 < wr.heap.size := R5.out.lt
          have HRD := hidd_ (HR.out.below X5.out)
          have HRD' := hidd_ (HR'.out.below X5.out)
          have C0 : CxC (g + 2) wr wr := CxC.start R5.out (ctxRow_size _ _ _ _ (by simp))
          obtain ⟨B, hB⟩ : ∃ B, wr.heap.size = B := ⟨_, rfl⟩
          obtain ⟨cat, hcat⟩ : ∃ l, ms ++ ms' = l := ⟨_, rfl⟩
          have HCT := hidd_ hcat
          rw [hcat] at HCD HLN
          obtain ⟨U, hU⟩ : ∃ l, mxN up up' 16 = l := ⟨_, rfl⟩
          have HUU := hidd_ hU
          rw [hU] at HU16 HP
          clear hcat hU K4 D4 R4 X4 HR HR' HGR hix KU' P4'
          go_upto_region 9 with fail
          refine region_byJF [34, 35, 36, 37, 38, 39, 40, 41, 42, 43, 5] (CxC (g + 2) wr) (fun _ _ => True) (fun jj v _ => JnR g U A n c A' n' c' jj v) (fun L a W => CxJ B (g + 2) U cat ⟨0, 0⟩ false (L 5) (L 6) (L 7) (L 8) (L 9) (L 10) (L 11) undef (a.tmps.getD 39 undef) (a.tmps.getD 40 undef) (a.tmps.getD 41 undef) (a.tmps.getD 42 undef) (a.tmps.getD 43 undef) (a.tmps.getD 5 undef) W) (by kernel_rfl) (by kernel_rfl) (by kernel_rfl) (by kernel_rfl) (fun j v w w' hT hr => hr) (fun j v w hlt hj _ => ?_) (C0.keep ((Below.refl _ _).drew)) ?_ CxJ.start ?_
          · rcases j with _ | _ | _ | _ | _ | _ | _ | _ | _ | _ | _ | _ | j
            all_goals first
              | (exfalso; simp [dstOf] at hj; done)
              | trivial
          · refine ⟨fun D a W hC hd hsz hf hv hJ hL hW K hK => ?_, fun D a W hC hd hsz hf hv hJ hL hW K hK => ?_, fun D a W hC hd hsz hf hv hJ hL hW K hK => ?_, fun D a W hC hd hsz hf hv hJ hL hW K hK => ?_, fun D a W hC hd hsz hf hv hJ hL hW K hK => ?_, fun D a W hC hd hsz hf hv hJ hL hW K hK => ?_, fun D a W hC hd hsz hf hv hJ hL hW K hK => ?_, fun D a W hC hd hsz hf hv hJ hL hW K hK => ?_, fun D a W hC hd hsz hf hv hJ hL hW K hK => ?_, fun D a W hC hd hsz hf hv hJ hL hW K hK => ?_, fun D a W hC hd hsz hf hv hJ hL hW K hK => ?_, fun D a W hC hd hsz hf hv hJ hL hW K hK => ?_, trivial⟩
            · have HSZ : a.tmps.size = 44 := hsz
              have e1 := eval_of (a := a) (s := 6) (v := .pointer (some ⟨p, 0, none⟩)) (hf 6 (by kernel_rfl))
              have KW := hC.bk HP.out (by omega)
              refine step_load_sub (wanted_none rfl) 22 _ rfl p 0 e1 (intRow U) (fun j _ => by rw [Nat.zero_add]; exact KW.cell j) _ Try.underlying22 rfl (IU.out U HU16.out.1) (hK _ _ hC trivial rfl (by simp only [put_other (show (39:Nat) ≠ 34 by decide), put_other (show (40:Nat) ≠ 34 by decide), put_other (show (41:Nat) ≠ 34 by decide), put_other (show (42:Nat) ≠ 34 by decide), put_other (show (43:Nat) ≠ 34 by decide), put_other (show (5:Nat) ≠ 34 by decide)]; exact hJ))
            · have HSZ : a.tmps.size = 44 := hsz
              have e1 := slot_of (a := a) (s := 2) (v := .pointer (some ⟨g, 0, none⟩)) (hf 2 (by kernel_rfl))
              refine step_run (wanted_none rfl) (v := .pointer (some ⟨g, 16, none⟩)) (w' := W) ?_ (hK _ _ hC trivial rfl (by simp only [put_other (show (39:Nat) ≠ 35 by decide), put_other (show (40:Nat) ≠ 35 by decide), put_other (show (41:Nat) ≠ 35 by decide), put_other (show (42:Nat) ≠ 35 by decide), put_other (show (43:Nat) ≠ 35 by decide), put_other (show (5:Nat) ≠ 35 by decide)]; exact hJ))
              clear hsz HSZ
              go_simp
            · have HSZ : a.tmps.size = 44 := hsz
              have e1 := slot_of (a := a) (s := 35) (v := .pointer (some ⟨g, 16, none⟩)) (hv 1 (by kernel_rfl))
              have hcx := ((hC.bk K5.out (by omega)).cell 16).trans (ctxRow_more up A n c HU.out)
              refine step_run (wanted_none rfl) (v := .slice A n c) (w' := W) ?_ (hK _ _ hC trivial rfl (by simp only [put_other (show (39:Nat) ≠ 36 by decide), put_other (show (40:Nat) ≠ 36 by decide), put_other (show (41:Nat) ≠ 36 by decide), put_other (show (42:Nat) ≠ 36 by decide), put_other (show (43:Nat) ≠ 36 by decide), put_other (show (5:Nat) ≠ 36 by decide)]; exact hJ))
              clear hsz HSZ
              go_simp
            · have HSZ : a.tmps.size = 44 := hsz
              have e1 := slot_of (a := a) (s := 3) (v := .pointer (some ⟨g + 1, 0, none⟩)) (hf 3 (by kernel_rfl))
              refine step_run (wanted_none rfl) (v := .pointer (some ⟨g + 1, 16, none⟩)) (w' := W) ?_ (hK _ _ hC trivial rfl (by simp only [put_other (show (39:Nat) ≠ 37 by decide), put_other (show (40:Nat) ≠ 37 by decide), put_other (show (41:Nat) ≠ 37 by decide), put_other (show (42:Nat) ≠ 37 by decide), put_other (show (43:Nat) ≠ 37 by decide), put_other (show (5:Nat) ≠ 37 by decide)]; exact hJ))
              clear hsz HSZ
              go_simp
            · have HSZ : a.tmps.size = 44 := hsz
              have e1 := slot_of (a := a) (s := 37) (v := .pointer (some ⟨g + 1, 16, none⟩)) (hv 3 (by kernel_rfl))
              have hcx := ((hC.bk D5.out (by omega)).cell 16).trans (ctxRow_more up' A' n' c' HU'.out)
              refine step_run (wanted_none rfl) (v := .slice A' n' c') (w' := W) ?_ (hK _ _ hC trivial rfl (by simp only [put_other (show (39:Nat) ≠ 38 by decide), put_other (show (40:Nat) ≠ 38 by decide), put_other (show (41:Nat) ≠ 38 by decide), put_other (show (42:Nat) ≠ 38 by decide), put_other (show (43:Nat) ≠ 38 by decide), put_other (show (5:Nat) ≠ 38 by decide)]; exact hJ))
              clear hsz HSZ
              go_simp
            · have HSZ : a.tmps.size = 44 := hsz
              have e1 := slot_of (a := a) (s := 36) (v := .slice A n c) (hv 2 (by kernel_rfl))
              have e2 := slot_of (a := a) (s := 38) (v := .slice A' n' c') (hv 4 (by kernel_rfl))
              have hbl : Below W.heap.size W (W.alloc (.cells #[.slice A n c, .slice A' n' c'] 23)) := (Below.refl _ _).alloc (Nat.le_refl _) _
              have hct : CatD (W.alloc (.cells #[.slice A n c, .slice A' n' c'] 23)) (W.alloc (.cells #[.slice A n c, .slice A' n' c'] 23)).heap.size W.heap.size [(A, c, ms), (A', c', ms')] := two_cat (by simp only [HN.out, HN'.out]; exact Bk.new W _ _) (((hC.keep hbl).rd HRD.out (by omega) hrg)) (((hC.keep hbl).rd HRD'.out (by omega) hrg))
              refine step_run (wanted_none rfl) (v := .slice (some ⟨W.heap.size, 0, none⟩) 2 2) (w' := W.alloc (.cells #[.slice A n c, .slice A' n' c'] 23)) ?_ (hK _ _ (hC.keep hbl) trivial trivial (by simp only [put_other (show (40:Nat) ≠ 39 by decide), put_other (show (41:Nat) ≠ 39 by decide), put_other (show (42:Nat) ≠ 39 by decide), put_other (show (43:Nat) ≠ 39 by decide), put_other (show (5:Nat) ≠ 39 by decide), put_self (show 39 < a.tmps.size by rw [HSZ]; omega)]; exact (hJ.keep hbl).to_b _ _ rfl (by rw [← HCT.out]; simp [flatD]) hct))
              clear hsz HSZ hbl hct
              go_simp
            · have HSZ : a.tmps.size = 44 := hsz
              have hx0 : D 7 = false := by cases h8 : D 7 with | false => rfl | true => exact absurd (hJ.hs.1 h8) (by rw [hL]; simp)
              obtain ⟨q, ps, hq, hp2, hf2, hct⟩ := hJ.hb (hW 5 (by kernel_rfl)) hx0
              have e1 := slot_of hq
              refine step_callx 46 #[.slice (some ⟨q, 0, none⟩) 2 2] (wanted_none rfl) (w' := W) ?_ ((concatD_any q 2 2 (n + n') ps W hp2 (by rw [hf2]; exact HLN.out) hct (by omega) (by omega)).mono ?_)
              · clear hsz HSZ
                go_simp
              · rintro e W' ⟨A2, c2, rfl, ho, hb⟩
                rw [hf2] at ho
                have h1 := HLN.out
                have h2 := hC.grown.size
                refine ⟨_, rfl, hK _ _ (hC.keep hb) trivial trivial ?_⟩
                simp only [put_other (show (39:Nat) ≠ 40 by decide), put_other (show (41:Nat) ≠ 40 by decide), put_other (show (42:Nat) ≠ 40 by decide), put_other (show (43:Nat) ≠ 40 by decide), put_other (show (5:Nat) ≠ 40 by decide), put_self (show 40 < a.tmps.size by rw [HSZ]; omega)]
                rw [← h1] at ho ⊢
                exact (hJ.keep hb).to_k (hW 5 (by kernel_rfl)) (ownD_base ho (by omega))
            · have HSZ : a.tmps.size = 44 := hsz
              obtain ⟨A2, c2, hq, ho⟩ := hJ.hk (hW 6 (by kernel_rfl)) hL
              have e1 := slot_of (a := a) (s := 34) (v := .agg (intRow U)) (hv 0 (by kernel_rfl))
              have e2 := slot_of hq
              rw [hq] at ho
              have hlt := ho.lt
              refine step_callx 45 #[.agg (intRow U), .slice A2 cat.length c2] (wanted_none rfl) (w' := W) ?_ ((contextOf_own W U HU16.out B A2 cat.length c2 cat (by have := HLN.out; omega) HCD.out ho).mono ?_)
              · clear hsz HSZ hlt
                go_simp
              · rintro e W' ⟨hg, u, m, A3, c3, z, rfl, h1, h2, h3, h4, h5, h6⟩
                have h7 := hC.grown.size
                refine ⟨_, rfl, hK _ _ (hC.own hg (fun q hq => by have := (hlt q hq).1; omega) hrg) trivial trivial ?_⟩
                simp only [put_other (show (39:Nat) ≠ 41 by decide), put_other (show (40:Nat) ≠ 41 by decide), put_other (show (42:Nat) ≠ 41 by decide), put_other (show (43:Nat) ≠ 41 by decide), put_other (show (5:Nat) ≠ 41 by decide), put_self (show 41 < a.tmps.size by rw [HSZ]; omega)]
                exact hJ.to_x hL (hW 6 (by kernel_rfl)) h1 (fun y hy => by have := h2 y hy; omega) h3 h4 h5 h6
            · have HSZ : a.tmps.size = 44 := hsz
              obtain ⟨u, m, A3, c3, z, hq, h1, h2, h3, h4, h5, h6, h7, h8, h9, h10⟩ := hJ.hx (hW 7 (by kernel_rfl))
              have e1 := slot_of hq
              refine step_run (wanted_none rfl) (v := .agg (ctxRow u A3 m.length c3)) (w' := W) ?_ (hK _ _ hC trivial trivial (by simp only [put_other (show (39:Nat) ≠ 42 by decide), put_other (show (40:Nat) ≠ 42 by decide), put_other (show (41:Nat) ≠ 42 by decide), put_other (show (43:Nat) ≠ 42 by decide), put_other (show (5:Nat) ≠ 42 by decide), put_self (show 42 < a.tmps.size by rw [HSZ]; omega)]; exact hJ.to_s0 (hW 7 (by kernel_rfl)) hq))
              unfold TwoX at e1
              clear hsz HSZ hq h7 h8 h9 h10
              go_simp
            · have HSZ : a.tmps.size = 44 := hsz
              obtain ⟨u, m, A3, c3, z, hq, h1, h2, h3, h4, h5, h6, h7, h8, h9, h10⟩ := hJ.hx (hW 7 (by kernel_rfl))
              have e1 := slot_of hq
              refine step_run (wanted_none rfl) (v := .int .i64 z) (w' := W) ?_ (hK _ _ hC trivial trivial (by simp only [put_other (show (39:Nat) ≠ 43 by decide), put_other (show (40:Nat) ≠ 43 by decide), put_other (show (41:Nat) ≠ 43 by decide), put_other (show (42:Nat) ≠ 43 by decide), put_other (show (5:Nat) ≠ 43 by decide), put_self (show 43 < a.tmps.size by rw [HSZ]; omega)]; exact hJ.to_s1 (hW 7 (by kernel_rfl)) hq))
              unfold TwoX at e1
              clear hsz HSZ hq h7 h8 h9 h10
              go_simp
            · have HSZ : a.tmps.size = 44 := hsz
              obtain ⟨u, m, A3, c3, z, hq, h1, h2, h3, h4, h5, h6, h7, h8, h9, h10⟩ := hJ.hx (hJ.hs.2.2.2.1 (hW 8 (by kernel_rfl)))
              have e1 := eval_of (a := a) (s := 4) (v := .pointer (some ⟨g + 2, 0, none⟩)) (hf 4 (by kernel_rfl))
              have e2 := eval_of (h7 (hW 8 (by kernel_rfl)))
              obtain ⟨X, hX, hXs⟩ := hC.res
              have IV : (Try.prog.info? 29).map (·.size) = some (ctxRow u A3 m.length c3).size := by rw [ctxRow_size _ _ _ _ h5]; exact iX_
              refine step_put_row rfl 29 _ _ rfl (g + 2) (ctxRow u A3 m.length c3) e1 e2 29 X hX IV (by rw [hXs, ctxRow_size _ _ _ _ h5]) (ctxRow_one _ _ _ _) ?_
              intro W' k9 g9 s9
              exact hK _ _ (hC.put g9 k9 (ctxRow_size _ _ _ _ h5)) trivial trivial (by simp only [put_none]; exact hJ.to_st (hJ.hs.2.2.2.1 (hW 8 (by kernel_rfl))) hq (by omega) g9 k9)
            · have HSZ : a.tmps.size = 44 := hsz
              obtain ⟨u, m, A3, c3, z, hq, h1, h2, h3, h4, h5, h6, h7, h8, h9, h10⟩ := hJ.hx (hJ.hs.2.2.2.2.1 (hW 9 (by kernel_rfl)))
              have e1 := slot_of (h8 (hW 9 (by kernel_rfl)))
              refine step_run (wanted_none rfl) (v := .int .i64 z) (w' := W) ?_ (hK _ _ hC trivial trivial (by simp only [put_other (show (39:Nat) ≠ 5 by decide), put_other (show (40:Nat) ≠ 5 by decide), put_other (show (41:Nat) ≠ 5 by decide), put_other (show (42:Nat) ≠ 5 by decide), put_other (show (43:Nat) ≠ 5 by decide), put_self (show 5 < a.tmps.size by rw [HSZ]; omega)]; exact hJ.to_ae (hJ.hs.2.2.2.2.1 (hW 9 (by kernel_rfl))) hq))
              clear hsz HSZ hq h7 h9 h10
              go_simp
          · intro f W hC hv L hL hJ'
            obtain ⟨aE, hJ, hfr⟩ := hJ'
            obtain ⟨u, m, A3, c3, z, hq, h1, h2, h3, h4, h5, h6, h7, h8, h9, h10⟩ := hJ.hx (hL 7 (by decide))
            have hf5 : f 5 = .int .i64 z := by rw [← hfr 5]; exact h10 (hL 11 (by decide))
            have k9 := h9 (hL 10 (by decide))
            have IV := hidd_ (show (Try.prog.info? 29).map (·.size) = some (ctxRow u A3 m.length c3).size by rw [ctxRow_size _ _ _ _ h5]; exact iX_)
            have XB := hidd_ (X5.out.grown hC.grown (by omega) (fun k hk => by injection hk with hk; omega))
            simp only [framed, List.foldl_cons, List.foldl_nil, List.setIfInBounds_toArray, List.set_cons_succ, List.set_cons_zero, hf5]
            clear hv hC hJ hfr hL hq h7 h8 h9 h10 hf5
            rename_i K hK
            refine hK _ _ ?_
            go_wp2
            exact bodyPost_ret (results_cell_slotD Try.results24 _ _ (g + 2) (v' := .int .i64 z) rfl rfl (run_loadVar_row _ _ _ _ _ (0, 0) _ k9 Try.underlying29 rfl IV.out)) rfl ⟨u, m, A3, c3, z, rfl, h1, fun y hy => by have := h2 y hy; have := HG.out; omega, h3, h4, h5, .inr ⟨⟨HE.out, HE'.out⟩, by rw [HUU.out, HCT.out]; exact h6⟩, by rw [HG.out]; exact XB.out⟩
    · have b1 : (e' == 0) = false := by simpa using he1
      have b2 : (e' != 0) = true := by simpa using he1
      have HQ := hidd_ (show chk up' ms' ≠ 0 by rw [HE'.out]; exact he1)
      clear he1
      go_wp2_with (first
        | (refine wpList_load_row rfl 29 (.tmp 2) rfl g rfl 29 (ctxRow up A n c) (0, 0) _ K1.out Try.underlying29 rfl IX.out ?_)
        | (refine wpList_load_rowWd (by go_simp) 29 (.tmp 3) rfl (g + 1) rfl 29 (ctxRow up' A' n' c') D2.out _ Try.underlying29 rfl IX'.out ?_)
        | (go_at_call 16; ((with_reducible refine cc.mono ?_); clear cc; rintro e w2 ⟨rfl, hb⟩; have X2 := hidd_ (X1.out.trans (hb.mono (by have := HS1.out; omega))); have D2 := hidd_ (D1.out.below hb D1.out.lt); have R2 := hidd_ (R1.out.below hb R1.out.lt); clear hb; have cd := check_any w2 up' HU'.out A' n' c' ms' HN'.out (by omega) hc' ((HR'.out.below X2.out).more (by have := R2.out.lt; omega)); rw [he'] at cd))
        | (go_at_call 16; ((with_reducible refine cd.mono ?_); clear cd; rintro e w3 ⟨rfl, hb⟩; have X3 := hidd_ (X2.out.trans (hb.mono (by have := R2.out.lt; omega))); have R3 := hidd_ (R2.out.below hb R2.out.lt); clear hb))
        | (refine wpList_built rfl 29 _ rfl (ctxRow (List.replicate 16 0) none 0 0) (by kernel_rfl) ?_)
        | (refine wpList_put_row rfl 29 _ _ rfl (g + 2) (ctxRow (List.replicate 16 0) none 0 0) rfl rfl 29 (ctxRow (List.replicate 16 0) none 0 0) R3.out IZ.out rfl (ctxRow_one _ _ _ _) ?_; intro W9 k9 g9 s9))
      refine bodyPost_ret (results_cell_slotD Try.results24 _ _ (g + 2) (v' := .int .i64 1) rfl rfl (run_loadVar_row _ _ _ _ _ (0, 0) _ k9 Try.underlying29 rfl IZ.out)) rfl ⟨List.replicate 16 0, [], none, 0, 1, rfl, RdD.nil, fun y e => (by cases e), Nat.le_refl _, by omega, by simp, .inl ⟨.inr HQ.out, rfl, rfl, rfl⟩, ?_⟩
      rw [HG.out]
      exact X3.out.grown g9 (Nat.le_of_lt (Nat.lt_of_le_of_lt (by omega) R3.out.lt)) (fun k hk => by injection hk with hk; omega)
  · have b1 : (e == 0) = false := by simpa using he0
    have b2 : (e != 0) = true := by simpa using he0
    have HQ := hidd_ (show chk up ms ≠ 0 by rw [HE.out]; exact he0)
    clear he0 he'
    go_wp2_with (first
      | (refine wpList_load_row rfl 29 (.tmp 2) rfl g rfl 29 (ctxRow up A n c) (0, 0) _ K1.out Try.underlying29 rfl IX.out ?_)
      | (refine wpList_load_rowWd (by go_simp) 29 (.tmp 3) rfl (g + 1) rfl 29 (ctxRow up' A' n' c') D2.out _ Try.underlying29 rfl IX'.out ?_)
      | (go_at_call 16; ((with_reducible refine cc.mono ?_); clear cc; rintro e w2 ⟨rfl, hb⟩; have X2 := hidd_ (X1.out.trans (hb.mono (by have := HS1.out; omega)));  have R2 := hidd_ (R1.out.below hb R1.out.lt); clear hb))
      | (go_at_call 16; ((with_reducible refine cd.mono ?_); clear cd; rintro e w3 ⟨rfl, hb⟩; have X3 := hidd_ (X2.out.trans (hb.mono (by have := R2.out.lt; omega))); have R3 := hidd_ (R2.out.below hb R2.out.lt); clear hb))
      | (refine wpList_built rfl 29 _ rfl (ctxRow (List.replicate 16 0) none 0 0) (by kernel_rfl) ?_)
      | (refine wpList_put_row rfl 29 _ _ rfl (g + 2) (ctxRow (List.replicate 16 0) none 0 0) rfl rfl 29 (ctxRow (List.replicate 16 0) none 0 0) R2.out IZ.out rfl (ctxRow_one _ _ _ _) ?_; intro W9 k9 g9 s9))
    refine bodyPost_ret (results_cell_slotD Try.results24 _ _ (g + 2) (v' := .int .i64 1) rfl rfl (run_loadVar_row _ _ _ _ _ (0, 0) _ k9 Try.underlying29 rfl IZ.out)) rfl ⟨List.replicate 16 0, [], none, 0, 1, rfl, RdD.nil, fun y e => (by cases e), Nat.le_refl _, by omega, by simp, .inl ⟨.inl HQ.out, rfl, rfl, rfl⟩, ?_⟩
    rw [HG.out]
    exact X2.out.grown g9 (Nat.le_of_lt (Nat.lt_of_le_of_lt (by omega) R2.out.lt)) (fun k hk => by injection hk with hk; omega)
end Go.Proofs.Ytjflmfmncepeeaa
