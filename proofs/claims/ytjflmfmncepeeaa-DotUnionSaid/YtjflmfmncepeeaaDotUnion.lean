/-
  Proved: for all three contexts DotUnion answers true: Join is the same in any order, twice, and in any grouping, as long as none is too large; it covers both, and what covers both covers it. No condition.
-/
import Derived.Test.YtjflmfmncepeeaaJl
import Derived.Test.YtjflmfmncepeeaaJe
import Derived.Laws.Cover3
import Derived.LaidEqlPtr
namespace Go.Proofs.Ytjflmfmncepeeaa.dotUnion
open Go.ChangeShapes Go.WideShapes Go.ChangeAt Go.RowKit
set_option linter.unusedVariables false
set_option linter.unusedSimpArgs false

theorem orf_sh {a b c d : Nat} {x : Bool} (h : a = b ↔ c = d) : (decide (a = b) || x) = (decide (c = d) || x) := by rw [decide_eq_decide.2 h]
theorem orf_tt {a b : Nat} {x : Bool} (h : x = true) : (decide (a = b) || x) = true := by rw [h, Bool.or_true]
def UnR (ra rb rc : Array Value) (ua ub uc : List Int) (la lb lc : List DotV) : Nat → Value → World → Prop
  | 0, v, _ => v = .agg ra
  | 1, v, W => HasCtx ua la v W
  | 2, v, W => HasCtx ua la v W
  | 3, v, _ => v = .agg rb
  | 4, v, W => HasCtx ub lb v W
  | 5, v, W => HasCtx ub lb v W
  | 6, v, _ => v = .agg rc
  | 7, v, W => HasCtx uc lc v W
  | 8, v, W => HasCtx uc lc v W
  | _, _, _ => True
theorem UnR.keep {ra rb rc : Array Value} {ua ub uc : List Int} {la lb lc : List DotV} (j : Nat) (v : Value) (W W' : World) (hT : VrT W W') (h : UnR ra rb rc ua ub uc la lb lc j v W) : UnR ra rb rc ua ub uc la lb lc j v W' := by
  rcases j with _ | _ | _ | _ | _ | _ | _ | _ | _ | j
  · exact h
  · exact HasCtx.keep h hT
  · exact HasCtx.keep h hT
  · exact h
  · exact HasCtx.keep h hT
  · exact HasCtx.keep h hT
  · exact h
  · exact HasCtx.keep h hT
  · exact HasCtx.keep h hT
  · exact h

set_option maxRecDepth 100000 in
set_option maxHeartbeats 8000000 in
theorem walk (w : World) (ua : List Int) (hua : ua.length = 16) (Aa : Option Addr) (ma : List DotV) (ca : Nat) (hca : ma.length ≤ ca) (hca7 : ca ≤ 9223372036854775807) (hra : RdD w w.heap.size Aa ma)
    (ub : List Int) (hub : ub.length = 16) (Ab : Option Addr) (mb : List DotV) (cb : Nat) (hcb : mb.length ≤ cb) (hcb7 : cb ≤ 9223372036854775807) (hrb : RdD w w.heap.size Ab mb)
    (uc : List Int) (huc : uc.length = 16) (Ac : Option Addr) (mc : List DotV) (cc : Nat) (hcc : mc.length ≤ cc) (hcc7 : cc ≤ 9223372036854775807) (hrc : RdD w w.heap.size Ac mc) :
    Calls Try.prog 5 #[.agg (ctxRow ua Aa ma.length ca), .agg (ctxRow ub Ab mb.length cb), .agg (ctxRow uc Ac mc.length cc)] w fun e w' => e = .returned (.bool true) ∧ Below w.heap.size w w' := by
  obtain ⟨g, hg⟩ : ∃ g, w.heap.size = g := ⟨_, rfl⟩
  obtain ⟨w0, hw0⟩ : ∃ w0, w.alloc (.cells (ctxRow ua Aa ma.length ca) 25) = w0 := ⟨_, rfl⟩
  obtain ⟨w1, hw1⟩ : ∃ w1, w0.alloc (.cells (ctxRow ub Ab mb.length cb) 25) = w1 := ⟨_, rfl⟩
  obtain ⟨w2, hw2⟩ : ∃ w2, w1.alloc (.cells (ctxRow uc Ac mc.length cc) 25) = w2 := ⟨_, rfl⟩
  have A0 := show Bk w0 g 25 (ctxRow ua Aa ma.length ca) by rw [← hw0, ← hg]; exact Bk.new w _ _
  have X0 := show Below g w w0 by rw [← hw0, ← hg]; exact (Below.refl _ _).alloc (Nat.le_refl _) _
  have S0 : w0.heap.size = g + 1 := by rw [← hw0, ← hg]; simp
  have b1 : Below w0.heap.size w0 w1 := by rw [← hw1]; exact (Below.refl _ _).alloc (Nat.le_refl _) _
  have B1 := show Bk w1 (g + 1) 25 (ctxRow ub Ab mb.length cb) by rw [← S0, ← hw1]; exact Bk.new w0 _ _
  have S1 : w1.heap.size = g + 2 := by rw [← hw1]; simp [S0]
  have b2 : Below w1.heap.size w1 w2 := by rw [← hw2]; exact (Below.refl _ _).alloc (Nat.le_refl _) _
  have C2 := hidd_ (show Bk w2 (g + 2) 25 (ctxRow uc Ac mc.length cc) by rw [← S1, ← hw2]; exact Bk.new w1 _ _)
  have S2 : w2.heap.size = g + 3 := by rw [← hw2]; simp [S1]
  have B2 := hidd_ (B1.below b2 B1.lt)
  have A2 := hidd_ ((A0.below b1 A0.lt).below b2 (A0.below b1 A0.lt).lt)
  have X2 := hidd_ ((X0.trans (b1.mono (by omega))).trans (b2.mono (by omega)))
  rw [hg] at hra hrb hrc
  have RA := hidd_ ((hra.below X2.out).more (show g ≤ w2.heap.size by omega))
  have RB := hidd_ ((hrb.below X2.out).more (show g ≤ w2.heap.size by omega))
  have RC := hidd_ ((hrc.below X2.out).more (show g ≤ w2.heap.size by omega))
  have hz := zX_
  have IR := hidd_ (fun (u : List Int) (hu : u.length = 16) A n c => (show (Try.prog.info? 25).map (·.size) = some (ctxRow u A n c).size by rw [ctxRow_size u A n c hu]; exact iRX_))
  have HUA := hidd_ hua
  have HUB := hidd_ hub
  have HUC := hidd_ huc
  have HCA := hidd_ (And.intro hca hca7)
  have HCB := hidd_ (And.intro hcb hcb7)
  have HCC := hidd_ (And.intro hcc hcc7)
  have HG := hidd_ hg
  have HS := hidd_ S2
  obtain ⟨la, hla⟩ : ∃ l, ma.take 40 = l := ⟨_, rfl⟩
  obtain ⟨lb, hlb⟩ : ∃ l, mb.take 40 = l := ⟨_, rfl⟩
  obtain ⟨lc, hlc⟩ : ∃ l, mc.take 40 = l := ⟨_, rfl⟩
  have LA := hidd_ (show la.length ≤ 40 by rw [← hla, List.length_take]; omega)
  have LB := hidd_ (show lb.length ≤ 40 by rw [← hlb, List.length_take]; omega)
  have LC := hidd_ (show lc.length ≤ 40 by rw [← hlc, List.length_take]; omega)
  have HLA := hidd_ (show min ma.length 40 = la.length by rw [← hla, List.length_take, Nat.min_comm])
  have HLB := hidd_ (show min mb.length 40 = lb.length by rw [← hlb, List.length_take, Nat.min_comm])
  have HLC := hidd_ (show min mc.length 40 = lc.length by rw [← hlc, List.length_take, Nat.min_comm])
  have HTA := hidd_ hla
  have HTB := hidd_ hlb
  have HTC := hidd_ hlc
  go_enter Try.func5, Try.ntmps5
  go_upto_region 1 with fail
  clear hw0 hw1 hw2 hua hub huc hra hrb hrc hca hcb hcc hca7 hcb7 hcc7 hla hlb hlc A0 X0 S0 S1 S2 b1 b2 B1 hg
  refine region_byJF [22, 23, 24, 25, 26, 27, 28, 29, 30, 7, 8, 9] (fun W => Below w2.heap.size w2 W) VrT (UnR (ctxRow ua Aa ma.length ca) (ctxRow ub Ab mb.length cb) (ctxRow uc Ac mc.length cc) ua ub uc la lb lc) (fun L a W => VnJ 3 w2.heap.size (fun i => L (9 + i)) (fun i => L (12 + i)) (fun i => L (2 + 3 * i)) (fun i => a.tmps.getD (7 + i) undef) (fun i => a.tmps.getD (24 + 3 * i) undef) W) (by kernel_rfl) (by kernel_rfl) (by kernel_rfl) (by kernel_rfl) (fun j v w w' hT hr => UnR.keep j v w w' hT hr) (fun j v w hlt hj _ => ?_) ((Below.refl _ _).drew) ?_ (VnJ.start (fun _ _ => rfl) (fun _ _ => rfl)) ?_
  · rcases j with _ | _ | _ | _ | _ | _ | _ | _ | _ | _ | _ | _ | _ | _ | _ | j
    all_goals first
      | (exfalso; simp [dstOf] at hj; done)
      | trivial
  · refine ⟨fun D a W hC hd hsz hf hv hJ hL hW K hK => ?_, fun D a W hC hd hsz hf hv hJ hL hW K hK => ?_, fun D a W hC hd hsz hf hv hJ hL hW K hK => ?_, fun D a W hC hd hsz hf hv hJ hL hW K hK => ?_, fun D a W hC hd hsz hf hv hJ hL hW K hK => ?_, fun D a W hC hd hsz hf hv hJ hL hW K hK => ?_, fun D a W hC hd hsz hf hv hJ hL hW K hK => ?_, fun D a W hC hd hsz hf hv hJ hL hW K hK => ?_, fun D a W hC hd hsz hf hv hJ hL hW K hK => ?_, fun D a W hC hd hsz hf hv hJ hL hW K hK => ?_, fun D a W hC hd hsz hf hv hJ hL hW K hK => ?_, fun D a W hC hd hsz hf hv hJ hL hW K hK => ?_, fun D a W hC hd hsz hf hv hJ hL hW K hK => ?_, fun D a W hC hd hsz hf hv hJ hL hW K hK => ?_, fun D a W hC hd hsz hf hv hJ hL hW K hK => ?_, trivial⟩
    · have HSZ : a.tmps.size = 154 := hsz
      have e1 := eval_of (a := a) (s := 3) (v := .pointer (some ⟨g, 0, none⟩)) (hf 3 (by kernel_rfl))
      have KW := A2.out.below hC A2.out.lt
      refine step_load_sub (wanted_none rfl) 25 _ rfl (g) 0 e1 (ctxRow ua Aa ma.length ca) (fun j _ => by rw [Nat.zero_add]; exact KW.cell j) _ Try.underlying25 rfl (IR.out _ HUA.out _ _ _) (hK _ _ hC (.inl (Below.refl _ _)) rfl (VnJ.step hJ (fun i hi => ⟨orf_ne (by omega), orf_ne (by omega), put_other (by omega), fun _ => put_other (by omega), fun e => orf_tt e⟩) (Below.refl _ _)))
    · have HSZ : a.tmps.size = 154 := hsz
      have e1 := slot_of (a := a) (s := 22) (v := .agg (ctxRow ua Aa ma.length ca)) (hv 0 (by kernel_rfl))
      have hrd : RdD W W.heap.size Aa ma := (RA.out.below hC).more hC.size
      refine step_callx 9 #[.agg (ctxRow ua Aa ma.length ca)] (wanted_none rfl) (w' := W) ?_ ((tame_t W ua HUA.out Aa _ ca ma rfl HCA.out.1 HCA.out.2 hrd).mono ?_)
      · clear hsz HSZ hrd
        go_simp
      · rintro e W' ⟨A', c', rfl, h1, h2, h3, h4, h5, h6⟩
        rw [HTA.out] at h1 h6
        rw [HLA.out] at h2 ⊢
        exact ⟨_, rfl, hK _ _ (hC.trans (h4.mono hC.size)) (.inl h4) ⟨A', c', rfl, h1, h6, h2, h3⟩ (VnJ.step hJ (fun i hi => ⟨orf_ne (by omega), orf_ne (by omega), put_other (by omega), fun _ => put_other (by omega), fun e => orf_tt e⟩) h4)⟩
    · have HSZ : a.tmps.size = 154 := hsz
      obtain ⟨A', c', hq, h1, h2, h3, h4⟩ : HasCtx ua la (a.tmps.getD 23 undef) W := hv 1 (by kernel_rfl)
      have e1 := slot_of hq
      refine step_callx 10 #[.agg (ctxRow ua A' la.length c')] (wanted_none rfl) (w' := W) ?_ ((to_t W ua HUA.out A' _ c' la rfl (by have := LA.out; omega) h3 h4 h1).mono ?_)
      · clear hsz HSZ h1 h2
        go_simp
      · rintro e W' ⟨A3, c3, rfl, k1, k2, k3, k4, k5⟩
        exact ⟨_, rfl, hK _ _ (hC.trans (k4.mono hC.size)) (.inl k4) ⟨A3, c3, rfl, k1, k5, k2, k3⟩ (VnJ.step hJ (fun i hi => ⟨orf_ne (by omega), orf_ne (by omega), put_other (by omega), fun e => put_other (fun e2 => by have e3 : i = 0 := (by omega); subst e3; have e4 := (hJ.hs 0 (by omega) e).2; exact absurd (show D 2 = true from e4) (by rw [hL]; simp)), fun e => orf_tt e⟩) k4)⟩
    · have HSZ : a.tmps.size = 154 := hsz
      have e1 := eval_of (a := a) (s := 4) (v := .pointer (some ⟨g + 1, 0, none⟩)) (hf 4 (by kernel_rfl))
      have KW := B2.out.below hC B2.out.lt
      refine step_load_sub (wanted_none rfl) 25 _ rfl (g + 1) 0 e1 (ctxRow ub Ab mb.length cb) (fun j _ => by rw [Nat.zero_add]; exact KW.cell j) _ Try.underlying25 rfl (IR.out _ HUB.out _ _ _) (hK _ _ hC (.inl (Below.refl _ _)) rfl (VnJ.step hJ (fun i hi => ⟨orf_ne (by omega), orf_ne (by omega), put_other (by omega), fun _ => put_other (by omega), fun e => orf_tt e⟩) (Below.refl _ _)))
    · have HSZ : a.tmps.size = 154 := hsz
      have e1 := slot_of (a := a) (s := 25) (v := .agg (ctxRow ub Ab mb.length cb)) (hv 3 (by kernel_rfl))
      have hrd : RdD W W.heap.size Ab mb := (RB.out.below hC).more hC.size
      refine step_callx 9 #[.agg (ctxRow ub Ab mb.length cb)] (wanted_none rfl) (w' := W) ?_ ((tame_t W ub HUB.out Ab _ cb mb rfl HCB.out.1 HCB.out.2 hrd).mono ?_)
      · clear hsz HSZ hrd
        go_simp
      · rintro e W' ⟨A', c', rfl, h1, h2, h3, h4, h5, h6⟩
        rw [HTB.out] at h1 h6
        rw [HLB.out] at h2 ⊢
        exact ⟨_, rfl, hK _ _ (hC.trans (h4.mono hC.size)) (.inl h4) ⟨A', c', rfl, h1, h6, h2, h3⟩ (VnJ.step hJ (fun i hi => ⟨orf_ne (by omega), orf_ne (by omega), put_other (by omega), fun _ => put_other (by omega), fun e => orf_tt e⟩) h4)⟩
    · have HSZ : a.tmps.size = 154 := hsz
      obtain ⟨A', c', hq, h1, h2, h3, h4⟩ : HasCtx ub lb (a.tmps.getD 26 undef) W := hv 4 (by kernel_rfl)
      have e1 := slot_of hq
      refine step_callx 10 #[.agg (ctxRow ub A' lb.length c')] (wanted_none rfl) (w' := W) ?_ ((to_t W ub HUB.out A' _ c' lb rfl (by have := LB.out; omega) h3 h4 h1).mono ?_)
      · clear hsz HSZ h1 h2
        go_simp
      · rintro e W' ⟨A3, c3, rfl, k1, k2, k3, k4, k5⟩
        exact ⟨_, rfl, hK _ _ (hC.trans (k4.mono hC.size)) (.inl k4) ⟨A3, c3, rfl, k1, k5, k2, k3⟩ (VnJ.step hJ (fun i hi => ⟨orf_ne (by omega), orf_ne (by omega), put_other (by omega), fun e => put_other (fun e2 => by have e3 : i = 1 := (by omega); subst e3; have e4 := (hJ.hs 1 (by omega) e).2; exact absurd (show D 5 = true from e4) (by rw [hL]; simp)), fun e => orf_tt e⟩) k4)⟩
    · have HSZ : a.tmps.size = 154 := hsz
      have e1 := eval_of (a := a) (s := 5) (v := .pointer (some ⟨g + 2, 0, none⟩)) (hf 5 (by kernel_rfl))
      have KW := C2.out.below hC C2.out.lt
      refine step_load_sub (wanted_none rfl) 25 _ rfl (g + 2) 0 e1 (ctxRow uc Ac mc.length cc) (fun j _ => by rw [Nat.zero_add]; exact KW.cell j) _ Try.underlying25 rfl (IR.out _ HUC.out _ _ _) (hK _ _ hC (.inl (Below.refl _ _)) rfl (VnJ.step hJ (fun i hi => ⟨orf_ne (by omega), orf_ne (by omega), put_other (by omega), fun _ => put_other (by omega), fun e => orf_tt e⟩) (Below.refl _ _)))
    · have HSZ : a.tmps.size = 154 := hsz
      have e1 := slot_of (a := a) (s := 28) (v := .agg (ctxRow uc Ac mc.length cc)) (hv 6 (by kernel_rfl))
      have hrd : RdD W W.heap.size Ac mc := (RC.out.below hC).more hC.size
      refine step_callx 9 #[.agg (ctxRow uc Ac mc.length cc)] (wanted_none rfl) (w' := W) ?_ ((tame_t W uc HUC.out Ac _ cc mc rfl HCC.out.1 HCC.out.2 hrd).mono ?_)
      · clear hsz HSZ hrd
        go_simp
      · rintro e W' ⟨A', c', rfl, h1, h2, h3, h4, h5, h6⟩
        rw [HTC.out] at h1 h6
        rw [HLC.out] at h2 ⊢
        exact ⟨_, rfl, hK _ _ (hC.trans (h4.mono hC.size)) (.inl h4) ⟨A', c', rfl, h1, h6, h2, h3⟩ (VnJ.step hJ (fun i hi => ⟨orf_ne (by omega), orf_ne (by omega), put_other (by omega), fun _ => put_other (by omega), fun e => orf_tt e⟩) h4)⟩
    · have HSZ : a.tmps.size = 154 := hsz
      obtain ⟨A', c', hq, h1, h2, h3, h4⟩ : HasCtx uc lc (a.tmps.getD 29 undef) W := hv 7 (by kernel_rfl)
      have e1 := slot_of hq
      refine step_callx 10 #[.agg (ctxRow uc A' lc.length c')] (wanted_none rfl) (w' := W) ?_ ((to_t W uc HUC.out A' _ c' lc rfl (by have := LC.out; omega) h3 h4 h1).mono ?_)
      · clear hsz HSZ h1 h2
        go_simp
      · rintro e W' ⟨A3, c3, rfl, k1, k2, k3, k4, k5⟩
        exact ⟨_, rfl, hK _ _ (hC.trans (k4.mono hC.size)) (.inl k4) ⟨A3, c3, rfl, k1, k5, k2, k3⟩ (VnJ.step hJ (fun i hi => ⟨orf_ne (by omega), orf_ne (by omega), put_other (by omega), fun e => put_other (fun e2 => by have e3 : i = 2 := (by omega); subst e3; have e4 := (hJ.hs 2 (by omega) e).2; exact absurd (show D 8 = true from e4) (by rw [hL]; simp)), fun e => orf_tt e⟩) k4)⟩
    · have HSZ : a.tmps.size = 154 := hsz
      have hbl : Below W.heap.size W (W.alloc (.cells (ctxRow (List.replicate 16 0) none 0 0) 29)) := (Below.refl _ _).alloc (Nat.le_refl _) _
      have hBW : w2.heap.size ≤ W.heap.size := hC.size
      refine step_run (wanted_none rfl) (v := .pointer (some ⟨W.heap.size, 0, none⟩)) (w' := W.alloc (.cells (ctxRow (List.replicate 16 0) none 0 0) 29)) ?_ (hK _ _ (hC.trans (hbl.mono hBW)) (.inl hbl) trivial (VnJ.alloc hJ 0 (by omega) hL hBW (ctxRow_size _ _ _ _ (by simp)) (fun i hi => ⟨orf_sh (by omega), orf_ne (by omega), by simp only []; split; (rename_i e; subst e; exact put_self (by rw [HSZ]; omega)); (rename_i e; exact put_other (by omega)), put_other (by omega), orf_ne (by omega)⟩)))
      clear hsz HSZ hbl hBW
      go_simp
    · have HSZ : a.tmps.size = 154 := hsz
      have hbl : Below W.heap.size W (W.alloc (.cells (ctxRow (List.replicate 16 0) none 0 0) 29)) := (Below.refl _ _).alloc (Nat.le_refl _) _
      have hBW : w2.heap.size ≤ W.heap.size := hC.size
      refine step_run (wanted_none rfl) (v := .pointer (some ⟨W.heap.size, 0, none⟩)) (w' := W.alloc (.cells (ctxRow (List.replicate 16 0) none 0 0) 29)) ?_ (hK _ _ (hC.trans (hbl.mono hBW)) (.inl hbl) trivial (VnJ.alloc hJ 1 (by omega) hL hBW (ctxRow_size _ _ _ _ (by simp)) (fun i hi => ⟨orf_sh (by omega), orf_ne (by omega), by simp only []; split; (rename_i e; subst e; exact put_self (by rw [HSZ]; omega)); (rename_i e; exact put_other (by omega)), put_other (by omega), orf_ne (by omega)⟩)))
      clear hsz HSZ hbl hBW
      go_simp
    · have HSZ : a.tmps.size = 154 := hsz
      have hbl : Below W.heap.size W (W.alloc (.cells (ctxRow (List.replicate 16 0) none 0 0) 29)) := (Below.refl _ _).alloc (Nat.le_refl _) _
      have hBW : w2.heap.size ≤ W.heap.size := hC.size
      refine step_run (wanted_none rfl) (v := .pointer (some ⟨W.heap.size, 0, none⟩)) (w' := W.alloc (.cells (ctxRow (List.replicate 16 0) none 0 0) 29)) ?_ (hK _ _ (hC.trans (hbl.mono hBW)) (.inl hbl) trivial (VnJ.alloc hJ 2 (by omega) hL hBW (ctxRow_size _ _ _ _ (by simp)) (fun i hi => ⟨orf_sh (by omega), orf_ne (by omega), by simp only []; split; (rename_i e; subst e; exact put_self (by rw [HSZ]; omega)); (rename_i e; exact put_other (by omega)), put_other (by omega), orf_ne (by omega)⟩)))
      clear hsz HSZ hbl hBW
      go_simp
    · have HSZ : a.tmps.size = 154 := hsz
      obtain ⟨A', c', hq, h1, h2, h3, h4⟩ : HasCtx ua la (a.tmps.getD 24 undef) W := hv 2 (by kernel_rfl)
      have hal := hW 9 (by kernel_rfl)
      have hto := hW 2 (by kernel_rfl)
      obtain ⟨_, q, X, g1, g2⟩ := id hJ
      obtain ⟨j1, j2, j3, j4, _⟩ := g1 0 (by omega) hal
      have e1 := eval_of (s := 7) j1
      have e2 := eval_of hq
      have IV : (Try.prog.info? 29).map (·.size) = some (ctxRow ua A' la.length c').size := by rw [ctxRow_size _ _ _ _ HUA.out]; exact iX_
      refine step_put_row rfl 29 _ _ rfl (q 0) (ctxRow ua A' la.length c') e1 e2 29 (X 0) j3 IV (by rw [j4, ctxRow_size _ _ _ _ HUA.out]) (ctxRow_one _ _ _ _) ?_
      intro W' k9 g9 s9
      exact hK _ _ (hC.grown g9 hC.size (fun k hk => by injection hk with hk; omega)) (.inr ⟨_, _, j3, g9⟩) trivial (by rw [put_none]; exact VnJ.store hJ 0 (by omega) hal hto j1 hq (ctxRow_size _ _ _ _ HUA.out) g9 k9 (fun i hi => ⟨orf_ne (by omega), orf_sh (by omega), rfl, rfl, orf_ne (by omega)⟩))
    · have HSZ : a.tmps.size = 154 := hsz
      obtain ⟨A', c', hq, h1, h2, h3, h4⟩ : HasCtx ub lb (a.tmps.getD 27 undef) W := hv 5 (by kernel_rfl)
      have hal := hW 10 (by kernel_rfl)
      have hto := hW 5 (by kernel_rfl)
      obtain ⟨_, q, X, g1, g2⟩ := id hJ
      obtain ⟨j1, j2, j3, j4, _⟩ := g1 1 (by omega) hal
      have e1 := eval_of (s := 8) j1
      have e2 := eval_of hq
      have IV : (Try.prog.info? 29).map (·.size) = some (ctxRow ub A' lb.length c').size := by rw [ctxRow_size _ _ _ _ HUB.out]; exact iX_
      refine step_put_row rfl 29 _ _ rfl (q 1) (ctxRow ub A' lb.length c') e1 e2 29 (X 1) j3 IV (by rw [j4, ctxRow_size _ _ _ _ HUB.out]) (ctxRow_one _ _ _ _) ?_
      intro W' k9 g9 s9
      exact hK _ _ (hC.grown g9 hC.size (fun k hk => by injection hk with hk; omega)) (.inr ⟨_, _, j3, g9⟩) trivial (by rw [put_none]; exact VnJ.store hJ 1 (by omega) hal hto j1 hq (ctxRow_size _ _ _ _ HUB.out) g9 k9 (fun i hi => ⟨orf_ne (by omega), orf_sh (by omega), rfl, rfl, orf_ne (by omega)⟩))
    · have HSZ : a.tmps.size = 154 := hsz
      obtain ⟨A', c', hq, h1, h2, h3, h4⟩ : HasCtx uc lc (a.tmps.getD 30 undef) W := hv 8 (by kernel_rfl)
      have hal := hW 11 (by kernel_rfl)
      have hto := hW 8 (by kernel_rfl)
      obtain ⟨_, q, X, g1, g2⟩ := id hJ
      obtain ⟨j1, j2, j3, j4, _⟩ := g1 2 (by omega) hal
      have e1 := eval_of (s := 9) j1
      have e2 := eval_of hq
      have IV : (Try.prog.info? 29).map (·.size) = some (ctxRow uc A' lc.length c').size := by rw [ctxRow_size _ _ _ _ HUC.out]; exact iX_
      refine step_put_row rfl 29 _ _ rfl (q 2) (ctxRow uc A' lc.length c') e1 e2 29 (X 2) j3 IV (by rw [j4, ctxRow_size _ _ _ _ HUC.out]) (ctxRow_one _ _ _ _) ?_
      intro W' k9 g9 s9
      exact hK _ _ (hC.grown g9 hC.size (fun k hk => by injection hk with hk; omega)) (.inr ⟨_, _, j3, g9⟩) trivial (by rw [put_none]; exact VnJ.store hJ 2 (by omega) hal hto j1 hq (ctxRow_size _ _ _ _ HUC.out) g9 k9 (fun i hi => ⟨orf_ne (by omega), orf_sh (by omega), rfl, rfl, orf_ne (by omega)⟩))
  · intro f W hC hv L hL hJ'
    obtain ⟨aE, hJ, hfr⟩ := hJ'
    obtain ⟨q0, R0, a01, a02, a03, a04⟩ := VnJ.end_ hJ 0 (by omega) (hL 12 (by decide))
    obtain ⟨A0', c0', h00, h01, h04, h02, h03⟩ : HasCtx ua la (f 24) W := hv 2 (by decide)
    have hr0 : R0 = ctxRow ua A0' la.length c0' := by have := ((hfr 24).trans h00).symm.trans a03; injection this with this; exact this.symm
    rw [hr0] at a04
    have hf0 : f 7 = .pointer (some ⟨q0, 0, none⟩) := by rw [← hfr 7]; exact a01
    obtain ⟨q1, R1, a11, a12, a13, a14⟩ := VnJ.end_ hJ 1 (by omega) (hL 13 (by decide))
    obtain ⟨A1', c1', h10, h11, h14, h12, h13⟩ : HasCtx ub lb (f 27) W := hv 5 (by decide)
    have hr1 : R1 = ctxRow ub A1' lb.length c1' := by have := ((hfr 27).trans h10).symm.trans a13; injection this with this; exact this.symm
    rw [hr1] at a14
    have hf1 : f 8 = .pointer (some ⟨q1, 0, none⟩) := by rw [← hfr 8]; exact a11
    obtain ⟨q2, R2, a21, a22, a23, a24⟩ := VnJ.end_ hJ 2 (by omega) (hL 14 (by decide))
    obtain ⟨A2', c2', h20, h21, h24, h22, h23⟩ : HasCtx uc lc (f 30) W := hv 8 (by decide)
    have hr2 : R2 = ctxRow uc A2' lc.length c2' := by have := ((hfr 30).trans h20).symm.trans a23; injection this with this; exact this.symm
    rw [hr2] at a24
    have hf2 : f 9 = .pointer (some ⟨q2, 0, none⟩) := by rw [← hfr 9]; exact a21
    have AV := hidd_ (show AllV W [(⟨q0, ua, A0', la, c0'⟩ : CV), (⟨q1, ub, A1', lb, c1'⟩ : CV), (⟨q2, uc, A2', lc, c2'⟩ : CV)] from fun V hV => by
              simp only [List.mem_cons, List.not_mem_nil, or_false] at hV
              rcases hV with rfl | rfl | rfl
              · exact ⟨a04, h01, h02, h03, HUA.out, by have := LA.out; simp only; omega⟩
              · exact ⟨a14, h11, h12, h13, HUB.out, by have := LB.out; simp only; omega⟩
              · exact ⟨a24, h21, h22, h23, HUC.out, by have := LC.out; simp only; omega⟩)
    have XW := hidd_ (X2.out.trans (hC.mono (by have := HS.out; omega)))
    have hgw : g ≤ W.heap.size := by have := hC.size; have := HS.out; omega
    simp only [framed, List.foldl_cons, List.foldl_nil, List.setIfInBounds_toArray, List.set_cons_succ, List.set_cons_zero, hf0, hf1, hf2]
    clear hv hC hJ hfr hL a01 a02 a03 a04 a11 a12 a13 a14 a21 a22 a23 a24 h00 h01 h02 h03 h10 h11 h12 h13 h20 h21 h22 h23 h04 h14 h24 hr0 hr1 hr2 hf0 hf1 hf2
    obtain ⟨wv, hwv⟩ : ∃ x, x = W := ⟨_, rfl⟩
    subst hwv
    rename_i K hK
    refine hK _ _ ?_
    have XW0 := XW
    have AV0 := AV
    have HG0 := hidd_ hgw
    clear XW AV hgw A2 B2 C2 X2 RA RB RC IR HCA HCB HCC LA LB LC HLA HLB HLC HTA HTB HTC HS
    have INX := hidd_ (CV.info (⟨q0, ua, A0', la, c0'⟩ : CV) HUA.out)
    have INY := hidd_ (CV.info (⟨q1, ub, A1', lb, c1'⟩ : CV) HUB.out)
    have INZ := hidd_ (CV.info (⟨q2, uc, A2', lc, c2'⟩ : CV) HUC.out)
    obtain ⟨ex, hex⟩ : ∃ e, chk ua la = e := ⟨_, rfl⟩
    obtain ⟨ey, hey⟩ : ∃ e, chk ub lb = e := ⟨_, rfl⟩
    obtain ⟨ez, hez⟩ : ∃ e, chk uc lc = e := ⟨_, rfl⟩
    have HEX := hidd_ hex
    have HEY := hidd_ hey
    have HEZ := hidd_ hez
    clear hex hey hez
    by_cases hx : ex = 0
    · subst hx
      by_cases hy : ey = 0
      · subst hy
        by_cases hz0 : ez = 0
        · subst hz0
          have ck0 := dots_any wv
          go_upto_region 4 with (first
            | (refine wpList_load_rowWd (by go_simp) 29 (.tmp 9) rfl q2 rfl 29 (CV.row (⟨q2, uc, A2', lc, c2'⟩ : CV)) (AV3.out _ (List.mem_cons_of_mem _ (List.mem_cons_of_mem _ (List.mem_cons_self ..)))).bk _ Try.underlying29 rfl INZ.out ?_)
            | (refine wpList_load_rowWd (by go_simp) 29 (.tmp 8) rfl q1 rfl 29 (CV.row (⟨q1, ub, A1', lb, c1'⟩ : CV)) (AV2.out _ (List.mem_cons_of_mem _ (List.mem_cons_self ..))).bk _ Try.underlying29 rfl INY.out ?_)
            | (refine wpList_load_rowWd (by go_simp) 29 (.tmp 7) rfl q0 rfl 29 (CV.row (⟨q0, ua, A0', la, c0'⟩ : CV)) (AV1.out _ (List.mem_cons_self ..)).bk _ Try.underlying29 rfl INX.out ?_)
            | (go_at_call 15; ((with_reducible refine ck0.mono ?_); clear ck0; rintro e w1_ ⟨rfl, hb⟩; have AV1 := hidd_ (AV0.out.below hb); have XW1 := hidd_ (XW0.out.trans (hb.mono HG0.out)); have HG1 := hidd_ (Nat.le_trans HG0.out hb.size); clear hb AV0 XW0 HG0; have ck1 := checkC w1_ (⟨q0, ua, A0', la, c0'⟩ : CV) (AV1.out _ (List.mem_cons_self ..)).ok; rw [show chk (CV.u (⟨q0, ua, A0', la, c0'⟩ : CV)) (CV.m (⟨q0, ua, A0', la, c0'⟩ : CV)) = 0 from HEX.out] at ck1))
            | (go_at_call 16; ((with_reducible refine ck1.mono ?_); clear ck1; rintro e w2_ ⟨rfl, hb⟩; have AV2 := hidd_ (AV1.out.below hb); have XW2 := hidd_ (XW1.out.trans (hb.mono HG1.out)); have HG2 := hidd_ (Nat.le_trans HG1.out hb.size); clear hb AV1 XW1 HG1; have ck2 := checkC w2_ (⟨q1, ub, A1', lb, c1'⟩ : CV) (AV2.out _ (List.mem_cons_of_mem _ (List.mem_cons_self ..))).ok; rw [show chk (CV.u (⟨q1, ub, A1', lb, c1'⟩ : CV)) (CV.m (⟨q1, ub, A1', lb, c1'⟩ : CV)) = 0 from HEY.out] at ck2))
            | (go_at_call 16; ((with_reducible refine ck2.mono ?_); clear ck2; rintro e w3_ ⟨rfl, hb⟩; have AV3 := hidd_ (AV2.out.below hb); have XW3 := hidd_ (XW2.out.trans (hb.mono HG2.out)); have HG3 := hidd_ (Nat.le_trans HG2.out hb.size); clear hb AV2 XW2 HG2; have ck3 := checkC w3_ (⟨q2, uc, A2', lc, c2'⟩ : CV) (AV3.out _ (List.mem_cons_of_mem _ (List.mem_cons_of_mem _ (List.mem_cons_self ..)))).ok; rw [show chk (CV.u (⟨q2, uc, A2', lc, c2'⟩ : CV)) (CV.m (⟨q2, uc, A2', lc, c2'⟩ : CV)) = 0 from HEZ.out] at ck3))
            | (go_at_call 16; ((with_reducible refine ck3.mono ?_); clear ck3; rintro e w4_ ⟨rfl, hb⟩; have AV4 := hidd_ (AV3.out.below hb); have XW4 := hidd_ (XW3.out.trans (hb.mono HG3.out)); have HG4 := hidd_ (Nat.le_trans HG3.out hb.size); clear hb AV3 XW3 HG3)))
          obtain ⟨uP, mP, zP, hP⟩ := joinV_ex ua HUA.out la ub HUB.out lb
          have JVP := hidd_ hP
          clear hP
          obtain ⟨uQ, mQ, zQ, hQ⟩ := joinV_ex ub HUB.out lb ua HUA.out la
          have JVQ := hidd_ hQ
          clear hQ
          obtain ⟨uR, mR, zR, hR⟩ := joinV_ex ub HUB.out lb uc HUC.out lc
          have JVR := hidd_ hR
          clear hR
          obtain ⟨rfl, rfl, rfl⟩ := join_eq HEY.out HEX.out HEX.out HEY.out JVQ.out.1 JVP.out.1 (fun d _ => Or.comm)
          have cj := joinC w4_ (⟨q0, ua, A0', la, c0'⟩ : CV) (⟨q1, ub, A1', lb, c1'⟩ : CV) (AV4.out _ (List.mem_cons_self ..)).ok (AV4.out _ (List.mem_cons_of_mem _ (List.mem_cons_self ..))).ok JVP.out.1
          go_upto_region 5 with (first
            | (refine wpList_load_rowWd (by go_simp) 29 (.tmp 7) rfl q0 rfl 29 (CV.row (⟨q0, ua, A0', la, c0'⟩ : CV)) (AV4.out _ (List.mem_cons_self ..)).bk _ Try.underlying29 rfl INX.out ?_)
            | (refine wpList_load_rowWd (by go_simp) 29 (.tmp 8) rfl q1 rfl 29 (CV.row (⟨q1, ub, A1', lb, c1'⟩ : CV)) (AV4.out _ (List.mem_cons_of_mem _ (List.mem_cons_self ..))).bk _ Try.underlying29 rfl INY.out ?_)
            | (go_at_call 24; ((with_reducible refine cj.mono ?_); clear cj; rintro e w5_ ⟨AP, cP, rfl, h1, h2, h3, h4, hb⟩; unfold TwoX; have AV5 := hidd_ (AV4.out.below hb); have XW5 := hidd_ (XW4.out.trans (hb.mono HG4.out)); have HG5 := hidd_ (Nat.le_trans HG4.out hb.size); clear hb AV4 XW4 HG4; have RD5 := hidd_ h1; have CP5 := hidd_ (And.intro h3 h4); clear h1 h2 h3 h4))
            | (refine wpList_put_row rfl 29 _ _ rfl w5_.heap.size (ctxRow uQ AP mQ.length cP) rfl rfl 29 (ctxRow (List.replicate 16 0) none 0 0) (Bk.new w5_ _ _) (by rw [ctxRow_size _ _ _ _ JVP.out.2.1]; exact iX_) (by rw [ctxRow_size _ _ _ _ JVP.out.2.1]; rfl) (ctxRow_one _ _ _ _) ?_; intro w6_ k2 g2 s2; have hb := (((Below.refl w5_.heap.size w5_).alloc (Nat.le_refl _) (.cells (ctxRow (List.replicate 16 0) none 0 0) 29)).grown g2 (by simp) (fun k hk => by injection hk with hk; omega)); have AW := hidd_ (AV5.out.below hb); have KP := hidd_ k2; have RP := hidd_ ((RD5.out.below hb).more hb.size); have XW6 := hidd_ (XW5.out.trans (hb.mono HG5.out)); have HG6 := hidd_ (Nat.le_trans HG5.out hb.size); clear hb k2 g2 s2 RD5 XW5 HG5 AV5))
          generalize w5_.heap.size = qP at *
          have AV6 := hidd_ (AW.out.cons (X := (⟨qP, uQ, AP, mQ, cP⟩ : CV)) ⟨KP.out, RP.out, CP5.out.1, CP5.out.2, JVP.out.2.1, (show mQ.length ≤ 400000 by have := JVP.out.2.2; omega)⟩)
          have INP := hidd_ (CV.info (⟨qP, uQ, AP, mQ, cP⟩ : CV) JVP.out.2.1)
          clear AW KP RP CP5
          have cj := joinC w6_ (⟨q1, ub, A1', lb, c1'⟩ : CV) (⟨q0, ua, A0', la, c0'⟩ : CV) (AV6.out _ (List.mem_cons_of_mem _ (List.mem_cons_of_mem _ (List.mem_cons_self ..)))).ok (AV6.out _ (List.mem_cons_of_mem _ (List.mem_cons_self ..))).ok JVQ.out.1
          go_upto_region 6 with (first
            | (refine wpList_load_rowWd (by go_simp) 29 (.tmp 8) rfl q1 rfl 29 (CV.row (⟨q1, ub, A1', lb, c1'⟩ : CV)) (AV6.out _ (List.mem_cons_of_mem _ (List.mem_cons_of_mem _ (List.mem_cons_self ..)))).bk _ Try.underlying29 rfl INY.out ?_)
            | (refine wpList_load_rowWd (by go_simp) 29 (.tmp 7) rfl q0 rfl 29 (CV.row (⟨q0, ua, A0', la, c0'⟩ : CV)) (AV6.out _ (List.mem_cons_of_mem _ (List.mem_cons_self ..))).bk _ Try.underlying29 rfl INX.out ?_)
            | (go_at_call 24; ((with_reducible refine cj.mono ?_); clear cj; rintro e w7_ ⟨AQ, cQ, rfl, h1, h2, h3, h4, hb⟩; unfold TwoX; have AV7 := hidd_ (AV6.out.below hb); have XW7 := hidd_ (XW6.out.trans (hb.mono HG6.out)); have HG7 := hidd_ (Nat.le_trans HG6.out hb.size); clear hb AV6 XW6 HG6; have RD7 := hidd_ h1; have CP7 := hidd_ (And.intro h3 h4); clear h1 h2 h3 h4))
            | (refine wpList_put_row rfl 29 _ _ rfl w7_.heap.size (ctxRow uQ AQ mQ.length cQ) rfl rfl 29 (ctxRow (List.replicate 16 0) none 0 0) (Bk.new w7_ _ _) (by rw [ctxRow_size _ _ _ _ JVP.out.2.1]; exact iX_) (by rw [ctxRow_size _ _ _ _ JVP.out.2.1]; rfl) (ctxRow_one _ _ _ _) ?_; intro w8_ k2 g2 s2; have hb := (((Below.refl w7_.heap.size w7_).alloc (Nat.le_refl _) (.cells (ctxRow (List.replicate 16 0) none 0 0) 29)).grown g2 (by simp) (fun k hk => by injection hk with hk; omega)); have AW := hidd_ (AV7.out.below hb); have KP := hidd_ k2; have RP := hidd_ ((RD7.out.below hb).more hb.size); have XW8 := hidd_ (XW7.out.trans (hb.mono HG7.out)); have HG8 := hidd_ (Nat.le_trans HG7.out hb.size); clear hb k2 g2 s2 RD7 XW7 HG7 AV7))
          generalize w7_.heap.size = qQ at *
          have AV8 := hidd_ (AW.out.cons (X := (⟨qQ, uQ, AQ, mQ, cQ⟩ : CV)) ⟨KP.out, RP.out, CP7.out.1, CP7.out.2, JVP.out.2.1, (show mQ.length ≤ 400000 by have := JVQ.out.2.2; omega)⟩)
          have INQ := hidd_ (CV.info (⟨qQ, uQ, AQ, mQ, cQ⟩ : CV) JVP.out.2.1)
          clear AW KP RP CP7
          have cj := joinC w8_ (⟨q1, ub, A1', lb, c1'⟩ : CV) (⟨q2, uc, A2', lc, c2'⟩ : CV) (AV8.out _ (List.mem_cons_of_mem _ (List.mem_cons_of_mem _ (List.mem_cons_of_mem _ (List.mem_cons_self ..))))).ok (AV8.out _ (List.mem_cons_of_mem _ (List.mem_cons_of_mem _ (List.mem_cons_of_mem _ (List.mem_cons_of_mem _ (List.mem_cons_self ..)))))).ok JVR.out.1
          go_upto_region 7 with (first
            | (refine wpList_load_rowWd (by go_simp) 29 (.tmp 8) rfl q1 rfl 29 (CV.row (⟨q1, ub, A1', lb, c1'⟩ : CV)) (AV8.out _ (List.mem_cons_of_mem _ (List.mem_cons_of_mem _ (List.mem_cons_of_mem _ (List.mem_cons_self ..))))).bk _ Try.underlying29 rfl INY.out ?_)
            | (refine wpList_load_rowWd (by go_simp) 29 (.tmp 9) rfl q2 rfl 29 (CV.row (⟨q2, uc, A2', lc, c2'⟩ : CV)) (AV8.out _ (List.mem_cons_of_mem _ (List.mem_cons_of_mem _ (List.mem_cons_of_mem _ (List.mem_cons_of_mem _ (List.mem_cons_self ..)))))).bk _ Try.underlying29 rfl INZ.out ?_)
            | (go_at_call 24; ((with_reducible refine cj.mono ?_); clear cj; rintro e w9_ ⟨AR, cR, rfl, h1, h2, h3, h4, hb⟩; unfold TwoX; have AV9 := hidd_ (AV8.out.below hb); have XW9 := hidd_ (XW8.out.trans (hb.mono HG8.out)); have HG9 := hidd_ (Nat.le_trans HG8.out hb.size); clear hb AV8 XW8 HG8; have RD9 := hidd_ h1; have CP9 := hidd_ (And.intro h3 h4); clear h1 h2 h3 h4))
            | (refine wpList_put_row rfl 29 _ _ rfl w9_.heap.size (ctxRow uR AR mR.length cR) rfl rfl 29 (ctxRow (List.replicate 16 0) none 0 0) (Bk.new w9_ _ _) (by rw [ctxRow_size _ _ _ _ JVR.out.2.1]; exact iX_) (by rw [ctxRow_size _ _ _ _ JVR.out.2.1]; rfl) (ctxRow_one _ _ _ _) ?_; intro w10_ k2 g2 s2; have hb := (((Below.refl w9_.heap.size w9_).alloc (Nat.le_refl _) (.cells (ctxRow (List.replicate 16 0) none 0 0) 29)).grown g2 (by simp) (fun k hk => by injection hk with hk; omega)); have AW := hidd_ (AV9.out.below hb); have KP := hidd_ k2; have RP := hidd_ ((RD9.out.below hb).more hb.size); have XW10 := hidd_ (XW9.out.trans (hb.mono HG9.out)); have HG10 := hidd_ (Nat.le_trans HG9.out hb.size); clear hb k2 g2 s2 RD9 XW9 HG9 AV9))
          generalize w9_.heap.size = qR at *
          have AV10 := hidd_ (AW.out.cons (X := (⟨qR, uR, AR, mR, cR⟩ : CV)) ⟨KP.out, RP.out, CP9.out.1, CP9.out.2, JVR.out.2.1, (show mR.length ≤ 400000 by have := JVR.out.2.2; omega)⟩)
          have INR := hidd_ (CV.info (⟨qR, uR, AR, mR, cR⟩ : CV) JVR.out.2.1)
          clear AW KP RP CP9
          have hne : (zQ != zQ) = false := by simp
          by_cases hp0 : zQ = 0
          · subst hp0
            obtain ⟨hcp, hsp⟩ := join_set HEX.out HEY.out JVP.out.1
            have HCP := hidd_ hcp
            have HSP := hidd_ hsp
            clear hcp hsp
            obtain ⟨uC, mC, zC, hC⟩ := joinV_ex uQ JVP.out.2.1 mQ ua HUA.out la
            have JVC := hidd_ hC
            clear hC
            obtain ⟨uD, mD, zD, hD⟩ := joinV_ex uQ JVP.out.2.1 mQ ub HUB.out lb
            have JVD := hidd_ hD
            clear hD
            have CC := hidd_ ((covB_iff JVP.out.2.1 HCP.out HEX.out JVC.out.1).2 fun d hd g => (HSP.out d hd).2 (.inl g))
            have CD := hidd_ ((covB_iff JVP.out.2.1 HCP.out HEY.out JVD.out.1).2 fun d hd g => (HSP.out d hd).2 (.inr g))
            have ck10 := sameC w10_ (⟨qP, uQ, AP, mQ, cP⟩ : CV) (⟨qQ, uQ, AQ, mQ, cQ⟩ : CV) (AV10.out _ (List.mem_cons_of_mem _ (List.mem_cons_of_mem _ (List.mem_cons_self ..)))).ok (AV10.out _ (List.mem_cons_of_mem _ (List.mem_cons_self ..))).ok
            rw [show sameR (CV.u (⟨qP, uQ, AP, mQ, cP⟩ : CV)) (CV.u (⟨qQ, uQ, AQ, mQ, cQ⟩ : CV)) (CV.m (⟨qP, uQ, AP, mQ, cP⟩ : CV)) (CV.m (⟨qQ, uQ, AQ, mQ, cQ⟩ : CV)) = true from (sameR_iff.2 ⟨rfl, rfl⟩)] at ck10
            go_upto_region 9 with (first
              | (refine wpList_load_rowWd (by go_simp) 29 (.tmp 8) rfl q1 rfl 29 (CV.row (⟨q1, ub, A1', lb, c1'⟩ : CV)) (AV12.out _ (List.mem_cons_of_mem _ (List.mem_cons_of_mem _ (List.mem_cons_of_mem _ (List.mem_cons_of_mem _ (List.mem_cons_self ..)))))).bk _ Try.underlying29 rfl INY.out ?_)
              | (refine wpList_load_rowWd (by go_simp) 29 (.tmp 10) rfl qP rfl 29 (CV.row (⟨qP, uQ, AP, mQ, cP⟩ : CV)) (AV12.out _ (List.mem_cons_of_mem _ (List.mem_cons_of_mem _ (List.mem_cons_self ..)))).bk _ Try.underlying29 rfl INP.out ?_)
              | (refine wpList_load_rowWd (by go_simp) 29 (.tmp 7) rfl q0 rfl 29 (CV.row (⟨q0, ua, A0', la, c0'⟩ : CV)) (AV11.out _ (List.mem_cons_of_mem _ (List.mem_cons_of_mem _ (List.mem_cons_of_mem _ (List.mem_cons_self ..))))).bk _ Try.underlying29 rfl INX.out ?_)
              | (refine wpList_load_rowWd (by go_simp) 29 (.tmp 10) rfl qP rfl 29 (CV.row (⟨qP, uQ, AP, mQ, cP⟩ : CV)) (AV11.out _ (List.mem_cons_of_mem _ (List.mem_cons_of_mem _ (List.mem_cons_self ..)))).bk _ Try.underlying29 rfl INP.out ?_)
              | (refine wpList_load_rowWd (by go_simp) 29 (.tmp 12) rfl qQ rfl 29 (CV.row (⟨qQ, uQ, AQ, mQ, cQ⟩ : CV)) (AV10.out _ (List.mem_cons_of_mem _ (List.mem_cons_self ..))).bk _ Try.underlying29 rfl INQ.out ?_)
              | (refine wpList_load_rowWd (by go_simp) 29 (.tmp 10) rfl qP rfl 29 (CV.row (⟨qP, uQ, AP, mQ, cP⟩ : CV)) (AV10.out _ (List.mem_cons_of_mem _ (List.mem_cons_of_mem _ (List.mem_cons_self ..)))).bk _ Try.underlying29 rfl INP.out ?_)
              | (go_at_call 30; ((with_reducible refine ck10.mono ?_); clear ck10; rintro e w11_ ⟨rfl, hb⟩; have AV11 := hidd_ (AV10.out.below hb); have XW11 := hidd_ (XW10.out.trans (hb.mono HG10.out)); have HG11 := hidd_ (Nat.le_trans HG10.out hb.size); clear hb AV10 XW10 HG10; have ck11 := coversC w11_ (⟨qP, uQ, AP, mQ, cP⟩ : CV) (⟨q0, ua, A0', la, c0'⟩ : CV) (AV11.out _ (List.mem_cons_of_mem _ (List.mem_cons_of_mem _ (List.mem_cons_self ..)))).ok (AV11.out _ (List.mem_cons_of_mem _ (List.mem_cons_of_mem _ (List.mem_cons_of_mem _ (List.mem_cons_self ..))))).ok JVC.out.1 JVC.out.2.1 JVC.out.2.2; rw [CC.out] at ck11))
              | (go_at_call 28; ((with_reducible refine ck11.mono ?_); clear ck11; rintro e w12_ ⟨rfl, hb⟩; have AV12 := hidd_ (AV11.out.below hb); have XW12 := hidd_ (XW11.out.trans (hb.mono HG11.out)); have HG12 := hidd_ (Nat.le_trans HG11.out hb.size); clear hb AV11 XW11 HG11; have ck12 := coversC w12_ (⟨qP, uQ, AP, mQ, cP⟩ : CV) (⟨q1, ub, A1', lb, c1'⟩ : CV) (AV12.out _ (List.mem_cons_of_mem _ (List.mem_cons_of_mem _ (List.mem_cons_self ..)))).ok (AV12.out _ (List.mem_cons_of_mem _ (List.mem_cons_of_mem _ (List.mem_cons_of_mem _ (List.mem_cons_of_mem _ (List.mem_cons_self ..)))))).ok JVD.out.1 JVD.out.2.1 JVD.out.2.2; rw [CD.out] at ck12))
              | (go_at_call 28; ((with_reducible refine ck12.mono ?_); clear ck12; rintro e w13_ ⟨rfl, hb⟩; have AV13 := hidd_ (AV12.out.below hb); have XW13 := hidd_ (XW12.out.trans (hb.mono HG12.out)); have HG13 := hidd_ (Nat.le_trans HG12.out hb.size); clear hb AV12 XW12 HG12)))
            by_cases hr0 : zR = 0
            · subst hr0
              obtain ⟨hcr, hsr⟩ := join_set HEY.out HEZ.out JVR.out.1
              have HCR := hidd_ hcr
              have HSR := hidd_ hsr
              clear hcr hsr
              obtain ⟨uS, mS, zS, hS⟩ := joinV_ex uQ JVP.out.2.1 mQ uc HUC.out lc
              have JVS := hidd_ hS
              clear hS
              obtain ⟨uT, mT, zT, hT⟩ := joinV_ex ua HUA.out la uR JVR.out.2.1 mR
              have JVT := hidd_ hT
              clear hT
              obtain ⟨uU, mU, zU, hU⟩ := joinV_ex uQ JVP.out.2.1 mQ uQ JVP.out.2.1 mQ
              have JVU := hidd_ hU
              clear hU
              obtain ⟨rfl, rfl, rfl⟩ := join_eq HEX.out HCR.out HCP.out HEZ.out JVT.out.1 JVS.out.1 (fun d hd => by rw [HSP.out d hd, HSR.out d hd, or_assoc])
              have hji := join_into JVP.out.2.1 HCP.out HCP.out JVU.out.1 (fun d _ g => g)
              obtain ⟨rfl, rfl, rfl⟩ : uQ = uU ∧ mQ = mU ∧ (0 : Int) = zU := ⟨hji.1.symm, hji.2.1.symm, hji.2.2.symm⟩
              have cj := joinC w13_ (⟨qP, uQ, AP, mQ, cP⟩ : CV) (⟨q2, uc, A2', lc, c2'⟩ : CV) (AV13.out _ (List.mem_cons_of_mem _ (List.mem_cons_of_mem _ (List.mem_cons_self ..)))).ok (AV13.out _ (List.mem_cons_of_mem _ (List.mem_cons_of_mem _ (List.mem_cons_of_mem _ (List.mem_cons_of_mem _ (List.mem_cons_of_mem _ (List.mem_cons_self ..))))))).ok JVS.out.1
              go_upto_region 12 with (first
                | (refine wpList_load_rowWd (by go_simp) 29 (.tmp 10) rfl qP rfl 29 (CV.row (⟨qP, uQ, AP, mQ, cP⟩ : CV)) (AV13.out _ (List.mem_cons_of_mem _ (List.mem_cons_of_mem _ (List.mem_cons_self ..)))).bk _ Try.underlying29 rfl INP.out ?_)
                | (refine wpList_load_rowWd (by go_simp) 29 (.tmp 9) rfl q2 rfl 29 (CV.row (⟨q2, uc, A2', lc, c2'⟩ : CV)) (AV13.out _ (List.mem_cons_of_mem _ (List.mem_cons_of_mem _ (List.mem_cons_of_mem _ (List.mem_cons_of_mem _ (List.mem_cons_of_mem _ (List.mem_cons_self ..))))))).bk _ Try.underlying29 rfl INZ.out ?_)
                | (go_at_call 24; ((with_reducible refine cj.mono ?_); clear cj; rintro e w14_ ⟨AS, cS, rfl, h1, h2, h3, h4, hb⟩; unfold TwoX; have AV14 := hidd_ (AV13.out.below hb); have XW14 := hidd_ (XW13.out.trans (hb.mono HG13.out)); have HG14 := hidd_ (Nat.le_trans HG13.out hb.size); clear hb AV13 XW13 HG13; have RD14 := hidd_ h1; have CP14 := hidd_ (And.intro h3 h4); clear h1 h2 h3 h4))
                | (refine wpList_put_row rfl 29 _ _ rfl w14_.heap.size (ctxRow uT AS mT.length cS) rfl rfl 29 (ctxRow (List.replicate 16 0) none 0 0) (Bk.new w14_ _ _) (by rw [ctxRow_size _ _ _ _ JVS.out.2.1]; exact iX_) (by rw [ctxRow_size _ _ _ _ JVS.out.2.1]; rfl) (ctxRow_one _ _ _ _) ?_; intro w15_ k2 g2 s2; have hb := (((Below.refl w14_.heap.size w14_).alloc (Nat.le_refl _) (.cells (ctxRow (List.replicate 16 0) none 0 0) 29)).grown g2 (by simp) (fun k hk => by injection hk with hk; omega)); have AW := hidd_ (AV14.out.below hb); have KP := hidd_ k2; have RP := hidd_ ((RD14.out.below hb).more hb.size); have XW15 := hidd_ (XW14.out.trans (hb.mono HG14.out)); have HG15 := hidd_ (Nat.le_trans HG14.out hb.size); clear hb k2 g2 s2 RD14 XW14 HG14 AV14))
              generalize w14_.heap.size = qS at *
              have AV15 := hidd_ (AW.out.cons (X := (⟨qS, uT, AS, mT, cS⟩ : CV)) ⟨KP.out, RP.out, CP14.out.1, CP14.out.2, JVS.out.2.1, (show mT.length ≤ 400000 by have := JVS.out.2.2; omega)⟩)
              have INS := hidd_ (CV.info (⟨qS, uT, AS, mT, cS⟩ : CV) JVS.out.2.1)
              clear AW KP RP CP14
              have cj := joinC w15_ (⟨q0, ua, A0', la, c0'⟩ : CV) (⟨qR, uR, AR, mR, cR⟩ : CV) (AV15.out _ (List.mem_cons_of_mem _ (List.mem_cons_of_mem _ (List.mem_cons_of_mem _ (List.mem_cons_of_mem _ (List.mem_cons_self ..)))))).ok (AV15.out _ (List.mem_cons_of_mem _ (List.mem_cons_self ..))).ok JVT.out.1
              go_upto_region 13 with (first
                | (refine wpList_load_rowWd (by go_simp) 29 (.tmp 7) rfl q0 rfl 29 (CV.row (⟨q0, ua, A0', la, c0'⟩ : CV)) (AV15.out _ (List.mem_cons_of_mem _ (List.mem_cons_of_mem _ (List.mem_cons_of_mem _ (List.mem_cons_of_mem _ (List.mem_cons_self ..)))))).bk _ Try.underlying29 rfl INX.out ?_)
                | (refine wpList_load_rowWd (by go_simp) 29 (.tmp 14) rfl qR rfl 29 (CV.row (⟨qR, uR, AR, mR, cR⟩ : CV)) (AV15.out _ (List.mem_cons_of_mem _ (List.mem_cons_self ..))).bk _ Try.underlying29 rfl INR.out ?_)
                | (go_at_call 24; ((with_reducible refine cj.mono ?_); clear cj; rintro e w16_ ⟨AT, cT, rfl, h1, h2, h3, h4, hb⟩; unfold TwoX; have AV16 := hidd_ (AV15.out.below hb); have XW16 := hidd_ (XW15.out.trans (hb.mono HG15.out)); have HG16 := hidd_ (Nat.le_trans HG15.out hb.size); clear hb AV15 XW15 HG15; have RD16 := hidd_ h1; have CP16 := hidd_ (And.intro h3 h4); clear h1 h2 h3 h4))
                | (refine wpList_put_row rfl 29 _ _ rfl w16_.heap.size (ctxRow uT AT mT.length cT) rfl rfl 29 (ctxRow (List.replicate 16 0) none 0 0) (Bk.new w16_ _ _) (by rw [ctxRow_size _ _ _ _ JVS.out.2.1]; exact iX_) (by rw [ctxRow_size _ _ _ _ JVS.out.2.1]; rfl) (ctxRow_one _ _ _ _) ?_; intro w17_ k2 g2 s2; have hb := (((Below.refl w16_.heap.size w16_).alloc (Nat.le_refl _) (.cells (ctxRow (List.replicate 16 0) none 0 0) 29)).grown g2 (by simp) (fun k hk => by injection hk with hk; omega)); have AW := hidd_ (AV16.out.below hb); have KP := hidd_ k2; have RP := hidd_ ((RD16.out.below hb).more hb.size); have XW17 := hidd_ (XW16.out.trans (hb.mono HG16.out)); have HG17 := hidd_ (Nat.le_trans HG16.out hb.size); clear hb k2 g2 s2 RD16 XW16 HG16 AV16))
              generalize w16_.heap.size = qT at *
              have AV17 := hidd_ (AW.out.cons (X := (⟨qT, uT, AT, mT, cT⟩ : CV)) ⟨KP.out, RP.out, CP16.out.1, CP16.out.2, JVS.out.2.1, (show mT.length ≤ 400000 by have := JVT.out.2.2; omega)⟩)
              have INT := hidd_ (CV.info (⟨qT, uT, AT, mT, cT⟩ : CV) JVS.out.2.1)
              clear AW KP RP CP16
              have cj := joinC w17_ (⟨qP, uQ, AP, mQ, cP⟩ : CV) (⟨qP, uQ, AP, mQ, cP⟩ : CV) (AV17.out _ (List.mem_cons_of_mem _ (List.mem_cons_of_mem _ (List.mem_cons_of_mem _ (List.mem_cons_of_mem _ (List.mem_cons_self ..)))))).ok (AV17.out _ (List.mem_cons_of_mem _ (List.mem_cons_of_mem _ (List.mem_cons_of_mem _ (List.mem_cons_of_mem _ (List.mem_cons_self ..)))))).ok JVU.out.1
              go_upto_region 14 with (first
                | (refine wpList_load_rowWd (by go_simp) 29 (.tmp 10) rfl qP rfl 29 (CV.row (⟨qP, uQ, AP, mQ, cP⟩ : CV)) (AV17.out _ (List.mem_cons_of_mem _ (List.mem_cons_of_mem _ (List.mem_cons_of_mem _ (List.mem_cons_of_mem _ (List.mem_cons_self ..)))))).bk _ Try.underlying29 rfl INP.out ?_)
                | (go_at_call 24; ((with_reducible refine cj.mono ?_); clear cj; rintro e w18_ ⟨AU, cU, rfl, h1, h2, h3, h4, hb⟩; unfold TwoX; have AV18 := hidd_ (AV17.out.below hb); have XW18 := hidd_ (XW17.out.trans (hb.mono HG17.out)); have HG18 := hidd_ (Nat.le_trans HG17.out hb.size); clear hb AV17 XW17 HG17; have RD18 := hidd_ h1; have CP18 := hidd_ (And.intro h3 h4); clear h1 h2 h3 h4))
                | (refine wpList_put_row rfl 29 _ _ rfl w18_.heap.size (ctxRow uQ AU mQ.length cU) rfl rfl 29 (ctxRow (List.replicate 16 0) none 0 0) (Bk.new w18_ _ _) (by rw [ctxRow_size _ _ _ _ JVU.out.2.1]; exact iX_) (by rw [ctxRow_size _ _ _ _ JVU.out.2.1]; rfl) (ctxRow_one _ _ _ _) ?_; intro w19_ k2 g2 s2; have hb := (((Below.refl w18_.heap.size w18_).alloc (Nat.le_refl _) (.cells (ctxRow (List.replicate 16 0) none 0 0) 29)).grown g2 (by simp) (fun k hk => by injection hk with hk; omega)); have AW := hidd_ (AV18.out.below hb); have KP := hidd_ k2; have RP := hidd_ ((RD18.out.below hb).more hb.size); have XW19 := hidd_ (XW18.out.trans (hb.mono HG18.out)); have HG19 := hidd_ (Nat.le_trans HG18.out hb.size); clear hb k2 g2 s2 RD18 XW18 HG18 AV18))
              generalize w18_.heap.size = qU at *
              have AV19 := hidd_ (AW.out.cons (X := (⟨qU, uQ, AU, mQ, cU⟩ : CV)) ⟨KP.out, RP.out, CP18.out.1, CP18.out.2, JVU.out.2.1, (show mQ.length ≤ 400000 by have := JVU.out.2.2; omega)⟩)
              have INU := hidd_ (CV.info (⟨qU, uQ, AU, mQ, cU⟩ : CV) JVU.out.2.1)
              clear AW KP RP CP18
              have hne2 : (zT != zT) = false := by simp
              obtain ⟨uE, mE, zE, hE⟩ := joinV_ex uc HUC.out lc ua HUA.out la
              have JVE := hidd_ hE
              clear hE
              obtain ⟨uF, mF, zF, hF⟩ := joinV_ex uc HUC.out lc ub HUB.out lb
              have JVF := hidd_ hF
              clear hF
              obtain ⟨uH, mH, zH, hH⟩ := joinV_ex uc HUC.out lc uQ JVU.out.2.1 mQ
              have JVH := hidd_ hH
              clear hH
              obtain ⟨ce, hce⟩ : ∃ b, covB uc lc uE mE zE = b := ⟨_, rfl⟩
              obtain ⟨cf, hcf⟩ : ∃ b, covB uc lc uF mF zF = b := ⟨_, rfl⟩
              obtain ⟨ch, hch⟩ : ∃ b, covB uc lc uH mH zH = b := ⟨_, rfl⟩
              have IMP := hidd_ (show ce = true → cf = true → ch = true from fun h1 h2 => by
                rw [← hch, covB_iff HUC.out HEZ.out HCP.out JVH.out.1]
                rw [← hce, covB_iff HUC.out HEZ.out HEX.out JVE.out.1] at h1
                rw [← hcf, covB_iff HUC.out HEZ.out HEY.out JVF.out.1] at h2
                intro d hd g
                exact ((HSP.out d hd).1 g).elim (h1 d hd) (h2 d hd))
              have HCE := hidd_ hce
              have HCF := hidd_ hcf
              have HCH := hidd_ hch
              clear hce hcf hch
              by_cases hs0 : zT = 0
              · subst hs0
                have ck19 := sameC w19_ (⟨qS, uT, AS, mT, cS⟩ : CV) (⟨qT, uT, AT, mT, cT⟩ : CV) (AV19.out _ (List.mem_cons_of_mem _ (List.mem_cons_of_mem _ (List.mem_cons_self ..)))).ok (AV19.out _ (List.mem_cons_of_mem _ (List.mem_cons_self ..))).ok
                rw [show sameR (CV.u (⟨qS, uT, AS, mT, cS⟩ : CV)) (CV.u (⟨qT, uT, AT, mT, cT⟩ : CV)) (CV.m (⟨qS, uT, AS, mT, cS⟩ : CV)) (CV.m (⟨qT, uT, AT, mT, cT⟩ : CV)) = true from (sameR_iff.2 ⟨rfl, rfl⟩)] at ck19
                go_upto_region 16 with (first
                  | (refine wpList_load_rowWd (by go_simp) 29 (.tmp 10) rfl qP rfl 29 (CV.row (⟨qP, uQ, AP, mQ, cP⟩ : CV)) (AV20.out _ (List.mem_cons_of_mem _ (List.mem_cons_of_mem _ (List.mem_cons_of_mem _ (List.mem_cons_of_mem _ (List.mem_cons_of_mem _ (List.mem_cons_self ..))))))).bk _ Try.underlying29 rfl INP.out ?_)
                  | (refine wpList_load_rowWd (by go_simp) 29 (.tmp 20) rfl qU rfl 29 (CV.row (⟨qU, uQ, AU, mQ, cU⟩ : CV)) (AV20.out _ (List.mem_cons_self ..)).bk _ Try.underlying29 rfl INU.out ?_)
                  | (refine wpList_load_rowWd (by go_simp) 29 (.tmp 18) rfl qT rfl 29 (CV.row (⟨qT, uT, AT, mT, cT⟩ : CV)) (AV19.out _ (List.mem_cons_of_mem _ (List.mem_cons_self ..))).bk _ Try.underlying29 rfl INT.out ?_)
                  | (refine wpList_load_rowWd (by go_simp) 29 (.tmp 16) rfl qS rfl 29 (CV.row (⟨qS, uT, AS, mT, cS⟩ : CV)) (AV19.out _ (List.mem_cons_of_mem _ (List.mem_cons_of_mem _ (List.mem_cons_self ..)))).bk _ Try.underlying29 rfl INS.out ?_)
                  | (go_at_call 30; ((with_reducible refine ck19.mono ?_); clear ck19; rintro e w20_ ⟨rfl, hb⟩; have AV20 := hidd_ (AV19.out.below hb); have XW20 := hidd_ (XW19.out.trans (hb.mono HG19.out)); have HG20 := hidd_ (Nat.le_trans HG19.out hb.size); clear hb AV19 XW19 HG19; have ck20 := sameC w20_ (⟨qU, uQ, AU, mQ, cU⟩ : CV) (⟨qP, uQ, AP, mQ, cP⟩ : CV) (AV20.out _ (List.mem_cons_self ..)).ok (AV20.out _ (List.mem_cons_of_mem _ (List.mem_cons_of_mem _ (List.mem_cons_of_mem _ (List.mem_cons_of_mem _ (List.mem_cons_of_mem _ (List.mem_cons_self ..))))))).ok; rw [show sameR (CV.u (⟨qU, uQ, AU, mQ, cU⟩ : CV)) (CV.u (⟨qP, uQ, AP, mQ, cP⟩ : CV)) (CV.m (⟨qU, uQ, AU, mQ, cU⟩ : CV)) (CV.m (⟨qP, uQ, AP, mQ, cP⟩ : CV)) = true from (sameR_iff.2 ⟨rfl, rfl⟩)] at ck20))
                  | (go_at_call 30; ((with_reducible refine ck20.mono ?_); clear ck20; rintro e w21_ ⟨rfl, hb⟩; have AV21 := hidd_ (AV20.out.below hb); have XW21 := hidd_ (XW20.out.trans (hb.mono HG20.out)); have HG21 := hidd_ (Nat.le_trans HG20.out hb.size); clear hb AV20 XW20 HG20)))
                cases ce
                · skip
                  have ck21 := coversC w21_ (⟨q2, uc, A2', lc, c2'⟩ : CV) (⟨q0, ua, A0', la, c0'⟩ : CV) (AV21.out _ (List.mem_cons_of_mem _ (List.mem_cons_of_mem _ (List.mem_cons_of_mem _ (List.mem_cons_of_mem _ (List.mem_cons_of_mem _ (List.mem_cons_of_mem _ (List.mem_cons_of_mem _ (List.mem_cons_of_mem _ (List.mem_cons_self ..)))))))))).ok (AV21.out _ (List.mem_cons_of_mem _ (List.mem_cons_of_mem _ (List.mem_cons_of_mem _ (List.mem_cons_of_mem _ (List.mem_cons_of_mem _ (List.mem_cons_of_mem _ (List.mem_cons_self ..)))))))).ok JVE.out.1 JVE.out.2.1 JVE.out.2.2
                  rw [HCE.out] at ck21
                  go_wp2_with (first
                    | (refine wpList_load_rowWd (by go_simp) 29 (.tmp 7) rfl q0 rfl 29 (CV.row (⟨q0, ua, A0', la, c0'⟩ : CV)) (AV21.out _ (List.mem_cons_of_mem _ (List.mem_cons_of_mem _ (List.mem_cons_of_mem _ (List.mem_cons_of_mem _ (List.mem_cons_of_mem _ (List.mem_cons_of_mem _ (List.mem_cons_self ..)))))))).bk _ Try.underlying29 rfl INX.out ?_)
                    | (refine wpList_load_rowWd (by go_simp) 29 (.tmp 9) rfl q2 rfl 29 (CV.row (⟨q2, uc, A2', lc, c2'⟩ : CV)) (AV21.out _ (List.mem_cons_of_mem _ (List.mem_cons_of_mem _ (List.mem_cons_of_mem _ (List.mem_cons_of_mem _ (List.mem_cons_of_mem _ (List.mem_cons_of_mem _ (List.mem_cons_of_mem _ (List.mem_cons_of_mem _ (List.mem_cons_self ..)))))))))).bk _ Try.underlying29 rfl INZ.out ?_)
                    | (go_at_call 28; ((with_reducible refine ck21.mono ?_); clear ck21; rintro e w22_ ⟨rfl, hb⟩; have AV22 := hidd_ (AV21.out.below hb); have XW22 := hidd_ (XW21.out.trans (hb.mono HG21.out)); have HG22 := hidd_ (Nat.le_trans HG21.out hb.size); clear hb AV21 XW21 HG21)))
                  go_ret
                  exact ⟨by first | rfl | simp, by rw [HG.out]; exact XW22.out⟩
                · cases cf
                  · skip
                    have ck21 := coversC w21_ (⟨q2, uc, A2', lc, c2'⟩ : CV) (⟨q0, ua, A0', la, c0'⟩ : CV) (AV21.out _ (List.mem_cons_of_mem _ (List.mem_cons_of_mem _ (List.mem_cons_of_mem _ (List.mem_cons_of_mem _ (List.mem_cons_of_mem _ (List.mem_cons_of_mem _ (List.mem_cons_of_mem _ (List.mem_cons_of_mem _ (List.mem_cons_self ..)))))))))).ok (AV21.out _ (List.mem_cons_of_mem _ (List.mem_cons_of_mem _ (List.mem_cons_of_mem _ (List.mem_cons_of_mem _ (List.mem_cons_of_mem _ (List.mem_cons_of_mem _ (List.mem_cons_self ..)))))))).ok JVE.out.1 JVE.out.2.1 JVE.out.2.2
                    rw [HCE.out] at ck21
                    go_wp2_with (first
                      | (refine wpList_load_rowWd (by go_simp) 29 (.tmp 8) rfl q1 rfl 29 (CV.row (⟨q1, ub, A1', lb, c1'⟩ : CV)) (AV22.out _ (List.mem_cons_of_mem _ (List.mem_cons_of_mem _ (List.mem_cons_of_mem _ (List.mem_cons_of_mem _ (List.mem_cons_of_mem _ (List.mem_cons_of_mem _ (List.mem_cons_of_mem _ (List.mem_cons_self ..))))))))).bk _ Try.underlying29 rfl INY.out ?_)
                      | (refine wpList_load_rowWd (by go_simp) 29 (.tmp 9) rfl q2 rfl 29 (CV.row (⟨q2, uc, A2', lc, c2'⟩ : CV)) (AV22.out _ (List.mem_cons_of_mem _ (List.mem_cons_of_mem _ (List.mem_cons_of_mem _ (List.mem_cons_of_mem _ (List.mem_cons_of_mem _ (List.mem_cons_of_mem _ (List.mem_cons_of_mem _ (List.mem_cons_of_mem _ (List.mem_cons_self ..)))))))))).bk _ Try.underlying29 rfl INZ.out ?_)
                      | (refine wpList_load_rowWd (by go_simp) 29 (.tmp 7) rfl q0 rfl 29 (CV.row (⟨q0, ua, A0', la, c0'⟩ : CV)) (AV21.out _ (List.mem_cons_of_mem _ (List.mem_cons_of_mem _ (List.mem_cons_of_mem _ (List.mem_cons_of_mem _ (List.mem_cons_of_mem _ (List.mem_cons_of_mem _ (List.mem_cons_self ..)))))))).bk _ Try.underlying29 rfl INX.out ?_)
                      | (refine wpList_load_rowWd (by go_simp) 29 (.tmp 9) rfl q2 rfl 29 (CV.row (⟨q2, uc, A2', lc, c2'⟩ : CV)) (AV21.out _ (List.mem_cons_of_mem _ (List.mem_cons_of_mem _ (List.mem_cons_of_mem _ (List.mem_cons_of_mem _ (List.mem_cons_of_mem _ (List.mem_cons_of_mem _ (List.mem_cons_of_mem _ (List.mem_cons_of_mem _ (List.mem_cons_self ..)))))))))).bk _ Try.underlying29 rfl INZ.out ?_)
                      | (go_at_call 28; ((with_reducible refine ck21.mono ?_); clear ck21; rintro e w22_ ⟨rfl, hb⟩; have AV22 := hidd_ (AV21.out.below hb); have XW22 := hidd_ (XW21.out.trans (hb.mono HG21.out)); have HG22 := hidd_ (Nat.le_trans HG21.out hb.size); clear hb AV21 XW21 HG21; have ck22 := coversC w22_ (⟨q2, uc, A2', lc, c2'⟩ : CV) (⟨q1, ub, A1', lb, c1'⟩ : CV) (AV22.out _ (List.mem_cons_of_mem _ (List.mem_cons_of_mem _ (List.mem_cons_of_mem _ (List.mem_cons_of_mem _ (List.mem_cons_of_mem _ (List.mem_cons_of_mem _ (List.mem_cons_of_mem _ (List.mem_cons_of_mem _ (List.mem_cons_self ..)))))))))).ok (AV22.out _ (List.mem_cons_of_mem _ (List.mem_cons_of_mem _ (List.mem_cons_of_mem _ (List.mem_cons_of_mem _ (List.mem_cons_of_mem _ (List.mem_cons_of_mem _ (List.mem_cons_of_mem _ (List.mem_cons_self ..))))))))).ok JVF.out.1 JVF.out.2.1 JVF.out.2.2; rw [HCF.out] at ck22))
                      | (go_at_call 28; ((with_reducible refine ck22.mono ?_); clear ck22; rintro e w23_ ⟨rfl, hb⟩; have AV23 := hidd_ (AV22.out.below hb); have XW23 := hidd_ (XW22.out.trans (hb.mono HG22.out)); have HG23 := hidd_ (Nat.le_trans HG22.out hb.size); clear hb AV22 XW22 HG22)))
                    go_ret
                    exact ⟨by first | rfl | simp, by rw [HG.out]; exact XW23.out⟩
                  · obtain rfl := IMP.out rfl rfl
                    have ck21 := coversC w21_ (⟨q2, uc, A2', lc, c2'⟩ : CV) (⟨q0, ua, A0', la, c0'⟩ : CV) (AV21.out _ (List.mem_cons_of_mem _ (List.mem_cons_of_mem _ (List.mem_cons_of_mem _ (List.mem_cons_of_mem _ (List.mem_cons_of_mem _ (List.mem_cons_of_mem _ (List.mem_cons_of_mem _ (List.mem_cons_of_mem _ (List.mem_cons_self ..)))))))))).ok (AV21.out _ (List.mem_cons_of_mem _ (List.mem_cons_of_mem _ (List.mem_cons_of_mem _ (List.mem_cons_of_mem _ (List.mem_cons_of_mem _ (List.mem_cons_of_mem _ (List.mem_cons_self ..)))))))).ok JVE.out.1 JVE.out.2.1 JVE.out.2.2
                    rw [HCE.out] at ck21
                    go_wp2_with (first
                      | (refine wpList_load_rowWd (by go_simp) 29 (.tmp 10) rfl qP rfl 29 (CV.row (⟨qP, uQ, AP, mQ, cP⟩ : CV)) (AV23.out _ (List.mem_cons_of_mem _ (List.mem_cons_of_mem _ (List.mem_cons_of_mem _ (List.mem_cons_of_mem _ (List.mem_cons_of_mem _ (List.mem_cons_self ..))))))).bk _ Try.underlying29 rfl INP.out ?_)
                      | (refine wpList_load_rowWd (by go_simp) 29 (.tmp 9) rfl q2 rfl 29 (CV.row (⟨q2, uc, A2', lc, c2'⟩ : CV)) (AV23.out _ (List.mem_cons_of_mem _ (List.mem_cons_of_mem _ (List.mem_cons_of_mem _ (List.mem_cons_of_mem _ (List.mem_cons_of_mem _ (List.mem_cons_of_mem _ (List.mem_cons_of_mem _ (List.mem_cons_of_mem _ (List.mem_cons_self ..)))))))))).bk _ Try.underlying29 rfl INZ.out ?_)
                      | (refine wpList_load_rowWd (by go_simp) 29 (.tmp 8) rfl q1 rfl 29 (CV.row (⟨q1, ub, A1', lb, c1'⟩ : CV)) (AV22.out _ (List.mem_cons_of_mem _ (List.mem_cons_of_mem _ (List.mem_cons_of_mem _ (List.mem_cons_of_mem _ (List.mem_cons_of_mem _ (List.mem_cons_of_mem _ (List.mem_cons_of_mem _ (List.mem_cons_self ..))))))))).bk _ Try.underlying29 rfl INY.out ?_)
                      | (refine wpList_load_rowWd (by go_simp) 29 (.tmp 9) rfl q2 rfl 29 (CV.row (⟨q2, uc, A2', lc, c2'⟩ : CV)) (AV22.out _ (List.mem_cons_of_mem _ (List.mem_cons_of_mem _ (List.mem_cons_of_mem _ (List.mem_cons_of_mem _ (List.mem_cons_of_mem _ (List.mem_cons_of_mem _ (List.mem_cons_of_mem _ (List.mem_cons_of_mem _ (List.mem_cons_self ..)))))))))).bk _ Try.underlying29 rfl INZ.out ?_)
                      | (refine wpList_load_rowWd (by go_simp) 29 (.tmp 7) rfl q0 rfl 29 (CV.row (⟨q0, ua, A0', la, c0'⟩ : CV)) (AV21.out _ (List.mem_cons_of_mem _ (List.mem_cons_of_mem _ (List.mem_cons_of_mem _ (List.mem_cons_of_mem _ (List.mem_cons_of_mem _ (List.mem_cons_of_mem _ (List.mem_cons_self ..)))))))).bk _ Try.underlying29 rfl INX.out ?_)
                      | (refine wpList_load_rowWd (by go_simp) 29 (.tmp 9) rfl q2 rfl 29 (CV.row (⟨q2, uc, A2', lc, c2'⟩ : CV)) (AV21.out _ (List.mem_cons_of_mem _ (List.mem_cons_of_mem _ (List.mem_cons_of_mem _ (List.mem_cons_of_mem _ (List.mem_cons_of_mem _ (List.mem_cons_of_mem _ (List.mem_cons_of_mem _ (List.mem_cons_of_mem _ (List.mem_cons_self ..)))))))))).bk _ Try.underlying29 rfl INZ.out ?_)
                      | (go_at_call 28; ((with_reducible refine ck21.mono ?_); clear ck21; rintro e w22_ ⟨rfl, hb⟩; have AV22 := hidd_ (AV21.out.below hb); have XW22 := hidd_ (XW21.out.trans (hb.mono HG21.out)); have HG22 := hidd_ (Nat.le_trans HG21.out hb.size); clear hb AV21 XW21 HG21; have ck22 := coversC w22_ (⟨q2, uc, A2', lc, c2'⟩ : CV) (⟨q1, ub, A1', lb, c1'⟩ : CV) (AV22.out _ (List.mem_cons_of_mem _ (List.mem_cons_of_mem _ (List.mem_cons_of_mem _ (List.mem_cons_of_mem _ (List.mem_cons_of_mem _ (List.mem_cons_of_mem _ (List.mem_cons_of_mem _ (List.mem_cons_of_mem _ (List.mem_cons_self ..)))))))))).ok (AV22.out _ (List.mem_cons_of_mem _ (List.mem_cons_of_mem _ (List.mem_cons_of_mem _ (List.mem_cons_of_mem _ (List.mem_cons_of_mem _ (List.mem_cons_of_mem _ (List.mem_cons_of_mem _ (List.mem_cons_self ..))))))))).ok JVF.out.1 JVF.out.2.1 JVF.out.2.2; rw [HCF.out] at ck22))
                      | (go_at_call 28; ((with_reducible refine ck22.mono ?_); clear ck22; rintro e w23_ ⟨rfl, hb⟩; have AV23 := hidd_ (AV22.out.below hb); have XW23 := hidd_ (XW22.out.trans (hb.mono HG22.out)); have HG23 := hidd_ (Nat.le_trans HG22.out hb.size); clear hb AV22 XW22 HG22; have ck23 := coversC w23_ (⟨q2, uc, A2', lc, c2'⟩ : CV) (⟨qP, uQ, AP, mQ, cP⟩ : CV) (AV23.out _ (List.mem_cons_of_mem _ (List.mem_cons_of_mem _ (List.mem_cons_of_mem _ (List.mem_cons_of_mem _ (List.mem_cons_of_mem _ (List.mem_cons_of_mem _ (List.mem_cons_of_mem _ (List.mem_cons_of_mem _ (List.mem_cons_self ..)))))))))).ok (AV23.out _ (List.mem_cons_of_mem _ (List.mem_cons_of_mem _ (List.mem_cons_of_mem _ (List.mem_cons_of_mem _ (List.mem_cons_of_mem _ (List.mem_cons_self ..))))))).ok JVH.out.1 JVH.out.2.1 JVH.out.2.2; rw [HCH.out] at ck23))
                      | (go_at_call 28; ((with_reducible refine ck23.mono ?_); clear ck23; rintro e w24_ ⟨rfl, hb⟩; have AV24 := hidd_ (AV23.out.below hb); have XW24 := hidd_ (XW23.out.trans (hb.mono HG23.out)); have HG24 := hidd_ (Nat.le_trans HG23.out hb.size); clear hb AV23 XW23 HG23)))
                    go_ret
                    exact ⟨by first | rfl | simp, by rw [HG.out]; exact XW24.out⟩
              · have bs1 : (zT == 0) = false := by simpa using hs0
                clear hs0
                have ck19 := sameC w19_ (⟨qU, uQ, AU, mQ, cU⟩ : CV) (⟨qP, uQ, AP, mQ, cP⟩ : CV) (AV19.out _ (List.mem_cons_self ..)).ok (AV19.out _ (List.mem_cons_of_mem _ (List.mem_cons_of_mem _ (List.mem_cons_of_mem _ (List.mem_cons_of_mem _ (List.mem_cons_of_mem _ (List.mem_cons_self ..))))))).ok
                rw [show sameR (CV.u (⟨qU, uQ, AU, mQ, cU⟩ : CV)) (CV.u (⟨qP, uQ, AP, mQ, cP⟩ : CV)) (CV.m (⟨qU, uQ, AU, mQ, cU⟩ : CV)) (CV.m (⟨qP, uQ, AP, mQ, cP⟩ : CV)) = true from (sameR_iff.2 ⟨rfl, rfl⟩)] at ck19
                go_upto_region 16 with (first
                  | (refine wpList_load_rowWd (by go_simp) 29 (.tmp 10) rfl qP rfl 29 (CV.row (⟨qP, uQ, AP, mQ, cP⟩ : CV)) (AV19.out _ (List.mem_cons_of_mem _ (List.mem_cons_of_mem _ (List.mem_cons_of_mem _ (List.mem_cons_of_mem _ (List.mem_cons_of_mem _ (List.mem_cons_self ..))))))).bk _ Try.underlying29 rfl INP.out ?_)
                  | (refine wpList_load_rowWd (by go_simp) 29 (.tmp 20) rfl qU rfl 29 (CV.row (⟨qU, uQ, AU, mQ, cU⟩ : CV)) (AV19.out _ (List.mem_cons_self ..)).bk _ Try.underlying29 rfl INU.out ?_)
                  | (go_at_call 30; ((with_reducible refine ck19.mono ?_); clear ck19; rintro e w20_ ⟨rfl, hb⟩; have AV20 := hidd_ (AV19.out.below hb); have XW20 := hidd_ (XW19.out.trans (hb.mono HG19.out)); have HG20 := hidd_ (Nat.le_trans HG19.out hb.size); clear hb AV19 XW19 HG19)))
                cases ce
                · skip
                  have ck20 := coversC w20_ (⟨q2, uc, A2', lc, c2'⟩ : CV) (⟨q0, ua, A0', la, c0'⟩ : CV) (AV20.out _ (List.mem_cons_of_mem _ (List.mem_cons_of_mem _ (List.mem_cons_of_mem _ (List.mem_cons_of_mem _ (List.mem_cons_of_mem _ (List.mem_cons_of_mem _ (List.mem_cons_of_mem _ (List.mem_cons_of_mem _ (List.mem_cons_self ..)))))))))).ok (AV20.out _ (List.mem_cons_of_mem _ (List.mem_cons_of_mem _ (List.mem_cons_of_mem _ (List.mem_cons_of_mem _ (List.mem_cons_of_mem _ (List.mem_cons_of_mem _ (List.mem_cons_self ..)))))))).ok JVE.out.1 JVE.out.2.1 JVE.out.2.2
                  rw [HCE.out] at ck20
                  go_wp2_with (first
                    | (refine wpList_load_rowWd (by go_simp) 29 (.tmp 7) rfl q0 rfl 29 (CV.row (⟨q0, ua, A0', la, c0'⟩ : CV)) (AV20.out _ (List.mem_cons_of_mem _ (List.mem_cons_of_mem _ (List.mem_cons_of_mem _ (List.mem_cons_of_mem _ (List.mem_cons_of_mem _ (List.mem_cons_of_mem _ (List.mem_cons_self ..)))))))).bk _ Try.underlying29 rfl INX.out ?_)
                    | (refine wpList_load_rowWd (by go_simp) 29 (.tmp 9) rfl q2 rfl 29 (CV.row (⟨q2, uc, A2', lc, c2'⟩ : CV)) (AV20.out _ (List.mem_cons_of_mem _ (List.mem_cons_of_mem _ (List.mem_cons_of_mem _ (List.mem_cons_of_mem _ (List.mem_cons_of_mem _ (List.mem_cons_of_mem _ (List.mem_cons_of_mem _ (List.mem_cons_of_mem _ (List.mem_cons_self ..)))))))))).bk _ Try.underlying29 rfl INZ.out ?_)
                    | (go_at_call 28; ((with_reducible refine ck20.mono ?_); clear ck20; rintro e w21_ ⟨rfl, hb⟩; have AV21 := hidd_ (AV20.out.below hb); have XW21 := hidd_ (XW20.out.trans (hb.mono HG20.out)); have HG21 := hidd_ (Nat.le_trans HG20.out hb.size); clear hb AV20 XW20 HG20)))
                  go_ret
                  exact ⟨by first | rfl | simp, by rw [HG.out]; exact XW21.out⟩
                · cases cf
                  · skip
                    have ck20 := coversC w20_ (⟨q2, uc, A2', lc, c2'⟩ : CV) (⟨q0, ua, A0', la, c0'⟩ : CV) (AV20.out _ (List.mem_cons_of_mem _ (List.mem_cons_of_mem _ (List.mem_cons_of_mem _ (List.mem_cons_of_mem _ (List.mem_cons_of_mem _ (List.mem_cons_of_mem _ (List.mem_cons_of_mem _ (List.mem_cons_of_mem _ (List.mem_cons_self ..)))))))))).ok (AV20.out _ (List.mem_cons_of_mem _ (List.mem_cons_of_mem _ (List.mem_cons_of_mem _ (List.mem_cons_of_mem _ (List.mem_cons_of_mem _ (List.mem_cons_of_mem _ (List.mem_cons_self ..)))))))).ok JVE.out.1 JVE.out.2.1 JVE.out.2.2
                    rw [HCE.out] at ck20
                    go_wp2_with (first
                      | (refine wpList_load_rowWd (by go_simp) 29 (.tmp 8) rfl q1 rfl 29 (CV.row (⟨q1, ub, A1', lb, c1'⟩ : CV)) (AV21.out _ (List.mem_cons_of_mem _ (List.mem_cons_of_mem _ (List.mem_cons_of_mem _ (List.mem_cons_of_mem _ (List.mem_cons_of_mem _ (List.mem_cons_of_mem _ (List.mem_cons_of_mem _ (List.mem_cons_self ..))))))))).bk _ Try.underlying29 rfl INY.out ?_)
                      | (refine wpList_load_rowWd (by go_simp) 29 (.tmp 9) rfl q2 rfl 29 (CV.row (⟨q2, uc, A2', lc, c2'⟩ : CV)) (AV21.out _ (List.mem_cons_of_mem _ (List.mem_cons_of_mem _ (List.mem_cons_of_mem _ (List.mem_cons_of_mem _ (List.mem_cons_of_mem _ (List.mem_cons_of_mem _ (List.mem_cons_of_mem _ (List.mem_cons_of_mem _ (List.mem_cons_self ..)))))))))).bk _ Try.underlying29 rfl INZ.out ?_)
                      | (refine wpList_load_rowWd (by go_simp) 29 (.tmp 7) rfl q0 rfl 29 (CV.row (⟨q0, ua, A0', la, c0'⟩ : CV)) (AV20.out _ (List.mem_cons_of_mem _ (List.mem_cons_of_mem _ (List.mem_cons_of_mem _ (List.mem_cons_of_mem _ (List.mem_cons_of_mem _ (List.mem_cons_of_mem _ (List.mem_cons_self ..)))))))).bk _ Try.underlying29 rfl INX.out ?_)
                      | (refine wpList_load_rowWd (by go_simp) 29 (.tmp 9) rfl q2 rfl 29 (CV.row (⟨q2, uc, A2', lc, c2'⟩ : CV)) (AV20.out _ (List.mem_cons_of_mem _ (List.mem_cons_of_mem _ (List.mem_cons_of_mem _ (List.mem_cons_of_mem _ (List.mem_cons_of_mem _ (List.mem_cons_of_mem _ (List.mem_cons_of_mem _ (List.mem_cons_of_mem _ (List.mem_cons_self ..)))))))))).bk _ Try.underlying29 rfl INZ.out ?_)
                      | (go_at_call 28; ((with_reducible refine ck20.mono ?_); clear ck20; rintro e w21_ ⟨rfl, hb⟩; have AV21 := hidd_ (AV20.out.below hb); have XW21 := hidd_ (XW20.out.trans (hb.mono HG20.out)); have HG21 := hidd_ (Nat.le_trans HG20.out hb.size); clear hb AV20 XW20 HG20; have ck21 := coversC w21_ (⟨q2, uc, A2', lc, c2'⟩ : CV) (⟨q1, ub, A1', lb, c1'⟩ : CV) (AV21.out _ (List.mem_cons_of_mem _ (List.mem_cons_of_mem _ (List.mem_cons_of_mem _ (List.mem_cons_of_mem _ (List.mem_cons_of_mem _ (List.mem_cons_of_mem _ (List.mem_cons_of_mem _ (List.mem_cons_of_mem _ (List.mem_cons_self ..)))))))))).ok (AV21.out _ (List.mem_cons_of_mem _ (List.mem_cons_of_mem _ (List.mem_cons_of_mem _ (List.mem_cons_of_mem _ (List.mem_cons_of_mem _ (List.mem_cons_of_mem _ (List.mem_cons_of_mem _ (List.mem_cons_self ..))))))))).ok JVF.out.1 JVF.out.2.1 JVF.out.2.2; rw [HCF.out] at ck21))
                      | (go_at_call 28; ((with_reducible refine ck21.mono ?_); clear ck21; rintro e w22_ ⟨rfl, hb⟩; have AV22 := hidd_ (AV21.out.below hb); have XW22 := hidd_ (XW21.out.trans (hb.mono HG21.out)); have HG22 := hidd_ (Nat.le_trans HG21.out hb.size); clear hb AV21 XW21 HG21)))
                    go_ret
                    exact ⟨by first | rfl | simp, by rw [HG.out]; exact XW22.out⟩
                  · obtain rfl := IMP.out rfl rfl
                    have ck20 := coversC w20_ (⟨q2, uc, A2', lc, c2'⟩ : CV) (⟨q0, ua, A0', la, c0'⟩ : CV) (AV20.out _ (List.mem_cons_of_mem _ (List.mem_cons_of_mem _ (List.mem_cons_of_mem _ (List.mem_cons_of_mem _ (List.mem_cons_of_mem _ (List.mem_cons_of_mem _ (List.mem_cons_of_mem _ (List.mem_cons_of_mem _ (List.mem_cons_self ..)))))))))).ok (AV20.out _ (List.mem_cons_of_mem _ (List.mem_cons_of_mem _ (List.mem_cons_of_mem _ (List.mem_cons_of_mem _ (List.mem_cons_of_mem _ (List.mem_cons_of_mem _ (List.mem_cons_self ..)))))))).ok JVE.out.1 JVE.out.2.1 JVE.out.2.2
                    rw [HCE.out] at ck20
                    go_wp2_with (first
                      | (refine wpList_load_rowWd (by go_simp) 29 (.tmp 10) rfl qP rfl 29 (CV.row (⟨qP, uQ, AP, mQ, cP⟩ : CV)) (AV22.out _ (List.mem_cons_of_mem _ (List.mem_cons_of_mem _ (List.mem_cons_of_mem _ (List.mem_cons_of_mem _ (List.mem_cons_of_mem _ (List.mem_cons_self ..))))))).bk _ Try.underlying29 rfl INP.out ?_)
                      | (refine wpList_load_rowWd (by go_simp) 29 (.tmp 9) rfl q2 rfl 29 (CV.row (⟨q2, uc, A2', lc, c2'⟩ : CV)) (AV22.out _ (List.mem_cons_of_mem _ (List.mem_cons_of_mem _ (List.mem_cons_of_mem _ (List.mem_cons_of_mem _ (List.mem_cons_of_mem _ (List.mem_cons_of_mem _ (List.mem_cons_of_mem _ (List.mem_cons_of_mem _ (List.mem_cons_self ..)))))))))).bk _ Try.underlying29 rfl INZ.out ?_)
                      | (refine wpList_load_rowWd (by go_simp) 29 (.tmp 8) rfl q1 rfl 29 (CV.row (⟨q1, ub, A1', lb, c1'⟩ : CV)) (AV21.out _ (List.mem_cons_of_mem _ (List.mem_cons_of_mem _ (List.mem_cons_of_mem _ (List.mem_cons_of_mem _ (List.mem_cons_of_mem _ (List.mem_cons_of_mem _ (List.mem_cons_of_mem _ (List.mem_cons_self ..))))))))).bk _ Try.underlying29 rfl INY.out ?_)
                      | (refine wpList_load_rowWd (by go_simp) 29 (.tmp 9) rfl q2 rfl 29 (CV.row (⟨q2, uc, A2', lc, c2'⟩ : CV)) (AV21.out _ (List.mem_cons_of_mem _ (List.mem_cons_of_mem _ (List.mem_cons_of_mem _ (List.mem_cons_of_mem _ (List.mem_cons_of_mem _ (List.mem_cons_of_mem _ (List.mem_cons_of_mem _ (List.mem_cons_of_mem _ (List.mem_cons_self ..)))))))))).bk _ Try.underlying29 rfl INZ.out ?_)
                      | (refine wpList_load_rowWd (by go_simp) 29 (.tmp 7) rfl q0 rfl 29 (CV.row (⟨q0, ua, A0', la, c0'⟩ : CV)) (AV20.out _ (List.mem_cons_of_mem _ (List.mem_cons_of_mem _ (List.mem_cons_of_mem _ (List.mem_cons_of_mem _ (List.mem_cons_of_mem _ (List.mem_cons_of_mem _ (List.mem_cons_self ..)))))))).bk _ Try.underlying29 rfl INX.out ?_)
                      | (refine wpList_load_rowWd (by go_simp) 29 (.tmp 9) rfl q2 rfl 29 (CV.row (⟨q2, uc, A2', lc, c2'⟩ : CV)) (AV20.out _ (List.mem_cons_of_mem _ (List.mem_cons_of_mem _ (List.mem_cons_of_mem _ (List.mem_cons_of_mem _ (List.mem_cons_of_mem _ (List.mem_cons_of_mem _ (List.mem_cons_of_mem _ (List.mem_cons_of_mem _ (List.mem_cons_self ..)))))))))).bk _ Try.underlying29 rfl INZ.out ?_)
                      | (go_at_call 28; ((with_reducible refine ck20.mono ?_); clear ck20; rintro e w21_ ⟨rfl, hb⟩; have AV21 := hidd_ (AV20.out.below hb); have XW21 := hidd_ (XW20.out.trans (hb.mono HG20.out)); have HG21 := hidd_ (Nat.le_trans HG20.out hb.size); clear hb AV20 XW20 HG20; have ck21 := coversC w21_ (⟨q2, uc, A2', lc, c2'⟩ : CV) (⟨q1, ub, A1', lb, c1'⟩ : CV) (AV21.out _ (List.mem_cons_of_mem _ (List.mem_cons_of_mem _ (List.mem_cons_of_mem _ (List.mem_cons_of_mem _ (List.mem_cons_of_mem _ (List.mem_cons_of_mem _ (List.mem_cons_of_mem _ (List.mem_cons_of_mem _ (List.mem_cons_self ..)))))))))).ok (AV21.out _ (List.mem_cons_of_mem _ (List.mem_cons_of_mem _ (List.mem_cons_of_mem _ (List.mem_cons_of_mem _ (List.mem_cons_of_mem _ (List.mem_cons_of_mem _ (List.mem_cons_of_mem _ (List.mem_cons_self ..))))))))).ok JVF.out.1 JVF.out.2.1 JVF.out.2.2; rw [HCF.out] at ck21))
                      | (go_at_call 28; ((with_reducible refine ck21.mono ?_); clear ck21; rintro e w22_ ⟨rfl, hb⟩; have AV22 := hidd_ (AV21.out.below hb); have XW22 := hidd_ (XW21.out.trans (hb.mono HG21.out)); have HG22 := hidd_ (Nat.le_trans HG21.out hb.size); clear hb AV21 XW21 HG21; have ck22 := coversC w22_ (⟨q2, uc, A2', lc, c2'⟩ : CV) (⟨qP, uQ, AP, mQ, cP⟩ : CV) (AV22.out _ (List.mem_cons_of_mem _ (List.mem_cons_of_mem _ (List.mem_cons_of_mem _ (List.mem_cons_of_mem _ (List.mem_cons_of_mem _ (List.mem_cons_of_mem _ (List.mem_cons_of_mem _ (List.mem_cons_of_mem _ (List.mem_cons_self ..)))))))))).ok (AV22.out _ (List.mem_cons_of_mem _ (List.mem_cons_of_mem _ (List.mem_cons_of_mem _ (List.mem_cons_of_mem _ (List.mem_cons_of_mem _ (List.mem_cons_self ..))))))).ok JVH.out.1 JVH.out.2.1 JVH.out.2.2; rw [HCH.out] at ck22))
                      | (go_at_call 28; ((with_reducible refine ck22.mono ?_); clear ck22; rintro e w23_ ⟨rfl, hb⟩; have AV23 := hidd_ (AV22.out.below hb); have XW23 := hidd_ (XW22.out.trans (hb.mono HG22.out)); have HG23 := hidd_ (Nat.le_trans HG22.out hb.size); clear hb AV22 XW22 HG22)))
                    go_ret
                    exact ⟨by first | rfl | simp, by rw [HG.out]; exact XW23.out⟩
            · have br1 : (zR == 0) = false := by simpa using hr0
              have br2 : (zR != 0) = true := by simpa using hr0
              clear hr0
              go_wp2
              go_ret
              exact ⟨by first | rfl | simp, by rw [HG.out]; exact XW13.out⟩
          · have bp1 : (zQ == 0) = false := by simpa using hp0
            have bp2 : (zQ != 0) = true := by simpa using hp0
            clear hp0
            go_wp2
            go_ret
            exact ⟨by first | rfl | simp, by rw [HG.out]; exact XW10.out⟩
        · have bz1 : (ez == 0) = false := by simpa using hz0
          have bz2 : (ez != 0) = true := by simpa using hz0
          clear hz0
          have ck0 := dots_any wv
          go_wp2_with (first
            | (refine wpList_load_rowWd (by go_simp) 29 (.tmp 9) rfl q2 rfl 29 (CV.row (⟨q2, uc, A2', lc, c2'⟩ : CV)) (AV3.out _ (List.mem_cons_of_mem _ (List.mem_cons_of_mem _ (List.mem_cons_self ..)))).bk _ Try.underlying29 rfl INZ.out ?_)
            | (refine wpList_load_rowWd (by go_simp) 29 (.tmp 8) rfl q1 rfl 29 (CV.row (⟨q1, ub, A1', lb, c1'⟩ : CV)) (AV2.out _ (List.mem_cons_of_mem _ (List.mem_cons_self ..))).bk _ Try.underlying29 rfl INY.out ?_)
            | (refine wpList_load_rowWd (by go_simp) 29 (.tmp 7) rfl q0 rfl 29 (CV.row (⟨q0, ua, A0', la, c0'⟩ : CV)) (AV1.out _ (List.mem_cons_self ..)).bk _ Try.underlying29 rfl INX.out ?_)
            | (go_at_call 15; ((with_reducible refine ck0.mono ?_); clear ck0; rintro e w1_ ⟨rfl, hb⟩; have AV1 := hidd_ (AV0.out.below hb); have XW1 := hidd_ (XW0.out.trans (hb.mono HG0.out)); have HG1 := hidd_ (Nat.le_trans HG0.out hb.size); clear hb AV0 XW0 HG0; have ck1 := checkC w1_ (⟨q0, ua, A0', la, c0'⟩ : CV) (AV1.out _ (List.mem_cons_self ..)).ok; rw [show chk (CV.u (⟨q0, ua, A0', la, c0'⟩ : CV)) (CV.m (⟨q0, ua, A0', la, c0'⟩ : CV)) = 0 from HEX.out] at ck1))
            | (go_at_call 16; ((with_reducible refine ck1.mono ?_); clear ck1; rintro e w2_ ⟨rfl, hb⟩; have AV2 := hidd_ (AV1.out.below hb); have XW2 := hidd_ (XW1.out.trans (hb.mono HG1.out)); have HG2 := hidd_ (Nat.le_trans HG1.out hb.size); clear hb AV1 XW1 HG1; have ck2 := checkC w2_ (⟨q1, ub, A1', lb, c1'⟩ : CV) (AV2.out _ (List.mem_cons_of_mem _ (List.mem_cons_self ..))).ok; rw [show chk (CV.u (⟨q1, ub, A1', lb, c1'⟩ : CV)) (CV.m (⟨q1, ub, A1', lb, c1'⟩ : CV)) = 0 from HEY.out] at ck2))
            | (go_at_call 16; ((with_reducible refine ck2.mono ?_); clear ck2; rintro e w3_ ⟨rfl, hb⟩; have AV3 := hidd_ (AV2.out.below hb); have XW3 := hidd_ (XW2.out.trans (hb.mono HG2.out)); have HG3 := hidd_ (Nat.le_trans HG2.out hb.size); clear hb AV2 XW2 HG2; have ck3 := checkC w3_ (⟨q2, uc, A2', lc, c2'⟩ : CV) (AV3.out _ (List.mem_cons_of_mem _ (List.mem_cons_of_mem _ (List.mem_cons_self ..)))).ok; rw [show chk (CV.u (⟨q2, uc, A2', lc, c2'⟩ : CV)) (CV.m (⟨q2, uc, A2', lc, c2'⟩ : CV)) = ez from HEZ.out] at ck3))
            | (go_at_call 16; ((with_reducible refine ck3.mono ?_); clear ck3; rintro e w4_ ⟨rfl, hb⟩; have AV4 := hidd_ (AV3.out.below hb); have XW4 := hidd_ (XW3.out.trans (hb.mono HG3.out)); have HG4 := hidd_ (Nat.le_trans HG3.out hb.size); clear hb AV3 XW3 HG3; have ck4 := dots_any w4_))
            | (go_at_call 15; ((with_reducible refine ck4.mono ?_); clear ck4; rintro e w5_ ⟨rfl, hb⟩; have AV5 := hidd_ (AV4.out.below hb); have XW5 := hidd_ (XW4.out.trans (hb.mono HG4.out)); have HG5 := hidd_ (Nat.le_trans HG4.out hb.size); clear hb AV4 XW4 HG4)))
          go_ret
          exact ⟨by first | rfl | simp, by rw [HG.out]; exact XW5.out⟩
      · have by1 : (ey == 0) = false := by simpa using hy
        have by2 : (ey != 0) = true := by simpa using hy
        clear hy
        have ck0 := dots_any wv
        go_wp2_with (first
          | (refine wpList_load_rowWd (by go_simp) 29 (.tmp 8) rfl q1 rfl 29 (CV.row (⟨q1, ub, A1', lb, c1'⟩ : CV)) (AV2.out _ (List.mem_cons_of_mem _ (List.mem_cons_self ..))).bk _ Try.underlying29 rfl INY.out ?_)
          | (refine wpList_load_rowWd (by go_simp) 29 (.tmp 7) rfl q0 rfl 29 (CV.row (⟨q0, ua, A0', la, c0'⟩ : CV)) (AV1.out _ (List.mem_cons_self ..)).bk _ Try.underlying29 rfl INX.out ?_)
          | (go_at_call 15; ((with_reducible refine ck0.mono ?_); clear ck0; rintro e w1_ ⟨rfl, hb⟩; have AV1 := hidd_ (AV0.out.below hb); have XW1 := hidd_ (XW0.out.trans (hb.mono HG0.out)); have HG1 := hidd_ (Nat.le_trans HG0.out hb.size); clear hb AV0 XW0 HG0; have ck1 := checkC w1_ (⟨q0, ua, A0', la, c0'⟩ : CV) (AV1.out _ (List.mem_cons_self ..)).ok; rw [show chk (CV.u (⟨q0, ua, A0', la, c0'⟩ : CV)) (CV.m (⟨q0, ua, A0', la, c0'⟩ : CV)) = 0 from HEX.out] at ck1))
          | (go_at_call 16; ((with_reducible refine ck1.mono ?_); clear ck1; rintro e w2_ ⟨rfl, hb⟩; have AV2 := hidd_ (AV1.out.below hb); have XW2 := hidd_ (XW1.out.trans (hb.mono HG1.out)); have HG2 := hidd_ (Nat.le_trans HG1.out hb.size); clear hb AV1 XW1 HG1; have ck2 := checkC w2_ (⟨q1, ub, A1', lb, c1'⟩ : CV) (AV2.out _ (List.mem_cons_of_mem _ (List.mem_cons_self ..))).ok; rw [show chk (CV.u (⟨q1, ub, A1', lb, c1'⟩ : CV)) (CV.m (⟨q1, ub, A1', lb, c1'⟩ : CV)) = ey from HEY.out] at ck2))
          | (go_at_call 16; ((with_reducible refine ck2.mono ?_); clear ck2; rintro e w3_ ⟨rfl, hb⟩; have AV3 := hidd_ (AV2.out.below hb); have XW3 := hidd_ (XW2.out.trans (hb.mono HG2.out)); have HG3 := hidd_ (Nat.le_trans HG2.out hb.size); clear hb AV2 XW2 HG2; have ck3 := dots_any w3_))
          | (go_at_call 15; ((with_reducible refine ck3.mono ?_); clear ck3; rintro e w4_ ⟨rfl, hb⟩; have AV4 := hidd_ (AV3.out.below hb); have XW4 := hidd_ (XW3.out.trans (hb.mono HG3.out)); have HG4 := hidd_ (Nat.le_trans HG3.out hb.size); clear hb AV3 XW3 HG3)))
        go_ret
        exact ⟨by first | rfl | simp, by rw [HG.out]; exact XW4.out⟩
    · have bx1 : (ex == 0) = false := by simpa using hx
      have bx2 : (ex != 0) = true := by simpa using hx
      clear hx
      have ck0 := dots_any wv
      go_wp2_with (first
        | (refine wpList_load_rowWd (by go_simp) 29 (.tmp 7) rfl q0 rfl 29 (CV.row (⟨q0, ua, A0', la, c0'⟩ : CV)) (AV1.out _ (List.mem_cons_self ..)).bk _ Try.underlying29 rfl INX.out ?_)
        | (go_at_call 15; ((with_reducible refine ck0.mono ?_); clear ck0; rintro e w1_ ⟨rfl, hb⟩; have AV1 := hidd_ (AV0.out.below hb); have XW1 := hidd_ (XW0.out.trans (hb.mono HG0.out)); have HG1 := hidd_ (Nat.le_trans HG0.out hb.size); clear hb AV0 XW0 HG0; have ck1 := checkC w1_ (⟨q0, ua, A0', la, c0'⟩ : CV) (AV1.out _ (List.mem_cons_self ..)).ok; rw [show chk (CV.u (⟨q0, ua, A0', la, c0'⟩ : CV)) (CV.m (⟨q0, ua, A0', la, c0'⟩ : CV)) = ex from HEX.out] at ck1))
        | (go_at_call 16; ((with_reducible refine ck1.mono ?_); clear ck1; rintro e w2_ ⟨rfl, hb⟩; have AV2 := hidd_ (AV1.out.below hb); have XW2 := hidd_ (XW1.out.trans (hb.mono HG1.out)); have HG2 := hidd_ (Nat.le_trans HG1.out hb.size); clear hb AV1 XW1 HG1; have ck2 := dots_any w2_))
        | (go_at_call 15; ((with_reducible refine ck2.mono ?_); clear ck2; rintro e w3_ ⟨rfl, hb⟩; have AV3 := hidd_ (AV2.out.below hb); have XW3 := hidd_ (XW2.out.trans (hb.mono HG2.out)); have HG3 := hidd_ (Nat.le_trans HG2.out hb.size); clear hb AV2 XW2 HG2)))
      go_ret
      exact ⟨by first | rfl | simp, by rw [HG.out]; exact XW3.out⟩

set_option maxRecDepth 100000 in
theorem lifted (os : Os) (started : os.Started) (H : Type) (enc : TypeId × Value → H) :
    ReturnsInHanded {} Try.checked os 5 .any (Rows.dotUnionSpec.pre6 enc Try.prog Try.f5 Rows.dotUnionRow.domain false) (Rows.dotUnionSpec.post enc Try.prog Try.f5 false true false false) := by
  refine returnsInHanded_of_change (C := Try.checked) own_ started (by kernel_rfl) Try.func5
    (ChangeSpec.witness6 (enc := enc) (C := Try.checked) false ⟨#[], #[.agg (ctxRow [0, 0, 0, 0, 0, 0, 0, 0, 0, 0, 0, 0, 0, 0, 0, 0] none 0 0), .agg (ctxRow [0, 0, 0, 0, 0, 0, 0, 0, 0, 0, 0, 0, 0, 0, 0, 0] none 0 0), .agg (ctxRow [0, 0, 0, 0, 0, 0, 0, 0, 0, 0, 0, 0, 0, 0, 0, 0] none 0 0)], []⟩ 8 (by kernel_rfl) (by kernel_rfl) (by kernel_rfl) (by kernel_rfl)) ?_
  intro W base args ds gs before hval0 hW hcnd _
  have hval : ∀ (j : Nat) t v, Try.f5.params[j]? = some t → args[j]? = some v → Value.okWide Try.prog W .any base t v := hval0
  have hW' := hW
  obtain ⟨p, q, hA0, hV, rfl, hfz, hnd⟩ := hW
  have hA : DataW.TrodAll enc Try.prog W 0 (fun _ => true) true Try.f5.params.toList args.toList ds p := hA0
  rw [Try.params5] at hA hval
  obtain ⟨v0, vs0, d0, ds0, p0, q0, hargs, rfl, rfl, h0, r0⟩ := trodAll_cons hA
  obtain ⟨v1, vs1, d1, ds1, p1, q1, rfl, rfl, rfl, h1, r1⟩ := trodAll_cons r0
  obtain ⟨v2, vs2, d2, ds2, p2, q2, rfl, rfl, rfl, h2, r2⟩ := trodAll_cons r1
  obtain ⟨rfl, rfl, rfl⟩ := trodAll_nil r2
  obtain rfl : args = #[v0, v1, v2] := by cases args; simp_all
  obtain ⟨rfl, rfl⟩ := trodVars_none hV
  obtain ⟨up0, A0, l0, c0, rfl, hul0, hub0, hr0, hx0, hlc0, hcm0⟩ := open_ctx Try.underlying25 ⟨rfl, rfl⟩ ⟨rfl, rfl⟩ Try.underlying22 (by kernel_rfl) (by kernel_rfl) (by kernel_rfl) Try.underlying23 Try.underlying27 ⟨rfl, rfl⟩ ⟨rfl, rfl⟩ Try.underlying3 (by kernel_rfl) (by kernel_rfl) (hval 0 25 v0 rfl rfl) h0
  obtain ⟨up1, A1, l1, c1, rfl, hul1, hub1, hr1, hx1, hlc1, hcm1⟩ := open_ctx Try.underlying25 ⟨rfl, rfl⟩ ⟨rfl, rfl⟩ Try.underlying22 (by kernel_rfl) (by kernel_rfl) (by kernel_rfl) Try.underlying23 Try.underlying27 ⟨rfl, rfl⟩ ⟨rfl, rfl⟩ Try.underlying3 (by kernel_rfl) (by kernel_rfl) (hval 1 25 v1 rfl rfl) h1
  obtain ⟨up2, A2, l2, c2, rfl, hul2, hub2, hr2, hx2, hlc2, hcm2⟩ := open_ctx Try.underlying25 ⟨rfl, rfl⟩ ⟨rfl, rfl⟩ Try.underlying22 (by kernel_rfl) (by kernel_rfl) (by kernel_rfl) Try.underlying23 Try.underlying27 ⟨rfl, rfl⟩ ⟨rfl, rfl⟩ Try.underlying3 (by kernel_rfl) (by kernel_rfl) (hval 2 25 v2 rfl rfl) h2
  refine (walk W up0 hul0 A0 l0 c0 hlc0 (by unfold maxLen at hcm0; omega) hr0 up1 hul1 A1 l1 c1 hlc1 (by unfold maxLen at hcm1; omega) hr1 up2 hul2 A2 l2 c2 hlc2 (by unfold maxLen at hcm2; omega) hr2).mono fun e W' ⟨he, hg⟩ => ⟨_, he, ?_⟩
  exact law_post laidOut_ (of_decide_eq_true (by kernel_rfl)) rfl rfl Try.underlying4 rfl hW' hg

theorem over : Rows.dotUnionRow.holds Try.pinned (OpenSpec.ofChange Rows.dotUnionSpec) :=
  OpenClaim.holds_of_wide 5 Try.f5 rfl rfl rfl rfl rfl rfl rfl ⟨rfl, rfl, rfl, rfl, rfl⟩ rfl rfl rfl rfl rfl (by kernel_rfl) Try.func5 (by kernel_rfl)
    (of_decide_eq_true (by kernel_rfl)) (by unfold Func.isWrapper; first | (rw [if_pos (by decide +kernel)]; kernel_rfl) | (rw [if_neg (by decide +kernel)]; exact ⟨rfl, rfl⟩))
    (fun os started H enc _ => lifted os started H enc)

theorem proved : Rows.DotUnionSaid := over
#print axioms proved
end Go.Proofs.Ytjflmfmncepeeaa.dotUnion
