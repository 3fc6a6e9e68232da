/-
  Proved: for all two contexts and all dots DotJoins answers true: what comes of both is told, or why there is nothing; whether one covers the other, and whether they are the same. No condition.
-/
import Derived.Test.YtjflmfmncepeeaaLX
import Derived.Test.YtjflmfmncepeeaaJe
import Derived.Test.YtjflmfmncepeeaaJd
import Derived.BigQuiet
import Derived.Laws.Cover3
import Derived.LaidEqlPtr
namespace Go.Proofs.Ytjflmfmncepeeaa.dotJoins
open Go.ChangeShapes Go.WideShapes Go.ChangeAt Go.RowKit
set_option linter.unusedVariables false
set_option linter.unusedSimpArgs false

theorem orf_sh {a b c d : Nat} {x : Bool} (h : a = b ↔ c = d) : (decide (a = b) || x) = (decide (c = d) || x) := by rw [decide_eq_decide.2 h]
theorem orf_tt {a b : Nat} {x : Bool} (h : x = true) : (decide (a = b) || x) = true := by rw [h, Bool.or_true]

set_option maxRecDepth 100000 in
set_option maxHeartbeats 16000000 in
theorem walk (w : World) (ua : List Int) (hua : ua.length = 16) (Aa : Option Addr) (ma : List DotV) (ca : Nat) (hca : ma.length ≤ ca) (hca7 : ca ≤ 9223372036854775807) (hra : RdD w w.heap.size Aa ma)
    (ub : List Int) (hub : ub.length = 16) (Ab : Option Addr) (mb : List DotV) (cb : Nat) (hcb : mb.length ≤ cb) (hcb7 : cb ≤ 9223372036854775807) (hrb : RdD w w.heap.size Ab mb) (d : DotV) :
    Calls Try.prog 4 #[.agg (ctxRow ua Aa ma.length ca), .agg (ctxRow ub Ab mb.length cb), .agg d.row] w fun e w' => e = .returned (.bool true) ∧ Below w.heap.size w w' := by
  obtain ⟨g, hg⟩ : ∃ g, w.heap.size = g := ⟨_, rfl⟩
  obtain ⟨w0, hw0⟩ : ∃ w0, w.alloc (.cells (ctxRow ua Aa ma.length ca) 25) = w0 := ⟨_, rfl⟩
  obtain ⟨w1, hw1⟩ : ∃ w1, w0.alloc (.cells (ctxRow ub Ab mb.length cb) 25) = w1 := ⟨_, rfl⟩
  obtain ⟨w2, hw2⟩ : ∃ w2, w1.alloc (.cells d.row 27) = w2 := ⟨_, rfl⟩
  have A0 := show Bk w0 g 25 (ctxRow ua Aa ma.length ca) by rw [← hw0, ← hg]; exact Bk.new w _ _
  have X0 := show Below g w w0 by rw [← hw0, ← hg]; exact (Below.refl _ _).alloc (Nat.le_refl _) _
  have S0 : w0.heap.size = g + 1 := by rw [← hw0, ← hg]; simp
  have b1 : Below w0.heap.size w0 w1 := by rw [← hw1]; exact (Below.refl _ _).alloc (Nat.le_refl _) _
  have B1 := show Bk w1 (g + 1) 25 (ctxRow ub Ab mb.length cb) by rw [← S0, ← hw1]; exact Bk.new w0 _ _
  have S1 : w1.heap.size = g + 2 := by rw [← hw1]; simp [S0]
  have b2 : Below w1.heap.size w1 w2 := by rw [← hw2]; exact (Below.refl _ _).alloc (Nat.le_refl _) _
  have C2 := hidd_ (show Bk w2 (g + 2) 27 d.row by rw [← S1, ← hw2]; exact Bk.new w1 _ _)
  have S2 : w2.heap.size = g + 3 := by rw [← hw2]; simp [S1]
  have B2 := hidd_ (B1.below b2 B1.lt)
  have A2 := hidd_ ((A0.below b1 A0.lt).below b2 (A0.below b1 A0.lt).lt)
  have X2 := hidd_ ((X0.trans (b1.mono (by omega))).trans (b2.mono (by omega)))
  rw [hg] at hra hrb
  have RA := hidd_ (fun W (h : Below g w W) => (hra.below h).more (show g ≤ W.heap.size by have := h.size; omega))
  have RB := hidd_ (fun W (h : Below g w W) => (hrb.below h).more (show g ≤ W.heap.size by have := h.size; omega))
  have hz := zX_
  have hzr := zRX_
  have IR := hidd_ (fun (u : List Int) (hu : u.length = 16) A n c => (show (Try.prog.info? 25).map (·.size) = some (ctxRow u A n c).size by rw [ctxRow_size u A n c hu]; exact iRX_))
  have ID := hidd_ (show (Try.prog.info? 27).map (·.size) = some d.row.size from iD_)
  have HUA := hidd_ hua
  have HUB := hidd_ hub
  have HCA := hidd_ (And.intro hca hca7)
  have HCB := hidd_ (And.intro hcb hcb7)
  have HG := hidd_ hg
  have HS := hidd_ S2
  obtain ⟨la, hla⟩ : ∃ l, ma.take 40 = l := ⟨_, rfl⟩
  obtain ⟨lb, hlb⟩ : ∃ l, mb.take 40 = l := ⟨_, rfl⟩
  have LA := hidd_ (show la.length ≤ 40 by rw [← hla, List.length_take]; omega)
  have LB := hidd_ (show lb.length ≤ 40 by rw [← hlb, List.length_take]; omega)
  have HLA := hidd_ (show min ma.length 40 = la.length by rw [← hla, List.length_take, Nat.min_comm])
  have HLB := hidd_ (show min mb.length 40 = lb.length by rw [← hlb, List.length_take, Nat.min_comm])
  have HTA := hidd_ hla
  have HTB := hidd_ hlb
  have TW0 : TwJ w g d (ctxRow ua Aa ma.length ca) (ctxRow ub Ab mb.length cb) (fun _ => false) undef undef w2 := ⟨X2.out, C2.out, ⟨_, A2.out, ctxRow_size _ _ _ _ hua, fun _ => rfl, fun e => Bool.noConfusion e⟩, ⟨_, B2.out, ctxRow_size _ _ _ _ hub, fun _ => rfl, fun e => Bool.noConfusion e⟩, fun e => Bool.noConfusion e, fun e => Bool.noConfusion e, fun e => Bool.noConfusion e, fun e => Bool.noConfusion e⟩
  have TW := hidd_ TW0
  go_enter Try.func4, Try.ntmps4
  go_upto_region 1 with fail
  clear hw0 hw1 hw2 hua hub hra hrb hca hcb hca7 hcb7 hla hlb A0 X0 S0 S1 S2 b1 b2 B1 hg TW0 A2 B2 C2 X2
  refine region_byJF [17, 18, 19, 20] (fun _ => True) VsT (TwR (ctxRow ua Aa ma.length ca) (ctxRow ub Ab mb.length cb) ua ub la lb) (fun L a W => TwJ w g d (ctxRow ua Aa ma.length ca) (ctxRow ub Ab mb.length cb) L (a.tmps.getD 18 undef) (a.tmps.getD 20 undef) W) (by kernel_rfl) (by kernel_rfl) (by kernel_rfl) (by kernel_rfl) (fun j v w w' hT hr => TwR.keep j v w w' hT hr) (fun j v w hlt hj _ => ?_) trivial ?_ ?_ ?_
  · rcases j with _ | _ | _ | _ | _ | _ | j
    all_goals first
      | (exfalso; simp [dstOf] at hj; done)
      | trivial
  · refine ⟨fun D a W hC hd hsz hf hv hJ hL hW K hK => ?_, fun D a W hC hd hsz hf hv hJ hL hW K hK => ?_, fun D a W hC hd hsz hf hv hJ hL hW K hK => ?_, fun D a W hC hd hsz hf hv hJ hL hW K hK => ?_, fun D a W hC hd hsz hf hv hJ hL hW K hK => ?_, fun D a W hC hd hsz hf hv hJ hL hW K hK => ?_, trivial⟩
    · have HSZ : a.tmps.size = 102 := hsz
      have e1 := eval_of (a := a) (s := 3) (v := .pointer (some ⟨g, 0, none⟩)) (hf 3 (by kernel_rfl))
      have KW := hJ.a0 hL
      refine step_load_sub (wanted_none rfl) 25 _ rfl (g) 0 e1 (ctxRow ua Aa ma.length ca) (fun j _ => by rw [Nat.zero_add]; exact KW.cell j) _ Try.underlying25 rfl (IR.out _ HUA.out _ _ _) (hK _ _ trivial (.inl (Below.refl _ _)) rfl (hJ.op (Below.refl _ _) 0 (by omega) hL (by omega) (by omega) (fun _ => put_other (by decide)) (fun _ => put_other (by decide))))
    · have HSZ : a.tmps.size = 102 := hsz
      have e1 := slot_of (a := a) (s := 17) (v := .agg (ctxRow ua Aa ma.length ca)) (hv 0 (by kernel_rfl))
      have hrd : RdD W W.heap.size Aa ma := RA.out W hJ.x
      have h0 := hW 0 (by kernel_rfl)
      refine step_callx 9 #[.agg (ctxRow ua Aa ma.length ca)] (wanted_none rfl) (w' := W) ?_ ((tame_t W ua HUA.out Aa _ ca ma rfl HCA.out.1 HCA.out.2 hrd).mono ?_)
      · clear hsz HSZ hrd
        go_simp
      · rintro e W' ⟨A', c', rfl, h1, h2, h3, h4, h5, h6⟩
        rw [HTA.out] at h1 h6
        rw [HLA.out] at h2 ⊢
        exact ⟨_, rfl, hK _ _ trivial (.inl h4) ⟨A', c', rfl, h1, h6, h2, h3⟩ (hJ.op h4 1 (by omega) hL (fun _ => h0) (by omega) (fun e => absurd rfl e) (fun _ => put_other (by decide)))⟩
    · have HSZ : a.tmps.size = 102 := hsz
      have e1 := eval_of (a := a) (s := 4) (v := .pointer (some ⟨g + 1, 0, none⟩)) (hf 4 (by kernel_rfl))
      have KW := hJ.b0 hL
      refine step_load_sub (wanted_none rfl) 25 _ rfl (g + 1) 0 e1 (ctxRow ub Ab mb.length cb) (fun j _ => by rw [Nat.zero_add]; exact KW.cell j) _ Try.underlying25 rfl (IR.out _ HUB.out _ _ _) (hK _ _ trivial (.inl (Below.refl _ _)) rfl (hJ.op (Below.refl _ _) 2 (by omega) hL (by omega) (by omega) (fun _ => put_other (by decide)) (fun _ => put_other (by decide))))
    · have HSZ : a.tmps.size = 102 := hsz
      have e1 := slot_of (a := a) (s := 19) (v := .agg (ctxRow ub Ab mb.length cb)) (hv 2 (by kernel_rfl))
      have hrd : RdD W W.heap.size Ab mb := RB.out W hJ.x
      have h0 := hW 2 (by kernel_rfl)
      refine step_callx 9 #[.agg (ctxRow ub Ab mb.length cb)] (wanted_none rfl) (w' := W) ?_ ((tame_t W ub HUB.out Ab _ cb mb rfl HCB.out.1 HCB.out.2 hrd).mono ?_)
      · clear hsz HSZ hrd
        go_simp
      · rintro e W' ⟨A', c', rfl, h1, h2, h3, h4, h5, h6⟩
        rw [HTB.out] at h1 h6
        rw [HLB.out] at h2 ⊢
        exact ⟨_, rfl, hK _ _ trivial (.inl h4) ⟨A', c', rfl, h1, h6, h2, h3⟩ (hJ.op h4 3 (by omega) hL (by omega) (fun _ => h0) (fun _ => put_other (by decide)) (fun e => absurd rfl e))⟩
    · have HSZ : a.tmps.size = 102 := hsz
      obtain ⟨A', c', hq, h1, h2, h3, h4⟩ : HasCtx ua la (a.tmps.getD 18 undef) W := hv 1 (by kernel_rfl)
      have hd1 := hW 1 (by kernel_rfl)
      have e1 := eval_of (a := a) (s := 3) (v := .pointer (some ⟨g, 0, none⟩)) (hf 3 (by kernel_rfl))
      have e2 := eval_of hq
      obtain ⟨X, x1, x2, x3, x4⟩ := hJ.ka
      refine step_put_row rfl 25 _ _ rfl (g) (ctxRow ua A' la.length c') e1 e2 25 X x1 (IR.out _ HUA.out _ _ _) (by rw [x2, ctxRow_size _ _ _ _ HUA.out]) (ctxRow_one _ _ _ _) ?_
      intro W' k9 g9 s9
      exact hK _ _ trivial (.inr ⟨_, _, x1, g9⟩) trivial (by rw [put_none]; exact hJ.st4 hd1 hq (ctxRow_size _ _ _ _ HUA.out) g9 k9)
    · have HSZ : a.tmps.size = 102 := hsz
      obtain ⟨A', c', hq, h1, h2, h3, h4⟩ : HasCtx ub lb (a.tmps.getD 20 undef) W := hv 3 (by kernel_rfl)
      have hd1 := hW 3 (by kernel_rfl)
      have e1 := eval_of (a := a) (s := 4) (v := .pointer (some ⟨g + 1, 0, none⟩)) (hf 4 (by kernel_rfl))
      have e2 := eval_of hq
      obtain ⟨X, x1, x2, x3, x4⟩ := hJ.kb
      refine step_put_row rfl 25 _ _ rfl (g + 1) (ctxRow ub A' lb.length c') e1 e2 25 X x1 (IR.out _ HUB.out _ _ _) (by rw [x2, ctxRow_size _ _ _ _ HUB.out]) (ctxRow_one _ _ _ _) ?_
      intro W' k9 g9 s9
      exact hK _ _ trivial (.inr ⟨_, _, x1, g9⟩) trivial (by rw [put_none]; exact hJ.st5 hd1 hq (ctxRow_size _ _ _ _ HUB.out) g9 k9)
  · have h := TW.out
    exact h.reslot
  · intro f W hC hv L hL hJ'
    obtain ⟨aE, hJ, hfr⟩ := hJ'
    obtain ⟨X0, x01, x02, x03, x04⟩ := hJ.ka
    obtain ⟨A0', c0', h00, h01, h04, h02, h03⟩ : HasCtx ua la (f 18) W := hv 1 (by decide)
    have hr0 : X0 = ctxRow ua A0' la.length c0' := by have := ((hfr 18).trans h00).symm.trans (x04 (hL 4 (by decide))); injection this with this; exact this.symm
    rw [hr0] at x01
    obtain ⟨X1, x11, x12, x13, x14⟩ := hJ.kb
    obtain ⟨A1', c1', h10, h11, h14, h12, h13⟩ : HasCtx ub lb (f 20) W := hv 3 (by decide)
    have hr1 : X1 = ctxRow ub A1' lb.length c1' := by have := ((hfr 20).trans h10).symm.trans (x14 (hL 5 (by decide))); injection this with this; exact this.symm
    rw [hr1] at x11
    have K0 := hidd_ (show DjW w g ⟨g, ua, A0', la, c0'⟩ ⟨g + 1, ub, A1', lb, c1'⟩ d [] [] W from ⟨x01, x11, hJ.kd, ⟨h01, h02, h03, HUA.out, by have := LA.out; simp only; omega⟩, ⟨h11, h12, h13, HUB.out, by have := LB.out; simp only; omega⟩, fun _ h => (by cases h), fun _ h => (by cases h), hJ.x⟩)
    obtain ⟨QA, hQA⟩ : ∃ Q : CV, (⟨g, ua, A0', la, c0'⟩ : CV) = Q := ⟨_, rfl⟩
    obtain ⟨QB, hQB⟩ : ∃ Q : CV, (⟨g + 1, ub, A1', lb, c1'⟩ : CV) = Q := ⟨_, rfl⟩
    have QAU := hidd_ (show QA.u = ua ∧ QA.m = la by rw [← hQA]; exact ⟨rfl, rfl⟩)
    have QBU := hidd_ (show QB.u = ub ∧ QB.m = lb by rw [← hQB]; exact ⟨rfl, rfl⟩)
    rw [hQA, hQB] at K0
    simp only [framed, List.foldl_cons, List.foldl_nil, List.setIfInBounds_toArray, List.set_cons_succ, List.set_cons_zero]
    clear hv hC hJ hfr hL x01 x11 x02 x12 x03 x13 x04 x14 h00 h01 h02 h03 h04 h10 h11 h12 h13 h14 hr0 hr1 hQA hQB
    obtain ⟨wt, hwt⟩ : ∃ x, x = W := ⟨_, rfl⟩
    subst hwt
    rename_i K hK
    refine hK _ _ ?_
    go_upto_region 2 with fail
    refine region_byJF [21, 22, 23, 24, 7, 8] (fun W => Below wt.heap.size wt W) VrT (TwR QA.row QB.row QA.u QB.u QA.m QB.m) (fun L a W => VnJ 2 wt.heap.size (fun i => L (4 + i)) (fun i => L (6 + i)) (fun i => L (1 + 2 * i)) (fun i => a.tmps.getD (7 + i) undef) (fun i => a.tmps.getD (22 + 2 * i) undef) W) (by kernel_rfl) (by kernel_rfl) (by kernel_rfl) (by kernel_rfl) (fun j v w w' hT hr => TwR.keepV j v w w' hT hr) (fun j v w hlt hj _ => ?_) ((Below.refl _ _).drew) ?_ (VnJ.start (fun _ _ => rfl) (fun _ _ => rfl)) ?_
    · rcases j with _ | _ | _ | _ | _ | _ | _ | _ | j
      all_goals first
        | (exfalso; simp [dstOf] at hj; done)
        | trivial
    · refine ⟨fun D a W hC hd hsz hf hv hJ hL hW K hK => ?_, fun D a W hC hd hsz hf hv hJ hL hW K hK => ?_, fun D a W hC hd hsz hf hv hJ hL hW K hK => ?_, fun D a W hC hd hsz hf hv hJ hL hW K hK => ?_, fun D a W hC hd hsz hf hv hJ hL hW K hK => ?_, fun D a W hC hd hsz hf hv hJ hL hW K hK => ?_, fun D a W hC hd hsz hf hv hJ hL hW K hK => ?_, fun D a W hC hd hsz hf hv hJ hL hW K hK => ?_, trivial⟩
      · have HSZ : a.tmps.size = 102 := hsz
        have e1 := eval_of (a := a) (s := 3) (v := .pointer (some ⟨g, 0, none⟩)) (hf 3 (by kernel_rfl))
        have KW := K0.out.ka.below hC K0.out.ka.lt
        refine step_load_sub (wanted_none rfl) 25 _ rfl (g) 0 e1 QA.row (fun j _ => by rw [Nat.zero_add]; exact KW.cell j) _ Try.underlying25 rfl (QA.infoR K0.out.oka.up) (hK _ _ hC (.inl (Below.refl _ _)) rfl (VnJ.step hJ (fun i hi => ⟨orf_ne (by omega), orf_ne (by omega), put_other (by omega), fun _ => put_other (by omega), fun e => orf_tt e⟩) (Below.refl _ _)))
      · have HSZ : a.tmps.size = 102 := hsz
        have e1 := slot_of (a := a) (s := 21) (v := .agg QA.row) (hv 0 (by kernel_rfl))
        have ok := K0.out.oka.below hC
        refine step_callx 10 #[.agg QA.row] (wanted_none rfl) (w' := W) ?_ ((to_t W QA.u ok.up QA.A _ QA.c QA.m rfl (by have := ok.few; omega) ok.len ok.cap ok.rd).mono ?_)
        · clear hsz HSZ ok
          go_simp
        · rintro e W' ⟨A3, c3, rfl, k1, k2, k3, k4, k5⟩
          exact ⟨_, rfl, hK _ _ (hC.trans (k4.mono hC.size)) (.inl k4) ⟨A3, c3, rfl, k1, k5, k2, k3⟩ (VnJ.step hJ (fun i hi => ⟨orf_ne (by omega), orf_ne (by omega), put_other (by omega), fun e => put_other (fun e2 => by have e3 : i = 0 := (by omega); subst e3; have e4 := (hJ.hs 0 (by omega) e).2; exact absurd (show D 1 = true from e4) (by rw [hL]; simp)), fun e => orf_tt e⟩) k4)⟩
      · have HSZ : a.tmps.size = 102 := hsz
        have e1 := eval_of (a := a) (s := 4) (v := .pointer (some ⟨g + 1, 0, none⟩)) (hf 4 (by kernel_rfl))
        have KW := K0.out.kb.below hC K0.out.kb.lt
        refine step_load_sub (wanted_none rfl) 25 _ rfl (g + 1) 0 e1 QB.row (fun j _ => by rw [Nat.zero_add]; exact KW.cell j) _ Try.underlying25 rfl (QB.infoR K0.out.okb.up) (hK _ _ hC (.inl (Below.refl _ _)) rfl (VnJ.step hJ (fun i hi => ⟨orf_ne (by omega), orf_ne (by omega), put_other (by omega), fun _ => put_other (by omega), fun e => orf_tt e⟩) (Below.refl _ _)))
      · have HSZ : a.tmps.size = 102 := hsz
        have e1 := slot_of (a := a) (s := 23) (v := .agg QB.row) (hv 2 (by kernel_rfl))
        have ok := K0.out.okb.below hC
        refine step_callx 10 #[.agg QB.row] (wanted_none rfl) (w' := W) ?_ ((to_t W QB.u ok.up QB.A _ QB.c QB.m rfl (by have := ok.few; omega) ok.len ok.cap ok.rd).mono ?_)
        · clear hsz HSZ ok
          go_simp
        · rintro e W' ⟨A3, c3, rfl, k1, k2, k3, k4, k5⟩
          exact ⟨_, rfl, hK _ _ (hC.trans (k4.mono hC.size)) (.inl k4) ⟨A3, c3, rfl, k1, k5, k2, k3⟩ (VnJ.step hJ (fun i hi => ⟨orf_ne (by omega), orf_ne (by omega), put_other (by omega), fun e => put_other (fun e2 => by have e3 : i = 1 := (by omega); subst e3; have e4 := (hJ.hs 1 (by omega) e).2; exact absurd (show D 3 = true from e4) (by rw [hL]; simp)), fun e => orf_tt e⟩) k4)⟩
      · have HSZ : a.tmps.size = 102 := hsz
        have hbl : Below W.heap.size W (W.alloc (.cells (ctxRow (List.replicate 16 0) none 0 0) 29)) := (Below.refl _ _).alloc (Nat.le_refl _) _
        have hBW : wt.heap.size ≤ W.heap.size := hC.size
        refine step_run (wanted_none rfl) (v := .pointer (some ⟨W.heap.size, 0, none⟩)) (w' := W.alloc (.cells (ctxRow (List.replicate 16 0) none 0 0) 29)) ?_ (hK _ _ (hC.trans (hbl.mono hBW)) (.inl hbl) trivial (VnJ.alloc hJ 0 (by omega) hL hBW (ctxRow_size _ _ _ _ (by simp)) (fun i hi => ⟨orf_sh (by omega), orf_ne (by omega), by simp only []; split; (rename_i e; subst e; exact put_self (by rw [HSZ]; omega)); (rename_i e; exact put_other (by omega)), put_other (by omega), orf_ne (by omega)⟩)))
        clear hsz HSZ hbl hBW
        go_simp
      · have HSZ : a.tmps.size = 102 := hsz
        have hbl : Below W.heap.size W (W.alloc (.cells (ctxRow (List.replicate 16 0) none 0 0) 29)) := (Below.refl _ _).alloc (Nat.le_refl _) _
        have hBW : wt.heap.size ≤ W.heap.size := hC.size
        refine step_run (wanted_none rfl) (v := .pointer (some ⟨W.heap.size, 0, none⟩)) (w' := W.alloc (.cells (ctxRow (List.replicate 16 0) none 0 0) 29)) ?_ (hK _ _ (hC.trans (hbl.mono hBW)) (.inl hbl) trivial (VnJ.alloc hJ 1 (by omega) hL hBW (ctxRow_size _ _ _ _ (by simp)) (fun i hi => ⟨orf_sh (by omega), orf_ne (by omega), by simp only []; split; (rename_i e; subst e; exact put_self (by rw [HSZ]; omega)); (rename_i e; exact put_other (by omega)), put_other (by omega), orf_ne (by omega)⟩)))
        clear hsz HSZ hbl hBW
        go_simp
      · have HSZ : a.tmps.size = 102 := hsz
        obtain ⟨A', c', hq, h1, h2, h3, h4⟩ : HasCtx QA.u QA.m (a.tmps.getD 22 undef) W := hv 1 (by kernel_rfl)
        have hal := hW 4 (by kernel_rfl)
        have hto := hW 1 (by kernel_rfl)
        obtain ⟨_, qq, X, g1, g2⟩ := id hJ
        obtain ⟨j1, j2, j3, j4, _⟩ := g1 0 (by omega) hal
        have e1 := eval_of (s := 7) j1
        have e2 := eval_of hq
        have IV : (Try.prog.info? 29).map (·.size) = some (ctxRow QA.u A' QA.m.length c').size := by rw [ctxRow_size _ _ _ _ K0.out.oka.up]; exact iX_
        refine step_put_row rfl 29 _ _ rfl (qq 0) (ctxRow QA.u A' QA.m.length c') e1 e2 29 (X 0) j3 IV (by rw [j4, ctxRow_size _ _ _ _ K0.out.oka.up]) (ctxRow_one _ _ _ _) ?_
        intro W' k9 g9 s9
        exact hK _ _ (hC.grown g9 hC.size (fun k hk => by injection hk with hk; omega)) (.inr ⟨_, _, j3, g9⟩) trivial (by rw [put_none]; exact VnJ.store hJ 0 (by omega) hal hto j1 hq (ctxRow_size _ _ _ _ K0.out.oka.up) g9 k9 (fun i hi => ⟨orf_ne (by omega), orf_sh (by omega), rfl, rfl, orf_ne (by omega)⟩))
      · have HSZ : a.tmps.size = 102 := hsz
        obtain ⟨A', c', hq, h1, h2, h3, h4⟩ : HasCtx QB.u QB.m (a.tmps.getD 24 undef) W := hv 3 (by kernel_rfl)
        have hal := hW 5 (by kernel_rfl)
        have hto := hW 3 (by kernel_rfl)
        obtain ⟨_, qq, X, g1, g2⟩ := id hJ
        obtain ⟨j1, j2, j3, j4, _⟩ := g1 1 (by omega) hal
        have e1 := eval_of (s := 8) j1
        have e2 := eval_of hq
        have IV : (Try.prog.info? 29).map (·.size) = some (ctxRow QB.u A' QB.m.length c').size := by rw [ctxRow_size _ _ _ _ K0.out.okb.up]; exact iX_
        refine step_put_row rfl 29 _ _ rfl (qq 1) (ctxRow QB.u A' QB.m.length c') e1 e2 29 (X 1) j3 IV (by rw [j4, ctxRow_size _ _ _ _ K0.out.okb.up]) (ctxRow_one _ _ _ _) ?_
        intro W' k9 g9 s9
        exact hK _ _ (hC.grown g9 hC.size (fun k hk => by injection hk with hk; omega)) (.inr ⟨_, _, j3, g9⟩) trivial (by rw [put_none]; exact VnJ.store hJ 1 (by omega) hal hto j1 hq (ctxRow_size _ _ _ _ K0.out.okb.up) g9 k9 (fun i hi => ⟨orf_ne (by omega), orf_sh (by omega), rfl, rfl, orf_ne (by omega)⟩))
    · intro f W hC hv L hL hJ'
      obtain ⟨aE, hJ, hfr⟩ := hJ'
      obtain ⟨q0, R0, a01, a02, a03, a04⟩ := VnJ.end_ hJ 0 (by omega) (hL 6 (by decide))
      obtain ⟨A0', c0', h00, h01, h04, h02, h03⟩ : HasCtx QA.u QA.m (f 22) W := hv 1 (by decide)
      have hr0 : R0 = ctxRow QA.u A0' QA.m.length c0' := by have := ((hfr 22).trans h00).symm.trans a03; injection this with this; exact this.symm
      rw [hr0] at a04
      obtain ⟨X, hf0, hat0, hum0⟩ : ∃ V : CV, f 7 = .pointer (some ⟨V.p, 0, none⟩) ∧ V.at W ∧ V.u = QA.u ∧ V.m = QA.m := ⟨⟨q0, QA.u, A0', QA.m, c0'⟩, by rw [← hfr 7]; exact a01, ⟨a04, ⟨h01, h02, h03, K0.out.oka.up, K0.out.oka.few⟩⟩, rfl, rfl⟩
      obtain ⟨q1, R1, a11, a12, a13, a14⟩ := VnJ.end_ hJ 1 (by omega) (hL 7 (by decide))
      obtain ⟨A1', c1', h10, h11, h14, h12, h13⟩ : HasCtx QB.u QB.m (f 24) W := hv 3 (by decide)
      have hr1 : R1 = ctxRow QB.u A1' QB.m.length c1' := by have := ((hfr 24).trans h10).symm.trans a13; injection this with this; exact this.symm
      rw [hr1] at a14
      obtain ⟨Y, hf1, hat1, hum1⟩ : ∃ V : CV, f 8 = .pointer (some ⟨V.p, 0, none⟩) ∧ V.at W ∧ V.u = QB.u ∧ V.m = QB.m := ⟨⟨q1, QB.u, A1', QB.m, c1'⟩, by rw [← hfr 8]; exact a11, ⟨a14, ⟨h11, h12, h13, K0.out.okb.up, K0.out.okb.few⟩⟩, rfl, rfl⟩
      have K1 := hidd_ (K0.out.below hC)
      have S2 := hidd_ (show DjW w g QA QB d [X, Y] [] W from ⟨K1.out.ka, K1.out.kb, K1.out.kd, K1.out.oka, K1.out.okb, (AllV.cons (AllV.cons (fun _ h => (by cases h)) hat1) hat0), K1.out.r, K1.out.x⟩)
      have XUM := hidd_ hum0
      have YUM := hidd_ hum1
      simp only [framed, List.foldl_cons, List.foldl_nil, List.setIfInBounds_toArray, List.set_cons_succ, List.set_cons_zero, hf0, hf1]
      clear hv hC hJ hfr hL a01 a02 a03 a04 a11 a12 a13 a14 h00 h01 h02 h03 h04 h10 h11 h12 h13 h14 hr0 hr1 hf0 hf1 hat0 hat1 hum0 hum1 K0 K1
      obtain ⟨wv, hwv⟩ : ∃ x, x = W := ⟨_, rfl⟩
      subst hwv
      rename_i K hK
      refine hK _ _ ?_
      obtain ⟨u, m, z, jv, ul, ml⟩ := joinV_ex QA.u S2.out.oka.up QA.m QB.u S2.out.okb.up QB.m
      obtain ⟨u2, m2, z2, av⟩ := addV_ex QA.u S2.out.oka.up QA.m d
      have JVQ := hidd_ jv
      have JVX := hidd_ (show JoinV X.u X.m Y.u Y.m u m z by rw [XUM.out.1, XUM.out.2, YUM.out.1, YUM.out.2]; exact jv)
      have AVQ := hidd_ av
      have AVX := hidd_ (show AddV X.u X.m d u2 m2 z2 by rw [XUM.out.1, XUM.out.2]; exact av)
      have UL := hidd_ ul
      have ML := hidd_ ml
      obtain ⟨ul2, ml2⟩ := addV_len S2.out.oka.up S2.out.oka.few av
      have UL2 := hidd_ ul2
      have ML2 := hidd_ ml2
      clear jv ul ml av ul2 ml2
      have ck := joinC wv X Y (S2.out.v _ (List.mem_cons_self ..)).ok (S2.out.v _ (List.mem_cons_of_mem _ (List.mem_cons_self ..))).ok JVX.out
      go_upto_region 4 with (first
        | (refine wpList_load_row rfl 29 (.tmp 7) rfl X.p rfl 29 X.row (0, 0) _ (S2.out.v _ (List.mem_cons_self ..)).bk Try.underlying29 rfl (X.info (S2.out.v _ (List.mem_cons_self ..)).ok.up) ?_)
        | (refine wpList_load_row rfl 29 (.tmp 8) rfl Y.p rfl 29 Y.row (0, 0) _ (S2.out.v _ (List.mem_cons_of_mem _ (List.mem_cons_self ..))).bk Try.underlying29 rfl (Y.info (S2.out.v _ (List.mem_cons_of_mem _ (List.mem_cons_self ..))).ok.up) ?_)
        | (go_at_call 24; ((with_reducible refine ck.mono ?_); clear ck; rintro e wa3 ⟨A', c', rfl, h1, h2, h3, h4, hb⟩; unfold TwoX; have SA := hidd_ (S2.out.below hb); have RDa := hidd_ h1; have CPa := hidd_ (And.intro h3 h4); clear h1 h2 h3 h4 hb))
        | (refine wpList_put_row rfl 29 _ _ rfl wa3.heap.size (ctxRow u A' m.length c') rfl rfl 29 (ctxRow (List.replicate 16 0) none 0 0) (Bk.new wa3 _ _) (by rw [ctxRow_size _ _ _ _ UL.out]; exact iX_) (by rw [ctxRow_size _ _ _ _ UL.out]; rfl) (ctxRow_one _ _ _ _) ?_; intro wb3 k2 g2 s2; have hb := (((Below.refl wa3.heap.size wa3).alloc (Nat.le_refl _) (.cells (ctxRow (List.replicate 16 0) none 0 0) 29)).grown g2 (by simp) (fun k hk => by injection hk with hk; omega)); have SB := hidd_ (SA.out.below hb); have RDb := hidd_ ((RDa.out.below hb).more hb.size); have KP := hidd_ k2; clear k2 g2 s2 hb))
      try rw [put_none]
      clear SA RDa S2
      generalize wa3.heap.size = jj at *
      obtain ⟨J, hJJ⟩ : ∃ V : CV, V = ⟨jj, u, A', m, c'⟩ := ⟨_, rfl⟩
      have S3 := hidd_ (show DjW w g QA QB d [J, X, Y] [] wb3 from ⟨SB.out.ka, SB.out.kb, SB.out.kd, SB.out.oka, SB.out.okb, SB.out.v.cons (by rw [hJJ]; exact ⟨KP.out, ⟨RDb.out, CPa.out.1, CPa.out.2, UL.out, by have := ML.out; simp only; omega⟩⟩), SB.out.r, SB.out.x⟩)
      have JUM := hidd_ (show J.u = u ∧ J.m = m by rw [hJJ]; exact ⟨rfl, rfl⟩)
      have hjp : jj = J.p := by rw [hJJ]
      clear hJJ KP RDb CPa SB
      subst hjp
      have ck := refJoinC wb3 QA QB S3.out.oka S3.out.okb JVQ.out
      go_upto_region 5 with (first
        | (refine wpList_load_row rfl 25 (.tmp 3) rfl g rfl 25 QA.row (0, 0) _ S3.out.ka Try.underlying25 rfl (QA.infoR S3.out.oka.up) ?_)
        | (refine wpList_load_row rfl 25 (.tmp 4) rfl (g + 1) rfl 25 QB.row (0, 0) _ S3.out.kb Try.underlying25 rfl (QB.infoR S3.out.okb.up) ?_)
        | (go_at_call 25; ((with_reducible refine ck.mono ?_); clear ck; rintro e wa4 ⟨A', c', rfl, h1, h2, h3, h4, hb⟩; unfold TwoX; have SA := hidd_ (S3.out.below hb); have RDa := hidd_ h1; have CPa := hidd_ (And.intro h3 h4); clear h1 h2 h3 h4 hb))
        | (refine wpList_put_row rfl 25 _ _ rfl wa4.heap.size (ctxRow u A' m.length c') rfl rfl 25 (ctxRow (List.replicate 16 0) none 0 0) (Bk.new wa4 _ _) (by rw [ctxRow_size _ _ _ _ UL.out]; exact iRX_) (by rw [ctxRow_size _ _ _ _ UL.out]; rfl) (ctxRow_one _ _ _ _) ?_; intro wb4 k2 g2 s2; have hb := (((Below.refl wa4.heap.size wa4).alloc (Nat.le_refl _) (.cells (ctxRow (List.replicate 16 0) none 0 0) 25)).grown g2 (by simp) (fun k hk => by injection hk with hk; omega)); have SB := hidd_ (SA.out.below hb); have RDb := hidd_ ((RDa.out.below hb).more hb.size); have KP := hidd_ k2; clear k2 g2 s2 hb))
      try rw [put_none]
      clear SA RDa S3
      generalize wa4.heap.size = jj at *
      obtain ⟨K, hJJ⟩ : ∃ V : CV, V = ⟨jj, u, A', m, c'⟩ := ⟨_, rfl⟩
      have S4 := hidd_ (show DjW w g QA QB d [J, X, Y] [K] wb4 from ⟨SB.out.ka, SB.out.kb, SB.out.kd, SB.out.oka, SB.out.okb, SB.out.v, SB.out.r.cons (by rw [hJJ]; exact ⟨KP.out, ⟨RDb.out, CPa.out.1, CPa.out.2, UL.out, by have := ML.out; simp only; omega⟩⟩), SB.out.x⟩)
      have KUM := hidd_ (show K.u = u ∧ K.m = m by rw [hJJ]; exact ⟨rfl, rfl⟩)
      have hjp : jj = K.p := by rw [hJJ]
      clear hJJ KP RDb CPa SB
      subst hjp
      have ck := addC wb4 X (S4.out.v _ (List.mem_cons_of_mem _ (List.mem_cons_self ..))).ok d AVX.out
      go_upto_region 6 with (first
        | (refine wpList_load_row rfl 29 (.tmp 7) rfl X.p rfl 29 X.row (0, 0) _ (S4.out.v _ (List.mem_cons_of_mem _ (List.mem_cons_self ..))).bk Try.underlying29 rfl (X.info (S4.out.v _ (List.mem_cons_of_mem _ (List.mem_cons_self ..))).ok.up) ?_)
        | (refine wpList_load_row rfl 27 (.tmp 5) rfl (g + 2) rfl 27 d.row (0, 0) _ S4.out.kd Try.underlying27 rfl ID.out ?_)
        | (go_at_call 26; ((with_reducible refine ck.mono ?_); clear ck; rintro e wa5 ⟨A', c', rfl, h1, h2, h3, h4, hb⟩; unfold TwoX; have SA := hidd_ (S4.out.below hb); have RDa := hidd_ h1; have CPa := hidd_ (And.intro h3 h4); clear h1 h2 h3 h4 hb))
        | (refine wpList_put_row rfl 29 _ _ rfl wa5.heap.size (ctxRow u2 A' m2.length c') rfl rfl 29 (ctxRow (List.replicate 16 0) none 0 0) (Bk.new wa5 _ _) (by rw [ctxRow_size _ _ _ _ UL2.out]; exact iX_) (by rw [ctxRow_size _ _ _ _ UL2.out]; rfl) (ctxRow_one _ _ _ _) ?_; intro wb5 k2 g2 s2; have hb := (((Below.refl wa5.heap.size wa5).alloc (Nat.le_refl _) (.cells (ctxRow (List.replicate 16 0) none 0 0) 29)).grown g2 (by simp) (fun k hk => by injection hk with hk; omega)); have SB := hidd_ (SA.out.below hb); have RDb := hidd_ ((RDa.out.below hb).more hb.size); have KP := hidd_ k2; clear k2 g2 s2 hb))
      try rw [put_none]
      clear SA RDa S4
      generalize wa5.heap.size = jj at *
      obtain ⟨M, hJJ⟩ : ∃ V : CV, V = ⟨jj, u2, A', m2, c'⟩ := ⟨_, rfl⟩
      have S5 := hidd_ (show DjW w g QA QB d [M, J, X, Y] [K] wb5 from ⟨SB.out.ka, SB.out.kb, SB.out.kd, SB.out.oka, SB.out.okb, SB.out.v.cons (by rw [hJJ]; exact ⟨KP.out, ⟨RDb.out, CPa.out.1, CPa.out.2, UL2.out, by have := ML2.out; simp only; omega⟩⟩), SB.out.r, SB.out.x⟩)
      have MUM := hidd_ (show M.u = u2 ∧ M.m = m2 by rw [hJJ]; exact ⟨rfl, rfl⟩)
      have hjp : jj = M.p := by rw [hJJ]
      clear hJJ KP RDb CPa SB
      subst hjp
      have ck := refAddC wb5 QA S5.out.oka d AVQ.out
      go_upto_region 7 with (first
        | (refine wpList_load_row rfl 25 (.tmp 3) rfl g rfl 25 QA.row (0, 0) _ S5.out.ka Try.underlying25 rfl (QA.infoR S5.out.oka.up) ?_)
        | (refine wpList_load_row rfl 27 (.tmp 5) rfl (g + 2) rfl 27 d.row (0, 0) _ S5.out.kd Try.underlying27 rfl ID.out ?_)
        | (go_at_call 27; ((with_reducible refine ck.mono ?_); clear ck; rintro e wa6 ⟨A', c', rfl, h1, h2, h3, h4, hb⟩; unfold TwoX; have SA := hidd_ (S5.out.below hb); have RDa := hidd_ h1; have CPa := hidd_ (And.intro h3 h4); clear h1 h2 h3 h4 hb))
        | (refine wpList_put_row rfl 25 _ _ rfl wa6.heap.size (ctxRow u2 A' m2.length c') rfl rfl 25 (ctxRow (List.replicate 16 0) none 0 0) (Bk.new wa6 _ _) (by rw [ctxRow_size _ _ _ _ UL2.out]; exact iRX_) (by rw [ctxRow_size _ _ _ _ UL2.out]; rfl) (ctxRow_one _ _ _ _) ?_; intro wb6 k2 g2 s2; have hb := (((Below.refl wa6.heap.size wa6).alloc (Nat.le_refl _) (.cells (ctxRow (List.replicate 16 0) none 0 0) 25)).grown g2 (by simp) (fun k hk => by injection hk with hk; omega)); have SB := hidd_ (SA.out.below hb); have RDb := hidd_ ((RDa.out.below hb).more hb.size); have KP := hidd_ k2; clear k2 g2 s2 hb))
      try rw [put_none]
      clear SA RDa S5
      generalize wa6.heap.size = jj at *
      obtain ⟨N, hJJ⟩ : ∃ V : CV, V = ⟨jj, u2, A', m2, c'⟩ := ⟨_, rfl⟩
      have S6 := hidd_ (show DjW w g QA QB d [M, J, X, Y] [N, K] wb6 from ⟨SB.out.ka, SB.out.kb, SB.out.kd, SB.out.oka, SB.out.okb, SB.out.v, SB.out.r.cons (by rw [hJJ]; exact ⟨KP.out, ⟨RDb.out, CPa.out.1, CPa.out.2, UL2.out, by have := ML2.out; simp only; omega⟩⟩), SB.out.x⟩)
      have NUM := hidd_ (show N.u = u2 ∧ N.m = m2 by rw [hJJ]; exact ⟨rfl, rfl⟩)
      have hjp : jj = N.p := by rw [hJJ]
      clear hJJ KP RDb CPa SB
      subst hjp
      have CDT : Hid (∀ W, DjW w g QA QB d [M, J, X, Y] [N, K] W → Calls Try.prog 15 #[] W fun e w' => e = .returned (.bool true) ∧ Below W.heap.size W w') := hidd_ (fun W h => dots_any W)
      have CFJ : Hid (∀ W, DjW w g QA QB d [M, J, X, Y] [N, K] W → Calls Try.prog 21 #[.agg J.row] W fun e w' => e = .returned (.agg J.row) ∧ Below W.heap.size W w') := hidd_ (fun W h => fromC W J (h.v _ (List.mem_cons_of_mem _ (List.mem_cons_self ..))).ok)
      have CFM : Hid (∀ W, DjW w g QA QB d [M, J, X, Y] [N, K] W → Calls Try.prog 21 #[.agg M.row] W fun e w' => e = .returned (.agg M.row) ∧ Below W.heap.size W w') := hidd_ (fun W h => fromC W M (h.v _ (List.mem_cons_self ..)).ok)
      have CFX : Hid (∀ W, DjW w g QA QB d [M, J, X, Y] [N, K] W → Calls Try.prog 21 #[.agg X.row] W fun e w' => e = .returned (.agg X.row) ∧ Below W.heap.size W w') := hidd_ (fun W h => fromC W X (h.v _ (List.mem_cons_of_mem _ (List.mem_cons_of_mem _ (List.mem_cons_self ..)))).ok)
      have CFY : Hid (∀ W, DjW w g QA QB d [M, J, X, Y] [N, K] W → Calls Try.prog 21 #[.agg Y.row] W fun e w' => e = .returned (.agg Y.row) ∧ Below W.heap.size W w') := hidd_ (fun W h => fromC W Y (h.v _ (List.mem_cons_of_mem _ (List.mem_cons_of_mem _ (List.mem_cons_of_mem _ (List.mem_cons_self ..))))).ok)
      have CSJK : Hid (∀ W, DjW w g QA QB d [M, J, X, Y] [N, K] W → Calls Try.prog 20 #[.agg J.row, .agg K.row] W fun e w' => e = .returned (.bool true) ∧ Below W.heap.size W w') := hidd_ (fun W h => (refSameC W J K (h.v _ (List.mem_cons_of_mem _ (List.mem_cons_self ..))).ok (h.r _ (List.mem_cons_of_mem _ (List.mem_cons_self ..))).ok).mono fun e w' hh => ⟨by rw [hh.1, JUM.out.1, JUM.out.2, KUM.out.1, KUM.out.2]; unfold sameR; simp, hh.2⟩)
      have CSMN : Hid (∀ W, DjW w g QA QB d [M, J, X, Y] [N, K] W → Calls Try.prog 20 #[.agg M.row, .agg N.row] W fun e w' => e = .returned (.bool true) ∧ Below W.heap.size W w') := hidd_ (fun W h => (refSameC W M N (h.v _ (List.mem_cons_self ..)).ok (h.r _ (List.mem_cons_self ..)).ok).mono fun e w' hh => ⟨by rw [hh.1, MUM.out.1, MUM.out.2, NUM.out.1, NUM.out.2]; unfold sameR; simp, hh.2⟩)
      have CSXA : Hid (∀ W, DjW w g QA QB d [M, J, X, Y] [N, K] W → Calls Try.prog 20 #[.agg X.row, .agg QA.row] W fun e w' => e = .returned (.bool true) ∧ Below W.heap.size W w') := hidd_ (fun W h => (refSameC W X QA (h.v _ (List.mem_cons_of_mem _ (List.mem_cons_of_mem _ (List.mem_cons_self ..)))).ok h.oka).mono fun e w' hh => ⟨by rw [hh.1, XUM.out.1, XUM.out.2]; unfold sameR; simp, hh.2⟩)
      have CSYB : Hid (∀ W, DjW w g QA QB d [M, J, X, Y] [N, K] W → Calls Try.prog 20 #[.agg Y.row, .agg QB.row] W fun e w' => e = .returned (.bool true) ∧ Below W.heap.size W w') := hidd_ (fun W h => (refSameC W Y QB (h.v _ (List.mem_cons_of_mem _ (List.mem_cons_of_mem _ (List.mem_cons_of_mem _ (List.mem_cons_self ..))))).ok h.okb).mono fun e w' hh => ⟨by rw [hh.1, YUM.out.1, YUM.out.2]; unfold sameR; simp, hh.2⟩)
      obtain ⟨cv, hcv⟩ : ∃ b, covB QA.u QA.m u m z = b := ⟨_, rfl⟩
      obtain ⟨sm, hsm⟩ : ∃ b, sameR QA.u QB.u QA.m QB.m = b := ⟨_, rfl⟩
      have CCX : Hid (∀ W, DjW w g QA QB d [M, J, X, Y] [N, K] W → Calls Try.prog 28 #[.agg X.row, .agg Y.row] W fun e w' => e = .returned (.bool cv) ∧ Below W.heap.size W w') := hidd_ (fun W h => (coversC W X Y (h.v _ (List.mem_cons_of_mem _ (List.mem_cons_of_mem _ (List.mem_cons_self ..)))).ok (h.v _ (List.mem_cons_of_mem _ (List.mem_cons_of_mem _ (List.mem_cons_of_mem _ (List.mem_cons_self ..))))).ok JVX.out UL.out ML.out).mono fun e w' hh => ⟨by rw [hh.1, XUM.out.1, XUM.out.2, hcv], hh.2⟩)
      have CCQ : Hid (∀ W, DjW w g QA QB d [M, J, X, Y] [N, K] W → Calls Try.prog 29 #[.agg QA.row, .agg QB.row] W fun e w' => e = .returned (.bool cv) ∧ Below W.heap.size W w') := hidd_ (fun W h => (refCoversC W QA QB h.oka h.okb JVQ.out UL.out ML.out).mono fun e w' hh => ⟨by rw [hh.1, hcv], hh.2⟩)
      have CSX : Hid (∀ W, DjW w g QA QB d [M, J, X, Y] [N, K] W → Calls Try.prog 30 #[.agg X.row, .agg Y.row] W fun e w' => e = .returned (.bool sm) ∧ Below W.heap.size W w') := hidd_ (fun W h => (sameC W X Y (h.v _ (List.mem_cons_of_mem _ (List.mem_cons_of_mem _ (List.mem_cons_self ..)))).ok (h.v _ (List.mem_cons_of_mem _ (List.mem_cons_of_mem _ (List.mem_cons_of_mem _ (List.mem_cons_self ..))))).ok).mono fun e w' hh => ⟨by rw [hh.1, XUM.out.1, XUM.out.2, YUM.out.1, YUM.out.2, hsm], hh.2⟩)
      have CSQ : Hid (∀ W, DjW w g QA QB d [M, J, X, Y] [N, K] W → Calls Try.prog 20 #[.agg QA.row, .agg QB.row] W fun e w' => e = .returned (.bool sm) ∧ Below W.heap.size W w') := hidd_ (fun W h => (refSameC W QA QB h.oka h.okb).mono fun e w' hh => ⟨by rw [hh.1, hsm], hh.2⟩)
      have IM := hidd_ (M.info (S6.out.v _ (List.mem_cons_self ..)).ok.up)
      have IJ := hidd_ (J.info (S6.out.v _ (List.mem_cons_of_mem _ (List.mem_cons_self ..))).ok.up)
      have IX := hidd_ (X.info (S6.out.v _ (List.mem_cons_of_mem _ (List.mem_cons_of_mem _ (List.mem_cons_self ..)))).ok.up)
      have IY := hidd_ (Y.info (S6.out.v _ (List.mem_cons_of_mem _ (List.mem_cons_of_mem _ (List.mem_cons_of_mem _ (List.mem_cons_self ..))))).ok.up)
      have IN := hidd_ (N.infoR (S6.out.r _ (List.mem_cons_self ..)).ok.up)
      have IK := hidd_ (K.infoR (S6.out.r _ (List.mem_cons_of_mem _ (List.mem_cons_self ..))).ok.up)
      have IQA := hidd_ (QA.infoR S6.out.oka.up)
      have IQB := hidd_ (QB.infoR S6.out.okb.up)
      clear hcv hsm hz hzr
      refine region_quiet_in (C := fun W => DjW w g QA QB d [M, J, X, Y] [N, K] W) (by kernel_rfl) (by kernel_rfl) (S6.out.below ((Below.refl _ _).drew)) ?_
      repeat (first | go_big_quiet_skip | (go_big_quiet_want; (first
        | (refine BigFrame.quiet_move _ rfl ?_; go_simp)
        | (refine BigFrame.quiet_assign _ rfl ?_; go_simp)
        | (refine quiet_load_rowd 29 (.tmp 13) rfl M.p rfl 29 M.row _ Try.underlying29 rfl IM.out (fun W h => (h.v _ (List.mem_cons_self ..)).bk) ?_; go_simp)
        | (refine quiet_load_rowd 29 (.tmp 9) rfl J.p rfl 29 J.row _ Try.underlying29 rfl IJ.out (fun W h => (h.v _ (List.mem_cons_of_mem _ (List.mem_cons_self ..))).bk) ?_; go_simp)
        | (refine quiet_load_rowd 29 (.tmp 7) rfl X.p rfl 29 X.row _ Try.underlying29 rfl IX.out (fun W h => (h.v _ (List.mem_cons_of_mem _ (List.mem_cons_of_mem _ (List.mem_cons_self ..)))).bk) ?_; go_simp)
        | (refine quiet_load_rowd 29 (.tmp 8) rfl Y.p rfl 29 Y.row _ Try.underlying29 rfl IY.out (fun W h => (h.v _ (List.mem_cons_of_mem _ (List.mem_cons_of_mem _ (List.mem_cons_of_mem _ (List.mem_cons_self ..))))).bk) ?_; go_simp)
        | (refine quiet_load_rowd 25 (.tmp 15) rfl N.p rfl 25 N.row _ Try.underlying25 rfl IN.out (fun W h => (h.r _ (List.mem_cons_self ..)).bk) ?_; go_simp)
        | (refine quiet_load_rowd 25 (.tmp 11) rfl K.p rfl 25 K.row _ Try.underlying25 rfl IK.out (fun W h => (h.r _ (List.mem_cons_of_mem _ (List.mem_cons_self ..))).bk) ?_; go_simp)
        | (refine quiet_load_rowd 25 (.tmp 3) rfl g rfl 25 QA.row _ Try.underlying25 rfl IQA.out (fun W h => h.ka) ?_; go_simp)
        | (refine quiet_load_rowd 25 (.tmp 4) rfl (g + 1) rfl 25 QB.row _ Try.underlying25 rfl IQB.out (fun W h => h.kb) ?_; go_simp)
        | (refine quiet_call (.bool true) 15 #[] ?_ (DjW.lift CDT.out) ?_; (focus (intro W; go_simp; done)); go_simp)
        | (refine quiet_call (.agg J.row) 21 #[.agg J.row] ?_ (DjW.lift CFJ.out) ?_; (focus (intro W; go_simp; done)); go_simp)
        | (refine quiet_call (.agg M.row) 21 #[.agg M.row] ?_ (DjW.lift CFM.out) ?_; (focus (intro W; go_simp; done)); go_simp)
        | (refine quiet_call (.agg X.row) 21 #[.agg X.row] ?_ (DjW.lift CFX.out) ?_; (focus (intro W; go_simp; done)); go_simp)
        | (refine quiet_call (.agg Y.row) 21 #[.agg Y.row] ?_ (DjW.lift CFY.out) ?_; (focus (intro W; go_simp; done)); go_simp)
        | (refine quiet_call (.bool true) 20 #[.agg J.row, .agg K.row] ?_ (DjW.lift CSJK.out) ?_; (focus (intro W; go_simp; done)); go_simp)
        | (refine quiet_call (.bool true) 20 #[.agg M.row, .agg N.row] ?_ (DjW.lift CSMN.out) ?_; (focus (intro W; go_simp; done)); go_simp)
        | (refine quiet_call (.bool true) 20 #[.agg X.row, .agg QA.row] ?_ (DjW.lift CSXA.out) ?_; (focus (intro W; go_simp; done)); go_simp)
        | (refine quiet_call (.bool true) 20 #[.agg Y.row, .agg QB.row] ?_ (DjW.lift CSYB.out) ?_; (focus (intro W; go_simp; done)); go_simp)
        | (refine quiet_call (.bool cv) 28 #[.agg X.row, .agg Y.row] ?_ (DjW.lift CCX.out) ?_; (focus (intro W; go_simp; done)); go_simp)
        | (refine quiet_call (.bool cv) 29 #[.agg QA.row, .agg QB.row] ?_ (DjW.lift CCQ.out) ?_; (focus (intro W; go_simp; done)); go_simp)
        | (refine quiet_call (.bool sm) 30 #[.agg X.row, .agg Y.row] ?_ (DjW.lift CSX.out) ?_; (focus (intro W; go_simp; done)); go_simp)
        | (refine quiet_call (.bool sm) 20 #[.agg QA.row, .agg QB.row] ?_ (DjW.lift CSQ.out) ?_; (focus (intro W; go_simp; done)); go_simp)
        | (refine quiet_run (.bool true) ?_ ?_; (focus (intro W hW; go_simp; done)); go_simp)); go_big_quiet_on))
      refine wpQuiet_nil ?_
      intro wz hwz
      have X9 := hidd_ hwz.x
      clear hwz
      go_wp2
      go_ret
      exact ⟨rfl, by rw [HG.out]; exact X9.out⟩

set_option maxRecDepth 100000 in
theorem lifted (os : Os) (started : os.Started) (H : Type) (enc : TypeId × Value → H) :
    ReturnsInHanded {} Try.checked os 4 .any (Rows.dotJoinsSpec.pre6 enc Try.prog Try.f4 Rows.dotJoinsRow.domain false) (Rows.dotJoinsSpec.post enc Try.prog Try.f4 false true false false) := by
  refine returnsInHanded_of_change (C := Try.checked) own_ started (by kernel_rfl) Try.func4
    (ChangeSpec.witness6 (enc := enc) (C := Try.checked) false ⟨#[], #[.agg (ctxRow [0, 0, 0, 0, 0, 0, 0, 0, 0, 0, 0, 0, 0, 0, 0, 0] none 0 0), .agg (ctxRow [0, 0, 0, 0, 0, 0, 0, 0, 0, 0, 0, 0, 0, 0, 0, 0] none 0 0), .agg #[.int .i64 0, .int .i64 0]], []⟩ 8 (by kernel_rfl) (by kernel_rfl) (by kernel_rfl) (by kernel_rfl)) ?_
  intro W base args ds gs before hval0 hW hcnd _
  have hval : ∀ (j : Nat) t v, Try.f4.params[j]? = some t → args[j]? = some v → Value.okWide Try.prog W .any base t v := hval0
  have hW' := hW
  obtain ⟨p, q, hA0, hV, rfl, hfz, hnd⟩ := hW
  have hA : DataW.TrodAll enc Try.prog W 0 (fun _ => true) true Try.f4.params.toList args.toList ds p := hA0
  rw [Try.params4] at hA hval
  obtain ⟨v0, vs0, d0, ds0, p0, q0, hargs, rfl, rfl, h0, r0⟩ := trodAll_cons hA
  obtain ⟨v1, vs1, d1, ds1, p1, q1, rfl, rfl, rfl, h1, r1⟩ := trodAll_cons r0
  obtain ⟨v2, vs2, d2, ds2, p2, q2, rfl, rfl, rfl, h2, r2⟩ := trodAll_cons r1
  obtain ⟨rfl, rfl, rfl⟩ := trodAll_nil r2
  obtain rfl : args = #[v0, v1, v2] := by cases args; simp_all
  obtain ⟨rfl, rfl⟩ := trodVars_none hV
  obtain ⟨up0, A0, l0, c0, rfl, hul0, hub0, hr0, hx0, hlc0, hcm0⟩ := open_ctx Try.underlying25 ⟨rfl, rfl⟩ ⟨rfl, rfl⟩ Try.underlying22 (by kernel_rfl) (by kernel_rfl) (by kernel_rfl) Try.underlying23 Try.underlying27 ⟨rfl, rfl⟩ ⟨rfl, rfl⟩ Try.underlying3 (by kernel_rfl) (by kernel_rfl) (hval 0 25 v0 rfl rfl) h0
  obtain ⟨up1, A1, l1, c1, rfl, hul1, hub1, hr1, hx1, hlc1, hcm1⟩ := open_ctx Try.underlying25 ⟨rfl, rfl⟩ ⟨rfl, rfl⟩ Try.underlying22 (by kernel_rfl) (by kernel_rfl) (by kernel_rfl) Try.underlying23 Try.underlying27 ⟨rfl, rfl⟩ ⟨rfl, rfl⟩ Try.underlying3 (by kernel_rfl) (by kernel_rfl) (hval 1 25 v1 rfl rfl) h1
  obtain ⟨d2, rfl, hd2⟩ := open_dot Try.underlying27 ⟨rfl, rfl⟩ ⟨rfl, rfl⟩ Try.underlying3 (by kernel_rfl) (by kernel_rfl) (hval 2 27 v2 rfl rfl) h2
  refine (walk W up0 hul0 A0 l0 c0 hlc0 (by unfold maxLen at hcm0; omega) hr0 up1 hul1 A1 l1 c1 hlc1 (by unfold maxLen at hcm1; omega) hr1 d2).mono fun e W' ⟨he, hg⟩ => ⟨_, he, ?_⟩
  exact law_post laidOut_ (of_decide_eq_true (by kernel_rfl)) rfl rfl Try.underlying4 rfl hW' hg

theorem over : Rows.dotJoinsRow.holds Try.pinned (OpenSpec.ofChange Rows.dotJoinsSpec) :=
  OpenClaim.holds_of_wide 4 Try.f4 rfl rfl rfl rfl rfl rfl rfl ⟨rfl, rfl, rfl, rfl, rfl⟩ rfl rfl rfl rfl rfl (by kernel_rfl) Try.func4 (by kernel_rfl)
    (of_decide_eq_true (by kernel_rfl)) (by unfold Func.isWrapper; first | (rw [if_pos (by decide +kernel)]; kernel_rfl) | (rw [if_neg (by decide +kernel)]; exact ⟨rfl, rfl⟩))
    (fun os started H enc _ => lifted os started H enc)

theorem proved : Rows.DotJoinsSaid := over
#print axioms proved
end Go.Proofs.Ytjflmfmncepeeaa.dotJoins
