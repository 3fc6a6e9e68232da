/-
  dot.Add.
-/
import Derived.Test.YtjflmfmncepeeaaJb
import Derived.Test.YtjflmfmncepeeaaIi
namespace Go.Proofs.Ytjflmfmncepeeaa
open Go.ChangeShapes Go.WideShapes Go.ChangeAt Go.RowKit
set_option linter.unusedVariables false
set_option linter.unusedSimpArgs false

/-- A context's value and an error, as R tells them. -/
def TwoP (R : List Int → List DotV → Int → Prop) (w : World) (e : Ending) (w' : World) : Prop :=
  ∃ u m A c z, e = .returned (TwoX u A m c z) ∧ RdD w' w'.heap.size A m ∧ (∀ y, A = some y → w.heap.size ≤ y.block) ∧ m.length ≤ c ∧ c ≤ 9223372036854775807 ∧ u.length = 16 ∧ R u m z ∧ Below w.heap.size w w'
/-- What Add tells. -/
def AddV (up : List Int) (ms : List DotV) (d : DotV) (u : List Int) (m : List DotV) (z : Int) : Prop :=
  (chk up ms ≠ 0 ∨ isD d = false) ∧ u = List.replicate 16 0 ∧ m = [] ∧ z = 1 ∨ (chk up ms = 0 ∧ isD d = true) ∧ ResV up (ms ++ [d]) u m z
def AddR (g n c : Nat) (up : List Int) (A : Option Addr) (d : DotV) : Nat → Value → Prop
  | 0, v => v = .pointer (some ⟨g, 0, none⟩)
  | 1, v => v = .agg (intRow up)
  | 2, v => v = .pointer (some ⟨g, 16, none⟩)
  | 3, v => v = .slice A n c
  | 4, v => v = .agg d.row
  | _, _ => True
theorem two_cat {w : World} {q : Nat} {a b : Option Addr × Nat × List DotV} (hb : Bk w q 23 #[.slice a.1 a.2.2.length a.2.1, .slice b.1 b.2.2.length b.2.1]) (ha : RdD w w.heap.size a.1 a.2.2) (hb2 : RdD w w.heap.size b.1 b.2.2) : CatD w w.heap.size q [a, b] :=
  ⟨hb.lt, fun i hi => by
    have : i = 0 ∨ i = 1 := by simp at hi; omega
    rcases this with rfl | rfl
    · exact ⟨hb.cell 0, ha⟩
    · exact ⟨hb.cell 1, hb2⟩⟩

set_option maxRecDepth 100000 in
set_option maxHeartbeats 8000000 in
theorem add_any (w : World) (up : List Int) (hu : up.length = 16) (A : Option Addr) (n c : Nat) (ms : List DotV) (hn : ms.length = n) (hn6 : n ≤ 900000) (hc : n ≤ c) (hr : RdD w w.heap.size A ms) (d : DotV) :
    Calls Try.prog 26 #[.agg (ctxRow up A n c), .agg d.row] w (TwoP (AddV up ms d) w) := by
  obtain ⟨g, hg⟩ : ∃ g, w.heap.size = g := ⟨_, rfl⟩
  obtain ⟨wa, hwa⟩ : ∃ w0, w.alloc (.cells (ctxRow up A n c) 29) = w0 := ⟨_, rfl⟩
  have Ka := show Bk wa g 29 (ctxRow up A n c) by rw [← hwa, ← hg]; exact Bk.new w _ _
  have Xa := show Below g w wa by rw [← hwa, ← hg]; exact (Below.refl _ _).alloc (Nat.le_refl _) _
  have Sa : wa.heap.size = g + 1 := by rw [← hwa, ← hg]; simp
  obtain ⟨w0, hw0⟩ : ∃ w0, wa.alloc (.cells d.row 27) = w0 := ⟨_, rfl⟩
  have b0 : Below wa.heap.size wa w0 := by rw [← hw0]; exact (Below.refl _ _).alloc (Nat.le_refl _) _
  have D0 := show Bk w0 (g + 1) 27 d.row by rw [← Sa, ← hw0]; exact Bk.new wa _ _
  have S0 : w0.heap.size = g + 2 := by rw [← hw0]; simp [Sa]
  have K0 := Ka.below b0 Ka.lt
  have X0 := Xa.trans (b0.mono (by omega))
  have hz := zX_
  have IX := hidd_ (show (Try.prog.info? 29).map (·.size) = some (ctxRow up A n c).size by rw [ctxRow_size up A n c hu]; exact iX_)
  have IZ := hidd_ (show (Try.prog.info? 29).map (·.size) = some (ctxRow (List.replicate 16 0) none 0 0).size by rw [ctxRow_size _ _ _ _ (by simp)]; exact iX_)
  have ID := hidd_ (show (Try.prog.info? 27).map (·.size) = some d.row.size from iD_)
  have IU := hidd_ (show (Try.prog.info? 22).map (·.size) = some (intRow up).size by rw [intRow_size, hu]; exact iU_)
  go_enter Try.func26, Try.ntmps26
  go_upto_region 1 with fail
  generalize hw1 : w0.alloc _ = w1
  have b1 : Below w0.heap.size w0 w1 := by rw [← hw1]; exact (Below.refl _ _).alloc (Nat.le_refl _) _
  have S1 : w1.heap.size = g + 3 := by rw [← hw1]; simp [S0]
  have R1 := hidd_ (show Bk w1 (g + 2) 29 (ctxRow (List.replicate 16 0) none 0 0) by rw [← S0, ← hw1]; exact Bk.new w0 _ _)
  have K1 := hidd_ (K0.below b1 K0.lt)
  have D1 := hidd_ (D0.below b1 D0.lt)
  have X1 := hidd_ (X0.trans (b1.mono (by omega)))
  rw [hg] at hr
  have HRW := hidd_ (hr.below X1.out)
  have HR := hidd_ hr
  have cc := check_any w1 up hu A n c ms hn (by omega) hc ((hr.below X1.out).more (by omega))
  have cd := fun W => isDot_any W d
  have HG := hidd_ hg
  have HU := hidd_ hu
  have HN := hidd_ hn
  have HS1 := hidd_ S1
  obtain ⟨e, he⟩ : ∃ e, chk up ms = e := ⟨_, rfl⟩
  have HE := hidd_ he
  rw [he] at cc
  obtain ⟨bz, hbz⟩ : ∃ b, isD d = b := ⟨_, rfl⟩
  have HBZ := hidd_ hbz
  rw [hbz] at cd
  clear hu hn hr he hbz Ka Xa b0 b1 K0 X0 D0 hw1 hw0 hwa Sa S0 S1 hg
  by_cases he0 : e = 0
  · subst he0
    cases bz
    · go_wp2_with (first
        | (refine wpList_load_row rfl 29 (.tmp 2) rfl g rfl 29 (ctxRow up A n c) (0, 0) _ K1.out Try.underlying29 rfl IX.out ?_)
        | (go_at_call 16; ((with_reducible refine cc.mono ?_); clear cc; rintro e w2 ⟨rfl, hb⟩; have X2 := hidd_ (X1.out.trans (hb.mono (by have := HS1.out; omega))); have D2 := hidd_ (D1.out.below hb D1.out.lt); have R2 := hidd_ (R1.out.below hb R1.out.lt); clear hb))
        | (refine wpList_load_rowWd (by go_simp) 27 (.tmp 3) rfl (g + 1) rfl 27 d.row D2.out _ Try.underlying27 rfl ID.out ?_)
        | (go_at_call 36; ((with_reducible refine (cd _).mono ?_); rintro e w3 ⟨rfl, hb⟩; have X3 := hidd_ (X2.out.trans (hb.mono (by have := R2.out.lt; omega))); have R3 := hidd_ (R2.out.below hb R2.out.lt); clear hb))
        | (refine wpList_built rfl 29 _ rfl (ctxRow (List.replicate 16 0) none 0 0) (by kernel_rfl) ?_)
        | (refine wpList_put_row rfl 29 _ _ rfl (g + 2) (ctxRow (List.replicate 16 0) none 0 0) rfl rfl 29 (ctxRow (List.replicate 16 0) none 0 0) R3.out IZ.out rfl (ctxRow_one _ _ _ _) ?_; intro W9 k9 g9 s9))
      refine bodyPost_ret (results_cell_slotD Try.results26 _ _ (g + 2) (v' := .int .i64 1) rfl rfl (run_loadVar_row _ _ _ _ _ (0, 0) _ k9 Try.underlying29 rfl IZ.out)) rfl ⟨List.replicate 16 0, [], none, 0, 1, rfl, RdD.nil, fun y e => (by cases e), Nat.le_refl _, by omega, by simp, .inl ⟨.inr HBZ.out, rfl, rfl, rfl⟩, ?_⟩
      rw [HG.out]
      exact X3.out.grown g9 (Nat.le_of_lt (Nat.lt_of_le_of_lt (by omega) R3.out.lt)) (fun k hk => by injection hk with hk; omega)
    · go_upto_region 3 with (first
        | (refine wpList_load_row rfl 29 (.tmp 2) rfl g rfl 29 (ctxRow up A n c) (0, 0) _ K1.out Try.underlying29 rfl IX.out ?_)
        | (go_at_call 16; ((with_reducible refine cc.mono ?_); clear cc; rintro e w2 ⟨rfl, hb⟩; have X2 := hidd_ (X1.out.trans (hb.mono (by have := HS1.out; omega))); have D2 := hidd_ (D1.out.below hb D1.out.lt); have K2 := hidd_ (K1.out.below hb K1.out.lt); have R2 := hidd_ (R1.out.below hb R1.out.lt); clear hb))
        | (refine wpList_load_rowWd (by go_simp) 27 (.tmp 3) rfl (g + 1) rfl 27 d.row D2.out _ Try.underlying27 rfl ID.out ?_)
        | (go_at_call 36; ((with_reducible refine (cd _).mono ?_); rintro e w3 ⟨rfl, hb⟩; have X3 := hidd_ (X2.out.trans (hb.mono (by have := R2.out.lt; omega))); have D3 := hidd_ (D2.out.below hb D2.out.lt); have K3 := hidd_ (K2.out.below hb K2.out.lt); have R3 := hidd_ (R2.out.below hb R2.out.lt); clear hb)))
      clear cd R1 R2 K1 K2 D1 D2 X1 X2
      obtain ⟨hcan, hl32⟩ := chk_can HU.out HE.out
      have HCD := hidd_ (show ∀ x ∈ ms ++ [d], isD x = true from fun x hx => by
        rcases List.mem_append.1 hx with h | h
        · exact hcan.dots x h
        · rw [List.mem_singleton] at h; subst h; exact HBZ.out)
      have HU16 := hidd_ hcan.up16
      have HLN := hidd_ (show (ms ++ [d]).length = n + 1 by simp [HN.out])
      have hn32 : n ≤ 32 := by have := HN.out; omega
      have hrg : g + 2 < w3.heap.size := R3.out.lt
      have HRD := hidd_ ((HR.out.below X3.out))
      have C0 : CxC (g + 2) w3 w3 := CxC.start R3.out (ctxRow_size _ _ _ _ (by simp))
      clear hcan hl32 HRW HR
      obtain ⟨B, hB⟩ : ∃ B, w3.heap.size = B := ⟨_, rfl⟩
      obtain ⟨cat, hcat⟩ : ∃ l, ms ++ [d] = l := ⟨_, rfl⟩
      have HCT := hidd_ hcat
      rw [hcat] at HCD HLN
      clear hcat
      refine region_byJF [15, 16, 17, 18, 19, 20, 21, 22, 23, 24, 25, 5] (CxC (g + 2) w3) (fun _ _ => True) (fun j v _ => AddR g n c up A d j v) (fun L a W => CxJ B (g + 2) up cat d (L 5) (L 6) (L 7) (L 8) (L 9) (L 10) (L 11) (L 12) (a.tmps.getD 20 undef) (a.tmps.getD 21 undef) (a.tmps.getD 22 undef) (a.tmps.getD 23 undef) (a.tmps.getD 24 undef) (a.tmps.getD 25 undef) (a.tmps.getD 5 undef) W) (by kernel_rfl) (by kernel_rfl) (by kernel_rfl) (by kernel_rfl) (fun j v w w' hT hr => hr) (fun j v w hlt hj _ => ?_) (C0.keep ((Below.refl _ _).drew)) ?_ CxJ.start ?_
      · rcases j with _ | _ | _ | _ | _ | _ | _ | _ | _ | _ | _ | _ | _ | j
        all_goals first
          | (exfalso; simp [dstOf] at hj; done)
          | trivial
      · refine ⟨fun D a W hC hd hsz hf hv hJ hL hW K hK => ?_, fun D a W hC hd hsz hf hv hJ hL hW K hK => ?_, fun D a W hC hd hsz hf hv hJ hL hW K hK => ?_, fun D a W hC hd hsz hf hv hJ hL hW K hK => ?_, fun D a W hC hd hsz hf hv hJ hL hW K hK => ?_, fun D a W hC hd hsz hf hv hJ hL hW K hK => ?_, fun D a W hC hd hsz hf hv hJ hL hW K hK => ?_, fun D a W hC hd hsz hf hv hJ hL hW K hK => ?_, fun D a W hC hd hsz hf hv hJ hL hW K hK => ?_, fun D a W hC hd hsz hf hv hJ hL hW K hK => ?_, fun D a W hC hd hsz hf hv hJ hL hW K hK => ?_, fun D a W hC hd hsz hf hv hJ hL hW K hK => ?_, fun D a W hC hd hsz hf hv hJ hL hW K hK => ?_, trivial⟩
        · have HSZ : a.tmps.size = 26 := hsz
          have e1 := slot_of (a := a) (s := 2) (v := .pointer (some ⟨g, 0, none⟩)) (hf 2 (by kernel_rfl))
          refine step_run (wanted_none rfl) (v := .pointer (some ⟨g, 0, none⟩)) (w' := W) ?_ (hK _ _ hC trivial rfl (by simp only [put_other (show (20:Nat) ≠ 15 by decide), put_other (show (21:Nat) ≠ 15 by decide), put_other (show (22:Nat) ≠ 15 by decide), put_other (show (23:Nat) ≠ 15 by decide), put_other (show (24:Nat) ≠ 15 by decide), put_other (show (25:Nat) ≠ 15 by decide), put_other (show (5:Nat) ≠ 15 by decide)]; exact hJ))
          clear hsz HSZ
          go_simp
        · have HSZ : a.tmps.size = 26 := hsz
          have e1 := eval_of (a := a) (s := 15) (v := .pointer (some ⟨g, 0, none⟩)) (hv 0 (by kernel_rfl))
          have KW := hC.bk K3.out (by omega)
          refine step_load_sub (wanted_none rfl) 22 _ rfl g 0 e1 (intRow up) (fun j hj => by rw [intRow_size, HU.out] at hj; rw [Nat.zero_add, KW.cell j, ctxRow_up up A n c j HU.out hj, intRow_at up j (by have := HU.out; omega)]) _ Try.underlying22 rfl IU.out (hK _ _ hC trivial rfl (by simp only [put_other (show (20:Nat) ≠ 16 by decide), put_other (show (21:Nat) ≠ 16 by decide), put_other (show (22:Nat) ≠ 16 by decide), put_other (show (23:Nat) ≠ 16 by decide), put_other (show (24:Nat) ≠ 16 by decide), put_other (show (25:Nat) ≠ 16 by decide), put_other (show (5:Nat) ≠ 16 by decide)]; exact hJ))
        · have HSZ : a.tmps.size = 26 := hsz
          have e1 := slot_of (a := a) (s := 2) (v := .pointer (some ⟨g, 0, none⟩)) (hf 2 (by kernel_rfl))
          refine step_run (wanted_none rfl) (v := .pointer (some ⟨g, 16, none⟩)) (w' := W) ?_ (hK _ _ hC trivial rfl (by simp only [put_other (show (20:Nat) ≠ 17 by decide), put_other (show (21:Nat) ≠ 17 by decide), put_other (show (22:Nat) ≠ 17 by decide), put_other (show (23:Nat) ≠ 17 by decide), put_other (show (24:Nat) ≠ 17 by decide), put_other (show (25:Nat) ≠ 17 by decide), put_other (show (5:Nat) ≠ 17 by decide)]; exact hJ))
          clear hsz HSZ
          go_simp
        · have HSZ : a.tmps.size = 26 := hsz
          have e1 := slot_of (a := a) (s := 17) (v := .pointer (some ⟨g, 16, none⟩)) (hv 2 (by kernel_rfl))
          have hcx := ((hC.bk K3.out (by omega)).cell 16).trans (ctxRow_more up A n c HU.out)
          refine step_run (wanted_none rfl) (v := .slice A n c) (w' := W) ?_ (hK _ _ hC trivial rfl (by simp only [put_other (show (20:Nat) ≠ 18 by decide), put_other (show (21:Nat) ≠ 18 by decide), put_other (show (22:Nat) ≠ 18 by decide), put_other (show (23:Nat) ≠ 18 by decide), put_other (show (24:Nat) ≠ 18 by decide), put_other (show (25:Nat) ≠ 18 by decide), put_other (show (5:Nat) ≠ 18 by decide)]; exact hJ))
          clear hsz HSZ
          go_simp
        · have HSZ : a.tmps.size = 26 := hsz
          have e1 := eval_of (a := a) (s := 3) (v := .pointer (some ⟨g + 1, 0, none⟩)) (hf 3 (by kernel_rfl))
          have KW := hC.bk D3.out (by omega)
          refine step_load_sub (wanted_none rfl) 27 _ rfl (g + 1) 0 e1 d.row (fun j hj => by rw [Nat.zero_add]; exact KW.cell j) _ Try.underlying27 rfl ID.out (hK _ _ hC trivial rfl (by simp only [put_other (show (20:Nat) ≠ 19 by decide), put_other (show (21:Nat) ≠ 19 by decide), put_other (show (22:Nat) ≠ 19 by decide), put_other (show (23:Nat) ≠ 19 by decide), put_other (show (24:Nat) ≠ 19 by decide), put_other (show (25:Nat) ≠ 19 by decide), put_other (show (5:Nat) ≠ 19 by decide)]; exact hJ))
        · have HSZ : a.tmps.size = 26 := hsz
          have e1 := slot_of (a := a) (s := 19) (v := .agg d.row) (hv 4 (by kernel_rfl))
          have hbl : Below W.heap.size W (W.alloc (.cells d.row 27)) := (Below.refl _ _).alloc (Nat.le_refl _) _
          have hrd := rdD_one (Bk.new W 27 d.row) (W.alloc (.cells d.row 27)).heap.size (by simp)
          refine step_run (wanted_none rfl) (v := .slice (some ⟨W.heap.size, 0, none⟩) 1 1) (w' := W.alloc (.cells d.row 27)) ?_ (hK _ _ (hC.keep hbl) trivial trivial (by simp only [put_other (show (21:Nat) ≠ 20 by decide), put_other (show (22:Nat) ≠ 20 by decide), put_other (show (23:Nat) ≠ 20 by decide), put_other (show (24:Nat) ≠ 20 by decide), put_other (show (25:Nat) ≠ 20 by decide), put_other (show (5:Nat) ≠ 20 by decide), put_self (show 20 < a.tmps.size by rw [HSZ]; omega)]; exact (hJ.keep hbl).to_d _ hrd))
          clear hsz HSZ hbl hrd
          unfold DotV.row at e1 ⊢
          go_simp
        · have HSZ : a.tmps.size = 26 := hsz
          have hx0 : D 8 = false := by cases h8 : D 8 with | false => rfl | true => exact absurd (hJ.hs.2.1 (hJ.hs.1 h8)) (by rw [hL]; simp)
          obtain ⟨q, hq, hrd⟩ := hJ.hd (hW 5 (by kernel_rfl)) hx0
          have e1 := slot_of (a := a) (s := 18) (v := .slice A n c) (hv 3 (by kernel_rfl))
          have e2 := slot_of hq
          have hbl : Below W.heap.size W (W.alloc (.cells #[.slice A n c, .slice (some ⟨q, 0, none⟩) 1 1] 23)) := (Below.refl _ _).alloc (Nat.le_refl _) _
          have hct : CatD (W.alloc (.cells #[.slice A n c, .slice (some ⟨q, 0, none⟩) 1 1] 23)) (W.alloc (.cells #[.slice A n c, .slice (some ⟨q, 0, none⟩) 1 1] 23)).heap.size W.heap.size [(A, c, ms), (some ⟨q, 0, none⟩, 1, [d])] := two_cat (by simp only [HN.out]; exact Bk.new W _ _) (((hC.keep hbl).rd HRD.out (by omega) hrg)) ((hrd.below hbl).more hbl.size)
          refine step_run (wanted_none rfl) (v := .slice (some ⟨W.heap.size, 0, none⟩) 2 2) (w' := W.alloc (.cells #[.slice A n c, .slice (some ⟨q, 0, none⟩) 1 1] 23)) ?_ (hK _ _ (hC.keep hbl) trivial trivial (by simp only [put_other (show (20:Nat) ≠ 21 by decide), put_other (show (22:Nat) ≠ 21 by decide), put_other (show (23:Nat) ≠ 21 by decide), put_other (show (24:Nat) ≠ 21 by decide), put_other (show (25:Nat) ≠ 21 by decide), put_other (show (5:Nat) ≠ 21 by decide), put_self (show 21 < a.tmps.size by rw [HSZ]; omega)]; exact (hJ.keep hbl).to_b _ _ rfl (by rw [← HCT.out]; simp [flatD]) hct))
          clear hsz HSZ hbl hrd hct
          go_simp
        · have HSZ : a.tmps.size = 26 := hsz
          have hx0 : D 8 = false := by cases h8 : D 8 with | false => rfl | true => exact absurd (hJ.hs.1 h8) (by rw [hL]; simp)
          obtain ⟨q, ps, hq, hp2, hf2, hct⟩ := hJ.hb (hW 6 (by kernel_rfl)) hx0
          have e1 := slot_of hq
          refine step_callx 46 #[.slice (some ⟨q, 0, none⟩) 2 2] (wanted_none rfl) (w' := W) ?_ ((concatD_any q 2 2 (n + 1) ps W hp2 (by rw [hf2]; exact HLN.out) hct (by omega) (by omega)).mono ?_)
          · clear hsz HSZ
            go_simp
          · rintro e W' ⟨A', c', rfl, ho, hb⟩
            rw [hf2] at ho
            have h1 := HLN.out
            have h2 := hC.grown.size
            refine ⟨_, rfl, hK _ _ (hC.keep hb) trivial trivial ?_⟩
            simp only [put_other (show (20:Nat) ≠ 22 by decide), put_other (show (21:Nat) ≠ 22 by decide), put_other (show (23:Nat) ≠ 22 by decide), put_other (show (24:Nat) ≠ 22 by decide), put_other (show (25:Nat) ≠ 22 by decide), put_other (show (5:Nat) ≠ 22 by decide), put_self (show 22 < a.tmps.size by rw [HSZ]; omega)]
            rw [← h1] at ho ⊢
            exact (hJ.keep hb).to_k (hW 6 (by kernel_rfl)) (ownD_base ho (by omega))
        · have HSZ : a.tmps.size = 26 := hsz
          obtain ⟨A', c', hq, ho⟩ := hJ.hk (hW 7 (by kernel_rfl)) hL
          have e1 := slot_of (a := a) (s := 16) (v := .agg (intRow up)) (hv 1 (by kernel_rfl))
          have e2 := slot_of hq
          rw [hq] at ho
          obtain ⟨q, rfl⟩ := ho.blockD (by have := HLN.out; omega)
          have hlt := ho.lt q rfl
          refine step_callx 45 #[.agg (intRow up), .slice (some ⟨q, 0, none⟩) cat.length c'] (wanted_none rfl) (w' := W) ?_ ((contextOf_x W up HU16.out B q cat.length c' cat (by have := HLN.out; omega) HCD.out ho).mono ?_)
          · clear hsz HSZ hlt
            go_simp
          · rintro e W' ⟨hg, u, m, A2, c2, z, rfl, h1, h2, h3, h4, h5, h6⟩
            have h7 := hC.grown.size
            refine ⟨_, rfl, hK _ _ (hC.own hg (fun q' hq' => by injection hq' with hq'; omega) hrg) trivial trivial ?_⟩
            simp only [put_other (show (20:Nat) ≠ 23 by decide), put_other (show (21:Nat) ≠ 23 by decide), put_other (show (22:Nat) ≠ 23 by decide), put_other (show (24:Nat) ≠ 23 by decide), put_other (show (25:Nat) ≠ 23 by decide), put_other (show (5:Nat) ≠ 23 by decide), put_self (show 23 < a.tmps.size by rw [HSZ]; omega)]
            exact hJ.to_x hL (hW 7 (by kernel_rfl)) h1 (fun y hy => by have := h2 y hy; omega) h3 h4 h5 h6
        · have HSZ : a.tmps.size = 26 := hsz
          obtain ⟨u, m, A2, c2, z, hq, h1, h2, h3, h4, h5, h6, h7, h8, h9, h10⟩ := hJ.hx (hW 8 (by kernel_rfl))
          have e1 := slot_of hq
          refine step_run (wanted_none rfl) (v := .agg (ctxRow u A2 m.length c2)) (w' := W) ?_ (hK _ _ hC trivial trivial (by simp only [put_other (show (20:Nat) ≠ 24 by decide), put_other (show (21:Nat) ≠ 24 by decide), put_other (show (22:Nat) ≠ 24 by decide), put_other (show (23:Nat) ≠ 24 by decide), put_other (show (25:Nat) ≠ 24 by decide), put_other (show (5:Nat) ≠ 24 by decide), put_self (show 24 < a.tmps.size by rw [HSZ]; omega)]; exact hJ.to_s0 (hW 8 (by kernel_rfl)) hq))
          unfold TwoX at e1
          clear hsz HSZ hq h7 h8 h9 h10
          go_simp
        · have HSZ : a.tmps.size = 26 := hsz
          obtain ⟨u, m, A2, c2, z, hq, h1, h2, h3, h4, h5, h6, h7, h8, h9, h10⟩ := hJ.hx (hW 8 (by kernel_rfl))
          have e1 := slot_of hq
          refine step_run (wanted_none rfl) (v := .int .i64 z) (w' := W) ?_ (hK _ _ hC trivial trivial (by simp only [put_other (show (20:Nat) ≠ 25 by decide), put_other (show (21:Nat) ≠ 25 by decide), put_other (show (22:Nat) ≠ 25 by decide), put_other (show (23:Nat) ≠ 25 by decide), put_other (show (24:Nat) ≠ 25 by decide), put_other (show (5:Nat) ≠ 25 by decide), put_self (show 25 < a.tmps.size by rw [HSZ]; omega)]; exact hJ.to_s1 (hW 8 (by kernel_rfl)) hq))
          unfold TwoX at e1
          clear hsz HSZ hq h7 h8 h9 h10
          go_simp
        · have HSZ : a.tmps.size = 26 := hsz
          obtain ⟨u, m, A2, c2, z, hq, h1, h2, h3, h4, h5, h6, h7, h8, h9, h10⟩ := hJ.hx (hJ.hs.2.2.2.1 (hW 9 (by kernel_rfl)))
          have e1 := eval_of (a := a) (s := 4) (v := .pointer (some ⟨g + 2, 0, none⟩)) (hf 4 (by kernel_rfl))
          have e2 := eval_of (h7 (hW 9 (by kernel_rfl)))
          obtain ⟨X, hX, hXs⟩ := hC.res
          have IV : (Try.prog.info? 29).map (·.size) = some (ctxRow u A2 m.length c2).size := by rw [ctxRow_size _ _ _ _ h5]; exact iX_
          refine step_put_row rfl 29 _ _ rfl (g + 2) (ctxRow u A2 m.length c2) e1 e2 29 X hX IV (by rw [hXs, ctxRow_size _ _ _ _ h5]) (ctxRow_one _ _ _ _) ?_
          intro W' k9 g9 s9
          exact hK _ _ (hC.put g9 k9 (ctxRow_size _ _ _ _ h5)) trivial trivial (by simp only [put_none]; exact hJ.to_st (hJ.hs.2.2.2.1 (hW 9 (by kernel_rfl))) hq (by omega) g9 k9)
        · have HSZ : a.tmps.size = 26 := hsz
          obtain ⟨u, m, A2, c2, z, hq, h1, h2, h3, h4, h5, h6, h7, h8, h9, h10⟩ := hJ.hx (hJ.hs.2.2.2.2.1 (hW 10 (by kernel_rfl)))
          have e1 := slot_of (h8 (hW 10 (by kernel_rfl)))
          refine step_run (wanted_none rfl) (v := .int .i64 z) (w' := W) ?_ (hK _ _ hC trivial trivial (by simp only [put_other (show (20:Nat) ≠ 5 by decide), put_other (show (21:Nat) ≠ 5 by decide), put_other (show (22:Nat) ≠ 5 by decide), put_other (show (23:Nat) ≠ 5 by decide), put_other (show (24:Nat) ≠ 5 by decide), put_other (show (25:Nat) ≠ 5 by decide), put_self (show 5 < a.tmps.size by rw [HSZ]; omega)]; exact hJ.to_ae (hJ.hs.2.2.2.2.1 (hW 10 (by kernel_rfl))) hq))
          clear hsz HSZ hq h7 h9 h10
          go_simp
      · intro f W hC hv L hL hJ'
        obtain ⟨aE, hJ, hfr⟩ := hJ'
        obtain ⟨u, m, A2, c2, z, hq, h1, h2, h3, h4, h5, h6, h7, h8, h9, h10⟩ := hJ.hx (hL 8 (by decide))
        have hf5 : f 5 = .int .i64 z := by rw [← hfr 5]; exact h10 (hL 12 (by decide))
        have k9 := h9 (hL 11 (by decide))
        have IV := hidd_ (show (Try.prog.info? 29).map (·.size) = some (ctxRow u A2 m.length c2).size by rw [ctxRow_size _ _ _ _ h5]; exact iX_)
        have XB := hidd_ (X3.out.grown hC.grown (by omega) (fun k hk => by injection hk with hk; omega))
        simp only [framed, List.foldl_cons, List.foldl_nil, List.setIfInBounds_toArray, List.set_cons_succ, List.set_cons_zero, hf5]
        clear hv hC hJ hfr hL hq h7 h8 h9 h10 hf5
        rename_i K hK
        refine hK _ _ ?_
        go_wp2
        exact bodyPost_ret (results_cell_slotD Try.results26 _ _ (g + 2) (v' := .int .i64 z) rfl rfl (run_loadVar_row _ _ _ _ _ (0, 0) _ k9 Try.underlying29 rfl IV.out)) rfl ⟨u, m, A2, c2, z, rfl, h1, fun y hy => by have := h2 y hy; have := HG.out; omega, h3, h4, h5, .inr ⟨⟨HE.out, HBZ.out⟩, by rw [HCT.out]; exact h6⟩, by rw [HG.out]; exact XB.out⟩
  · have b1 : (e == 0) = false := by simpa using he0
    have b2 : (e != 0) = true := by simpa using he0
    have HQ := hidd_ (show chk up ms ≠ 0 by rw [HE.out]; exact he0)
    clear he0
    go_wp2_with (first
      | (refine wpList_load_row rfl 29 (.tmp 2) rfl g rfl 29 (ctxRow up A n c) (0, 0) _ K1.out Try.underlying29 rfl IX.out ?_)
      | (go_at_call 16; ((with_reducible refine cc.mono ?_); clear cc; rintro e w2 ⟨rfl, hb⟩; have X3 := hidd_ (X1.out.trans (hb.mono (by have := HS1.out; omega))); have R3 := hidd_ (R1.out.below hb R1.out.lt); clear hb))
      | (refine wpList_built rfl 29 _ rfl (ctxRow (List.replicate 16 0) none 0 0) (by kernel_rfl) ?_)
      | (refine wpList_put_row rfl 29 _ _ rfl (g + 2) (ctxRow (List.replicate 16 0) none 0 0) rfl rfl 29 (ctxRow (List.replicate 16 0) none 0 0) R3.out IZ.out rfl (ctxRow_one _ _ _ _) ?_; intro W9 k9 g9 s9))
    refine bodyPost_ret (results_cell_slotD Try.results26 _ _ (g + 2) (v' := .int .i64 1) rfl rfl (run_loadVar_row _ _ _ _ _ (0, 0) _ k9 Try.underlying29 rfl IZ.out)) rfl ⟨List.replicate 16 0, [], none, 0, 1, rfl, RdD.nil, fun y e => (by cases e), Nat.le_refl _, by omega, by simp, .inl ⟨.inl HQ.out, rfl, rfl, rfl⟩, ?_⟩
    rw [HG.out]
    exact X3.out.grown g9 (Nat.le_of_lt (Nat.lt_of_le_of_lt (by omega) R3.out.lt)) (fun k hk => by injection hk with hk; omega)
end Go.Proofs.Ytjflmfmncepeeaa
