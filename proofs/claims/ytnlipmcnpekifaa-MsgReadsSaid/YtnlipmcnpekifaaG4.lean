/-
  codec.Out.put.
-/
import Derived.Test.YtnlipmcnpekifaaG3
import Derived.BigQuiet
namespace Go.Proofs.Ytnlipmcnpekifaa
set_option maxRecDepth 100000
open Go.RowKit
set_option linter.unusedVariables false
set_option linter.unusedSimpArgs false

theorem OutF.outN {w : World} {g : Nat} {l : List UInt8} {bad wrong : Bool} {F : List Nat} {h : Nat} {A : Option Addr} {n c : Nat} (hn : l.length = n) (hO : OutN w g l bad wrong F h A n c) : OutF w g l bad wrong F := by
  subst hn
  exact ⟨hO.gF, _, hO.head, .inr ⟨h, A, c, rfl, hO.hF, hO.ne, hO.mid, hO.own, hO.far⟩⟩
theorem OutN.keep {w w' : World} {g : Nat} {l : List UInt8} {bad wrong : Bool} {F : List Nat} {h : Nat} {A : Option Addr} {n c : Nat} (hO : OutN w g l bad wrong F h A n c) (hb : Below w.heap.size w w') : OutN w' g l bad wrong F h A n c :=
  ⟨hO.gF, hO.hF, hO.ne, hO.head.below hb hO.head.lt, hO.mid.below hb hO.mid.lt, hO.own.below hb (Nat.le_refl _), hO.far⟩

set_option maxRecDepth 100000 in
set_option maxHeartbeats 4000000 in
theorem put_any (w : World) (g : Nat) (l : List UInt8) (bad wrong : Bool) (F : List Nat) (A : Option Addr) (n c : Nat) (m : List UInt8) (h : OutF w g l bad wrong F) (hr : RdF w F A m) (hm : m.length = n) (hs : l.length + n ≤ 140737488355328) :
    Calls Try.prog 65 #[.pointer (some ⟨g, 0, none⟩), .slice A n c] w (OutP w g (l ++ m) bad wrong F) := by
  obtain ⟨z, hz⟩ : ∃ z, l.length = z := ⟨_, rfl⟩
  have HZ := hidg_ hz
  have HM := hidg_ hm
  have HR := hidg_ hr
  obtain ⟨hg, all, hb, hor⟩ := id h
  rw [hz] at hb
  have HO := hidg_ h
  have hc0 := hb.cell 0
  have hc1 := hb.cell 1
  simp only [List.getElem?_toArray, List.getElem?_cons_zero, List.getElem?_cons_succ] at hc0 hc1
  have HB := hidg_ hb
  rw [hz] at hs
  clear hb h hz hm hr
  go_enter Try.func65, Try.ntmps65
  go_upto_region 3 with fail
  go_cut [26] (fun s26 wx => ∃ b, s26 = .bool b ∧ (∃ nq, wx = w.drewN nq) ∧ ((b = true ∧ all = .pointer none ∧ l = []) ∨ (b = false ∧ ∃ h A c, OutN w g l bad wrong F h A z c)))
  case first =>
    rcases hor with ⟨rfl, rfl⟩ | ⟨h, A2, c2, rfl, hF, hne, hbk, ho, hown⟩
    · go_quiet (fail)
      go_wp2
      go_meet
      exact ⟨true, rfl, ⟨_, rfl⟩, .inl ⟨rfl, trivial, trivial⟩⟩
    · have hz := HZ.out
      rw [hz] at hbk ho hown
      have hh := hbk.cell 0
      simp only [List.getElem?_toArray, List.getElem?_cons_zero] at hh
      have hlt : decide ((z : Int) < (z : Int)) = false := by simp
      have HN : Hid (OutN w g l bad wrong F h A2 z c2) := hidg_ ⟨hg, hF, hne, HB.out, hbk, ho, hown⟩
      clear hbk ho hown hz
      go_quiet (fail)
      go_wp2
      go_meet
      exact ⟨false, rfl, ⟨_, rfl⟩, .inr ⟨rfl, _, _, _, HN.out⟩⟩
  case rest =>
    obtain ⟨b, rfl, ⟨nq, rfl⟩, hcase⟩ := hcut
    rename_i K1 hK1 K2 hK2
    refine hK2 _ _ ?_
    go_cut [] (fun wx => ∃ h A2 c2 F2, Hid (OutN wx g l bad wrong F2 h A2 z c2) ∧ Hid (Grew w F F2) ∧ Hid (Untouched F w wx))
    case first =>
      rcases hcase with ⟨rfl, rfl, rfl⟩ | ⟨rfl, h, A2, c2, HN⟩
      · have HBn := hidg_ (HB.out.drewN nq)
        have co := own_any (w.drewN nq) g z [] bad wrong F ⟨hg, _, by rw [HZ.out]; exact HBn.out, .inl ⟨rfl, rfl⟩⟩ HZ.out (by omega)
        have HW := hidg_ (Untouched.drewN (F := F) (w := w) nq)
        have HS := hidg_ (show (w.drewN nq).heap.size = w.heap.size from rfl)
        clear hor HO HB hc0 hc1
        generalize w.drewN nq = wd at *
        go_wp2_with ((go_at_call 67; ((with_reducible refine co.mono ?_); rintro e w' ⟨A3, q3, rfl, ho, hb⟩; have hO3 := hidg_ ho; have HB3 := hidg_ hb; have hgl := HBn.out.lt; have hb4 := (HBn.out.below hb hgl).alloc (.cells #[.slice A3 z q3] 30); have hc4 := hb4.cell 0; have hf4 := hb4.frozen 0; clear hb4 ho hb)))
        go_meet
        obtain ⟨hN, hG, hU⟩ := OutN.born hg rfl HBn.out hO3.out HB3.out
        exact ⟨_, _, _, _, hidg_ hN, hidg_ ((Grew.refl w F).trans HW.out.size hG), hidg_ (HW.out.trans (Grew.refl _ _) hU)⟩
      · go_wp2
        go_meet
        exact ⟨h, A2, c2, F, hidg_ (HN.keep (below_drewN (Below.refl w.heap.size w) nq)), hidg_ (Grew.refl _ _), hidg_ (Untouched.drewN nq)⟩
    case rest =>
      obtain ⟨h, A2, c2, F2, HN, HG, HU⟩ := hcut
      have HX := hidg_ (HR.out.keep HU.out HG.out)
      refine hK1 _ _ ?_
      clear hK1 hK2 hcase hor hc0 hc1 HO HB
      go_upto_region 6 with fail
      have hZ := HZ.out
      refine region_byJF [32, 33, 34, 35, 36, 37, 38, 39, 40, 41, 42, 43, 44] (fun W => Untouched F2 wc W ∧ Bk W g 61 #[.pointer (some ⟨h, 0, none⟩), .int .i64 (z : Int), .bool bad, .bool wrong]) (fun _ _ => True) (fun j v _ => PutR g h A2 z c2 A n c j v) (PutJ wc.heap.size h A2 z c2 l m) (by kernel_rfl) (by kernel_rfl) (by kernel_rfl) (by kernel_rfl) (fun j v w w' _ hr => ?_) (fun j v w hlt hj _ => ?_) ⟨Untouched.drewN 1, HN.out.head.drewN 1⟩ ?_ (PutJ.start (HN.out.mid.drewN 1) (HN.out.own.drewN 1)) ?_
      · exact hr
      · rcases j with _ | _ | _ | _ | _ | _ | _ | _ | _ | _ | _ | _ | _ | _ | j
        all_goals first
          | (exfalso; simp [dstOf] at hj; done)
          | trivial
      · refine ⟨fun L a w hC hd hsz hf hv hJ hL hW K hK => ?_, fun L a w hC hd hsz hf hv hJ hL hW K hK => ?_, fun L a w hC hd hsz hf hv hJ hL hW K hK => ?_, fun L a w hC hd hsz hf hv hJ hL hW K hK => ?_, fun L a w hC hd hsz hf hv hJ hL hW K hK => ?_, fun L a w hC hd hsz hf hv hJ hL hW K hK => ?_, fun L a w hC hd hsz hf hv hJ hL hW K hK => ?_, fun L a w hC hd hsz hf hv hJ hL hW K hK => ?_, fun L a w hC hd hsz hf hv hJ hL hW K hK => ?_, fun L a w hC hd hsz hf hv hJ hL hW K hK => ?_, fun L a w hC hd hsz hf hv hJ hL hW K hK => ?_, fun L a w hC hd hsz hf hv hJ hL hW K hK => ?_, fun L a w hC hd hsz hf hv hJ hL hW K hK => ?_, fun L a w hC hd hsz hf hv hJ hL hW K hK => ?_, trivial⟩
        · clear hsz
          have e1 := slot_of (a := a) (s := 0) (v := .pointer (some ⟨g, 0, none⟩)) (hf 0 (by kernel_rfl))
          refine step_run (wanted_none rfl) (v := .pointer (some ⟨g, 0, none⟩)) (w' := w) ?_ (hK _ _ hC trivial rfl (hJ.same 0 (by decide) (by decide) _ _ (by decide)))
          go_simp
        · clear hsz
          have e1 := slot_of (a := a) (s := 32) (v := .pointer (some ⟨g, 0, none⟩)) (hv 0 (by kernel_rfl))
          refine step_run (wanted_none rfl) (v := .pointer (some ⟨g, 0, none⟩)) (w' := w) ?_ (hK _ _ hC trivial rfl (hJ.same 1 (by decide) (by decide) _ _ (by decide)))
          go_simp
        · clear hsz
          have e1 := slot_of (a := a) (s := 33) (v := .pointer (some ⟨g, 0, none⟩)) (hv 1 (by kernel_rfl))
          refine step_run (wanted_none rfl) (v := .pointer (some ⟨g, 0, none⟩)) (w' := w) ?_ (hK _ _ hC trivial rfl (hJ.same 2 (by decide) (by decide) _ _ (by decide)))
          go_simp
        · clear hsz
          have e1 := slot_of (a := a) (s := 34) (v := .pointer (some ⟨g, 0, none⟩)) (hv 2 (by kernel_rfl))
          have e2 := hC.2.cell 0
          simp only [List.getElem?_toArray, List.getElem?_cons_zero] at e2
          refine step_run (wanted_none rfl) (v := .pointer (some ⟨h, 0, none⟩)) (w' := w) ?_ (hK _ _ hC trivial rfl (hJ.same 3 (by decide) (by decide) _ _ (by decide)))
          go_simp
        · clear hsz
          have e1 := slot_of (a := a) (s := 0) (v := .pointer (some ⟨g, 0, none⟩)) (hf 0 (by kernel_rfl))
          refine step_run (wanted_none rfl) (v := .pointer (some ⟨g, 0, none⟩)) (w' := w) ?_ (hK _ _ hC trivial rfl (hJ.same 4 (by decide) (by decide) _ _ (by decide)))
          go_simp
        · clear hsz
          have e1 := slot_of (a := a) (s := 36) (v := .pointer (some ⟨g, 0, none⟩)) (hv 4 (by kernel_rfl))
          refine step_run (wanted_none rfl) (v := .pointer (some ⟨g, 0, none⟩)) (w' := w) ?_ (hK _ _ hC trivial rfl (hJ.same 5 (by decide) (by decide) _ _ (by decide)))
          go_simp
        · clear hsz
          have e1 := slot_of (a := a) (s := 37) (v := .pointer (some ⟨g, 0, none⟩)) (hv 5 (by kernel_rfl))
          refine step_run (wanted_none rfl) (v := .pointer (some ⟨g, 0, none⟩)) (w' := w) ?_ (hK _ _ hC trivial rfl (hJ.same 6 (by decide) (by decide) _ _ (by decide)))
          go_simp
        · clear hsz
          have e1 := slot_of (a := a) (s := 38) (v := .pointer (some ⟨g, 0, none⟩)) (hv 6 (by kernel_rfl))
          have e2 := hC.2.cell 0
          simp only [List.getElem?_toArray, List.getElem?_cons_zero] at e2
          refine step_run (wanted_none rfl) (v := .pointer (some ⟨h, 0, none⟩)) (w' := w) ?_ (hK _ _ hC trivial rfl (hJ.same 7 (by decide) (by decide) _ _ (by decide)))
          go_simp
        · clear hsz
          have e1 := slot_of (a := a) (s := 39) (v := .pointer (some ⟨h, 0, none⟩)) (hv 7 (by kernel_rfl))
          refine step_run (wanted_none rfl) (v := .pointer (some ⟨h, 0, none⟩)) (w' := w) ?_ (hK _ _ hC trivial rfl (hJ.same 8 (by decide) (by decide) _ _ (by decide)))
          go_simp
        · clear hsz
          have e1 := slot_of (a := a) (s := 40) (v := .pointer (some ⟨h, 0, none⟩)) (hv 8 (by kernel_rfl))
          have e2 := (hJ.mid (by cases h13 : L 13 with | false => rfl | true => exact absurd (hJ.o9 (hJ.o11 h13)) (by rw [hL]; decide))).cell 0
          simp only [List.getElem?_toArray, List.getElem?_cons_zero] at e2
          refine step_run (wanted_none rfl) (v := .slice A2 z c2) (w' := w) ?_ (hK _ _ hC trivial rfl (hJ.same 9 (by decide) (by decide) _ _ (by decide)))
          go_simp
        · clear hsz
          have e1 := slot_of (a := a) (s := 1) (v := .slice A n c) (hf 1 (by kernel_rfl))
          refine step_run (wanted_none rfl) (v := .slice A n c) (w' := w) ?_ (hK _ _ hC trivial rfl (hJ.same 10 (by decide) (by decide) _ _ (by decide)))
          go_simp
        · have ho := hJ.own hL
          have hx := ((HX.out.keep hC.1 (Grew.refl _ _)).rd)
          refine step_app (base := 0) rfl (.tmp 41) (.tmp 42) rfl ho (eval_of (hv 9 (by kernel_rfl))) n c (eval_of (hv 10 (by kernel_rfl))) hx HM.out (by rw [HZ.out]; exact hs) (Nat.zero_le _) ?_
          intro A1 c1 w1 ho1 hg1 hb1
          have hgne : ∀ k, k ∈ F2 → some k ≠ (Value.slice A2 z c2).ownBlock ∨ (k ≠ g ∧ k ≠ h) := by
            intro k hk
            cases hv2 : (Value.slice A2 z c2).ownBlock with
            | none => exact .inl (by simp)
            | some b =>
              by_cases e : k = b
              · subst e
                exact .inr (HN.out.far k hv2).2
              · exact .inl (by simp [e])
          refine hK _ _ ⟨hC.1.trans (Grew.refl _ _) (Untouched.of_grown hg1 fun k hk => (HN.out.far k hk).1), hC.2.grown hg1 (by rcases hgne g HN.out.gF with h1 | h1; exact h1; exact absurd rfl h1.1)⟩ trivial trivial (hJ.app hL (hW 9 (by kernel_rfl)) (by rw [hsz]; simp) A1 _ c1 ho1 (by rcases hb1 with h1 | h1; exact .inl h1; exact .inr ⟨_, h1, hC.1.size⟩) (fun hm => hm.grown hg1 (by rcases hgne h HN.out.hF with h1 | h1; exact h1; exact absurd rfl h1.2)))
        · clear hsz
          have e1 := slot_of (a := a) (s := 35) (v := .pointer (some ⟨h, 0, none⟩)) (hv 3 (by kernel_rfl))
          refine step_run (wanted_none rfl) (v := .pointer (some ⟨h, 0, none⟩)) (w' := w) ?_ (hK _ _ hC trivial rfl (hJ.same 12 (by decide) (by decide) _ _ (by decide)))
          go_simp
        · clear hsz
          have e1 := slot_of (a := a) (s := 44) (v := .pointer (some ⟨h, 0, none⟩)) (hv 12 (by kernel_rfl))
          have h11 := hW 11 (by kernel_rfl)
          obtain ⟨A1, m1, c1, e43, ho1, hb1⟩ := hJ.new h11
          have e2 := slot_of (a := a) (s := 43) e43
          have hm := hJ.mid hL
          have hfz := hm.frozen 0
          have hcz := hm.cell 0
          simp only [List.getElem?_toArray, List.getElem?_cons_zero] at hcz
          have hset := hm.set_ 0 (.slice A1 m1 c1)
          refine step_skip (wanted_none rfl) (w' := w.setCell ⟨h, 0, none⟩ (.slice A1 m1 c1)) ?_ (hK undef _ ⟨hC.1.trans (Grew.refl _ _) (Untouched.set h 0 HN.out.hF _), hC.2.far (p := ⟨h, 0, none⟩) (fun e => HN.out.ne e.symm) _⟩ trivial trivial (hJ.store h11 (by rw [e43]; exact hset) (fun v hv1 hv2 => hv1.kept (grown_put (World.grownBy.refl w (some h)) 0 _) (.inr hv2)) ?_))
          · go_simp
          · intro A5 m5 c5 hor e
            rcases hor with h1 | ⟨k, h1, h2⟩
            · rw [e] at h1
              exact absurd rfl (HN.out.far h h1.symm).2.2
            · rw [e] at h1
              injection h1 with h1
              have := HN.out.mid.lt
              omega
      · intro f w6 hC6 hv6 L6 hL6 hJ6
        obtain ⟨a6, hJ, -⟩ := hJ6
        obtain ⟨A1, m1, c1, e43, ho1, hb1⟩ := hJ.new (hL6 11 (by decide))
        have hm6 := hJ.put (hL6 13 (by decide))
        rw [e43] at hm6
        obtain ⟨hO, hG2, hU2⟩ := OutN.last HN.out hC6.1 hC6.2 hm6 ho1 hb1
        have H1 := hidg_ hO
        have H2 := hidg_ (HG.out.trans HU.out.size hG2)
        have H3 := hidg_ (HU.out.trans HG.out hU2)
        have H4 := hidg_ ho1.rd.2
        have hca := hC6.2.cell 0
        have hcb := hC6.2.cell 1
        have hcf := hC6.2.frozen 1
        have hcm := hm6.cell 0
        simp only [List.getElem?_toArray, List.getElem?_cons_zero, List.getElem?_cons_succ] at hca hcb hcm
        simp only [framed, List.foldl_cons, List.foldl_nil, List.setIfInBounds_toArray, List.set_cons_succ, List.set_cons_zero]
        clear hv6 hL6 hJ e43 ho1 hb1 hm6 hO hG2 hU2 hC6
        go_wp2
        go_ret
        exact ⟨rfl, _, OutF.outN H4.out.symm H1.out, H2.out, H3.out⟩
end Go.Proofs.Ytnlipmcnpekifaa
