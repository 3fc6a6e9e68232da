/-
  Proved: for all acts and numbers VaultForged answers true: an ideal vault opens nothing but what it sealed. No condition.
-/
import Derived.Test.YtoeofifibjelnaaDoorYk
namespace Go.Proofs.YtoeofifibjelnaaDoor.vaultForged
set_option maxRecDepth 100000
open Go.ChangeShapes Go.WideShapes Go.ChangeAt Go.RowKit
set_option linter.unusedVariables false
set_option linter.unusedSimpArgs false

theorem hid_ {p : Prop} (h : p) : Hid p := h
def K7 : List UInt8 := 7 :: zbytes 31

set_option maxRecDepth 100000 in
set_option maxHeartbeats 16000000 in
theorem walk (w : World) (q : VAct) (hq : VActOk w w.heap.size q) (z1 z2 : Int) (ht : Tab w) (hg1 : 1 < w.heap.size) :
    Calls Tryd.prog 6 #[.agg q.row, .int .i64 z1, .int .i64 z2] w fun e w' => e = .returned (.bool true) ∧ Below w.heap.size w w' := by
  obtain ⟨g, hg⟩ : ∃ g, w.heap.size = g := ⟨_, rfl⟩
  obtain ⟨w0, hw0⟩ : ∃ w0, w.alloc (.cells q.row 39) = w0 := ⟨_, rfl⟩
  have B0 := hid_ (show Below g w w0 by rw [← hw0, ← hg]; exact (Below.refl w.heap.size w).alloc (Nat.le_refl _) _)
  have K0 := hid_ (show Bk w0 g 39 q.row by rw [← hw0, ← hg]; exact Bk.new w _ _)
  have HG := hid_ hg
  rw [hg] at hg1
  have HT := hid_ (show Tab w0 from fun t h => (B0.out.cell (p := ⟨_, t, none⟩) hg1).trans (ht t h))
  have g01 : 1 < w0.heap.size := by have := K0.out.lt; omega
  have gle : g ≤ w0.heap.size := Nat.le_of_lt K0.out.lt
  have hq0 := (((hg ▸ hq).below B0.out).more gle)
  have RW := hid_ hq0.wrd
  have LW := hid_ hq0.wlen
  have CW := hid_ hq0.wcap
  have RB := hid_ hq0.brd
  have LB := hid_ hq0.blen
  have CB := hid_ hq0.bcap
  obtain ⟨mw, hmw⟩ : ∃ m, m = min q.wl.length 40 := ⟨_, rfl⟩
  obtain ⟨mb, hmb⟩ : ∃ m, m = min q.bl.length 100 := ⟨_, rfl⟩
  have MW := hid_ hmw
  have MB := hid_ hmb
  have XL := hid_ (show (q.wl.take 40).length = mw by rw [List.length_take, hmw, Nat.min_comm])
  have BL := hid_ (show (q.bl.take 100).length = mb by rw [List.length_take, hmb, Nat.min_comm])
  have mw40 : mw ≤ 40 := by omega
  have mb100 : mb ≤ 100 := by omega
  have KL : K7.length = 32 := rfl
  have ci := ideal_new w0 K7 KL
  have HKB := hid_ (show K7 = 7 :: zbytes 31 from rfl)
  have HKL := hid_ KL
  generalize K7 = K at *
  clear ht KL hq hq0 hmw hmb
  go_enter Tryd.func6, Tryd.ntmps6
  go_upto_region 2 with (first
    | (refine wpList_built rfl 22 _ rfl (rowOf K) (by rw [HKB.out]; kernel_rfl) ?_)
    | (go_at_call 7; ((with_reducible refine ci.mono ?_); clear ci; rintro e w1 ⟨v, sp, nm, kn, F, rfl, hv, hF, hb⟩; have M1 := hid_ (show Mine w0 v sp nm kn K [] [] [] F w1 from ⟨hv, hF, hb⟩); clear hv hF hb)))
  rename_i K9 hK9
  have HB1 := hid_ M1.out.below
  have K1 := hid_ (K0.out.below HB1.out K0.out.lt)
  have C4 : Hid (∀ W, Below w1.heap.size w1 W → W.cell? ⟨g, 4, none⟩ = some (.slice q.wa q.wl.length q.wc)) := hid_ (fun W hW => (K1.out.below hW K1.out.lt).cell 4)
  have C5 : Hid (∀ W, Below w1.heap.size w1 W → W.cell? ⟨g, 5, none⟩ = some (.slice q.ba q.bl.length q.bc)) := hid_ (fun W hW => (K1.out.below hW K1.out.lt).cell 5)
  clear hw0 hg
  refine region_byF [20, 21, 22, 23, 24, 25, 8, 9] (fun W => Below w1.heap.size w1 W) (fun W W' => Below W.heap.size W W') (CtR g q mw mb (q.wl.take 40) (q.bl.take 100) w1.heap.size) (by kernel_rfl) (by kernel_rfl) (by kernel_rfl) (by kernel_rfl) (fun j v w w' hT hr => ?_) (fun j v w hlt hj _ => ?_) ((Below.refl _ _).drew) ?_ ?_
  · exact CtR.stable hT j v hr
  · rcases j with _ | _ | _ | _ | _ | _ | _ | _ | j
    all_goals first
      | (exfalso; simp [dstOf] at hj; done)
      | trivial
  · refine ⟨fun a W hC hd hf hv K hK => ?_, fun a W hC hd hf hv K hK => ?_, fun a W hC hd hf hv K hK => ?_, fun a W hC hd hf hv K hK => ?_, fun a W hC hd hf hv K hK => ?_, fun a W hC hd hf hv K hK => ?_, fun a W hC hd hf hv K hK => ?_, fun a W hC hd hf hv K hK => ?_, trivial⟩
    · have e1 := slot_of (a := a) (s := 3) (v := .pointer (some ⟨g, 0, none⟩)) (hf 3 (by kernel_rfl))
      refine step_run (wanted_none rfl) (v := .pointer (some ⟨g, 4, none⟩)) (w' := W) ?_ (hK _ _ hC (Below.refl _ _) rfl)
      go_simp
    · have e1 := slot_of (a := a) (s := 20) (v := .pointer (some ⟨g, 4, none⟩)) (hv 0 (by kernel_rfl))
      have c4 := C4.out W hC
      refine step_run (wanted_none rfl) (v := .slice q.wa q.wl.length q.wc) (w' := W) ?_ (hK _ _ hC (Below.refl _ _) rfl)
      go_simp
    · have e1 := slot_of (a := a) (s := 21) (v := .slice q.wa q.wl.length q.wc) (hv 1 (by kernel_rfl))
      have cc : Calls Tryd.prog 9 #[.slice q.wa q.wl.length q.wc, .int .i64 40] W (NewP W mw (q.wl.take 40)) := vcut_any W q.wa q.wl q.wl.length _ 40 mw rfl MW.out (by omega) ((RW.out.below (HB1.out.trans (hC.mono HB1.out.size))).more (by have h1 := HB1.out.size; have h2 := hC.size; omega)) LW.out CW.out
      refine step_callx 9 #[.slice q.wa q.wl.length q.wc, .int .i64 40] (wanted_none rfl) (w' := W) ?_ (cc.mono fun e W2 hh => ?_)
      · go_simp
      · obtain ⟨A, d, rfl, ho, hb⟩ := hh
        exact ⟨_, rfl, hK _ _ (hC.trans (hb.mono hC.size)) hb ⟨A, d, rfl, ho.lower hC.size⟩⟩
    · have e1 := slot_of (a := a) (s := 3) (v := .pointer (some ⟨g, 0, none⟩)) (hf 3 (by kernel_rfl))
      refine step_run (wanted_none rfl) (v := .pointer (some ⟨g, 5, none⟩)) (w' := W) ?_ (hK _ _ hC (Below.refl _ _) rfl)
      go_simp
    · have e1 := slot_of (a := a) (s := 23) (v := .pointer (some ⟨g, 5, none⟩)) (hv 3 (by kernel_rfl))
      have c5 := C5.out W hC
      refine step_run (wanted_none rfl) (v := .slice q.ba q.bl.length q.bc) (w' := W) ?_ (hK _ _ hC (Below.refl _ _) rfl)
      go_simp
    · have e1 := slot_of (a := a) (s := 24) (v := .slice q.ba q.bl.length q.bc) (hv 4 (by kernel_rfl))
      have cc : Calls Tryd.prog 9 #[.slice q.ba q.bl.length q.bc, .int .i64 100] W (NewP W mb (q.bl.take 100)) := vcut_any W q.ba q.bl q.bl.length _ 100 mb rfl MB.out (by omega) ((RB.out.below (HB1.out.trans (hC.mono HB1.out.size))).more (by have h1 := HB1.out.size; have h2 := hC.size; omega)) LB.out CB.out
      refine step_callx 9 #[.slice q.ba q.bl.length q.bc, .int .i64 100] (wanted_none rfl) (w' := W) ?_ (cc.mono fun e W2 hh => ?_)
      · go_simp
      · obtain ⟨A, d, rfl, ho, hb⟩ := hh
        exact ⟨_, rfl, hK _ _ (hC.trans (hb.mono hC.size)) hb ⟨A, d, rfl, ho.lower hC.size⟩⟩
    · obtain ⟨A, d, eA, hA⟩ : ∃ A d, a.tmps.getD 22 undef = .slice A mw d ∧ Own8 W w1.heap.size (.slice A mw d) (q.wl.take 40) := hv 2 (by kernel_rfl)
      have e1 := slot_of (a := a) (s := 22) eA
      refine step_run (wanted_none rfl) (v := .slice A mw d) (w' := W) ?_ (hK _ _ hC (Below.refl _ _) ⟨A, d, rfl, hA⟩)
      go_simp
    · obtain ⟨A, d, eA, hA⟩ : ∃ A d, a.tmps.getD 25 undef = .slice A mb d ∧ Own8 W w1.heap.size (.slice A mb d) (q.bl.take 100) := hv 5 (by kernel_rfl)
      have e1 := slot_of (a := a) (s := 25) eA
      refine step_run (wanted_none rfl) (v := .slice A mb d) (w' := W) ?_ (hK _ _ hC (Below.refl _ _) ⟨A, d, rfl, hA⟩)
      go_simp
  · intro f w2 hC2 hv2
    obtain ⟨A8, c8, f8, hO8⟩ : ∃ A c, f 8 = .slice A mw c ∧ Own8 w2 w1.heap.size (.slice A mw c) (q.wl.take 40) := hv2 6 (by decide)
    obtain ⟨A9, c9, f9, hO9⟩ : ∃ A c, f 9 = .slice A mb c ∧ Own8 w2 w1.heap.size (.slice A mb c) (q.bl.take 100) := hv2 7 (by decide)
    simp only [framed, List.foldl_cons, List.foldl_nil, List.setIfInBounds_toArray, List.set_cons_succ, List.set_cons_zero]
    rw [f8, f9]
    have O8 := hid_ hO8
    have O9 := hid_ hO9
    have B2 := hid_ hC2
    clear hv2 hC2 hO8 hO9 f8 f9
    refine hK9 _ _ ?_
    clear hK9 K9 C4 C5
    have M2 := hid_ (M1.out.then_ B2.out)
    have K2 := hid_ (K1.out.below B2.out K1.out.lt)
    have HF1 : Hid (∀ k ∈ F, k < w1.heap.size) := hid_ M1.out.vlt.hF
    clear M1 K1
    obtain ⟨U1, R1, h1⟩ := restY q.epoch 9 (by omega) (by omega)
    obtain ⟨U2, R2, h2⟩ := restY q.client 9 (by omega) (by omega)
    obtain ⟨U3, R3, h3⟩ := restY q.counter 9 (by omega) (by omega)
    obtain ⟨e, he⟩ : ∃ e : Nat, 1 + (R1 : Int) = (e : Int) := ⟨1 + R1, by omega⟩
    obtain ⟨c, hc⟩ : ∃ e : Nat, 1 + (R2 : Int) = (e : Int) := ⟨1 + R2, by omega⟩
    obtain ⟨n, hn⟩ : ∃ e : Nat, 1 + (R3 : Int) = (e : Int) := ⟨1 + R3, by omega⟩
    have EB := hid_ (show 1 ≤ e ∧ e ≤ 9 by have := h1.lt; omega)
    have CBn := hid_ (show 1 ≤ c ∧ c ≤ 9 by have := h2.lt; omega)
    have NBn := hid_ (show 1 ≤ n ∧ n ≤ 9 by have := h3.lt; omega)
    have we : IntKind.i64.wrap (e : Int) = (e : Int) := IntWalk.i64_in _ (by have := EB.out; omega)
    have wc : IntKind.i64.wrap (c : Int) = (c : Int) := IntWalk.i64_in _ (by have := CBn.out; omega)
    have wn : IntKind.i64.wrap (n : Int) = (n : Int) := IntWalk.i64_in _ (by have := NBn.out; omega)
    obtain ⟨u1, t1', r1', wu1, wi1, -⟩ := h1
    have t1 : (U1 : Int).tmod 9 = (R1 : Int) := t1'
    have r1 : (U1 : Int) % 9 = (R1 : Int) := r1'
    clear t1' r1'
    obtain ⟨u2, t2', r2', wu2, wi2, -⟩ := h2
    have t2 : (U2 : Int).tmod 9 = (R2 : Int) := t2'
    have r2 : (U2 : Int) % 9 = (R2 : Int) := r2'
    clear t2' r2'
    obtain ⟨u3, t3', r3', wu3, wi3, -⟩ := h3
    have t3 : (U3 : Int).tmod 9 = (R3 : Int) := t3'
    have r3 : (U3 : Int) % 9 = (R3 : Int) := r3'
    clear t3' r3'
    go_upto_region 3 with fail
    rename_i K9 hK9
    have C1 : Hid (∀ W, Below w2.heap.size w2 W → W.cell? ⟨g, 1, none⟩ = some (.int .i64 q.epoch)) := hid_ (fun W hW => (K2.out.below hW K2.out.lt).cell 1)
    have C2 : Hid (∀ W, Below w2.heap.size w2 W → W.cell? ⟨g, 2, none⟩ = some (.int .i64 q.client)) := hid_ (fun W hW => (K2.out.below hW K2.out.lt).cell 2)
    have C3 : Hid (∀ W, Below w2.heap.size w2 W → W.cell? ⟨g, 3, none⟩ = some (.int .i64 q.counter)) := hid_ (fun W hW => (K2.out.below hW K2.out.lt).cell 3)
    refine region_quiet_in (C := fun W => Below w2.heap.size w2 W) (by kernel_rfl) (by kernel_rfl) ((Below.refl _ _).drew) ?_
    repeat (go_big_quiet_want; (first
      | (refine BigFrame.quiet_move _ rfl ?_; go_simp)
      | (refine BigFrame.quiet_assign _ rfl ?_; go_simp)
      | (refine quiet_run (.pointer (some ⟨g, 1, none⟩)) ?_ ?_; (focus (intro W hW; go_simp; done)); go_simp)
      | (refine quiet_run (.pointer (some ⟨g, 2, none⟩)) ?_ ?_; (focus (intro W hW; go_simp; done)); go_simp)
      | (refine quiet_run (.pointer (some ⟨g, 3, none⟩)) ?_ ?_; (focus (intro W hW; go_simp; done)); go_simp)
      | (refine quiet_run (.int .i64 q.epoch) ?_ ?_; (focus (intro W hW; have h := C1.out W hW; go_simp; done)); go_simp)
      | (refine quiet_run (.int .i64 q.client) ?_ ?_; (focus (intro W hW; have h := C2.out W hW; go_simp; done)); go_simp)
      | (refine quiet_run (.int .i64 q.counter) ?_ ?_; (focus (intro W hW; have h := C3.out W hW; go_simp; done)); go_simp)
      | (refine quiet_run (.int .u64 (U1 : Int)) ?_ ?_; (focus (intro W hW; go_simp; done)); go_simp)
      | (refine quiet_run (.int .u64 (U2 : Int)) ?_ ?_; (focus (intro W hW; go_simp; done)); go_simp)
      | (refine quiet_run (.int .u64 (U3 : Int)) ?_ ?_; (focus (intro W hW; go_simp; done)); go_simp)
      | (refine quiet_run (.int .u64 (R1 : Int)) ?_ ?_; (focus (intro W hW; go_simp; done)); go_simp)
      | (refine quiet_run (.int .u64 (R2 : Int)) ?_ ?_; (focus (intro W hW; go_simp; done)); go_simp)
      | (refine quiet_run (.int .u64 (R3 : Int)) ?_ ?_; (focus (intro W hW; go_simp; done)); go_simp)
      | (refine quiet_run (.int .i64 (R1 : Int)) ?_ ?_; (focus (intro W hW; go_simp; done)); go_simp)
      | (refine quiet_run (.int .i64 (R2 : Int)) ?_ ?_; (focus (intro W hW; go_simp; done)); go_simp)
      | (refine quiet_run (.int .i64 (R3 : Int)) ?_ ?_; (focus (intro W hW; go_simp; done)); go_simp)
      | (refine quiet_run (.int .i64 (e : Int)) ?_ ?_; (focus (intro W hW; go_simp; done)); go_simp)
      | (refine quiet_run (.int .i64 (c : Int)) ?_ ?_; (focus (intro W hW; go_simp; done)); go_simp)
      | (refine quiet_run (.int .i64 (n : Int)) ?_ ?_; (focus (intro W hW; go_simp; done)); go_simp)); go_big_quiet_on)
    refine wpQuiet_nil ?_
    intro w3 hw3
    have M3 := hid_ (M2.out.then_ hw3)
    have O83 := hid_ (O8.out.below hw3 (Nat.le_refl _))
    have O93 := hid_ (O9.out.below hw3 (Nat.le_refl _))
    have B3 := hid_ (B2.out.trans (hw3.mono B2.out.size))
    clear hw3 C1 C2 C3 K2 M2 O8 O9 B2 u1 t1 r1 wu1 wi1 u2 t2 r2 wu2 wi2 u3 t3 r3 wu3 wi3 he hc hn we wc wn
    refine hK9 _ _ ?_
    clear hK9 K9
    have ck := keysOf_yes M3.out.vlt.blk M3.out.vlt.len e c n (by have := EB.out; omega) (by have := EB.out; omega) (by have := CBn.out; omega) (by have := CBn.out; omega) (by have := NBn.out; omega) (by have := NBn.out; omega) (M3.out.tab HT.out g01) (M3.out.glt g01)
    obtain ⟨ls, hls⟩ : ∃ m, mb + 16 = m := ⟨_, rfl⟩
    have LSB := hid_ (show 16 ≤ ls ∧ ls ≤ 116 by omega)
    have DL := hid_ (show (drawB K 1 (([] : List (Nat × Nat)).length + 1) (mb + 8)).length = ls by rw [drawB_len]; omega)
    have cs := vseal_ideal M3.out.vlt A8 A9 mw c8 mb c9 (q.wl.take 40) (q.bl.take 100) XL.out BL.out O83.out.rd.1 O93.out.rd.1 (by omega) (by omega) e c n (by have := EB.out; omega) (by have := CBn.out; omega) (by have := NBn.out; omega) (by simp) (by simp) (by simp) ck
    rw [hls] at cs
    generalize drawB K 1 (([] : List (Nat × Nat)).length + 1) (mb + 8) = D at *
    generalize q.wl.take 40 = X at *
    generalize q.bl.take 100 = Y at *
    clear ck hls
    go_upto_region 5 with (go_at_call 11; ((with_reducible refine cs.mono ?_); clear cs; rintro r w4 ⟨A4, c4, F4, rfl, ho, hni, hl⟩; obtain ⟨g4, rfl⟩ := ho.block_ (by have := LSB.out; omega); have M4 := hid_ (M3.out.next hl); have O4 := hid_ ho; have NI := hid_ (hni _ rfl); have GR := hid_ hl.2.1; have S34 := hid_ hl.2.2.size; have O84 := hid_ (O83.out.untouched hl.2.2 HF1.out); clear hl ho hni))
    have W34 := hid_ (show g4 ∉ F4 ∧ w3.heap.size ≤ g4 from ⟨NI.out, (World.ownsRow.lt O4.out g4 rfl).1⟩)
    have NX : Hid (∀ a, A8 = some a → w1.heap.size ≤ a.block ∧ a.block ∉ F4) := hid_ (fun a ea => by
      have hl := World.ownsRow.lt O83.out a.block (by rw [ea]; rfl)
      refine ⟨hl.1, fun hm => ?_⟩
      rcases GR.out _ hm with h1 | h1
      · have := HF1.out _ h1; omega
      · omega)
    have XLT0 : Hid (∀ a, A8 = some a → a.block < w3.heap.size) := hid_ (fun a ea => (World.ownsRow.lt O83.out a.block (by rw [ea]; rfl)).2)
    have cv := vaults_any w4 (M4.out.tab HT.out g01) (M4.out.glt g01)
    have d1 : decide ((ls : Int) < 16) = false := decide_eq_false (by have := LSB.out; omega)
    have d2 : decide (ls < 16) = false := decide_eq_false (by have := LSB.out; omega)
    go_upto_region 7 with (go_at_call 8; ((with_reducible refine cv.mono ?_); clear cv; rintro r w5 ⟨rfl, hb⟩; have M5 := hid_ (M4.out.then_ hb); have S35 := hid_ (Nat.le_trans S34.out hb.size); have O5 := hid_ (O4.out.below hb (Nat.le_refl _)); have O85 := hid_ (O84.out.below hb (Nat.le_refl _)); clear hb))
    clear d1 d2 M3 M4 O4 O84 O83 O93 GR NI
    have XLT : Hid (∀ a, A8 = some a → a.block < w3.heap.size) := hid_ (fun a ea => XLT0.out a ea)
    have OB := hid_ (show w1.heap.size ≤ w5.heap.size ∧ w3.heap.size ≤ w5.heap.size from ⟨Nat.le_trans B3.out.size S35.out, S35.out⟩)
    have W01 := hid_ (show w0.heap.size ≤ w1.heap.size ∧ w0.heap.size ≤ w3.heap.size from ⟨HB1.out.size, Nat.le_trans HB1.out.size B3.out.size⟩)
    obtain ⟨U4, hU4, hU4b⟩ := u64_natY z2
    obtain ⟨R4, t4', r4', wu4, wi4, lt4⟩ := restU U4 6 (by omega) (by omega)
    have t4 : (U4 : Int).tmod 6 = (R4 : Int) := t4'
    have r4 : (U4 : Int) % 6 = (R4 : Int) := r4'
    obtain ⟨nn, hnn⟩ : ∃ m : Nat, 1 + (R4 : Int) = (m : Int) := ⟨1 + R4, by omega⟩
    have NN := hid_ (show 1 ≤ nn ∧ nn ≤ 6 by omega)
    have wnn : IntKind.i64.wrap (nn : Int) = (nn : Int) := IntWalk.i64_in _ (by have := NN.out; omega)
    obtain ⟨U5, hU5, hU5b⟩ := u64_natY z1
    obtain ⟨k, t5', r5', wu5', wi5', lt5⟩ := restU U5 6 (by omega) (by omega)
    clear t4' r4' lt4 hU4b hU5b
    rcases (show k = 0 ∨ k = 1 ∨ k = 2 ∨ k = 3 ∨ k = 4 ∨ k = 5 by omega) with rfl | rfl | rfl | rfl | rfl | rfl
    · have t5 : (U5 : Int).tmod 6 = 0 := t5'
      have r5 : (U5 : Int) % 6 = 0 := r5'
      clear t5' r5' wu5' wi5' lt5
      obtain ⟨i, ti, ri, wui, wii, hil⟩ := restU U4 ls (by have := LSB.out; omega) (by have := LSB.out; omega)
      have hlsu : IntKind.u64.wrap (ls : Int) = (ls : Int) := IntWalk.u64_in _ (by have := LSB.out; omega)
      have hl0 : decide ((ls : Int) = 0) = false := decide_eq_false (by have := LSB.out; omega)
      have hl0n : decide (ls = 0) = false := decide_eq_false (by have := LSB.out; omega)
      have hl0z : (ls : Int) ≠ 0 := by have := LSB.out; omega
      have hil2 : (i : Int) < (ls : Int) := by omega
      have hc := O5.out.cellz i hil
      have hf := O5.out.frozenz i
      obtain ⟨x, hx⟩ : ∃ x, D.getD i 0 = x := ⟨_, rfl⟩
      rw [hx] at hc
      have hxb := x.toNat_lt
      obtain ⟨nb8, hnb8⟩ : ∃ u : UInt8, u.toNat = nn := ⟨UInt8.ofNat nn, by have := NN.out; simp; omega⟩
      have wn8 : IntKind.u8.wrap (nn : Int) = (nn : Int) := by have := NN.out; simp [IntKind.wrap, IntKind.signed, IntKind.bits]; omega
      obtain ⟨y, hy⟩ : ∃ y, x ^^^ nb8 = y := ⟨_, rfl⟩
      have HX : bits .xor .u8 ((x.toNat : Nat) : Int) (nn : Int) = ((y.toNat : Nat) : Int) := by rw [← hnb8, xor8, hy]
      have YN := hid_ (show y ≠ x by rw [← hy]; exact xor_neY x nb8 (fun e0 => by have := NN.out; rw [e0] at hnb8; simp at hnb8; omega))
      obtain ⟨w6, hw6⟩ : ∃ W, w5.setCell ⟨g4, i, none⟩ (.int .u8 ((y.toNat : Nat) : Int)) = W := ⟨_, rfl⟩
      have M6 := hid_ (show Mine w0 v sp nm kn K [] ([] ++ [(c, n)]) ([] ++ [⟨e, c, n, X, D, Y⟩]) F4 w6 by rw [← hw6]; exact M5.out.set _ (by have := W34.out; have := W01.out; omega) W34.out.1)
      have O6 := hid_ (show Own8 w6 w3.heap.size (.slice (some ⟨g4, 0, none⟩) ls c4) (D.set i y) by rw [← hw6]; exact (O5.out.put_ i y).1)
      have O86 := hid_ (show Own8 w6 w1.heap.size (.slice A8 mw c8) X by rw [← hw6]; exact ownsRow_heapy O85.out (fun k hk => Below.heap_setCell w5 ⟨g4, i, none⟩ _ k (fun e0 => by
        obtain ⟨a, ea, eb⟩ := ownBlock_some hk
        have h1 := World.ownsRow.lt O5.out g4 rfl
        have h2 := (World.ownsRow.lt O85.out k hk)
        have h3 : k = g4 := e0
        have h4 := XLT.out a ea
        omega)))
      have SN := hid_ (show D.set i y ≠ D from set_neY D i y (by rw [DL.out]; exact hil) (by rw [hx]; exact YN.out))
      have SL6 := hid_ (show (D.set i y).length = ls by rw [List.length_set, DL.out])
      go_upto_region 20 with fail
      clear hc hf HX hw6 hy hx hnb8 wn8 ti ri wui wii hlsu hl0 hl0n hl0z hil2
      have ck := keysOf_yes M6.out.vlt.blk M6.out.vlt.len e c n (by have := EB.out; omega) (by have := EB.out; omega) (by have := CBn.out; omega) (by have := CBn.out; omega) (by have := NBn.out; omega) (by have := NBn.out; omega) (M6.out.tab HT.out g01) (M6.out.glt g01)
      have co := vopen_miss M6.out.vlt A8 (some ⟨g4, 0, none⟩) mw c8 ls c4 X (D.set i y) XL.out SL6.out O86.out.rd.1 O6.out.rd.1 (by omega) (by have := LSB.out; omega) (by have := LSB.out; omega) e c n (by have := EB.out; omega) (by have := CBn.out; omega) (by have := NBn.out; omega) (fun u hu ek => by
        simp at hu
        subst hu
        obtain ⟨h1, h2, h3, h4, h5⟩ := bKey_inj ek
        exact SN.out h5.symm) ck
      clear ck
      go_wp2_with (go_at_call 13; ((with_reducible refine co.mono ?_); clear co; rintro r w9 ⟨rfl, hb⟩; have M9 := hid_ (M6.out.then_ hb); clear hb))
      go_ret
      exact ⟨rfl, by rw [HG.out]; exact B0.out.trans (M9.out.below.mono gle)⟩
    · have t5 : (U5 : Int).tmod 6 = 1 := t5'
      have r5 : (U5 : Int) % 6 = 1 := r5'
      clear t5' r5' wu5' wi5' lt5
      obtain ⟨ub, hub⟩ := u8_byteY z2
      obtain ⟨w6, hw6⟩ : ∃ W, w5.alloc (.cells #[.int .u8 ((ub.toNat : Nat) : Int)] 5) = W := ⟨_, rfl⟩
      have b6 : Below w5.heap.size w5 w6 := by rw [← hw6]; exact (Below.refl _ _).alloc (Nat.le_refl _) _
      have r6 : Rd w6 w6.heap.size (some ⟨w5.heap.size, 0, none⟩) [ub] := by
        have h := (Blk8.new w5 [ub]).rd (Blk8.new w5 [ub]).lt
        rw [show rowOf [ub] = #[Value.int .u8 ((ub.toNat : Nat) : Int)] from rfl, hw6] at h
        exact h
      have o6 := O85.out.below b6 (Nat.le_refl _)
      have M6 := hid_ (M5.out.then_ b6)
      have P6 := hid_ (O5.out.below b6 (Nat.le_refl _))
      have hle : X.length + 1 ≤ 140737488355328 := by rw [XL.out]; have := LSB.out; omega
      have hsz : w1.heap.size ≤ w6.heap.size := by have h1 := B3.out.size; have h2 := M6.out.below.size; have h3 := OB.out; have h4 := b6.size; omega
      go_upto_region 20 with (at_builtin; refine wpList_app rfl (.tmp 97) (.tmp 100) rfl o6 rfl 1 1 rfl r6 rfl hle hsz ?_; (intro A7 c7 w7 h1 h2 h3; rw [XL.out] at h1 ⊢; have O7 := hid_ h1; have M7 := hid_ (M6.out.grownB h2 (fun k hk => (by obtain ⟨a, ea, eb⟩ := ownBlock_some hk; have h4 := W34.out; have h5 := W01.out; have h6 := NX.out a ea; subst eb; exact ⟨by omega, h6.2⟩))); have P7 := hid_ (show Own8 w7 w3.heap.size (.slice (some ⟨g4, 0, none⟩) ls c4) D from ownsRow_heapy P6.out (fun k hk => h2.block k (World.ownsRow.lt P6.out k hk).2 (fun e0 => (by obtain ⟨a, ea, eb⟩ := ownBlock_some e0.symm; obtain ⟨a2, ea2, eb2⟩ := ownBlock_some hk; have h6 := XLT.out a ea; injection ea2 with ea2; subst ea2; have h7 : g4 = k := eb2; have h8 := W34.out; omega)))); clear h1 h2 h3))
      clear hw6 r6 o6 hle hsz b6
      have ck := keysOf_yes M7.out.vlt.blk M7.out.vlt.len e c n (by have := EB.out; omega) (by have := EB.out; omega) (by have := CBn.out; omega) (by have := CBn.out; omega) (by have := NBn.out; omega) (by have := NBn.out; omega) (M7.out.tab HT.out g01) (M7.out.glt g01)
      have co := vopen_miss M7.out.vlt A7 (some ⟨g4, 0, none⟩) (mw + 1) c7 ls c4 (X ++ [ub]) D (by rw [List.length_append, XL.out]; rfl) DL.out O7.out.rd.1 P7.out.rd.1 (by omega) (by have := LSB.out; omega) (by have := LSB.out; omega) e c n (by have := EB.out; omega) (by have := CBn.out; omega) (by have := NBn.out; omega) (fun u hu ek => by
        simp at hu
        subst hu
        obtain ⟨h1, h2, h3, h4, h5⟩ := bKey_inj ek
        exact append_neY X ub h4.symm) ck
      clear ck
      go_wp2_with (go_at_call 13; ((with_reducible refine co.mono ?_); clear co; rintro r w9 ⟨rfl, hb⟩; have M9 := hid_ (M7.out.then_ hb); clear hb))
      go_ret
      exact ⟨rfl, by rw [HG.out]; exact B0.out.trans (M9.out.below.mono gle)⟩
    · have t5 : (U5 : Int).tmod 6 = 2 := t5'
      have r5 : (U5 : Int) % 6 = 2 := r5'
      clear t5' r5' wu5' wi5' lt5
      obtain ⟨e2, he2⟩ : ∃ m : Nat, (e : Int) + (nn : Int) = (m : Int) := ⟨e + nn, by omega⟩
      have E2 := hid_ (show 2 ≤ e2 ∧ e2 ≤ 15 by have := NN.out; have := EB.out; omega)
      have E2N := hid_ (show e2 ≠ e by have := NN.out; omega)
      have we2 : IntKind.i64.wrap (e2 : Int) = (e2 : Int) := IntWalk.i64_in _ (by have := E2.out; omega)
      go_upto_region 20 with fail
      clear he2 we2
      have ck := keysOf_yes M5.out.vlt.blk M5.out.vlt.len e2 c n (by have := E2.out; omega) (by have := E2.out; omega) (by have := CBn.out; omega) (by have := CBn.out; omega) (by have := NBn.out; omega) (by have := NBn.out; omega) (M5.out.tab HT.out g01) (M5.out.glt g01)
      have co := vopen_miss M5.out.vlt A8 (some ⟨g4, 0, none⟩) mw c8 ls c4 X D XL.out DL.out O85.out.rd.1 O5.out.rd.1 (by omega) (by have := LSB.out; omega) (by have := LSB.out; omega) e2 c n (by have := E2.out; omega) (by have := CBn.out; omega) (by have := NBn.out; omega) (fun u hu ek => by
        simp at hu
        subst hu
        obtain ⟨h1, h2, h3, h4, h5⟩ := bKey_inj ek
        exact E2N.out (Int.ofNat_inj.1 h1).symm) ck
      clear ck
      go_wp2_with (go_at_call 13; ((with_reducible refine co.mono ?_); clear co; rintro r w9 ⟨rfl, hb⟩; have M9 := hid_ (M5.out.then_ hb); clear hb))
      go_ret
      exact ⟨rfl, by rw [HG.out]; exact B0.out.trans (M9.out.below.mono gle)⟩
    · have t5 : (U5 : Int).tmod 6 = 3 := t5'
      have r5 : (U5 : Int) % 6 = 3 := r5'
      clear t5' r5' wu5' wi5' lt5
      obtain ⟨e2, he2⟩ : ∃ m : Nat, (c : Int) + (nn : Int) = (m : Int) := ⟨c + nn, by omega⟩
      have E2 := hid_ (show 2 ≤ e2 ∧ e2 ≤ 15 by have := NN.out; have := CBn.out; omega)
      have E2N := hid_ (show e2 ≠ c by have := NN.out; omega)
      have we2 : IntKind.i64.wrap (e2 : Int) = (e2 : Int) := IntWalk.i64_in _ (by have := E2.out; omega)
      go_upto_region 20 with fail
      clear he2 we2
      have ck := keysOf_yes M5.out.vlt.blk M5.out.vlt.len e e2 n (by have := EB.out; omega) (by have := EB.out; omega) (by have := E2.out; omega) (by have := E2.out; omega) (by have := NBn.out; omega) (by have := NBn.out; omega) (M5.out.tab HT.out g01) (M5.out.glt g01)
      have co := vopen_miss M5.out.vlt A8 (some ⟨g4, 0, none⟩) mw c8 ls c4 X D XL.out DL.out O85.out.rd.1 O5.out.rd.1 (by omega) (by have := LSB.out; omega) (by have := LSB.out; omega) e e2 n (by have := EB.out; omega) (by have := E2.out; omega) (by have := NBn.out; omega) (fun u hu ek => by
        simp at hu
        subst hu
        obtain ⟨h1, h2, h3, h4, h5⟩ := bKey_inj ek
        exact E2N.out (Int.ofNat_inj.1 h2).symm) ck
      clear ck
      go_wp2_with (go_at_call 13; ((with_reducible refine co.mono ?_); clear co; rintro r w9 ⟨rfl, hb⟩; have M9 := hid_ (M5.out.then_ hb); clear hb))
      go_ret
      exact ⟨rfl, by rw [HG.out]; exact B0.out.trans (M9.out.below.mono gle)⟩
    · have t5 : (U5 : Int).tmod 6 = 4 := t5'
      have r5 : (U5 : Int) % 6 = 4 := r5'
      clear t5' r5' wu5' wi5' lt5
      obtain ⟨e2, he2⟩ : ∃ m : Nat, (n : Int) + (nn : Int) = (m : Int) := ⟨n + nn, by omega⟩
      have E2 := hid_ (show 2 ≤ e2 ∧ e2 ≤ 15 by have := NN.out; have := NBn.out; omega)
      have E2N := hid_ (show e2 ≠ n by have := NN.out; omega)
      have we2 : IntKind.i64.wrap (e2 : Int) = (e2 : Int) := IntWalk.i64_in _ (by have := E2.out; omega)
      go_upto_region 20 with fail
      clear he2 we2
      have ck := keysOf_yes M5.out.vlt.blk M5.out.vlt.len e c e2 (by have := EB.out; omega) (by have := EB.out; omega) (by have := CBn.out; omega) (by have := CBn.out; omega) (by have := E2.out; omega) (by have := E2.out; omega) (M5.out.tab HT.out g01) (M5.out.glt g01)
      have co := vopen_miss M5.out.vlt A8 (some ⟨g4, 0, none⟩) mw c8 ls c4 X D XL.out DL.out O85.out.rd.1 O5.out.rd.1 (by omega) (by have := LSB.out; omega) (by have := LSB.out; omega) e c e2 (by have := EB.out; omega) (by have := CBn.out; omega) (by have := E2.out; omega) (fun u hu ek => by
        simp at hu
        subst hu
        obtain ⟨h1, h2, h3, h4, h5⟩ := bKey_inj ek
        exact E2N.out (Int.ofNat_inj.1 h3).symm) ck
      clear ck
      go_wp2_with (go_at_call 13; ((with_reducible refine co.mono ?_); clear co; rintro r w9 ⟨rfl, hb⟩; have M9 := hid_ (M5.out.then_ hb); clear hb))
      go_ret
      exact ⟨rfl, by rw [HG.out]; exact B0.out.trans (M9.out.below.mono gle)⟩
    · have t5 : (U5 : Int).tmod 6 = 5 := t5'
      have r5 : (U5 : Int) % 6 = 5 := r5'
      clear t5' r5' wu5' wi5' lt5
      obtain ⟨ub, hub⟩ := u8_byteY z2
      obtain ⟨w6, hw6⟩ : ∃ W, w5.alloc (.cells #[.int .u8 ((ub.toNat : Nat) : Int)] 5) = W := ⟨_, rfl⟩
      have b6 : Below w5.heap.size w5 w6 := by rw [← hw6]; exact (Below.refl _ _).alloc (Nat.le_refl _) _
      have r6 : Rd w6 w6.heap.size (some ⟨w5.heap.size, 0, none⟩) [ub] := by
        have h := (Blk8.new w5 [ub]).rd (Blk8.new w5 [ub]).lt
        rw [show rowOf [ub] = #[Value.int .u8 ((ub.toNat : Nat) : Int)] from rfl, hw6] at h
        exact h
      have o6 := O5.out.below b6 (Nat.le_refl _)
      have M6 := hid_ (M5.out.then_ b6)
      have P6 := hid_ (O85.out.below b6 (Nat.le_refl _))
      have hle : D.length + 1 ≤ 140737488355328 := by rw [DL.out]; have := LSB.out; omega
      have hsz : w3.heap.size ≤ w6.heap.size := by have h1 := B3.out.size; have h2 := M6.out.below.size; have h3 := OB.out; have h4 := b6.size; omega
      go_upto_region 20 with (at_builtin; refine wpList_app rfl (.tmp 74) (.tmp 77) rfl o6 rfl 1 1 rfl r6 rfl hle hsz ?_; (intro A7 c7 w7 h1 h2 h3; rw [DL.out] at h1 ⊢; have O7 := hid_ h1; have M7 := hid_ (M6.out.grownB h2 (fun k hk => (by obtain ⟨a, ea, eb⟩ := ownBlock_some hk; have h4 := W34.out; have h5 := W01.out; injection ea with ea; subst ea; subst eb; exact ⟨by show w0.heap.size ≤ g4; omega, h4.1⟩))); have P7 := hid_ (show Own8 w7 w1.heap.size (.slice A8 mw c8) X from ownsRow_heapy P6.out (fun k hk => h2.block k (World.ownsRow.lt P6.out k hk).2 (fun e0 => (by obtain ⟨a, ea, eb⟩ := ownBlock_some e0.symm; obtain ⟨a2, ea2, eb2⟩ := ownBlock_some hk; have h6 := XLT.out a2 ea2; injection ea with ea; subst ea; have h7 : g4 = k := eb; have h8 := W34.out; omega)))); clear h1 h2 h3))
      clear hw6 r6 o6 hle hsz b6
      have ck := keysOf_yes M7.out.vlt.blk M7.out.vlt.len e c n (by have := EB.out; omega) (by have := EB.out; omega) (by have := CBn.out; omega) (by have := CBn.out; omega) (by have := NBn.out; omega) (by have := NBn.out; omega) (M7.out.tab HT.out g01) (M7.out.glt g01)
      have co := vopen_miss M7.out.vlt A8 A7 mw c8 (ls + 1) c7 X (D ++ [ub]) XL.out (by rw [List.length_append, DL.out]; rfl) P7.out.rd.1 O7.out.rd.1 (by omega) (by have := LSB.out; omega) (by have := LSB.out; omega) e c n (by have := EB.out; omega) (by have := CBn.out; omega) (by have := NBn.out; omega) (fun u hu ek => by
        simp at hu
        subst hu
        obtain ⟨h1, h2, h3, h4, h5⟩ := bKey_inj ek
        exact append_neY D ub h5.symm) ck
      clear ck
      go_wp2_with (go_at_call 13; ((with_reducible refine co.mono ?_); clear co; rintro r w9 ⟨rfl, hb⟩; have M9 := hid_ (M7.out.then_ hb); clear hb))
      go_ret
      exact ⟨rfl, by rw [HG.out]; exact B0.out.trans (M9.out.below.mono gle)⟩

theorem laid_metV (os : Os) : laidMet Tryd.prog [("casket/sha2.roundWords", Rows.laid_casket_sha2_roundWords)] ((laidWorld os).forCall (fun _ _ => 0) ⟨#[], #[.agg #[.int .i64 0, .int .i64 0, .int .i64 0, .int .i64 0, .slice none 0 0, .slice none 0 0, .int .i64 0, .int .u8 0], .int .i64 0, .int .i64 0], []⟩).memory :=
  laidMet_of_run' 8 (by kernel_rfl) (by kernel_rfl)

/-- What the walk gives, for every argument and every world in which the constants lie. -/
theorem contract (H : Type) (enc : TypeId × Value → H) (W : World) (base : Nat) (args : Array Value) (ds gs : List (DataW H)) (before : List MemPlace)
    (hval : ∀ (j : Nat) t v, Tryd.f6.params[j]? = some t → args[j]? = some v → Value.okWide Tryd.prog W .any base t v)
    (hW : DataW.Whole enc Tryd.prog Tryd.f6.params.toList Rows.vaultForgedSpec.vars false W args.toList ds gs before) (hL : laidMetH Tryd.prog Rows.vaultForgedRow.laid W) :
    Calls Tryd.prog 6 args W fun e W' => ∃ v, e = .returned v ∧ Rows.vaultForgedSpec.post enc Tryd.prog Tryd.f6 false true false false W args v W' := by
  obtain ⟨ht, hg1⟩ := tab_of hL
  have hW' := hW
  obtain ⟨p, q, hA0, hV, rfl, hfz, hnd⟩ := hW
  have hA : DataW.TrodAll enc Tryd.prog W 0 (fun _ => true) true Tryd.f6.params.toList args.toList ds p := hA0
  rw [Tryd.params6] at hA hval
  obtain ⟨v0, vs0, d0, ds0, p0, q0, hargs, rfl, rfl, h0, r0⟩ := trodAll_cons hA
  obtain ⟨v1, vs1, d1, ds1, p1, q1, rfl, rfl, rfl, h1, r1⟩ := trodAll_cons r0
  obtain ⟨v2, vs2, d2, ds2, p2, q2, rfl, rfl, rfl, h2, r2⟩ := trodAll_cons r1
  obtain ⟨rfl, rfl, rfl⟩ := trodAll_nil r2
  obtain rfl : args = #[v0, v1, v2] := by cases args; simp_all
  obtain ⟨rfl, rfl⟩ := trodVars_none hV
  obtain ⟨q, rfl, hq⟩ := open_vact (hval 0 39 v0 rfl rfl) h0
  obtain ⟨a1, rfl, rfl, rfl, w1⟩ := open_int Tryd.underlying3 (hval 1 3 v1 rfl rfl) h1
  obtain ⟨a2, rfl, rfl, rfl, w2⟩ := open_int Tryd.underlying3 (hval 2 3 v2 rfl rfl) h2
  refine (walk W q hq a1 a2 ht hg1).mono fun e W' ⟨he, hg⟩ => ⟨_, he, ?_⟩
  exact law_post laidOut_ (of_decide_eq_true (by kernel_rfl)) rfl rfl Tryd.underlying4 rfl hW' hg

theorem reads (os : Os) {H : Type} (enc : TypeId × Value → H) : ∃ places, DataW.whole enc Tryd.prog ((laidWorld os).forCall (fun _ _ => 0) ⟨#[], #[.agg #[.int .i64 0, .int .i64 0, .int .i64 0, .int .i64 0, .slice none 0 0, .slice none 0 0, .int .i64 0, .int .u8 0], .int .i64 0, .int .i64 0], []⟩).memory Tryd.f6.params.toList Rows.vaultForgedSpec.vars false (#[.agg #[.int .i64 0, .int .i64 0, .int .i64 0, .int .i64 0, .slice none 0 0, .slice none 0 0, .int .i64 0, .int .u8 0], .int .i64 0, .int .i64 0] : Array Value).toList 8 = some ([.agg [.lit (.int .i64 0), .lit (.int .i64 0), .lit (.int .i64 0), .lit (.int .i64 0), .nil, .nil, .lit (.int .i64 0), .lit (.int .u8 0)], .lit (.int .i64 0), .lit (.int .i64 0)], [], places) :=
  ⟨[], by kernel_rfl⟩

set_option maxRecDepth 100000 in
theorem lifted (os : Os) (started : os.Started) (H : Type) (enc : TypeId × Value → H) (F : Stop.Interp) :
    ReturnsInHanded {} Tryd.checked os 6 .any ((OpenSpec.ofChange Rows.vaultForgedSpec).preRow enc Tryd.prog Tryd.f6 Rows.vaultForgedRow.domain false Rows.vaultForgedRow.laid) (((OpenSpec.ofChange Rows.vaultForgedSpec).at F).post enc Tryd.prog Tryd.f6 false true false false) := by
  obtain ⟨places, hx⟩ := reads os enc
  refine returnsInHanded_of_row (C := Tryd.checked) (s := OpenSpec.ofChange Rows.vaultForgedSpec) own_ started (by kernel_rfl) Tryd.func6
    (witness_row_at (enc := enc) (C := Tryd.checked) false (laidWorld os) #[.agg #[.int .i64 0, .int .i64 0, .int .i64 0, .int .i64 0, .slice none 0 0, .slice none 0 0, .int .i64 0, .int .u8 0], .int .i64 0, .int .i64 0] rfl (by kernel_rfl) (by kernel_rfl) (by kernel_rfl)
      (OpenSpec.preRow_of_cond 8 hx (by kernel_rfl) (fun k hk => by cases hk) (by kernel_rfl) (laid_metV os))) ?_
  intro W base args ds gs before hval hW _ _ _ hL _ _
  exact contract H enc W base args ds gs before hval hW hL

theorem said : Rows.VaultForgedSaid :=
  OpenClaim.holds_of_cond 6 Tryd.f6 rfl rfl rfl rfl rfl rfl rfl ⟨rfl, rfl, rfl, rfl, rfl⟩ rfl rfl rfl rfl rfl (by kernel_rfl) Tryd.func6 (by kernel_rfl)
    (of_decide_eq_true (by kernel_rfl)) (by unfold Func.isWrapper; first | (rw [if_pos (by decide +kernel)]; kernel_rfl) | (rw [if_neg (by decide +kernel)]; exact ⟨rfl, rfl⟩))
    (fun os started H enc _ F => by rw [OpenClaim.pre_eq_preRow]; exact lifted os started H enc F)

/-- No parameter wants a stand-in; the program's own looks are off: what the card asks. -/
theorem plain (f : FuncId) (fn : Func) (hf : Tryd.pinned.checked.prog.funcNamed "casket/casketlaw12.VaultForged" = some f) (hfn : Tryd.pinned.checked.prog.funcs[f]? = some fn) :
    false = Tryd.pinned.checked.prog.looks [] ∧ ∀ (j : Nat) t, fn.params[j]? = some t → Tryd.pinned.checked.prog.wantsStandIn t = false := by
  obtain rfl : f = 6 := Option.some.inj ((show Tryd.prog.funcNamed "casket/casketlaw12.VaultForged" = some 6 by kernel_rfl).symm.trans hf) |>.symm
  obtain rfl : fn = Tryd.f6 := (Option.some.inj (Tryd.func6.symm.trans hfn)).symm
  refine ⟨by kernel_rfl, fun j t ht => ?_⟩
  rw [Tryd.params6] at ht
  have hm := Array.mem_of_getElem? ht
  simp only [List.mem_toArray, List.mem_cons, List.not_mem_nil, or_false] at hm
  rcases hm with rfl | rfl | rfl
  · exact (show Tryd.prog.wantsStandIn 39 = false by kernel_rfl)
  · exact (show Tryd.prog.wantsStandIn 3 = false by kernel_rfl)
  · exact (show Tryd.prog.wantsStandIn 3 = false by kernel_rfl)

/-- The card. -/
theorem proved : Rows.VaultForgedCardSaid :=
  Claim7.holds_tied_plain_at .later [] _ _ _ _ said (fun _ h => by cases h) (by kernel_rfl) (fun _ h => by cases h) vaultForged_row_tie rfl ⟨rfl, rfl⟩ (by kernel_rfl) rfl plain (by kernel_rfl)
#print axioms proved
end Go.Proofs.YtoeofifibjelnaaDoor.vaultForged
