/-
  Proved: for all acts, and vaults of either kind, VaultBack answers true: what is sealed is opened again, and its number is used up by it. No condition.
-/
import Derived.Test.YtoeofifibjelnaaDoorYl
namespace Go.Proofs.YtoeofifibjelnaaDoor.vaultBack
set_option maxRecDepth 100000
open Go.ChangeShapes Go.WideShapes Go.ChangeAt Go.RowKit
set_option linter.unusedVariables false
set_option linter.unusedSimpArgs false

theorem hid_ {p : Prop} (h : p) : Hid p := h
def K9 : List UInt8 := 9 :: zbytes 31

set_option maxRecDepth 100000 in
set_option maxHeartbeats 16000000 in
theorem walk (w : World) (id : Bool) (q : VAct) (hq : VActOk w w.heap.size q) (ht : Tab w) (hg1 : 1 < w.heap.size) :
    Calls Tryd.prog 4 #[.bool id, .agg q.row] w fun e w' => e = .returned (.bool true) ∧ Below w.heap.size w w' := by
  obtain ⟨g, hg⟩ : ∃ g, w.heap.size = g := ⟨_, rfl⟩
  obtain ⟨w0, hw0⟩ : ∃ w0, w.alloc (.cells q.row 39) = w0 := ⟨_, rfl⟩
  have B0 := hid_ (show Below g w w0 by rw [← hw0, ← hg]; exact (Below.refl w.heap.size w).alloc (Nat.le_refl _) _)
  have K0 := hid_ (show Bk w0 g 39 q.row by rw [← hw0, ← hg]; exact Bk.new w _ _)
  have HG := hid_ hg
  rw [hg] at hg1
  have HT := hid_ (show Tab w0 from fun t h => (B0.out.cell (p := ⟨_, t, none⟩) hg1).trans (ht t h))
  have g01 : 1 < w0.heap.size := by have := K0.out.lt; omega
  have gle : g ≤ w0.heap.size := Nat.le_of_lt K0.out.lt
  have hq0 := (((hg ▸ hq).below B0.out).more gle)
  have RW := hid_ hq0.wrd
  have LW := hid_ hq0.wlen
  have CW := hid_ hq0.wcap
  have RB := hid_ hq0.brd
  have LB := hid_ hq0.blen
  have CB := hid_ hq0.bcap
  obtain ⟨mw, hmw⟩ : ∃ m, m = min q.wl.length 40 := ⟨_, rfl⟩
  obtain ⟨mb, hmb⟩ : ∃ m, m = min q.bl.length 100 := ⟨_, rfl⟩
  have MW := hid_ hmw
  have MB := hid_ hmb
  have XL := hid_ (show (q.wl.take 40).length = mw by rw [List.length_take, hmw, Nat.min_comm])
  have BL := hid_ (show (q.bl.take 100).length = mb by rw [List.length_take, hmb, Nat.min_comm])
  have mw40 : mw ≤ 40 := by omega
  have mb100 : mb ≤ 100 := by omega
  have KL : K9.length = 32 := rfl
  have cr := real_new w0 K9 KL
  have HKB := hid_ (show K9 = 9 :: zbytes 31 from rfl)
  have HKL := hid_ KL
  generalize K9 = K at *
  clear ht KL hq hq0 hmw hmb
  cases id
  · go_enter Tryd.func4, Tryd.ntmps4
    go_upto_region 4 with (first
      | (refine wpList_built rfl 22 _ rfl (rowOf K) (by rw [HKB.out]; kernel_rfl) ?_)
      | (go_at_call 12; ((with_reducible refine cr.mono ?_); clear cr; rintro e w1 ⟨v, sp, F, rfl, hv, hF, hb⟩; have V1 := hid_ hv; have X1 := hid_ hb; have OWN : Hid (∀ k ∈ F, w0.heap.size ≤ k) := hid_ hF; clear hv hF hb)))
    rename_i K9 hK9
    have HB1 := X1
    have K1 := hid_ (K0.out.below HB1.out K0.out.lt)
    have C4 : Hid (∀ W, Below w1.heap.size w1 W → W.cell? ⟨g, 4, none⟩ = some (.slice q.wa q.wl.length q.wc)) := hid_ (fun W hW => (K1.out.below hW K1.out.lt).cell 4)
    have C5 : Hid (∀ W, Below w1.heap.size w1 W → W.cell? ⟨g, 5, none⟩ = some (.slice q.ba q.bl.length q.bc)) := hid_ (fun W hW => (K1.out.below hW K1.out.lt).cell 5)
    clear hw0 hg
    refine region_byF [19, 20, 21, 22, 23, 24, 6, 7] (fun W => Below w1.heap.size w1 W) (fun W W' => Below W.heap.size W W') (CtR g q mw mb (q.wl.take 40) (q.bl.take 100) w1.heap.size) (by kernel_rfl) (by kernel_rfl) (by kernel_rfl) (by kernel_rfl) (fun j v w w' hT hr => ?_) (fun j v w hlt hj _ => ?_) ((Below.refl _ _).drew) ?_ ?_
    · exact CtR.stable hT j v hr
    · rcases j with _ | _ | _ | _ | _ | _ | _ | _ | j
      all_goals first
        | (exfalso; simp [dstOf] at hj; done)
        | trivial
    · refine ⟨fun a W hC hd hf hv K hK => ?_, fun a W hC hd hf hv K hK => ?_, fun a W hC hd hf hv K hK => ?_, fun a W hC hd hf hv K hK => ?_, fun a W hC hd hf hv K hK => ?_, fun a W hC hd hf hv K hK => ?_, fun a W hC hd hf hv K hK => ?_, fun a W hC hd hf hv K hK => ?_, trivial⟩
      · have e1 := slot_of (a := a) (s := 3) (v := .pointer (some ⟨g, 0, none⟩)) (hf 3 (by kernel_rfl))
        refine step_run (wanted_none rfl) (v := .pointer (some ⟨g, 4, none⟩)) (w' := W) ?_ (hK _ _ hC (Below.refl _ _) rfl)
        go_simp
      · have e1 := slot_of (a := a) (s := 19) (v := .pointer (some ⟨g, 4, none⟩)) (hv 0 (by kernel_rfl))
        have c4 := C4.out W hC
        refine step_run (wanted_none rfl) (v := .slice q.wa q.wl.length q.wc) (w' := W) ?_ (hK _ _ hC (Below.refl _ _) rfl)
        go_simp
      · have e1 := slot_of (a := a) (s := 20) (v := .slice q.wa q.wl.length q.wc) (hv 1 (by kernel_rfl))
        have cc : Calls Tryd.prog 9 #[.slice q.wa q.wl.length q.wc, .int .i64 40] W (NewP W mw (q.wl.take 40)) := vcut_any W q.wa q.wl q.wl.length _ 40 mw rfl MW.out (by omega) ((RW.out.below (HB1.out.trans (hC.mono HB1.out.size))).more (by have h1 := HB1.out.size; have h2 := hC.size; omega)) LW.out CW.out
        refine step_callx 9 #[.slice q.wa q.wl.length q.wc, .int .i64 40] (wanted_none rfl) (w' := W) ?_ (cc.mono fun e W2 hh => ?_)
        · go_simp
        · obtain ⟨A, d, rfl, ho, hb⟩ := hh
          exact ⟨_, rfl, hK _ _ (hC.trans (hb.mono hC.size)) hb ⟨A, d, rfl, ho.lower hC.size⟩⟩
      · have e1 := slot_of (a := a) (s := 3) (v := .pointer (some ⟨g, 0, none⟩)) (hf 3 (by kernel_rfl))
        refine step_run (wanted_none rfl) (v := .pointer (some ⟨g, 5, none⟩)) (w' := W) ?_ (hK _ _ hC (Below.refl _ _) rfl)
        go_simp
      · have e1 := slot_of (a := a) (s := 22) (v := .pointer (some ⟨g, 5, none⟩)) (hv 3 (by kernel_rfl))
        have c5 := C5.out W hC
        refine step_run (wanted_none rfl) (v := .slice q.ba q.bl.length q.bc) (w' := W) ?_ (hK _ _ hC (Below.refl _ _) rfl)
        go_simp
      · have e1 := slot_of (a := a) (s := 23) (v := .slice q.ba q.bl.length q.bc) (hv 4 (by kernel_rfl))
        have cc : Calls Tryd.prog 9 #[.slice q.ba q.bl.length q.bc, .int .i64 100] W (NewP W mb (q.bl.take 100)) := vcut_any W q.ba q.bl q.bl.length _ 100 mb rfl MB.out (by omega) ((RB.out.below (HB1.out.trans (hC.mono HB1.out.size))).more (by have h1 := HB1.out.size; have h2 := hC.size; omega)) LB.out CB.out
        refine step_callx 9 #[.slice q.ba q.bl.length q.bc, .int .i64 100] (wanted_none rfl) (w' := W) ?_ (cc.mono fun e W2 hh => ?_)
        · go_simp
        · obtain ⟨A, d, rfl, ho, hb⟩ := hh
          exact ⟨_, rfl, hK _ _ (hC.trans (hb.mono hC.size)) hb ⟨A, d, rfl, ho.lower hC.size⟩⟩
      · obtain ⟨A, d, eA, hA⟩ : ∃ A d, a.tmps.getD 21 undef = .slice A mw d ∧ Own8 W w1.heap.size (.slice A mw d) (q.wl.take 40) := hv 2 (by kernel_rfl)
        have e1 := slot_of (a := a) (s := 21) eA
        refine step_run (wanted_none rfl) (v := .slice A mw d) (w' := W) ?_ (hK _ _ hC (Below.refl _ _) ⟨A, d, rfl, hA⟩)
        go_simp
      · obtain ⟨A, d, eA, hA⟩ : ∃ A d, a.tmps.getD 24 undef = .slice A mb d ∧ Own8 W w1.heap.size (.slice A mb d) (q.bl.take 100) := hv 5 (by kernel_rfl)
        have e1 := slot_of (a := a) (s := 24) eA
        refine step_run (wanted_none rfl) (v := .slice A mb d) (w' := W) ?_ (hK _ _ hC (Below.refl _ _) ⟨A, d, rfl, hA⟩)
        go_simp
    · intro f w2 hC2 hv2
      obtain ⟨A8, c8, f8, hO8⟩ : ∃ A c, f 6 = .slice A mw c ∧ Own8 w2 w1.heap.size (.slice A mw c) (q.wl.take 40) := hv2 6 (by decide)
      obtain ⟨A9, c9, f9, hO9⟩ : ∃ A c, f 7 = .slice A mb c ∧ Own8 w2 w1.heap.size (.slice A mb c) (q.bl.take 100) := hv2 7 (by decide)
      simp only [framed, List.foldl_cons, List.foldl_nil, List.setIfInBounds_toArray, List.set_cons_succ, List.set_cons_zero]
      rw [f8, f9]
      have O8 := hid_ hO8
      have O9 := hid_ hO9
      have B2 := hid_ hC2
      clear hv2 hC2 hO8 hO9 f8 f9
      refine hK9 _ _ ?_
      clear hK9 K9 C4 C5
      have V2 := hid_ (V1.out.below B2.out)
      have O82 := O8
      have O92 := O9
      have K2 := hid_ (K1.out.below B2.out K1.out.lt)
      have X2 := hid_ (X1.out.trans (B2.out.mono X1.out.size))
      have HF1 : Hid (∀ k ∈ F, k < w1.heap.size) := hid_ V1.out.hF
      have T2 := hid_ (show Tab w2 from fun t h => (X2.out.cell (p := ⟨_, t, none⟩) g01).trans (HT.out t h))
      have g02 : 1 < w2.heap.size := Nat.lt_of_lt_of_le g01 X2.out.size
      clear V1 K1 O8 O9 X1 HB1 B2
      have C1 : w2.cell? ⟨g, 1, none⟩ = some (.int .i64 q.epoch) := K2.out.cell 1
      have C2 : w2.cell? ⟨g, 2, none⟩ = some (.int .i64 q.client) := K2.out.cell 2
      have C3 : w2.cell? ⟨g, 3, none⟩ = some (.int .i64 q.counter) := K2.out.cell 3
      by_cases hok : (1 ≤ q.epoch ∧ q.epoch ≤ 1048576) ∧ NonceOk q.client q.counter
      · obtain ⟨⟨he1, he2⟩, hc1, hc2, hn1, hn2⟩ := hok
        obtain ⟨e, he⟩ : ∃ e : Nat, q.epoch = (e : Int) := ⟨q.epoch.toNat, by omega⟩
        obtain ⟨c, hc⟩ : ∃ e : Nat, q.client = (e : Int) := ⟨q.client.toNat, by omega⟩
        obtain ⟨n, hn⟩ : ∃ e : Nat, q.counter = (e : Int) := ⟨q.counter.toNat, by omega⟩
        rw [he] at C1 he1 he2
        rw [hc] at C2 hc1 hc2
        rw [hn] at C3 hn1 hn2
        have cs := back_real V2.out A8 A9 mw c8 mb c9 (q.wl.take 40) (q.bl.take 100) XL.out BL.out O82.out.rd.1 O92.out.rd.1 (by omega) (by omega) O92.out.cap.1 O92.out.cap.2 e c n (by omega) (by omega) (by omega) (by omega) (by omega) (by omega) T2.out g02
        generalize q.wl.take 40 = X at *
        generalize q.bl.take 100 = Y at *
        clear he1 he2 hc1 hc2 hn1 hn2
        go_upto_region 6 with (go_at_call 11; ((with_reducible refine cs.mono ?_); clear cs; rintro r w3 ⟨A3, c3, D, rfl, ho, hu, hop, hsp⟩; have O3 := hid_ ho; have HOP := hid_ hop; have HSP := hid_ hsp; have O83 := hid_ (O82.out.untouched hu HF1.out); have O93 := hid_ (O92.out.untouched hu HF1.out); have X3 := hid_ (X2.out.trans (hu.below OWN.out X2.out.size)); have K3 := hid_ (K2.out.untouched hu (fun hm => by have := OWN.out _ hm; have := K0.out.lt; omega)); clear ho hu hop hsp))
        clear C1 C2 C3 K2 O82 O92 X2 V2 T2 g02
        have cv := vaults_any w3 (fun t h => (X3.out.cell (p := ⟨_, t, none⟩) g01).trans (HT.out t h)) (Nat.lt_of_lt_of_le g01 X3.out.size)
        go_upto_region 8 with (go_at_call 8; ((with_reducible refine cv.mono ?_); clear cv; rintro r w4 ⟨rfl, hb⟩; have B4 := hid_ hb; have K4 := hid_ (K3.out.below hb K3.out.lt); have X4 := hid_ (X3.out.trans (hb.mono X3.out.size)); have O84 := hid_ (O83.out.below hb (Nat.le_refl _)); have O94 := hid_ (O93.out.below hb (Nat.le_refl _)); clear hb))
        have C1 : w4.cell? ⟨g, 1, none⟩ = some (.int .i64 (e : Int)) := by have h := K4.out.cell 1; rw [← he]; exact h
        have C2 : w4.cell? ⟨g, 2, none⟩ = some (.int .i64 (c : Int)) := by have h := K4.out.cell 2; rw [← hc]; exact h
        have C3 : w4.cell? ⟨g, 3, none⟩ = some (.int .i64 (n : Int)) := by have h := K4.out.cell 3; rw [← hn]; exact h
        have co := HOP.out w4 B4.out (fun t h => (X4.out.cell (p := ⟨_, t, none⟩) g01).trans (HT.out t h)) (Nat.lt_of_lt_of_le g01 X4.out.size) A8 c8 O84.out.rd.1
        go_upto_region 9 with (go_at_call 13; ((with_reducible refine co.mono ?_); clear co; rintro r w5 ⟨A5, c5, rfl, ho, hb⟩; have O5 := hid_ ho; have B5 := hid_ (B4.out.trans (hb.mono B4.out.size)); have K5 := hid_ (K4.out.below hb K4.out.lt); have X5 := hid_ (X4.out.trans (hb.mono X4.out.size)); have O95 := hid_ (O94.out.below hb (Nat.le_refl _)); clear ho hb))
        clear C1 C2 C3
        have C1 : w5.cell? ⟨g, 1, none⟩ = some (.int .i64 (e : Int)) := by have h := K5.out.cell 1; rw [← he]; exact h
        have C2 : w5.cell? ⟨g, 2, none⟩ = some (.int .i64 (c : Int)) := by have h := K5.out.cell 2; rw [← hc]; exact h
        have C3 : w5.cell? ⟨g, 3, none⟩ = some (.int .i64 (n : Int)) := by have h := K5.out.cell 3; rw [← hn]; exact h
        have cs := HSP.out w5 B5.out (fun t h => (X5.out.cell (p := ⟨_, t, none⟩) g01).trans (HT.out t h)) (Nat.lt_of_lt_of_le g01 X5.out.size)
        go_upto_region 10 with (go_at_call 11; ((with_reducible refine cs.mono ?_); clear cs; rintro r w6 ⟨rfl, hb⟩; have O6 := hid_ (O5.out.below hb (Nat.le_refl _)); have O96 := hid_ (O95.out.below hb (Nat.le_refl _)); have X6 := hid_ (X5.out.trans (hb.mono X5.out.size)); clear hb))
        clear C1 C2 C3 he hc hn
        have q1 : (convert 29 9 (.slice A5 mb c5)).run Tryd.prog w6 = .ok (.string (strOf Y)) w6 := conv_strn O6.out.rd.1 mb c5 BL.out
        have q2 : (convert 29 9 (.slice A9 mb c9)).run Tryd.prog w6 = .ok (.string (strOf Y)) w6 := conv_strn O96.out.rd.1 mb c9 BL.out
        have wi : IntKind.i64.wrap ((mb : Int) + 16) = (mb : Int) + 16 := IntWalk.i64_in _ (by omega)
        go_wp2
        go_ret
        exact ⟨rfl, by rw [HG.out]; exact B0.out.trans (X6.out.mono gle)⟩
      · have ck : Calls Tryd.prog 19 #[.pointer (some ⟨v, 0, none⟩), .int .i64 q.epoch, .int .i64 q.client, .int .i64 q.counter] w2 fun r w' => r = .returned noKeys ∧ Below w2.heap.size w2 w' := by
          by_cases he : 1 ≤ q.epoch ∧ q.epoch ≤ 1048576
          · obtain ⟨e, he3⟩ : ∃ e : Nat, q.epoch = (e : Int) := ⟨q.epoch.toNat, by omega⟩
            rw [he3]
            exact keysOf_no2 V2.out.blk V2.out.len e q.client q.counter (by omega) (by omega) (fun h => hok ⟨he, h⟩) T2.out g02
          · exact keysOf_no1 V2.out.blk V2.out.len q.epoch q.client q.counter he
        have cs := vseal_no A8 A9 mw c8 mb c9 q.epoch q.client q.counter ck
        clear ck hok
        go_upto_region 6 with (go_at_call 11; ((with_reducible refine cs.mono ?_); clear cs; rintro r w3 ⟨rfl, hb⟩; have X3 := hid_ (X2.out.trans (hb.mono X2.out.size)); clear hb))
        have cv := vaults_any w3 (fun t h => (X3.out.cell (p := ⟨_, t, none⟩) g01).trans (HT.out t h)) (Nat.lt_of_lt_of_le g01 X3.out.size)
        clear C1 C2 C3 K2 O82 O92 X2 V2 T2 g02
        go_upto_region 7 with (go_at_call 8; ((with_reducible refine cv.mono ?_); clear cv; rintro r w4 ⟨rfl, hb⟩; have X4 := hid_ (X3.out.trans (hb.mono X3.out.size)); clear hb))
        have cv := vaults_any w4 (fun t h => (X4.out.cell (p := ⟨_, t, none⟩) g01).trans (HT.out t h)) (Nat.lt_of_lt_of_le g01 X4.out.size)
        go_wp2_with (go_at_call 8; ((with_reducible refine cv.mono ?_); clear cv; rintro r w5 ⟨rfl, hb⟩; have X5 := hid_ (X4.out.trans (hb.mono X4.out.size)); clear hb))
        go_ret
        exact ⟨rfl, by rw [HG.out]; exact B0.out.trans (X5.out.mono gle)⟩
  · go_enter Tryd.func4, Tryd.ntmps4
    go_upto_region 4 with (first
      | (refine wpList_built rfl 22 _ rfl (rowOf K) (by rw [HKB.out]; kernel_rfl) ?_)
      | (go_at_call 12; ((with_reducible refine cr.mono ?_); clear cr; rintro e wr ⟨vr, spr, Fr, rfl, -, -, hb⟩; have XR := hid_ hb; have ci := ideal_new wr K HKL.out; clear hb))
      | (go_at_call 7; ((with_reducible refine ci.mono ?_); clear ci; rintro e w1 ⟨v, sp, nm, kn, F, rfl, hv, hF, hb⟩; have V1 := hid_ hv; have X1 := hid_ (XR.out.trans (hb.mono XR.out.size)); have OWN : Hid (∀ k ∈ F, w0.heap.size ≤ k) := hid_ (fun k hk => Nat.le_trans XR.out.size (hF k hk)); clear hv hF hb)))
    rename_i K9 hK9
    have HB1 := X1
    have K1 := hid_ (K0.out.below HB1.out K0.out.lt)
    have C4 : Hid (∀ W, Below w1.heap.size w1 W → W.cell? ⟨g, 4, none⟩ = some (.slice q.wa q.wl.length q.wc)) := hid_ (fun W hW => (K1.out.below hW K1.out.lt).cell 4)
    have C5 : Hid (∀ W, Below w1.heap.size w1 W → W.cell? ⟨g, 5, none⟩ = some (.slice q.ba q.bl.length q.bc)) := hid_ (fun W hW => (K1.out.below hW K1.out.lt).cell 5)
    clear hw0 hg
    refine region_byF [19, 20, 21, 22, 23, 24, 6, 7] (fun W => Below w1.heap.size w1 W) (fun W W' => Below W.heap.size W W') (CtR g q mw mb (q.wl.take 40) (q.bl.take 100) w1.heap.size) (by kernel_rfl) (by kernel_rfl) (by kernel_rfl) (by kernel_rfl) (fun j v w w' hT hr => ?_) (fun j v w hlt hj _ => ?_) ((Below.refl _ _).drew) ?_ ?_
    · exact CtR.stable hT j v hr
    · rcases j with _ | _ | _ | _ | _ | _ | _ | _ | j
      all_goals first
        | (exfalso; simp [dstOf] at hj; done)
        | trivial
    · refine ⟨fun a W hC hd hf hv K hK => ?_, fun a W hC hd hf hv K hK => ?_, fun a W hC hd hf hv K hK => ?_, fun a W hC hd hf hv K hK => ?_, fun a W hC hd hf hv K hK => ?_, fun a W hC hd hf hv K hK => ?_, fun a W hC hd hf hv K hK => ?_, fun a W hC hd hf hv K hK => ?_, trivial⟩
      · have e1 := slot_of (a := a) (s := 3) (v := .pointer (some ⟨g, 0, none⟩)) (hf 3 (by kernel_rfl))
        refine step_run (wanted_none rfl) (v := .pointer (some ⟨g, 4, none⟩)) (w' := W) ?_ (hK _ _ hC (Below.refl _ _) rfl)
        go_simp
      · have e1 := slot_of (a := a) (s := 19) (v := .pointer (some ⟨g, 4, none⟩)) (hv 0 (by kernel_rfl))
        have c4 := C4.out W hC
        refine step_run (wanted_none rfl) (v := .slice q.wa q.wl.length q.wc) (w' := W) ?_ (hK _ _ hC (Below.refl _ _) rfl)
        go_simp
      · have e1 := slot_of (a := a) (s := 20) (v := .slice q.wa q.wl.length q.wc) (hv 1 (by kernel_rfl))
        have cc : Calls Tryd.prog 9 #[.slice q.wa q.wl.length q.wc, .int .i64 40] W (NewP W mw (q.wl.take 40)) := vcut_any W q.wa q.wl q.wl.length _ 40 mw rfl MW.out (by omega) ((RW.out.below (HB1.out.trans (hC.mono HB1.out.size))).more (by have h1 := HB1.out.size; have h2 := hC.size; omega)) LW.out CW.out
        refine step_callx 9 #[.slice q.wa q.wl.length q.wc, .int .i64 40] (wanted_none rfl) (w' := W) ?_ (cc.mono fun e W2 hh => ?_)
        · go_simp
        · obtain ⟨A, d, rfl, ho, hb⟩ := hh
          exact ⟨_, rfl, hK _ _ (hC.trans (hb.mono hC.size)) hb ⟨A, d, rfl, ho.lower hC.size⟩⟩
      · have e1 := slot_of (a := a) (s := 3) (v := .pointer (some ⟨g, 0, none⟩)) (hf 3 (by kernel_rfl))
        refine step_run (wanted_none rfl) (v := .pointer (some ⟨g, 5, none⟩)) (w' := W) ?_ (hK _ _ hC (Below.refl _ _) rfl)
        go_simp
      · have e1 := slot_of (a := a) (s := 22) (v := .pointer (some ⟨g, 5, none⟩)) (hv 3 (by kernel_rfl))
        have c5 := C5.out W hC
        refine step_run (wanted_none rfl) (v := .slice q.ba q.bl.length q.bc) (w' := W) ?_ (hK _ _ hC (Below.refl _ _) rfl)
        go_simp
      · have e1 := slot_of (a := a) (s := 23) (v := .slice q.ba q.bl.length q.bc) (hv 4 (by kernel_rfl))
        have cc : Calls Tryd.prog 9 #[.slice q.ba q.bl.length q.bc, .int .i64 100] W (NewP W mb (q.bl.take 100)) := vcut_any W q.ba q.bl q.bl.length _ 100 mb rfl MB.out (by omega) ((RB.out.below (HB1.out.trans (hC.mono HB1.out.size))).more (by have h1 := HB1.out.size; have h2 := hC.size; omega)) LB.out CB.out
        refine step_callx 9 #[.slice q.ba q.bl.length q.bc, .int .i64 100] (wanted_none rfl) (w' := W) ?_ (cc.mono fun e W2 hh => ?_)
        · go_simp
        · obtain ⟨A, d, rfl, ho, hb⟩ := hh
          exact ⟨_, rfl, hK _ _ (hC.trans (hb.mono hC.size)) hb ⟨A, d, rfl, ho.lower hC.size⟩⟩
      · obtain ⟨A, d, eA, hA⟩ : ∃ A d, a.tmps.getD 21 undef = .slice A mw d ∧ Own8 W w1.heap.size (.slice A mw d) (q.wl.take 40) := hv 2 (by kernel_rfl)
        have e1 := slot_of (a := a) (s := 21) eA
        refine step_run (wanted_none rfl) (v := .slice A mw d) (w' := W) ?_ (hK _ _ hC (Below.refl _ _) ⟨A, d, rfl, hA⟩)
        go_simp
      · obtain ⟨A, d, eA, hA⟩ : ∃ A d, a.tmps.getD 24 undef = .slice A mb d ∧ Own8 W w1.heap.size (.slice A mb d) (q.bl.take 100) := hv 5 (by kernel_rfl)
        have e1 := slot_of (a := a) (s := 24) eA
        refine step_run (wanted_none rfl) (v := .slice A mb d) (w' := W) ?_ (hK _ _ hC (Below.refl _ _) ⟨A, d, rfl, hA⟩)
        go_simp
    · intro f w2 hC2 hv2
      obtain ⟨A8, c8, f8, hO8⟩ : ∃ A c, f 6 = .slice A mw c ∧ Own8 w2 w1.heap.size (.slice A mw c) (q.wl.take 40) := hv2 6 (by decide)
      obtain ⟨A9, c9, f9, hO9⟩ : ∃ A c, f 7 = .slice A mb c ∧ Own8 w2 w1.heap.size (.slice A mb c) (q.bl.take 100) := hv2 7 (by decide)
      simp only [framed, List.foldl_cons, List.foldl_nil, List.setIfInBounds_toArray, List.set_cons_succ, List.set_cons_zero]
      rw [f8, f9]
      have O8 := hid_ hO8
      have O9 := hid_ hO9
      have B2 := hid_ hC2
      clear hv2 hC2 hO8 hO9 f8 f9
      refine hK9 _ _ ?_
      clear hK9 K9 C4 C5
      have V2 := hid_ (V1.out.below B2.out)
      have O82 := O8
      have O92 := O9
      have K2 := hid_ (K1.out.below B2.out K1.out.lt)
      have X2 := hid_ (X1.out.trans (B2.out.mono X1.out.size))
      have HF1 : Hid (∀ k ∈ F, k < w1.heap.size) := hid_ V1.out.hF
      have T2 := hid_ (show Tab w2 from fun t h => (X2.out.cell (p := ⟨_, t, none⟩) g01).trans (HT.out t h))
      have g02 : 1 < w2.heap.size := Nat.lt_of_lt_of_le g01 X2.out.size
      clear V1 K1 O8 O9 X1 HB1 B2
      have C1 : w2.cell? ⟨g, 1, none⟩ = some (.int .i64 q.epoch) := K2.out.cell 1
      have C2 : w2.cell? ⟨g, 2, none⟩ = some (.int .i64 q.client) := K2.out.cell 2
      have C3 : w2.cell? ⟨g, 3, none⟩ = some (.int .i64 q.counter) := K2.out.cell 3
      by_cases hok : (1 ≤ q.epoch ∧ q.epoch ≤ 1048576) ∧ NonceOk q.client q.counter
      · obtain ⟨⟨he1, he2⟩, hc1, hc2, hn1, hn2⟩ := hok
        obtain ⟨e, he⟩ : ∃ e : Nat, q.epoch = (e : Int) := ⟨q.epoch.toNat, by omega⟩
        obtain ⟨c, hc⟩ : ∃ e : Nat, q.client = (e : Int) := ⟨q.client.toNat, by omega⟩
        obtain ⟨n, hn⟩ : ∃ e : Nat, q.counter = (e : Int) := ⟨q.counter.toNat, by omega⟩
        rw [he] at C1 he1 he2
        rw [hc] at C2 hc1 hc2
        rw [hn] at C3 hn1 hn2
        have cs := back_ideal V2.out A8 A9 mw c8 mb c9 (q.wl.take 40) (q.bl.take 100) XL.out BL.out O82.out.rd.1 O92.out.rd.1 (by omega) (by omega) e c n (by omega) (by omega) (by omega) (by omega) (by omega) (by omega) T2.out g02
        generalize q.wl.take 40 = X at *
        generalize q.bl.take 100 = Y at *
        clear he1 he2 hc1 hc2 hn1 hn2
        go_upto_region 6 with (go_at_call 11; ((with_reducible refine cs.mono ?_); clear cs; rintro r w3 ⟨A3, c3, D, rfl, ho, hu, hop, hsp⟩; have O3 := hid_ ho; have HOP := hid_ hop; have HSP := hid_ hsp; have O83 := hid_ (O82.out.untouched hu HF1.out); have O93 := hid_ (O92.out.untouched hu HF1.out); have X3 := hid_ (X2.out.trans (hu.below OWN.out X2.out.size)); have K3 := hid_ (K2.out.untouched hu (fun hm => by have := OWN.out _ hm; have := K0.out.lt; omega)); clear ho hu hop hsp))
        clear C1 C2 C3 K2 O82 O92 X2 V2 T2 g02
        have cv := vaults_any w3 (fun t h => (X3.out.cell (p := ⟨_, t, none⟩) g01).trans (HT.out t h)) (Nat.lt_of_lt_of_le g01 X3.out.size)
        go_upto_region 8 with (go_at_call 8; ((with_reducible refine cv.mono ?_); clear cv; rintro r w4 ⟨rfl, hb⟩; have B4 := hid_ hb; have K4 := hid_ (K3.out.below hb K3.out.lt); have X4 := hid_ (X3.out.trans (hb.mono X3.out.size)); have O84 := hid_ (O83.out.below hb (Nat.le_refl _)); have O94 := hid_ (O93.out.below hb (Nat.le_refl _)); clear hb))
        have C1 : w4.cell? ⟨g, 1, none⟩ = some (.int .i64 (e : Int)) := by have h := K4.out.cell 1; rw [← he]; exact h
        have C2 : w4.cell? ⟨g, 2, none⟩ = some (.int .i64 (c : Int)) := by have h := K4.out.cell 2; rw [← hc]; exact h
        have C3 : w4.cell? ⟨g, 3, none⟩ = some (.int .i64 (n : Int)) := by have h := K4.out.cell 3; rw [← hn]; exact h
        have co := HOP.out w4 B4.out (fun t h => (X4.out.cell (p := ⟨_, t, none⟩) g01).trans (HT.out t h)) (Nat.lt_of_lt_of_le g01 X4.out.size) A8 c8 O84.out.rd.1
        go_upto_region 9 with (go_at_call 13; ((with_reducible refine co.mono ?_); clear co; rintro r w5 ⟨A5, c5, rfl, ho, hb⟩; have O5 := hid_ ho; have B5 := hid_ (B4.out.trans (hb.mono B4.out.size)); have K5 := hid_ (K4.out.below hb K4.out.lt); have X5 := hid_ (X4.out.trans (hb.mono X4.out.size)); have O95 := hid_ (O94.out.below hb (Nat.le_refl _)); clear ho hb))
        clear C1 C2 C3
        have C1 : w5.cell? ⟨g, 1, none⟩ = some (.int .i64 (e : Int)) := by have h := K5.out.cell 1; rw [← he]; exact h
        have C2 : w5.cell? ⟨g, 2, none⟩ = some (.int .i64 (c : Int)) := by have h := K5.out.cell 2; rw [← hc]; exact h
        have C3 : w5.cell? ⟨g, 3, none⟩ = some (.int .i64 (n : Int)) := by have h := K5.out.cell 3; rw [← hn]; exact h
        have cs := HSP.out w5 B5.out (fun t h => (X5.out.cell (p := ⟨_, t, none⟩) g01).trans (HT.out t h)) (Nat.lt_of_lt_of_le g01 X5.out.size)
        go_upto_region 10 with (go_at_call 11; ((with_reducible refine cs.mono ?_); clear cs; rintro r w6 ⟨rfl, hb⟩; have O6 := hid_ (O5.out.below hb (Nat.le_refl _)); have O96 := hid_ (O95.out.below hb (Nat.le_refl _)); have X6 := hid_ (X5.out.trans (hb.mono X5.out.size)); clear hb))
        clear C1 C2 C3 he hc hn
        have q1 : (convert 29 9 (.slice A5 mb c5)).run Tryd.prog w6 = .ok (.string (strOf Y)) w6 := conv_strn O6.out.rd.1 mb c5 BL.out
        have q2 : (convert 29 9 (.slice A9 mb c9)).run Tryd.prog w6 = .ok (.string (strOf Y)) w6 := conv_strn O96.out.rd.1 mb c9 BL.out
        have wi : IntKind.i64.wrap ((mb : Int) + 16) = (mb : Int) + 16 := IntWalk.i64_in _ (by omega)
        go_wp2
        go_ret
        exact ⟨rfl, by rw [HG.out]; exact B0.out.trans (X6.out.mono gle)⟩
      · have ck : Calls Tryd.prog 19 #[.pointer (some ⟨v, 0, none⟩), .int .i64 q.epoch, .int .i64 q.client, .int .i64 q.counter] w2 fun r w' => r = .returned noKeys ∧ Below w2.heap.size w2 w' := by
          by_cases he : 1 ≤ q.epoch ∧ q.epoch ≤ 1048576
          · obtain ⟨e, he3⟩ : ∃ e : Nat, q.epoch = (e : Int) := ⟨q.epoch.toNat, by omega⟩
            rw [he3]
            exact keysOf_no2 V2.out.blk V2.out.len e q.client q.counter (by omega) (by omega) (fun h => hok ⟨he, h⟩) T2.out g02
          · exact keysOf_no1 V2.out.blk V2.out.len q.epoch q.client q.counter he
        have cs := vseal_no A8 A9 mw c8 mb c9 q.epoch q.client q.counter ck
        clear ck hok
        go_upto_region 6 with (go_at_call 11; ((with_reducible refine cs.mono ?_); clear cs; rintro r w3 ⟨rfl, hb⟩; have X3 := hid_ (X2.out.trans (hb.mono X2.out.size)); clear hb))
        have cv := vaults_any w3 (fun t h => (X3.out.cell (p := ⟨_, t, none⟩) g01).trans (HT.out t h)) (Nat.lt_of_lt_of_le g01 X3.out.size)
        clear C1 C2 C3 K2 O82 O92 X2 V2 T2 g02
        go_upto_region 7 with (go_at_call 8; ((with_reducible refine cv.mono ?_); clear cv; rintro r w4 ⟨rfl, hb⟩; have X4 := hid_ (X3.out.trans (hb.mono X3.out.size)); clear hb))
        have cv := vaults_any w4 (fun t h => (X4.out.cell (p := ⟨_, t, none⟩) g01).trans (HT.out t h)) (Nat.lt_of_lt_of_le g01 X4.out.size)
        go_wp2_with (go_at_call 8; ((with_reducible refine cv.mono ?_); clear cv; rintro r w5 ⟨rfl, hb⟩; have X5 := hid_ (X4.out.trans (hb.mono X4.out.size)); clear hb))
        go_ret
        exact ⟨rfl, by rw [HG.out]; exact B0.out.trans (X5.out.mono gle)⟩

theorem laid_metV (os : Os) : laidMet Tryd.prog [("casket/sha2.roundWords", Rows.laid_casket_sha2_roundWords)] ((laidWorld os).forCall (fun _ _ => 0) ⟨#[], #[.bool false, .agg #[.int .i64 0, .int .i64 0, .int .i64 0, .int .i64 0, .slice none 0 0, .slice none 0 0, .int .i64 0, .int .u8 0]], []⟩).memory :=
  laidMet_of_run' 8 (by kernel_rfl) (by kernel_rfl)

/-- What the walk gives, for every argument and every world in which the constants lie. -/
theorem contract (H : Type) (enc : TypeId × Value → H) (W : World) (base : Nat) (args : Array Value) (ds gs : List (DataW H)) (before : List MemPlace)
    (hval : ∀ (j : Nat) t v, Tryd.f4.params[j]? = some t → args[j]? = some v → Value.okWide Tryd.prog W .any base t v)
    (hW : DataW.Whole enc Tryd.prog Tryd.f4.params.toList Rows.vaultBackSpec.vars false W args.toList ds gs before) (hL : laidMetH Tryd.prog Rows.vaultBackRow.laid W) :
    Calls Tryd.prog 4 args W fun e W' => ∃ v, e = .returned v ∧ Rows.vaultBackSpec.post enc Tryd.prog Tryd.f4 false true false false W args v W' := by
  obtain ⟨ht, hg1⟩ := tab_of hL
  have hW' := hW
  obtain ⟨p, q, hA0, hV, rfl, hfz, hnd⟩ := hW
  have hA : DataW.TrodAll enc Tryd.prog W 0 (fun _ => true) true Tryd.f4.params.toList args.toList ds p := hA0
  rw [Tryd.params4] at hA hval
  obtain ⟨v0, vs0, d0, ds0, p0, q0, hargs, rfl, rfl, h0, r0⟩ := trodAll_cons hA
  obtain ⟨v1, vs1, d1, ds1, p1, q1, rfl, rfl, rfl, h1, r1⟩ := trodAll_cons r0
  obtain ⟨rfl, rfl, rfl⟩ := trodAll_nil r1
  obtain rfl : args = #[v0, v1] := by cases args; simp_all
  obtain ⟨rfl, rfl⟩ := trodVars_none hV
  obtain ⟨id, rfl, rfl, rfl⟩ := open_bool Tryd.underlying4 (hval 0 4 v0 rfl rfl) h0
  obtain ⟨q, rfl, hq⟩ := open_vact (hval 1 39 v1 rfl rfl) h1
  refine (walk W id q hq ht hg1).mono fun e W' ⟨he, hg⟩ => ⟨_, he, ?_⟩
  exact law_post laidOut_ (of_decide_eq_true (by kernel_rfl)) rfl rfl Tryd.underlying4 rfl hW' hg

theorem reads (os : Os) {H : Type} (enc : TypeId × Value → H) : ∃ places, DataW.whole enc Tryd.prog ((laidWorld os).forCall (fun _ _ => 0) ⟨#[], #[.bool false, .agg #[.int .i64 0, .int .i64 0, .int .i64 0, .int .i64 0, .slice none 0 0, .slice none 0 0, .int .i64 0, .int .u8 0]], []⟩).memory Tryd.f4.params.toList Rows.vaultBackSpec.vars false (#[.bool false, .agg #[.int .i64 0, .int .i64 0, .int .i64 0, .int .i64 0, .slice none 0 0, .slice none 0 0, .int .i64 0, .int .u8 0]] : Array Value).toList 8 = some ([.lit (.bool false), .agg [.lit (.int .i64 0), .lit (.int .i64 0), .lit (.int .i64 0), .lit (.int .i64 0), .nil, .nil, .lit (.int .i64 0), .lit (.int .u8 0)]], [], places) :=
  ⟨[], by kernel_rfl⟩

set_option maxRecDepth 100000 in
theorem lifted (os : Os) (started : os.Started) (H : Type) (enc : TypeId × Value → H) (F : Stop.Interp) :
    ReturnsInHanded {} Tryd.checked os 4 .any ((OpenSpec.ofChange Rows.vaultBackSpec).preRow enc Tryd.prog Tryd.f4 Rows.vaultBackRow.domain false Rows.vaultBackRow.laid) (((OpenSpec.ofChange Rows.vaultBackSpec).at F).post enc Tryd.prog Tryd.f4 false true false false) := by
  obtain ⟨places, hx⟩ := reads os enc
  refine returnsInHanded_of_row (C := Tryd.checked) (s := OpenSpec.ofChange Rows.vaultBackSpec) own_ started (by kernel_rfl) Tryd.func4
    (witness_row_at (enc := enc) (C := Tryd.checked) false (laidWorld os) #[.bool false, .agg #[.int .i64 0, .int .i64 0, .int .i64 0, .int .i64 0, .slice none 0 0, .slice none 0 0, .int .i64 0, .int .u8 0]] rfl (by kernel_rfl) (by kernel_rfl) (by kernel_rfl)
      (OpenSpec.preRow_of_cond 8 hx (by kernel_rfl) (fun k hk => by cases hk) (by kernel_rfl) (laid_metV os))) ?_
  intro W base args ds gs before hval hW _ _ _ hL _ _
  exact contract H enc W base args ds gs before hval hW hL

theorem said : Rows.VaultBackSaid :=
  OpenClaim.holds_of_cond 4 Tryd.f4 rfl rfl rfl rfl rfl rfl rfl ⟨rfl, rfl, rfl, rfl, rfl⟩ rfl rfl rfl rfl rfl (by kernel_rfl) Tryd.func4 (by kernel_rfl)
    (of_decide_eq_true (by kernel_rfl)) (by unfold Func.isWrapper; first | (rw [if_pos (by decide +kernel)]; kernel_rfl) | (rw [if_neg (by decide +kernel)]; exact ⟨rfl, rfl⟩))
    (fun os started H enc _ F => by rw [OpenClaim.pre_eq_preRow]; exact lifted os started H enc F)

/-- No parameter wants a stand-in; the program's own looks are off: what the card asks. -/
theorem plain (f : FuncId) (fn : Func) (hf : Tryd.pinned.checked.prog.funcNamed "casket/casketlaw12.VaultBack" = some f) (hfn : Tryd.pinned.checked.prog.funcs[f]? = some fn) :
    false = Tryd.pinned.checked.prog.looks [] ∧ ∀ (j : Nat) t, fn.params[j]? = some t → Tryd.pinned.checked.prog.wantsStandIn t = false := by
  obtain rfl : f = 4 := Option.some.inj ((show Tryd.prog.funcNamed "casket/casketlaw12.VaultBack" = some 4 by kernel_rfl).symm.trans hf) |>.symm
  obtain rfl : fn = Tryd.f4 := (Option.some.inj (Tryd.func4.symm.trans hfn)).symm
  refine ⟨by kernel_rfl, fun j t ht => ?_⟩
  rw [Tryd.params4] at ht
  have hm := Array.mem_of_getElem? ht
  simp only [List.mem_toArray, List.mem_cons, List.not_mem_nil, or_false] at hm
  rcases hm with rfl | rfl
  · exact (show Tryd.prog.wantsStandIn 4 = false by kernel_rfl)
  · exact (show Tryd.prog.wantsStandIn 39 = false by kernel_rfl)

/-- The card. -/
theorem proved : Rows.VaultBackCardSaid :=
  Claim7.holds_tied_plain_at .later [] _ _ _ _ said (fun _ h => by cases h) (by kernel_rfl) (fun _ h => by cases h) vaultBack_row_tie rfl ⟨rfl, rfl⟩ (by kernel_rfl) rfl plain (by kernel_rfl)
#print axioms proved
end Go.Proofs.YtoeofifibjelnaaDoor.vaultBack
