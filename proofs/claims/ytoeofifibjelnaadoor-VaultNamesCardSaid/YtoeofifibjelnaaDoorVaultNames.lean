/-
  Proved: for all seeds and rows of names VaultNames answers true: a name that is asked for again has the same blind, another one another. No condition.
-/
import Derived.Test.YtoeofifibjelnaaDoorYo
import Derived.Test.YtoeofifibjelnaaDoorR3
import Derived.Test.YtoeofifibjelnaaDoorOa
namespace Go.Proofs.YtoeofifibjelnaaDoor.vaultNames
set_option maxRecDepth 100000
open Go.ChangeShapes Go.WideShapes Go.ChangeAt Go.RowKit
set_option linter.unusedVariables false
set_option linter.unusedSimpArgs false

theorem hid_ {p : Prop} (h : p) : Hid p := h
def NaR (nv bv nw : Value) (Y D : List UInt8) (b9 : Nat) : Nat → Value → World → Prop
  | 0, u, _ => u = nv
  | 1, u, _ => u = nw
  | 2, u, _ => u = .string (strOf Y)
  | 3, u, W => ∃ g, u = .slice (some ⟨g, 0, none⟩) 1 1 ∧ b9 ≤ g ∧ Bk W g 9 #[.string (strOf Y)]
  | 5, u, _ => u = bv
  | 6, u, _ => u = .agg (rowOf D)
  | 7, u, W => ∃ g, u = .slice (some ⟨g, 0, none⟩) 1 1 ∧ b9 ≤ g ∧ Bk W g 31 (rowOf D)
  | _, _, _ => True
theorem NaR.stable {nv bv nw : Value} {Y D : List UInt8} {b9 : Nat} {X : List Nat} {W W' : World} (hX : ∀ k ∈ X, k < b9) (hT : Untouched X W W') : ∀ (j : Nat) (u : Value), NaR nv bv nw Y D b9 j u W → NaR nv bv nw Y D b9 j u W'
  | 0, _, h => h
  | 1, _, h => h
  | 2, _, h => h
  | 3, _, ⟨g, e, hg, hb⟩ => ⟨g, e, hg, hb.untouched hT (fun hm => by have := hX g hm; omega)⟩
  | 4, _, _ => trivial
  | 5, _, h => h
  | 6, _, h => h
  | 7, _, ⟨g, e, hg, hb⟩ => ⟨g, e, hg, hb.untouched hT (fun hm => by have := hX g hm; omega)⟩
  | _ + 8, _, _ => trivial
/-- What is known of the two rows' blocks. -/
structure Far (w0 : World) (nv bv : Value) (F : List Nat) : Prop where
  n : ∀ k, nv.ownBlock = some k → k ∉ F
  b : ∀ k, bv.ownBlock = some k → k ∉ F
structure Small (j : Nat) (N Ns : List (List UInt8)) (S : List (Nat × Nat)) (L : List SealV) : Prop where
  n : N.length ≤ j
  s : S.length ≤ j
  l : L.length ≤ j
  k : Ns.length ≤ j
  m : ∀ t ∈ Ns, t ∈ N

set_option maxRecDepth 100000 in
set_option maxHeartbeats 16000000 in
theorem walk (w : World) (K : List UInt8) (hK : K.length = 32) (A1 : Option Addr) (n1 c1 : Nat) (l : List (List UInt8)) (hn : l.length = n1) (hp : Parts w w.heap.size A1 l) (hn9 : n1 ≤ 9223372036854775807) (ht : Tab w) (hg1 : 1 < w.heap.size) :
    Calls Tryd.prog 3 #[.agg (rowOf K), .slice A1 n1 c1] w fun e w' => e = .returned (.bool true) ∧ Below w.heap.size w w' := by
  obtain ⟨K0, hK0⟩ : ∃ D, K = D := ⟨_, rfl⟩
  rw [hK0] at hK ⊢
  obtain ⟨g, hg⟩ : ∃ g, w.heap.size = g := ⟨_, rfl⟩
  obtain ⟨w0, hw0⟩ : ∃ w0, w.alloc (.cells (rowOf K0) 22) = w0 := ⟨_, rfl⟩
  have B0 := hid_ (show Below g w w0 by rw [← hw0, ← hg]; exact (Below.refl w.heap.size w).alloc (Nat.le_refl _) _)
  have KG := hid_ (show Bk w0 g 22 (rowOf K0) by rw [← hw0, ← hg]; exact Bk.new w _ _)
  have HG := hid_ hg
  rw [hg] at hg1
  have HT := hid_ (show Tab w0 from fun t h => (B0.out.cell (p := ⟨_, t, none⟩) hg1).trans (ht t h))
  have g01 : 1 < w0.heap.size := by have := KG.out.lt; omega
  have gle : g ≤ w0.heap.size := Nat.le_of_lt KG.out.lt
  have HP := hid_ (((hg ▸ hp).below B0.out (Nat.le_refl _)).more gle)
  have HN := hid_ hn
  have KL := hid_ hK
  have I32 := hid_ (ib32 K0 hK)
  have ci := ideal_new w0 K0 KL.out
  have hzB := zB
  clear ht hK hp hn hK0
  go_enter Tryd.func3, Tryd.ntmps3
  go_upto_region 2 with (first
    | (refine wpList_load_row rfl 22 (.tmp 2) rfl g rfl 22 (rowOf K0) (0, 0) _ KG.out Tryd.underlying22 rfl I32.out ?_)
    | (go_at_call 7; ((with_reducible refine ci.mono ?_); clear ci; rintro e w1 ⟨v, sp, nm, kn, F, rfl, hv, hF, hb⟩; have M1 := hid_ (show Mine w0 v sp nm kn K0 [] [] [] F w1 from ⟨hv, hF, hb⟩); clear hv hF hb)))
  clear hw0 hg
  have cv := vaults_any w1 (M1.out.tab HT.out g01) (M1.out.glt g01)
  go_upto_region 7 with (go_at_call 8; ((with_reducible refine cv.mono ?_); clear cv; rintro r w2 ⟨rfl, hb⟩; have M2 := hid_ (M1.out.then_ hb); clear hb M1))
  obtain ⟨M, hM⟩ : ∃ M, M = min n1 14 := ⟨_, rfl⟩
  go_loopw [6, 7, 8] (fun nv bv i wr => ∃ (j : Nat) (N Ns : List (List UInt8)) (S : List (Nat × Nat)) (L : List SealV) (F1 : List Nat), j ≤ M ∧ i = .int .i64 j ∧ Hid (Mine w0 v sp nm kn K0 N S L F1 wr) ∧ Hid (OwnN wr w0.heap.size nv Ns) ∧ Hid (OwnL wr w0.heap.size bv (Ns.map (blN1 K0 N))) ∧ Hid (Far w0 nv bv F1) ∧ Hid (Small j N Ns S L)) (fun _ _ i _ => M - (intOf i).toNat)
  case atStart => exact ⟨0, [], [], [], [], F, Nat.zero_le _, rfl, M2, hid_ (OwnN.nil_ _ _), hid_ (OwnL.nil_ _ _), hid_ ⟨fun k e => (by cases e), fun k e => (by cases e)⟩, hid_ ⟨Nat.le_refl _, Nat.le_refl _, Nat.le_refl _, Nat.le_refl _, fun t h => (by cases h)⟩⟩
  case round =>
    obtain ⟨j, N, Ns, S, L, F1, hj, rfl, HM, HA, HB, HFR, HSM⟩ := hrel
    clear M2
    by_cases hlt : j < M
    · have hd1 : decide ((j : Int) < (n1 : Int)) = true := decide_eq_true (by omega)
      have hd2 : decide ((j : Int) < 14) = true := decide_eq_true (by omega)
      have hd3 : decide (j < n1) = true := decide_eq_true (by omega)
      have hd4 : decide (j < 14) = true := decide_eq_true (by omega)
      have j14 : j < 14 := by omega
      obtain ⟨b, off, rfl, hbl, hrow⟩ := HP.out (by rw [HN.out]; omega)
      obtain ⟨Aj, cj, hcl, hrd, hlc, hcm⟩ := hrow j (by rw [HN.out]; omega)
      generalize l.getD j [] = s0 at *
      have hcell : wr.cell? ⟨b, off + j, none⟩ = some (.slice Aj s0.length cj) := ((HM.out.below).cell (p := ⟨b, off + j, none⟩) hbl).trans hcl
      have t0 : (0 : Int) ≤ (j : Int) := by omega
      have tn : (j : Int) < (n1 : Int) := by omega
      have HLT := hid_ hlt
      obtain ⟨mb, hmb⟩ : ∃ m, m = min s0.length 64 := ⟨_, rfl⟩
      have YL := hid_ (show (s0.take 64).length = mb by rw [List.length_take, hmb, Nat.min_comm])
      have mb64 : mb ≤ 64 := by omega
      have cc : Calls Tryd.prog 9 #[.slice Aj s0.length cj, .int .i64 64] wr (NewP wr mb (s0.take 64)) := vcut_any wr Aj s0 s0.length cj 64 mb rfl hmb (by omega) ((hrd.below HM.out.below).more HM.out.below.size) hlc hcm
      obtain ⟨An, cn, rfl⟩ := HA.out.form
      obtain ⟨Ab, cb, eb⟩ := HB.out.form
      rw [List.length_map] at eb
      subst eb
      obtain ⟨Y, hY⟩ : ∃ D, s0.take 64 = D := ⟨_, rfl⟩
      rw [hY] at YL cc
      clear hrow hlt hcl hrd hlc hcm hmb hY
      go_upto_region 10 with (go_at_call 9; ((with_reducible refine cc.mono ?_); clear cc; rintro e w4 ⟨A9, c9, rfl, ho, hb⟩; have O4 := hid_ ho; have M4 := hid_ (HM.out.then_ hb); have N4 := hid_ (HA.out.below hb); have L4 := hid_ (HB.out.below hb); have S4 := hid_ hb.size; clear ho hb))
      clear hcell t0 tn hd1 hd2 hd3 hd4
      have HFw : Hid (∀ k ∈ F1, k < wr.heap.size) := hid_ HM.out.vlt.hF
      have XN : Hid (∀ k, (Value.slice An Ns.length cn).ownBlock = some k → k < wr.heap.size) := hid_ (fun k e => (World.ownsRow.lt HA.out k e).2)
      have XB : Hid (∀ k, (Value.slice Ab Ns.length cb).ownBlock = some k → k < wr.heap.size) := hid_ (fun k e => (World.ownsRow.lt HB.out.1 k e).2)
      clear HM HA HB
      have ba := vblind_out M4.out.vlt A9 mb c9 Y YL.out O4.out.cap.1 O4.out.cap.2 O4.out.rd.1 (by have := HSM.out.n; omega) (M4.out.tab HT.out g01) (M4.out.glt g01)
      obtain ⟨D, hD⟩ : ∃ D, blB K0 N Y = D := ⟨_, rfl⟩
      obtain ⟨ez, hez⟩ : ∃ D, blE Y = D := ⟨_, rfl⟩
      have DL := hid_ (show D.length = 32 by rw [← hD]; exact blB_len _ _ _)
      have ID := hid_ (iB D DL.out)
      have QD := hid_ (show (rowOf (zbytes 32)).size = (rowOf D).size by rw [rowOf_size, rowOf_size, DL.out, zbytes_len])
      have HD := hid_ hD
      have HEZ := hid_ hez
      rw [hD, hez] at ba
      clear hD hez
      go_upto_region 11 with (first
        | (go_at_call 10; ((with_reducible refine ba.mono ?_); clear ba; rintro r w7 ⟨rfl, hl⟩; have M7 := hid_ (M4.out.next hl); have N7 := hid_ (N4.out.keep hl.2.2 HFR.out.n); have L7 := hid_ (L4.out.keep hl.2.2 HFR.out.b); have O7 := hid_ (O4.out.untouched hl.2.2 (fun k hk => HFw.out k hk)); have S7 := hid_ (Nat.le_trans S4.out hl.2.2.size); clear hl))
        | (refine wpList_put_row rfl 31 (.tmp 10) (.tmp 36) rfl w7.heap.size (rowOf D) rfl rfl 31 (rowOf (zbytes 32)) (Bk.new w7 _ _) ID.out QD.out (bytes_one _) ?_; intro w8 k8 g8 s8; have BX : Below w7.heap.size w7 w8 := (((Below.refl w7.heap.size w7).alloc (Nat.le_refl _) (.cells (rowOf (zbytes 32)) 31)).grown g8 (by simp) (fun k hk => by injection hk with hk; omega)); have K8 := hid_ k8; have M8 := hid_ (M7.out.then_ BX); have N8 := hid_ (N7.out.below BX); have L8 := hid_ (L7.out.below BX); have O8 := hid_ (O7.out.below BX (Nat.le_refl _)); have S8 := hid_ (Nat.le_trans S7.out BX.size); clear k8 g8 s8 BX))
      have G8 : Hid (wr.heap.size ≤ w7.heap.size) := S7
      have G8F : Hid (w7.heap.size ∉ F1) := hid_ (fun hm => by have := HFw.out _ hm; have := G8.out; omega)
      generalize w7.heap.size = g8 at *
      generalize wr.heap.size = b0 at *
      by_cases h0 : mb = 0
      · subst h0
        obtain rfl : ez = 1 := by rw [← HEZ.out]; unfold blE; rw [if_neg (by unfold blOk; rw [YL.out]; omega)]
        have eN : blN N Y = N := by unfold blN; rw [if_neg (by unfold blOk; rw [YL.out]; omega)]
        rw [eN] at M8
        clear eN
        go_wp2
        go_roundw
        case rel => exact ⟨j + 1, N, Ns, S, L, F1, by have := HLT.out; omega, by go_num, M8, N8, L8, HFR, hid_ ⟨by have := HSM.out.n; omega, by have := HSM.out.s; omega, by have := HSM.out.l; omega, by have := HSM.out.k; omega, HSM.out.m⟩⟩
        case measure => have := HLT.out; simp [intOf]; omega
      · obtain rfl : ez = 0 := by rw [← HEZ.out]; unfold blE; rw [if_pos (by unfold blOk; rw [YL.out]; omega)]
        have eN : blN N Y = addNm N Y := by unfold blN; rw [if_pos (by unfold blOk; rw [YL.out]; omega)]
        have eD : D = blN1 K0 (addNm N Y) Y := by rw [← HD.out]; unfold blB blN1; rw [if_pos (by unfold blOk; rw [YL.out]; omega), ordN_self]
        rw [eN] at M8
        rw [blN1_map K0 Y HSM.out.m] at L8
        have N1L := hid_ (addNm_len N Y)
        have YIN := hid_ (mem_addNm N Y)
        have NIN : Hid (∀ t ∈ Ns, t ∈ addNm N Y) := hid_ (fun t ht => mem_addNm_of (HSM.out.m t ht))
        have ED := hid_ eD
        clear eN eD
        generalize addNm N Y = N1 at *
        have hm1 : (mb : Int) ≠ 0 := by omega
        have hm2 : ((mb : Int) == 0) = false := by simp; omega
        have hm3 : decide ((mb : Int) = 0) = false := decide_eq_false (by omega)
        have hm4 : decide (mb = 0) = false := decide_eq_false h0
        have H0 := hid_ h0
        have k14 : Ns.length ≤ 14 := by have := HSM.out.k; omega
        go_upto_region 17 with fail
        clear hm1 hm2 hm3 hm4 h0
        go_loopw [12] (fun i wq => ∃ a : Nat, a ≤ Ns.length ∧ i = .int .i64 a ∧ Hid (Below w8.heap.size w8 wq)) (fun i _ => Ns.length - (intOf i).toNat)
        case atStart => exact ⟨0, Nat.zero_le _, rfl, hid_ (Below.refl _ _)⟩
        case round =>
          obtain ⟨a, ha, rfl, HQ⟩ := hrel
          by_cases hlt2 : a < Ns.length
          · have he1 : decide ((a : Int) < (Ns.length : Int)) = true := decide_eq_true (by omega)
            have he2 : decide (a < Ns.length) = true := decide_eq_true hlt2
            have u0 : (0 : Int) ≤ (a : Int) := by omega
            have u1 : (a : Int) < (Ns.length : Int) := by omega
            obtain ⟨gn, rfl, hcn⟩ := N8.out.cells a hlt2
            obtain ⟨gb, rfl, hcb⟩ := L8.out.cells a (by rw [List.length_map]; exact hlt2)
            rw [show (Ns.map (blN1 K0 N1))[a]'(by rw [List.length_map]; exact hlt2) = blN1 K0 N1 Ns[a] by simp] at hcb
            have tIN := NIN.out Ns[a] (List.getElem_mem hlt2)
            obtain ⟨t, ht⟩ : ∃ t, Ns[a] = t := ⟨_, rfl⟩
            rw [ht] at hcn hcb tIN
            have hiff := blN1_iff (K := K0) (t := Y) (by have := N1L.out; have := HSM.out.n; omega) tIN
            obtain ⟨E, hE⟩ : ∃ E, blN1 K0 N1 t = E := ⟨_, rfl⟩
            have EL : E.length = 32 := by rw [← hE]; exact blN1_len _ _ _
            rw [← ED.out, hE] at hiff
            rw [hE] at hcb
            obtain ⟨r, hr⟩ : ∃ r : Bool, decide (t = Y) = r := ⟨_, rfl⟩
            have es : ((strOf t).toList == (strOf Y).toList) = r := by rw [strOf_beq, ← hr]; exact Bool.beq_eq_decide_eq t Y
            have eb : (E == D) = r := by
              rw [← hr]
              by_cases hty : t = Y
              · rw [decide_eq_true hty]; exact beq_iff_eq.2 (hiff.2 hty)
              · rw [decide_eq_false hty]; exact beq_false_of_ne (fun e => hty (hiff.1 e))
            have SB := hid_ (eqBY2 E D EL DL.out)
            have SS := hid_ es
            rw [eb] at SB
            have CN : Hid (∀ W, Below wr.heap.size wr W → W.cell? ⟨gn, a, none⟩ = some (.string (strOf t))) := hid_ (fun W hW => ((HQ.out.trans (hW.mono HQ.out.size)).cell (p := ⟨gn, a, none⟩) (World.block_lt_of_cell? _ _ hcn)).trans hcn)
            have CB : Hid (∀ W, Below wr.heap.size wr W → ∀ i, i < (rowOf E).size → W.cell? ⟨gb, a * 32 + i, none⟩ = (rowOf E)[i]?) := hid_ (fun W hW i hi => ((HQ.out.trans (hW.mono HQ.out.size)).cell (p := ⟨gb, a * 32 + i, none⟩) (by have h := hcb i hi; rw [Array.getElem?_eq_getElem hi] at h; exact World.block_lt_of_cell? _ _ h)).trans (hcb i hi))
            have CV : Hid (∀ W, Below wr.heap.size wr W → (convert 29 9 (.slice A9 mb c9)).run Tryd.prog W = .ok (.string (strOf Y)) W) := hid_ (fun W hW => conv_strn (O8.out.below (HQ.out.trans (hW.mono HQ.out.size)) (Nat.le_refl _)).rd.1 mb c9 YL.out)
            have CK : Hid (∀ W, Below wr.heap.size wr W → Bk W g8 31 (rowOf D)) := hid_ (fun W hW => K8.out.below (HQ.out.trans (hW.mono HQ.out.size)) K8.out.lt)
            have IE := hid_ (show (Tryd.prog.info? 31).map (·.size) = some (rowOf E).size from iB E EL)
            clear hcn hcb tIN hiff hE ht hr es eb
            go_upto_region 19 with fail
            refine region_quiet_in (C := fun W => Below wr.heap.size wr W) (by kernel_rfl) (by kernel_rfl) ((Below.refl _ _).drew) ?_
            repeat (first | go_big_quiet_skip | (go_big_quiet_want; (first
              | (refine BigFrame.quiet_move _ rfl ?_; go_simp)
              | (refine BigFrame.quiet_assign _ rfl ?_; go_simp)
              | (refine ql_suby 31 (.tmp 60) rfl gb (a * 32) rfl (rowOf E) _ Tryd.underlying31 rfl IE.out (fun W hW => CB.out W hW) ?_; go_simp)
              | (refine quiet_load_row 31 (.tmp 10) rfl g8 rfl 31 (rowOf D) _ Tryd.underlying31 rfl ID.out (fun W hW => CK.out W hW) ?_; go_simp)
              | (refine quiet_run (.pointer (some ⟨gn, a, none⟩)) ?_ ?_; (focus (intro W hW; go_simp; done)); go_simp)
              | (refine quiet_run (.pointer (some ⟨gb, a * 32, none⟩)) ?_ ?_; (focus (intro W hW; go_simp; done)); go_simp)
              | (refine quiet_run (.string (strOf t)) ?_ ?_; (focus (intro W hW; have h := CN.out W hW; go_simp; done)); go_simp)
              | (refine quiet_run (.string (strOf Y)) ?_ ?_; (focus (intro W hW; have h := CV.out W hW; go_simp; done)); go_simp)
              | (refine quiet_run (.bool r) ?_ ?_; (focus (intro W hW; have h := SS.out; go_simp; done)); go_simp)
              | (refine quiet_run (.bool r) ?_ ?_; (focus (intro W hW; have h := SB.out W; go_simp; done)); go_simp)
              | (refine quiet_run (.bool false) ?_ ?_; (focus (intro W hW; cases r <;> (go_simp; done))); go_simp)); go_big_quiet_on))
            refine wpQuiet_nil ?_
            intro w9 hw9
            have HQ9 := hid_ (HQ.out.trans (hw9.mono HQ.out.size))
            clear hw9 CN CB CV CK SS SB
            go_wp2
            go_roundw
            case rel => exact ⟨a + 1, by omega, by go_num, HQ9⟩
            case measure => simp [intOf]; omega
          · obtain rfl : Ns.length = a := by omega
            go_upto_region 21 with fail
            have M9 := hid_ (M8.out.then_ HQ.out)
            have N9 := hid_ (N8.out.below HQ.out)
            have L9 := hid_ (L8.out.below HQ.out)
            have O9 := hid_ (O8.out.below HQ.out (Nat.le_refl _))
            have K9 := hid_ (K8.out.below HQ.out K8.out.lt)
            have W9S := hid_ M9.out.below.size
            have F1S : Hid (∀ k ∈ F1, k < wr.heap.size) := hid_ M9.out.vlt.hF
            have XW : Hid (∀ k ∈ obL (.slice An Ns.length cn) ++ obL (.slice Ab Ns.length cb), k < b0) := hid_ (fun k hk => (List.mem_append.1 hk).elim (fun h => XN.out k (mem_obL.1 h)) (fun h => XB.out k (mem_obL.1 h)))
            have XF : Hid (∀ k ∈ F1, k ∉ obL (.slice An Ns.length cn) ++ obL (.slice Ab Ns.length cb)) := hid_ (fun k hk hm => (List.mem_append.1 hm).elim (fun h => HFR.out.n k (mem_obL.1 h) hk) (fun h => HFR.out.b k (mem_obL.1 h) hk))
            have XO : Hid (∀ k ∈ obL (.slice An Ns.length cn) ++ obL (.slice Ab Ns.length cb), w0.heap.size ≤ k) := hid_ (fun k hk => (List.mem_append.1 hk).elim (fun h => (World.ownsRow.lt N9.out k (mem_obL.1 h)).1) (fun h => (World.ownsRow.lt L9.out.1 k (mem_obL.1 h)).1))
            have X9 : Hid (∀ k ∈ obL (.slice An Ns.length cn) ++ obL (.slice Ab Ns.length cb), k < wr.heap.size) := hid_ (fun k hk => (List.mem_append.1 hk).elim (fun h => (World.ownsRow.lt N9.out k (mem_obL.1 h)).2) (fun h => (World.ownsRow.lt L9.out.1 k (mem_obL.1 h)).2))
            clear HQ
            generalize wr = w9 at *
            rename_i K21 hK21
            refine region_byJF [65, 66, 67, 68, 69, 70, 71, 72, 73, 6, 7] (fun W => Untouched (obL (.slice An Ns.length cn) ++ obL (.slice Ab Ns.length cb)) w9 W) (fun W W' => Untouched (obL (.slice An Ns.length cn) ++ obL (.slice Ab Ns.length cb)) W W') (NaR (.slice An Ns.length cn) (.slice Ab Ns.length cb) (.slice A9 mb c9) Y D w9.heap.size) (fun D_ a W => JU 4 8 9 10 69 73 6 7 (fun W => OwnN W w0.heap.size (.slice An Ns.length cn) Ns) (fun W => OwnL W w0.heap.size (.slice Ab Ns.length cb) (Ns.map (blN1 K0 N1))) (fun u W => OwnN W w0.heap.size u (Ns ++ [Y]) ∧ FrB (.slice An Ns.length cn) w9.heap.size u) (fun u W => OwnL W w0.heap.size u (Ns.map (blN1 K0 N1) ++ [D]) ∧ FrB (.slice Ab Ns.length cb) w9.heap.size u) D_ a W) (by kernel_rfl) (by kernel_rfl) (by kernel_rfl) (by kernel_rfl) (fun j v w w' hT hr => NaR.stable X9.out hT j v hr) (fun j v w hlt hj _ => ?_) (Untouched.drewN 1) ?_ (JU.start (N9.out.below ((Below.refl _ _).drew)) (L9.out.below ((Below.refl _ _).drew))) ?_
            · rcases j with _ | _ | _ | _ | _ | _ | _ | _ | _ | _ | _ | j
              all_goals first
                | (exfalso; simp [dstOf] at hj; done)
                | trivial
            · refine ⟨fun D_ a W hC hd hsz hf hv hJ hL hW K hK => ?_, fun D_ a W hC hd hsz hf hv hJ hL hW K hK => ?_, fun D_ a W hC hd hsz hf hv hJ hL hW K hK => ?_, fun D_ a W hC hd hsz hf hv hJ hL hW K hK => ?_, fun D_ a W hC hd hsz hf hv hJ hL hW K hK => ?_, fun D_ a W hC hd hsz hf hv hJ hL hW K hK => ?_, fun D_ a W hC hd hsz hf hv hJ hL hW K hK => ?_, fun D_ a W hC hd hsz hf hv hJ hL hW K hK => ?_, fun D_ a W hC hd hsz hf hv hJ hL hW K hK => ?_, fun D_ a W hC hd hsz hf hv hJ hL hW K hK => ?_, fun D_ a W hC hd hsz hf hv hJ hL hW K hK => ?_, trivial⟩
              · clear hsz
                have e1 := slot_of (a := a) (s := 6) (v := (.slice An Ns.length cn)) (hf 6 (by kernel_rfl))
                refine step_run (wanted_none rfl) (v := (.slice An Ns.length cn)) (w' := W) ?_ (hK _ _ hC (Untouched.refl _ _) rfl (hJ.same 0 65 _ (by decide) (by decide)))
                go_simp
              · clear hsz
                have e1 := slot_of (a := a) (s := 9) (v := (.slice A9 mb c9)) (hf 9 (by kernel_rfl))
                refine step_run (wanted_none rfl) (v := (.slice A9 mb c9)) (w' := W) ?_ (hK _ _ hC (Untouched.refl _ _) rfl (hJ.same 1 66 _ (by decide) (by decide)))
                go_simp
              · clear hsz
                have e1 := slot_of (a := a) (s := 66) (v := (.slice A9 mb c9)) (hv 1 (by kernel_rfl))
                have h : (convert 29 9 (.slice A9 mb c9)).run Tryd.prog W = .ok (.string (strOf Y)) W := conv_strn (O9.out.untouched hC XW.out).rd.1 mb c9 YL.out
                refine step_run (wanted_none rfl) (v := (.string (strOf Y))) (w' := W) ?_ (hK _ _ hC (Untouched.refl _ _) rfl (hJ.same 2 67 _ (by decide) (by decide)))
                go_simp
              · clear hsz
                have e1 := slot_of (a := a) (s := 67) (v := .string (strOf Y)) (hv 2 (by kernel_rfl))
                have hb : Below W.heap.size W (W.alloc (.cells #[.string (strOf Y)] 9)) := (Below.refl _ _).alloc (Nat.le_refl _) _
                refine step_run (wanted_none rfl) (v := .slice (some ⟨W.heap.size, 0, none⟩) 1 1) (w' := W.alloc (.cells #[.string (strOf Y)] 9)) ?_ (hK _ _ (hC.trans (Grew.refl _ _) (Untouched.alloc _)) (Untouched.alloc _) ⟨_, rfl, hC.size, Bk.new _ _ _⟩ (hJ.other 3 68 _ (by decide) (by decide) (fun h => h.below hb) (fun h => h.below hb) (fun u h => ⟨h.1.below hb, h.2⟩) (fun u h => ⟨h.1.below hb, h.2⟩)))
                go_simp
              · have HSZ := hid_ hsz
                clear hsz
                have e1 := eval_of (a := a) (s := 65) (v := (.slice An Ns.length cn)) (hv 0 (by kernel_rfl))
                obtain ⟨g68, eg, hg68, hk68⟩ : ∃ g, a.tmps.getD 68 undef = .slice (some ⟨g, 0, none⟩) 1 1 ∧ w9.heap.size ≤ g ∧ Bk W g 9 #[.string (strOf Y)] := hv 3 (by kernel_rfl)
                have e2 := eval_of eg
                have hP := hJ.p0 hL
                obtain ⟨v69, W2, hrun, k1, k2, k3⟩ := run_appN hP Y g68 hk68 27 1 (by omega) (Nat.le_trans W9S.out hC.size)
                have hU : Untouched (obL (.slice An Ns.length cn) ++ obL (.slice Ab Ns.length cb)) W W2 := .of_grown k2 (fun k e => List.mem_append_left _ (mem_obL.2 e))
                rw [if_pos (wanted_none rfl)]
                unfold Oper.wp execOp
                simp only [resolve, invoke, builtin, Sem.run_bind, Sem.run_pure, Result.andThen_ok, List.map_toArray, List.map_cons, List.map_nil, e1, e2, hrun]
                exact hK _ _ (hC.trans (Grew.refl _ _) hU) hU trivial (hJ.first v69 hL (by decide) (by decide) (by rw [HSZ.out]; exact of_decide_eq_true (by kernel_rfl)) (fun _ => ⟨k1, k3.elim .inl (fun e => .inr ⟨_, e, hC.size⟩)⟩) (fun h => h.grownN hP k2) (fun u h => ⟨h.1.grownN hP k2, h.2⟩))
              · clear hsz
                have e1 := slot_of (a := a) (s := 7) (v := (.slice Ab Ns.length cb)) (hf 7 (by kernel_rfl))
                refine step_run (wanted_none rfl) (v := (.slice Ab Ns.length cb)) (w' := W) ?_ (hK _ _ hC (Untouched.refl _ _) rfl (hJ.same 5 70 _ (by decide) (by decide)))
                go_simp
              · clear hsz
                have e1 : a.tmps.getD 10 undef = .pointer (some ⟨g8, 0, none⟩) := hf 10 (by kernel_rfl)
                exact step_load_rowW (wanted_none rfl) 31 (.tmp 10) rfl g8 (eval_of e1) 31 (rowOf D) (K9.out.untouched hC (fun hm => by have h1 := XW.out _ hm; have h2 := G8.out; omega)) _ Tryd.underlying31 rfl ID.out (hK _ _ hC (Untouched.refl _ _) rfl (hJ.same 6 71 _ (by decide) (by decide)))
              · clear hsz
                have e1 := eval_of (a := a) (s := 71) (v := .agg (rowOf D)) (hv 6 (by kernel_rfl))
                have hb : Below W.heap.size W (W.alloc (.cells (rowOf D) 31)) := (Below.refl _ _).alloc (Nat.le_refl _) _
                exact step_oneL (wanted_none rfl) (.tmp 71) rfl D e1 DL.out (hK _ _ (hC.trans (Grew.refl _ _) (Untouched.alloc _)) (Untouched.alloc _) ⟨_, rfl, hC.size, Bk.new _ _ _⟩ (hJ.other 7 72 _ (by decide) (by decide) (fun h => h.below hb) (fun h => h.below hb) (fun u h => ⟨h.1.below hb, h.2⟩) (fun u h => ⟨h.1.below hb, h.2⟩)))
              · have HSZ := hid_ hsz
                clear hsz
                have e1 := eval_of (a := a) (s := 70) (v := (.slice Ab Ns.length cb)) (hv 5 (by kernel_rfl))
                obtain ⟨g72, eg, hg72, hk72⟩ : ∃ g, a.tmps.getD 72 undef = .slice (some ⟨g, 0, none⟩) 1 1 ∧ w9.heap.size ≤ g ∧ Bk W g 31 (rowOf D) := hv 7 (by kernel_rfl)
                have e2 := eval_of eg
                have hP := hJ.q0 hL
                have HPX := hid_ hP
                obtain ⟨v73, W2, hrun, k1, k2, k3⟩ := run_appL hP D DL.out g72 hk72 28 1 (by rw [List.length_map]; omega) (Nat.le_trans W9S.out hC.size)
                have hU : Untouched (obL (.slice An Ns.length cn) ++ obL (.slice Ab Ns.length cb)) W W2 := .of_grown k2 (fun k e => List.mem_append_right _ (mem_obL.2 e))
                rw [if_pos (wanted_none rfl)]
                unfold Oper.wp execOp
                simp only [resolve, invoke, builtin, Sem.run_bind, Sem.run_pure, Result.andThen_ok, List.map_toArray, List.map_cons, List.map_nil, e1, e2, hrun]
                exact hK _ _ (hC.trans (Grew.refl _ _) hU) hU trivial (hJ.second v73 hL (by decide) (by decide) (by rw [HSZ.out]; exact of_decide_eq_true (by kernel_rfl)) (fun _ => ⟨k1, k3.elim .inl (fun e => .inr ⟨_, e, hC.size⟩)⟩) (fun h => h.grownL hP k2) (fun u h => ⟨h.1.grownL hP k2, h.2⟩))
              · have HSZ := hid_ hsz
                clear hsz
                obtain ⟨uu, hu⟩ : ∃ u, a.tmps.getD 69 undef = u := ⟨_, rfl⟩
                have e1 := slot_of (a := a) (s := 69) (v := uu) hu
                refine step_run (wanted_none rfl) (v := uu) (w' := W) ?_ (hK _ _ hC (Untouched.refl _ _) trivial (by rw [← hu]; exact hJ.third (hW 4 (by kernel_rfl)) (by decide) (by decide) (by rw [HSZ.out]; exact of_decide_eq_true (by kernel_rfl))))
                clear hu
                go_simp
              · have HSZ := hid_ hsz
                clear hsz
                obtain ⟨uu, hu⟩ : ∃ u, a.tmps.getD 73 undef = u := ⟨_, rfl⟩
                have e1 := slot_of (a := a) (s := 73) (v := uu) hu
                refine step_run (wanted_none rfl) (v := uu) (w' := W) ?_ (hK _ _ hC (Untouched.refl _ _) trivial (by rw [← hu]; exact hJ.fourth (hW 8 (by kernel_rfl)) (by decide) (by decide) (by rw [HSZ.out]; exact of_decide_eq_true (by kernel_rfl))))
                clear hu
                go_simp
            · intro f w10 hC10 hv10 D7 hD7 hJ7
              obtain ⟨a7, hJ, hs⟩ := hJ7
              have h1 := hJ.p1 (hD7 4 (by decide))
              have h2 := hJ.q1 (hD7 8 (by decide))
              have e7 := (hJ.e1 (hD7 9 (by decide))).2
              have e8 := (hJ.e2 (hD7 10 (by decide))).2
              rw [← e7] at h1
              rw [← e8] at h2
              rw [hs] at h1 h2
              simp only [framed, List.foldl_cons, List.foldl_nil, List.setIfInBounds_toArray, List.set_cons_succ, List.set_cons_zero]
              clear hv10 hD7 hJ hs e7 e8
              generalize f 6 = nv at *
              generalize f 7 = bv at *
              have N10 := hid_ h1.1
              have L10 := hid_ h2.1
              have FN := hid_ h1.2
              have FB := hid_ h2.2
              have U10 := hid_ hC10
              clear h1 h2 hC10
              refine hK21 _ _ ?_
              clear hK21 K21
              have M10 := hid_ (show Mine w0 v sp nm kn K0 N1 S L F1 w10 from ⟨M9.out.vlt.untouched U10.out (fun k hk => XF.out k hk), M9.out.own, M9.out.below.trans (U10.out.below (fun k hk => XO.out k hk) M9.out.below.size)⟩)
              have O10 := hid_ (O9.out.untouched U10.out XW.out)
              have FAR := hid_ (show Far w0 nv bv F1 from ⟨fun k e hm => (FN.out.elim (fun e2 => HFR.out.n k (e2 ▸ e) hm) (fun ⟨k2, e2, e3⟩ => by rw [e] at e2; injection e2 with e2; have := F1S.out k hm; omega)), fun k e hm => (FB.out.elim (fun e2 => HFR.out.b k (e2 ▸ e) hm) (fun ⟨k2, e2, e3⟩ => by rw [e] at e2; injection e2 with e2; have := F1S.out k hm; omega))⟩)
              have ls : nv.ownBlock = nv.ownBlock := rfl
              clear ls
              have sl : Calls Tryd.prog 11 #[.pointer (some ⟨v, 0, none⟩), .int .i64 1, .int .i64 1, .int .i64 ((j : Int) + 1), .slice none 0 0, .slice A9 mb c9] w10 (SealOut w10 v sp nm kn K0 N1 S L F1 1 1 ((j : Int) + 1) mb) := vseal_out M10.out.vlt none A9 0 0 mb c9 [] Y rfl YL.out Rd.nil O10.out.rd.1 (by omega) (by omega) 1 1 ((j : Int) + 1) (by have := HSM.out.s; omega) (by have := HSM.out.l; omega) (M10.out.tab HT.out g01) (M10.out.glt g01)
              unfold SealOut at sl
              go_upto_region 8 with (go_at_call 11; ((with_reducible refine sl.mono ?_); clear sl; rintro r w11 ⟨A11, c11, L11, F11, rfl, hrd, hl, hle, hfr⟩; have M11 := hid_ (M10.out.next hl); have N11 := hid_ (N10.out.keep hl.2.2 FAR.out.n); have B11 := hid_ (L10.out.keep hl.2.2 FAR.out.b); have GR := hid_ hl.2.1; have LE := hid_ hle; clear hrd hl hle hfr))
              go_wp2
              go_roundw
              case rel => exact ⟨j + 1, N1, Ns ++ [Y], slS S 1 1 ((j : Int) + 1), L11, F11, by have := HLT.out; omega, by go_num, M11, N11, hid_ (by rw [List.map_append, List.map_cons, List.map_nil, ← ED.out]; exact B11.out), hid_ ⟨fun k e hm => (GR.out k hm).elim (FAR.out.n k e) (fun h => by have := (World.ownsRow.lt N10.out k e).2; omega), fun k e hm => (GR.out k hm).elim (FAR.out.b k e) (fun h => by have := (World.ownsRow.lt L10.out.1 k e).2; omega)⟩, hid_ ⟨by have := N1L.out; have := HSM.out.n; omega, by have := slS_len S 1 1 ((j : Int) + 1); have := HSM.out.s; omega, by have := HSM.out.l; have := LE.out; omega, by rw [List.length_append, List.length_singleton]; have := HSM.out.k; omega, fun t ht => (List.mem_append.1 ht).elim (NIN.out t) (fun h => by simp at h; subst h; exact YIN.out)⟩⟩
              case measure => have := HLT.out; simp [intOf]; omega
    · by_cases hj1 : j < n1
      · have hd1 : decide ((j : Int) < (n1 : Int)) = true := decide_eq_true (by omega)
        have hd2 : decide ((j : Int) < 14) = false := decide_eq_false (by omega)
        have hd3 : decide (j < n1) = true := decide_eq_true (by omega)
        have hd4 : decide (j < 14) = false := decide_eq_false (by omega)
        go_wp2
        go_ret
        exact ⟨rfl, by rw [HG.out]; exact B0.out.trans (HM.out.below.mono gle)⟩
      · have hd1 : decide ((j : Int) < (n1 : Int)) = false := decide_eq_false (by omega)
        have hd3 : decide (j < n1) = false := decide_eq_false (by omega)
        go_wp2
        go_ret
        exact ⟨rfl, by rw [HG.out]; exact B0.out.trans (HM.out.below.mono gle)⟩

theorem laid_metV (os : Os) : laidMet Tryd.prog [("casket/sha2.roundWords", Rows.laid_casket_sha2_roundWords)] ((laidWorld os).forCall (fun _ _ => 0) ⟨#[], #[.agg (rowOf (zbytes 32)), .slice none 0 0], []⟩).memory :=
  laidMet_of_run' 8 (by kernel_rfl) (by kernel_rfl)

/-- What the walk gives, for every argument and every world in which the constants lie. -/
theorem contract (H : Type) (enc : TypeId × Value → H) (W : World) (base : Nat) (args : Array Value) (ds gs : List (DataW H)) (before : List MemPlace)
    (hval : ∀ (j : Nat) t v, Tryd.f3.params[j]? = some t → args[j]? = some v → Value.okWide Tryd.prog W .any base t v)
    (hW : DataW.Whole enc Tryd.prog Tryd.f3.params.toList Rows.vaultNamesSpec.vars false W args.toList ds gs before) (hL : laidMetH Tryd.prog Rows.vaultNamesRow.laid W) :
    Calls Tryd.prog 3 args W fun e W' => ∃ v, e = .returned v ∧ Rows.vaultNamesSpec.post enc Tryd.prog Tryd.f3 false true false false W args v W' := by
  obtain ⟨ht, hg1⟩ := tab_of hL
  have hW' := hW
  obtain ⟨p, q, hA0, hV, rfl, hfz, hnd⟩ := hW
  have hA : DataW.TrodAll enc Tryd.prog W 0 (fun _ => true) true Tryd.f3.params.toList args.toList ds p := hA0
  rw [Tryd.params3] at hA hval
  obtain ⟨v0, vs0, d0, ds0, p0, q0, hargs, rfl, rfl, h0, r0⟩ := trodAll_cons hA
  obtain ⟨v1, vs1, d1, ds1, p1, q1, rfl, rfl, rfl, h1, r1⟩ := trodAll_cons r0
  obtain ⟨rfl, rfl, rfl⟩ := trodAll_nil r1
  obtain rfl : args = #[v0, v1] := by cases args; simp_all
  obtain ⟨rfl, rfl⟩ := trodVars_none hV
  obtain ⟨M, rfl, hM⟩ := open_arr8 Tryd.underlying22 Tryd.underlying5 (by kernel_rfl) (by kernel_rfl) (hval 0 22 v0 rfl rfl) h0
  obtain ⟨A1, n1, c1, l1, rfl, hl1, hp1, hm1⟩ := open_parts Tryd.underlying23 Tryd.underlying29 Tryd.underlying5 (by kernel_rfl) (by kernel_rfl) (hval 1 23 v1 rfl rfl) h1
  refine (walk W M hM A1 n1 c1 l1 hl1 hp1 (by unfold maxLen at hm1; omega) ht hg1).mono fun e W' ⟨he, hg⟩ => ⟨_, he, ?_⟩
  exact law_post laidOut_ (of_decide_eq_true (by kernel_rfl)) rfl rfl Tryd.underlying4 rfl hW' hg

theorem reads (os : Os) {H : Type} (enc : TypeId × Value → H) : ∃ places, DataW.whole enc Tryd.prog ((laidWorld os).forCall (fun _ _ => 0) ⟨#[], #[.agg (rowOf (zbytes 32)), .slice none 0 0], []⟩).memory Tryd.f3.params.toList Rows.vaultNamesSpec.vars false (#[.agg (rowOf (zbytes 32)), .slice none 0 0] : Array Value).toList 8 = some ([.agg [.lit (.int .u8 0), .lit (.int .u8 0), .lit (.int .u8 0), .lit (.int .u8 0), .lit (.int .u8 0), .lit (.int .u8 0), .lit (.int .u8 0), .lit (.int .u8 0), .lit (.int .u8 0), .lit (.int .u8 0), .lit (.int .u8 0), .lit (.int .u8 0), .lit (.int .u8 0), .lit (.int .u8 0), .lit (.int .u8 0), .lit (.int .u8 0), .lit (.int .u8 0), .lit (.int .u8 0), .lit (.int .u8 0), .lit (.int .u8 0), .lit (.int .u8 0), .lit (.int .u8 0), .lit (.int .u8 0), .lit (.int .u8 0), .lit (.int .u8 0), .lit (.int .u8 0), .lit (.int .u8 0), .lit (.int .u8 0), .lit (.int .u8 0), .lit (.int .u8 0), .lit (.int .u8 0), .lit (.int .u8 0)], .nil], [], places) :=
  ⟨[], by kernel_rfl⟩

set_option maxRecDepth 100000 in
theorem lifted (os : Os) (started : os.Started) (H : Type) (enc : TypeId × Value → H) (F : Stop.Interp) :
    ReturnsInHanded {} Tryd.checked os 3 .any ((OpenSpec.ofChange Rows.vaultNamesSpec).preRow enc Tryd.prog Tryd.f3 Rows.vaultNamesRow.domain false Rows.vaultNamesRow.laid) (((OpenSpec.ofChange Rows.vaultNamesSpec).at F).post enc Tryd.prog Tryd.f3 false true false false) := by
  obtain ⟨places, hx⟩ := reads os enc
  refine returnsInHanded_of_row (C := Tryd.checked) (s := OpenSpec.ofChange Rows.vaultNamesSpec) own_ started (by kernel_rfl) Tryd.func3
    (witness_row_at (enc := enc) (C := Tryd.checked) false (laidWorld os) #[.agg (rowOf (zbytes 32)), .slice none 0 0] rfl (by kernel_rfl) (by kernel_rfl) (by kernel_rfl)
      (OpenSpec.preRow_of_cond 8 hx (by kernel_rfl) (fun k hk => by cases hk) (by kernel_rfl) (laid_metV os))) ?_
  intro W base args ds gs before hval hW _ _ _ hL _ _
  exact contract H enc W base args ds gs before hval hW hL

theorem said : Rows.VaultNamesSaid :=
  OpenClaim.holds_of_cond 3 Tryd.f3 rfl rfl rfl rfl rfl rfl rfl ⟨rfl, rfl, rfl, rfl, rfl⟩ rfl rfl rfl rfl rfl (by kernel_rfl) Tryd.func3 (by kernel_rfl)
    (of_decide_eq_true (by kernel_rfl)) (by unfold Func.isWrapper; first | (rw [if_pos (by decide +kernel)]; kernel_rfl) | (rw [if_neg (by decide +kernel)]; exact ⟨rfl, rfl⟩))
    (fun os started H enc _ F => by rw [OpenClaim.pre_eq_preRow]; exact lifted os started H enc F)

/-- No parameter wants a stand-in; the program's own looks are off: what the card asks. -/
theorem plain (f : FuncId) (fn : Func) (hf : Tryd.pinned.checked.prog.funcNamed "casket/casketlaw12.VaultNames" = some f) (hfn : Tryd.pinned.checked.prog.funcs[f]? = some fn) :
    false = Tryd.pinned.checked.prog.looks [] ∧ ∀ (j : Nat) t, fn.params[j]? = some t → Tryd.pinned.checked.prog.wantsStandIn t = false := by
  obtain rfl : f = 3 := Option.some.inj ((show Tryd.prog.funcNamed "casket/casketlaw12.VaultNames" = some 3 by kernel_rfl).symm.trans hf) |>.symm
  obtain rfl : fn = Tryd.f3 := (Option.some.inj (Tryd.func3.symm.trans hfn)).symm
  refine ⟨by kernel_rfl, fun j t ht => ?_⟩
  rw [Tryd.params3] at ht
  have hm := Array.mem_of_getElem? ht
  simp only [List.mem_toArray, List.mem_cons, List.not_mem_nil, or_false] at hm
  rcases hm with rfl | rfl
  · exact (show Tryd.prog.wantsStandIn 22 = false by kernel_rfl)
  · exact (show Tryd.prog.wantsStandIn 23 = false by kernel_rfl)

/-- The card. -/
theorem proved : Rows.VaultNamesCardSaid :=
  Claim7.holds_tied_plain_at .later [] _ _ _ _ said (fun _ h => by cases h) (by kernel_rfl) (fun _ h => by cases h) vaultNames_row_tie rfl ⟨rfl, rfl⟩ (by kernel_rfl) rfl plain (by kernel_rfl)
#print axioms proved
end Go.Proofs.YtoeofifibjelnaaDoor.vaultNames
