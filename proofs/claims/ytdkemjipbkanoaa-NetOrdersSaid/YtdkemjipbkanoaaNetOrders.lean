/-
  Proved: for all lists of messages and all numbers NetOrders answers true: messages that are always taken at the front come in the order in which they were sent, each once; one that was copied comes once more, behind the others. No condition.
-/
import Derived.Test.YtdkemjipbkanoaaVh
import Derived.Test.YtdkemjipbkanoaaLp
namespace Go.Proofs.Ytdkemjipbkanoaa.netOrders
open Go.ChangeShapes Go.WideShapes Go.ChangeAt Go.RowKit
set_option linter.unusedVariables false
set_option linter.unusedSimpArgs false

theorem addE0 {A : List (List UInt8)} {T : List (List UInt8)} (h : A.length < 64) : addE [A, T] 0 = 0 := by
  unfold addE
  rw [if_neg]
  show ¬ 64 ≤ A.length
  omega
theorem addL0 {A : List (List UInt8)} {T : List (List UInt8)} (h : A.length < 64) (m : List UInt8) : addL [A, T] 0 m = [A ++ [m], T] := by
  unfold addL
  rw [if_neg]
  · rfl
  · show ¬ 64 ≤ A.length
    omega
theorem str_neq (l : List UInt8) (W : World) : (binOp .neq 9 (.string (strOf l)) (.string (strOf l))).run Try.prog W = .ok (.bool false) W := by simp [go_sem]
theorem str_eql (l : List UInt8) (W : World) : (binOp .eql 9 (.string (strOf l)) (.string (strOf l))).run Try.prog W = .ok (.bool true) W := by simp [go_sem]

set_option maxRecDepth 100000 in
set_option maxHeartbeats 16000000 in
theorem walk (w : World) (A0 : Option Addr) (n c0 : Nat) (ls : List (List UInt8)) (hn : ls.length = n) (hp : PartsV w w.heap.size A0 ls) (hn7 : n ≤ 9223372036854775807) (b : Int) : Calls Try.prog 5 #[.slice A0 n c0, .int .i64 b] w fun e w' => e = .returned (.bool true) ∧ Below w.heap.size w w' := by
  obtain ⟨y, hy, hyb⟩ := u64_natV b
  obtain ⟨k, hk⟩ : ∃ k, y % 21 = k := ⟨_, rfl⟩
  have s3 : (y : Int).tmod 21 = (k : Int) := by rw [Int.tmod_eq_emod_of_nonneg (by omega)]; omega
  have s4 : IntKind.u64.wrap (k : Int) = (k : Int) := IntWalk.u64_in _ (by omega)
  have s5 : IntKind.i64.wrap (k : Int) = (k : Int) := IntWalk.i64_in _ (by omega)
  have hk21 : k < 21 := by omega
  obtain ⟨m, hm⟩ : ∃ m, m = min n 20 := ⟨_, rfl⟩
  have HMIN := hidv_ hm
  have hm20 : m ≤ 20 := by omega
  have hmn : m ≤ n := by omega
  have cn := new_i w 1 1 rfl (by omega) (by omega) [[], []] rfl
  have cs := fun W => nets_any W
  have HN := hidv_ hn
  have HP := hidv_ hp
  clear hk hyb hm hn hp
  go_enter Try.func5, Try.ntmps5
  go_upto_region 5 with (first
    | (go_at_call 14; ((with_reducible refine cn.mono ?_); clear cn; rintro e w1 ⟨p, q, F, rfl, h⟩; have H1 := hidv_ h; clear h))
    | (go_at_call 9; ((with_reducible refine (cs _).mono ?_); clear cs; rintro e w2 ⟨rfl, hb⟩; have H2 := hidv_ (H1.out.below hb); clear hb))
    | (refine wpList_min2 rfl (.tmp 26) (.const (.int .i64 20)) _ rfl n 20 m rfl rfl HMIN.out ?_))
  go_wp2
  go_loopw [8] (fun i wr => ∃ (j : Nat) (F' : List Nat), j ≤ m ∧ i = .int .i64 j ∧ Hid (NetI w wr p q 1 [cut30 ls j, []] F')) (fun i _ => m - (intOf i).toNat)
  case atStart => exact ⟨0, F, Nat.zero_le _, rfl, H2⟩
  case round =>
    obtain ⟨j, F', hj, rfl, HI⟩ := hrel
    by_cases hlt : j < m
    · have hd1 : decide ((j : Int) < (m : Int)) = true := decide_eq_true (by omega)
      have hd2 : decide (j < m) = true := decide_eq_true hlt
      obtain ⟨g, off, rfl, hgl, hcell⟩ := HP.out (by rw [HN.out]; omega)
      obtain ⟨Aj, cj, h1, h2, h3, h4⟩ := hcell j (by rw [HN.out]; omega)
      obtain ⟨nj, hnj⟩ : ∃ x, (ls.getD j []).length = x := ⟨_, rfl⟩
      rw [hnj] at h1 h3
      obtain ⟨r, hr⟩ : ∃ r, r = min nj 30 := ⟨_, rfl⟩
      have hmin := fun W ts t => run_min30 nj r hr W ts t
      have hsl := fun W => slice_to Aj nj cj (r : Int) r rfl (by omega) W
      have CM := hidv_ (fun W (hW : Below wr.heap.size wr W) => ((HI.out.un.trans (hW.mono HI.out.un.size)).cell (p := ⟨g, off + j, none⟩) hgl).trans h1)
      have RR := hidv_ ((h2.take 30).below HI.out.un)
      have HRL := hidv_ (show ((ls.getD j []).take 30).length = r by rw [List.length_take, hnj, hr, Nat.min_comm])
      have t0 : (0 : Int) ≤ (j : Int) := by omega
      have tn : (j : Int) < (n : Int) := by omega
      have hr30 : r ≤ 30 := by omega
      clear h1 h2 h3 h4 hnj hr hcell
      go_upto_region 8 with fail
      refine region_quiet_tail_lit 12 (by kernel_rfl) (by kernel_rfl) ?_
      simp only [List.take_succ_cons, List.take_zero]
      repeat (go_big_quiet_want; (first
        | (refine BigFrame.quiet_move _ rfl ?_; go_simp)
        | (refine quiet_run (.pointer (some ⟨g, off + j, none⟩)) ?_ ?_; (focus (intro W hW; obtain ⟨nq, rfl⟩ := hW; go_simp; done)); go_simp)
        | (refine quiet_run (.slice Aj nj cj) ?_ ?_; (focus (intro W hW; obtain ⟨nq, rfl⟩ := hW; have h := CM.out wr (Below.refl _ _); go_simp; done)); go_simp)
        | (refine quiet_run (.int .i64 (nj : Int)) ?_ ?_; (focus (intro W hW; go_simp; done)); go_simp)
        | (refine quiet_run (.int .i64 (r : Int)) ?_ ?_; (focus (intro W hW; have h := fun ts t => hmin W ts t; go_simp; done)); go_simp)
        | (refine quiet_run (.slice Aj r cj) ?_ ?_; (focus (intro W hW; have h := hsl W; go_simp; done)); go_simp)); go_big_quiet_on)
      refine wpQuiet_nil ?_
      intro wd hwd
      obtain ⟨nq, rfl⟩ := hwd
      simp only [List.drop_succ_cons, List.drop_zero]
      have HID := hidv_ (HI.out.below (below_drewN (Below.refl wr.heap.size wr) nq))
      have RD := hidv_ (RR.out.drewN nq)
      generalize wr.drewN nq = wd at *
      have hlj : (cut30 ls j).length < 64 := by rw [cut30_len (by rw [HN.out]; omega)]; omega
      have c1 := send_yes HID.out.net 0 (by omega) Aj r cj ((ls.getD j []).take 30) HRL.out (RD.out.more HID.out.un.size) (by omega)
      rw [addE0 hlj, addL0 hlj, cut30_succ (by rw [HN.out]; omega)] at c1
      have c2 : Calls Try.prog 10 #[.pointer (some ⟨p, 0, none⟩), .int .i64 0, .slice Aj r cj] wd (NetP wd p q 1 [cut30 ls (j + 1), []] F' 0) := c1
      clear c1 hlj
      go_wp2_with (go_at_call 10; ((with_reducible refine c2.mono ?_); clear c2; rintro e w3 ⟨rfl, F2, h1, h2, h3⟩; have H3 := hidv_ (HID.out.act h1 h2 h3); clear h1 h2 h3))
      go_roundw
      case rel => exact ⟨j + 1, F2, by omega, by go_num, H3⟩
      case measure => simp [intOf]; omega
    · have hjm : j = m := by omega
      have hd1 : decide ((j : Int) < (m : Int)) = false := decide_eq_false (by omega)
      have hd2 : decide (j < m) = false := decide_eq_false hlt
      obtain ⟨A, hA⟩ : ∃ A, cut30 ls m = A := ⟨_, rfl⟩
      have hAl : A.length = m := by rw [← hA]; exact cut30_len (by rw [HN.out]; exact hmn)
      have HAG := hidv_ (fun i (hi : i < m) => show A.getD i [] = (ls.getD i []).take 30 by rw [← hA]; exact cut30_get (by rw [HN.out]; exact hmn) hi)
      have HI2 : Hid (NetI w wr p q 1 [A, []] F') := hidv_ (by rw [← hA, ← hjm]; exact HI.out)
      have HAL := hidv_ hAl
      clear hA hjm hlt HI
      go_upto_region 11 with fail
      clear s3 s4 s5 hy hd1 hd2
      by_cases hkm : k < m
      · have d1 : decide ((k : Int) < (m : Int)) = true := decide_eq_true (by omega)
        have d2 : decide (k < m) = true := decide_eq_true hkm
        have cc := copy_yes HI2.out.net 0 (by omega) k (show k < A.length by omega) (show A.length ≤ 1000000 by omega)
        rw [addE0 (show A.length < 64 by omega)] at cc
        have c1 : Calls Try.prog 11 #[.pointer (some ⟨p, 0, none⟩), .int .i64 0, .int .i64 (k : Int)] wr (NetP wr p q 1 [A ++ [A.getD k []], []] F' 0) := by
          have e : addL [A, []] 0 ((([A, []] : List (List (List UInt8))).getD (0 * 2) []).getD k []) = [A ++ [A.getD k []], []] := addL0 (by omega) _
          rw [e] at cc
          exact cc
        obtain ⟨B, hB⟩ : ∃ B, A ++ [A.getD k []] = B := ⟨_, rfl⟩
        have HBL := hidv_ (show B.length = m + 1 by rw [← hB, List.length_append, hAl]; rfl)
        have HBG := hidv_ (fun i (hi : i < m) => show B.getD i [] = (ls.getD i []).take 30 by rw [← HAG.out i hi, ← hB, List.getD_eq_getElem?_getD, List.getElem?_append_left (by omega), ← List.getD_eq_getElem?_getD])
        have HBD := hidv_ (show B.drop m = [A.getD k []] by rw [← hB, ← hAl]; simp)
        rw [hB] at c1
        clear cc hAl hB
        go_upto_region 14 with (go_at_call 11; ((with_reducible refine c1.mono ?_); clear c1; rintro e w3 ⟨rfl, F3, h1, h2, h3⟩; have H3 : Hid (NetI w w3 p q 1 [B.drop 0, B.take 0] F3) := hidv_ (HI2.out.act h1 h2 h3); clear h1 h2 h3))
        clear d1 d2
        go_upto_region 15 with fail
        go_loopw [10] (fun i wr => ∃ (j : Nat) (F' : List Nat), j ≤ m ∧ i = .int .i64 j ∧ Hid (NetI w wr p q 1 [B.drop j, B.take j] F')) (fun i _ => m - (intOf i).toNat)
        case atStart => exact ⟨0, F3, Nat.zero_le _, rfl, H3⟩
        case round =>
          obtain ⟨i, F4, hi, rfl, HI⟩ := hrel
          by_cases hlt : i < m
          · have hd1 : decide ((i : Int) < (m : Int)) = true := decide_eq_true (by omega)
            have hd2 : decide (i < m) = true := decide_eq_true hlt
            obtain ⟨g, off, rfl, hgl, hcell⟩ := HP.out (by rw [HN.out]; omega)
            obtain ⟨Aj, cj, h1, h2, h3, h4⟩ := hcell i (by rw [HN.out]; omega)
            obtain ⟨nj, hnj⟩ : ∃ x, (ls.getD i []).length = x := ⟨_, rfl⟩
            rw [hnj] at h1 h3
            obtain ⟨r, hr⟩ : ∃ r, r = min nj 30 := ⟨_, rfl⟩
            have hmin := fun W ts t => run_min30 nj r hr W ts t
            have hsl := fun W => slice_to Aj nj cj (r : Int) r rfl (by omega) W
            obtain ⟨msg, hmsg⟩ : ∃ x, (ls.getD i []).take 30 = x := ⟨_, rfl⟩
            have HRL := hidv_ (show msg.length = r by rw [← hmsg, List.length_take, hnj, hr, Nat.min_comm])
            have CM := hidv_ (fun W (hW : Below w.heap.size w W) => (hW.cell (p := ⟨g, off + i, none⟩) hgl).trans h1)
            have RR := hidv_ (fun W (hW : Below w.heap.size w W) => show Rd W w.heap.size Aj msg by rw [← hmsg]; exact (h2.take 30).below hW)
            have t0 : (0 : Int) ≤ (i : Int) := by omega
            have tn : (i : Int) < (n : Int) := by omega
            have hr30 : r ≤ 30 := by omega
            have hB := take_step (A := B) (i := i) (by rw [HBL.out]; omega)
            have hBi : B.getD i [] = msg := by rw [HBG.out i hlt, hmsg]
            have c1 := take_yes HI.out.net 0 (by omega) 0 (show 0 < (B.drop i).length by rw [List.length_drop, HBL.out]; omega) (show (B.drop i).length ≤ 1000000 by rw [List.length_drop, HBL.out]; omega) (show (B.take i).length + 1 ≤ 1000000 by rw [List.length_take, HBL.out]; omega) r (show ((B.drop i).getD 0 []).length = r by rw [hB.2.2, hBi]; exact HRL.out) (by omega)
            have c2 : Calls Try.prog 7 #[.pointer (some ⟨p, 0, none⟩), .int .i64 0, .int .i64 0] wr (TakeP wr p q 1 [B.drop (i + 1), B.take (i + 1)] F4 r msg) := by
              have e : takeL [B.drop i, B.take i] 0 0 = [B.drop (i + 1), B.take (i + 1)] := by
                show [(B.drop i).eraseIdx 0, B.take i ++ [(B.drop i).getD 0 []]] = _
                rw [hB.1, hB.2.1]
              rw [e] at c1
              have e2 : (([B.drop i, B.take i] : List (List (List UInt8))).getD (0 * 2) []).getD 0 [] = msg := by
                show (B.drop i).getD 0 [] = msg
                rw [hB.2.2, hBi]
              rw [e2] at c1
              exact c1
            clear h1 h2 h3 h4 hnj hr hcell hB hBi c1 hmsg
            go_upto_region 18 with (go_at_call 7; ((with_reducible refine c2.mono ?_); clear c2; rintro e w4 ⟨A4, c4, F5, rfl, ho, hr4, h1, h2, h3⟩; have H4 := hidv_ (HI.out.act h1 h2 h3); have R4 := hidv_ hr4.rd; clear ho hr4 h1 h2 h3))
            have CV := hidv_ (fun W (hW : Below w4.heap.size w4 W) => conv_strn (R4.out.below hW) r c4 HRL.out)
            have CV2 := hidv_ (fun W (hW : Below w4.heap.size w4 W) => conv_strn (RR.out W (H4.out.un.trans (hW.mono H4.out.un.size))) r cj HRL.out)
            have CM2 := hidv_ (fun W (hW : Below w4.heap.size w4 W) => CM.out W (H4.out.un.trans (hW.mono H4.out.un.size)))
            have SN := hidv_ (fun W => str_neq msg W)
            refine region_quiet_in (C := fun W => Below w4.heap.size w4 W) (by kernel_rfl) (by kernel_rfl) ((Below.refl _ _).drew) ?_
            repeat (first | go_big_quiet_skip | (go_big_quiet_want; (first
              | (refine BigFrame.quiet_move _ rfl ?_; go_simp)
              | (refine BigFrame.quiet_assign _ rfl ?_; go_simp)
              | (refine quiet_run (.bool false) ?_ ?_; (focus (intro W hW; have h := SN.out W; go_simp; done)); go_simp)
              | (refine quiet_run (.string (strOf msg)) ?_ ?_; (focus (intro W hW; have h := CV.out W hW; go_simp; done)); go_simp)
              | (refine quiet_run (.string (strOf msg)) ?_ ?_; (focus (intro W hW; have h := CV2.out W hW; go_simp; done)); go_simp)
              | (refine quiet_run (.pointer (some ⟨g, off + i, none⟩)) ?_ ?_; (focus (intro W hW; go_simp; done)); go_simp)
              | (refine quiet_run (.slice Aj nj cj) ?_ ?_; (focus (intro W hW; have h := CM2.out W hW; go_simp; done)); go_simp)
              | (refine quiet_run (.int .i64 (nj : Int)) ?_ ?_; (focus (intro W hW; go_simp; done)); go_simp)
              | (refine quiet_run (.int .i64 (r : Int)) ?_ ?_; (focus (intro W hW; have h := fun ts t => hmin W ts t; go_simp; done)); go_simp)
              | (refine quiet_run (.slice Aj r cj) ?_ ?_; (focus (intro W hW; have h := hsl W; go_simp; done)); go_simp)); go_big_quiet_on))
            refine wpQuiet_nil ?_
            intro w7 hw7
            have H7 := hidv_ (H4.out.below hw7)
            clear hw7 CV CV2 CM2
            go_wp2
            go_roundw
            case rel => exact ⟨i + 1, F5, by omega, by go_num, H7⟩
            case measure => simp [intOf]; omega
          · have him : i = m := by omega
            have hd1 : decide ((i : Int) < (m : Int)) = false := decide_eq_false (by omega)
            have hd2 : decide (i < m) = false := decide_eq_false hlt
            have HI3 : Hid (NetI w wr p q 1 [B.drop m, B.take m] F4) := hidv_ (by rw [← him]; exact HI.out)
            clear HI him
            go_upto_region 20 with fail
            clear hd1 hd2 hlt
            obtain ⟨g, off, rfl, hgl, hcell⟩ := HP.out (by rw [HN.out]; omega)
            obtain ⟨Aj, cj, h1, h2, h3, h4⟩ := hcell k (by rw [HN.out]; omega)
            obtain ⟨nj, hnj⟩ : ∃ x, (ls.getD k []).length = x := ⟨_, rfl⟩
            rw [hnj] at h1 h3
            obtain ⟨r, hr⟩ : ∃ r, r = min nj 30 := ⟨_, rfl⟩
            have hmin := fun W ts t => run_min30 nj r hr W ts t
            have hsl := fun W => slice_to Aj nj cj (r : Int) r rfl (by omega) W
            obtain ⟨msg, hmsg⟩ : ∃ x, (ls.getD k []).take 30 = x := ⟨_, rfl⟩
            have HRL := hidv_ (show msg.length = r by rw [← hmsg, List.length_take, hnj, hr, Nat.min_comm])
            have CM := hidv_ (fun W (hW : Below w.heap.size w W) => (hW.cell (p := ⟨g, off + k, none⟩) hgl).trans h1)
            have RR := hidv_ (fun W (hW : Below w.heap.size w W) => show Rd W w.heap.size Aj msg by rw [← hmsg]; exact (h2.take 30).below hW)
            have t0 : (0 : Int) ≤ (k : Int) := by omega
            have tn : (k : Int) < (n : Int) := by omega
            have hr30 : r ≤ 30 := by omega
            have hD : B.drop m = [msg] := by rw [← hmsg, ← HAG.out k hkm]; exact HBD.out
            have HTL := hidv_ (show (B.take m).length + 1 ≤ 1000000 by rw [List.length_take, HBL.out]; omega)
            rw [hD] at HI3
            have c1 := take_yes HI3.out.net 0 (by omega) 0 (show 0 < [msg].length by simp) (show [msg].length ≤ 1000000 by simp) HTL.out r (show msg.length = r from HRL.out) (by omega)
            have c2 : Calls Try.prog 7 #[.pointer (some ⟨p, 0, none⟩), .int .i64 0, .int .i64 0] wr (TakeP wr p q 1 [[], B.take m ++ [msg]] F4 r msg) := c1
            clear h1 h2 h3 h4 hnj hr hcell c1 hmsg hD
            have hd3 : decide ((m : Int) ≤ (k : Int)) = false := decide_eq_false (by omega)
            have hd4 : decide (m ≤ k) = false := decide_eq_false (by omega)
            go_upto_region 23 with (go_at_call 7; ((with_reducible refine c2.mono ?_); clear c2; rintro e w4 ⟨A4, c4, F5, rfl, ho, hr4, h1, h2, h3⟩; have H4 := hidv_ (HI3.out.act h1 h2 h3); have R4 := hidv_ hr4.rd; clear ho hr4 h1 h2 h3))
            have CV := hidv_ (fun W (hW : Below w4.heap.size w4 W) => conv_strn (R4.out.below hW) r c4 HRL.out)
            have CV2 := hidv_ (fun W (hW : Below w4.heap.size w4 W) => conv_strn (RR.out W (H4.out.un.trans (hW.mono H4.out.un.size))) r cj HRL.out)
            have CM2 := hidv_ (fun W (hW : Below w4.heap.size w4 W) => CM.out W (H4.out.un.trans (hW.mono H4.out.un.size)))
            have CL : Hid (∀ W, Below w4.heap.size w4 W → Calls Try.prog 12 #[.pointer (some ⟨p, 0, none⟩), .int .i64 0] W fun e w' => e = .returned (.int .i64 0) ∧ Below w4.heap.size w4 w') := hidv_ (fun W hW => (len_yes (H4.out.below hW).net 0 (by omega) 0 rfl).mono fun e w' h => ⟨h.1, by rw [← h.2]; exact hW⟩)
            have SE := hidv_ (fun W => str_eql msg W)
            refine region_quiet_in (C := fun W => Below w4.heap.size w4 W) (by kernel_rfl) (by kernel_rfl) ((Below.refl _ _).drew) ?_
            repeat (first | go_big_quiet_skip | (go_big_quiet_want; (first
              | (refine BigFrame.quiet_move _ rfl ?_; go_simp)
              | (refine BigFrame.quiet_assign _ rfl ?_; go_simp)
              | (refine quiet_run (.bool true) ?_ ?_; (focus (intro W hW; have h := SE.out W; go_simp; done)); go_simp)
              | (refine quiet_run (.string (strOf msg)) ?_ ?_; (focus (intro W hW; have h := CV.out W hW; go_simp; done)); go_simp)
              | (refine quiet_run (.string (strOf msg)) ?_ ?_; (focus (intro W hW; have h := CV2.out W hW; go_simp; done)); go_simp)
              | (refine quiet_run (.pointer (some ⟨g, off + k, none⟩)) ?_ ?_; (focus (intro W hW; go_simp; done)); go_simp)
              | (refine quiet_run (.slice Aj nj cj) ?_ ?_; (focus (intro W hW; have h := CM2.out W hW; go_simp; done)); go_simp)
              | (refine quiet_run (.int .i64 (nj : Int)) ?_ ?_; (focus (intro W hW; go_simp; done)); go_simp)
              | (refine quiet_run (.int .i64 (r : Int)) ?_ ?_; (focus (intro W hW; have h := fun ts t => hmin W ts t; go_simp; done)); go_simp)
              | (refine quiet_run (.slice Aj r cj) ?_ ?_; (focus (intro W hW; have h := hsl W; go_simp; done)); go_simp)
              | (refine quiet_call (.int .i64 0) 12 #[.pointer (some ⟨p, 0, none⟩), .int .i64 0] ?_ CL.out ?_; (focus (intro W; go_simp; done)); go_simp)); go_big_quiet_on))
            refine wpQuiet_nil ?_
            intro w7 hw7
            have H7 := hidv_ (H4.out.below hw7)
            clear hw7 CV CV2 CM2 CL
            go_wp2
            go_ret
            exact ⟨rfl, H7.out.un⟩
      · have d1 : decide ((k : Int) < (m : Int)) = false := decide_eq_false (by omega)
        have d2 : decide (k < m) = false := decide_eq_false hkm
        have c1 : Calls Try.prog 11 #[.pointer (some ⟨p, 0, none⟩), .int .i64 0, .int .i64 (k : Int)] wr (fun e w' => e = .returned (.int .i64 7) ∧ wr = w') := copy_miss HI2.out.net 0 (by omega) (k : Int) (.inr (show (A.length : Int) ≤ (k : Int) by omega))
        obtain ⟨B, hB⟩ : ∃ B, A = B := ⟨_, rfl⟩
        have HBL := hidv_ (show B.length = m by rw [← hB]; exact hAl)
        have HBG := hidv_ (fun i (hi : i < m) => show B.getD i [] = (ls.getD i []).take 30 by rw [← hB]; exact HAG.out i hi)
        have HBD := hidv_ (show B.drop m = [] by rw [← hB]; exact List.drop_eq_nil_of_le (by omega))
        have H3 : Hid (NetI w wr p q 1 [B.drop 0, B.take 0] F') := hidv_ (by rw [← hB]; exact HI2.out)
        obtain ⟨F3, hF3⟩ : ∃ x, F' = x := ⟨_, rfl⟩
        rw [hF3] at H3
        clear hAl hB hF3
        go_upto_region 14 with (go_at_call 11; ((with_reducible refine c1.mono ?_); clear c1; rintro e w3 ⟨rfl, rfl⟩))
        clear d1 d2
        go_upto_region 15 with fail
        go_loopw [10] (fun i wr => ∃ (j : Nat) (F' : List Nat), j ≤ m ∧ i = .int .i64 j ∧ Hid (NetI w wr p q 1 [B.drop j, B.take j] F')) (fun i _ => m - (intOf i).toNat)
        case atStart => exact ⟨0, F3, Nat.zero_le _, rfl, H3⟩
        case round =>
          obtain ⟨i, F4, hi, rfl, HI⟩ := hrel
          by_cases hlt : i < m
          · have hd1 : decide ((i : Int) < (m : Int)) = true := decide_eq_true (by omega)
            have hd2 : decide (i < m) = true := decide_eq_true hlt
            obtain ⟨g, off, rfl, hgl, hcell⟩ := HP.out (by rw [HN.out]; omega)
            obtain ⟨Aj, cj, h1, h2, h3, h4⟩ := hcell i (by rw [HN.out]; omega)
            obtain ⟨nj, hnj⟩ : ∃ x, (ls.getD i []).length = x := ⟨_, rfl⟩
            rw [hnj] at h1 h3
            obtain ⟨r, hr⟩ : ∃ r, r = min nj 30 := ⟨_, rfl⟩
            have hmin := fun W ts t => run_min30 nj r hr W ts t
            have hsl := fun W => slice_to Aj nj cj (r : Int) r rfl (by omega) W
            obtain ⟨msg, hmsg⟩ : ∃ x, (ls.getD i []).take 30 = x := ⟨_, rfl⟩
            have HRL := hidv_ (show msg.length = r by rw [← hmsg, List.length_take, hnj, hr, Nat.min_comm])
            have CM := hidv_ (fun W (hW : Below w.heap.size w W) => (hW.cell (p := ⟨g, off + i, none⟩) hgl).trans h1)
            have RR := hidv_ (fun W (hW : Below w.heap.size w W) => show Rd W w.heap.size Aj msg by rw [← hmsg]; exact (h2.take 30).below hW)
            have t0 : (0 : Int) ≤ (i : Int) := by omega
            have tn : (i : Int) < (n : Int) := by omega
            have hr30 : r ≤ 30 := by omega
            have hB := take_step (A := B) (i := i) (by rw [HBL.out]; omega)
            have hBi : B.getD i [] = msg := by rw [HBG.out i hlt, hmsg]
            have c1 := take_yes HI.out.net 0 (by omega) 0 (show 0 < (B.drop i).length by rw [List.length_drop, HBL.out]; omega) (show (B.drop i).length ≤ 1000000 by rw [List.length_drop, HBL.out]; omega) (show (B.take i).length + 1 ≤ 1000000 by rw [List.length_take, HBL.out]; omega) r (show ((B.drop i).getD 0 []).length = r by rw [hB.2.2, hBi]; exact HRL.out) (by omega)
            have c2 : Calls Try.prog 7 #[.pointer (some ⟨p, 0, none⟩), .int .i64 0, .int .i64 0] wr (TakeP wr p q 1 [B.drop (i + 1), B.take (i + 1)] F4 r msg) := by
              have e : takeL [B.drop i, B.take i] 0 0 = [B.drop (i + 1), B.take (i + 1)] := by
                show [(B.drop i).eraseIdx 0, B.take i ++ [(B.drop i).getD 0 []]] = _
                rw [hB.1, hB.2.1]
              rw [e] at c1
              have e2 : (([B.drop i, B.take i] : List (List (List UInt8))).getD (0 * 2) []).getD 0 [] = msg := by
                show (B.drop i).getD 0 [] = msg
                rw [hB.2.2, hBi]
              rw [e2] at c1
              exact c1
            clear h1 h2 h3 h4 hnj hr hcell hB hBi c1 hmsg
            go_upto_region 18 with (go_at_call 7; ((with_reducible refine c2.mono ?_); clear c2; rintro e w4 ⟨A4, c4, F5, rfl, ho, hr4, h1, h2, h3⟩; have H4 := hidv_ (HI.out.act h1 h2 h3); have R4 := hidv_ hr4.rd; clear ho hr4 h1 h2 h3))
            have CV := hidv_ (fun W (hW : Below w4.heap.size w4 W) => conv_strn (R4.out.below hW) r c4 HRL.out)
            have CV2 := hidv_ (fun W (hW : Below w4.heap.size w4 W) => conv_strn (RR.out W (H4.out.un.trans (hW.mono H4.out.un.size))) r cj HRL.out)
            have CM2 := hidv_ (fun W (hW : Below w4.heap.size w4 W) => CM.out W (H4.out.un.trans (hW.mono H4.out.un.size)))
            have SN := hidv_ (fun W => str_neq msg W)
            refine region_quiet_in (C := fun W => Below w4.heap.size w4 W) (by kernel_rfl) (by kernel_rfl) ((Below.refl _ _).drew) ?_
            repeat (first | go_big_quiet_skip | (go_big_quiet_want; (first
              | (refine BigFrame.quiet_move _ rfl ?_; go_simp)
              | (refine BigFrame.quiet_assign _ rfl ?_; go_simp)
              | (refine quiet_run (.bool false) ?_ ?_; (focus (intro W hW; have h := SN.out W; go_simp; done)); go_simp)
              | (refine quiet_run (.string (strOf msg)) ?_ ?_; (focus (intro W hW; have h := CV.out W hW; go_simp; done)); go_simp)
              | (refine quiet_run (.string (strOf msg)) ?_ ?_; (focus (intro W hW; have h := CV2.out W hW; go_simp; done)); go_simp)
              | (refine quiet_run (.pointer (some ⟨g, off + i, none⟩)) ?_ ?_; (focus (intro W hW; go_simp; done)); go_simp)
              | (refine quiet_run (.slice Aj nj cj) ?_ ?_; (focus (intro W hW; have h := CM2.out W hW; go_simp; done)); go_simp)
              | (refine quiet_run (.int .i64 (nj : Int)) ?_ ?_; (focus (intro W hW; go_simp; done)); go_simp)
              | (refine quiet_run (.int .i64 (r : Int)) ?_ ?_; (focus (intro W hW; have h := fun ts t => hmin W ts t; go_simp; done)); go_simp)
              | (refine quiet_run (.slice Aj r cj) ?_ ?_; (focus (intro W hW; have h := hsl W; go_simp; done)); go_simp)); go_big_quiet_on))
            refine wpQuiet_nil ?_
            intro w7 hw7
            have H7 := hidv_ (H4.out.below hw7)
            clear hw7 CV CV2 CM2
            go_wp2
            go_roundw
            case rel => exact ⟨i + 1, F5, by omega, by go_num, H7⟩
            case measure => simp [intOf]; omega
          · have him : i = m := by omega
            have hd1 : decide ((i : Int) < (m : Int)) = false := decide_eq_false (by omega)
            have hd2 : decide (i < m) = false := decide_eq_false hlt
            have HI3 : Hid (NetI w wr p q 1 [B.drop m, B.take m] F4) := hidv_ (by rw [← him]; exact HI.out)
            clear HI him
            go_upto_region 20 with fail
            clear hd1 hd2 hlt
            have hD : B.drop m = [] := HBD.out
            rw [hD] at HI3
            have c2 : Calls Try.prog 7 #[.pointer (some ⟨p, 0, none⟩), .int .i64 0, .int .i64 0] wr (fun e w' => e = .returned (.tuple #[.slice none 0 0, .int .i64 7]) ∧ wr = w') := take_miss HI3.out.net 0 (by omega) 0 (.inr (show (([] : List (List UInt8)).length : Int) ≤ 0 by simp))
            have hd3 : decide ((m : Int) ≤ (k : Int)) = true := decide_eq_true (by omega)
            have hd4 : decide (m ≤ k) = true := decide_eq_true (by omega)
            clear hD
            go_wp2_with (go_at_call 7; ((with_reducible refine c2.mono ?_); clear c2; rintro e w4 ⟨rfl, rfl⟩))
            go_ret
            exact ⟨rfl, HI3.out.un⟩

set_option maxRecDepth 100000 in
theorem lifted (os : Os) (started : os.Started) (H : Type) (enc : TypeId × Value → H) :
    ReturnsInHanded {} Try.checked os 5 .any (Rows.netOrdersSpec.pre6 enc Try.prog Try.f5 Rows.netOrdersRow.domain false) (Rows.netOrdersSpec.post enc Try.prog Try.f5 false true false false) := by
  refine returnsInHanded_of_change (C := Try.checked) own_ started (by kernel_rfl) Try.func5
    (ChangeSpec.witness6 (enc := enc) (C := Try.checked) false ⟨#[], #[.slice none 0 0, .int .i64 0], []⟩ 8 (by kernel_rfl) (by kernel_rfl) (by kernel_rfl) (by kernel_rfl)) ?_
  intro W base args ds gs before hval0 hW hcnd _
  have hval : ∀ (j : Nat) t v, Try.f5.params[j]? = some t → args[j]? = some v → Value.okWide Try.prog W .any base t v := hval0
  have hW' := hW
  obtain ⟨p, q, hA0, hV, rfl, hfz, hnd⟩ := hW
  have hA : DataW.TrodAll enc Try.prog W 0 (fun _ => true) true Try.f5.params.toList args.toList ds p := hA0
  rw [Try.params5] at hA hval
  obtain ⟨v0, vs0, d0, ds0, p0, q0, hargs, rfl, rfl, h0, r0⟩ := trodAll_cons hA
  obtain ⟨v1, vs1, d1, ds1, p1, q1, rfl, rfl, rfl, h1, r1⟩ := trodAll_cons r0
  obtain ⟨rfl, rfl, rfl⟩ := trodAll_nil r1
  obtain rfl : args = #[v0, v1] := by cases args; simp_all
  obtain ⟨rfl, rfl⟩ := trodVars_none hV
  obtain ⟨A0, n0, c0, l0, rfl, hl0, hp0, hm0⟩ := open_partsV Try.underlying34 Try.underlying23 Try.underlying5 (by kernel_rfl) (by kernel_rfl) (hval 0 34 v0 rfl rfl) h0
  obtain ⟨a1, rfl, rfl, rfl, w1⟩ := open_int Try.underlying3 (hval 1 3 v1 rfl rfl) h1
  refine (walk W A0 n0 c0 l0 hl0 hp0 hm0 a1).mono fun e W' ⟨he, hg⟩ => ⟨_, he, ?_⟩
  exact law_post laidOut_ (of_decide_eq_true (by kernel_rfl)) rfl rfl Try.underlying4 rfl hW' hg

theorem over : Rows.netOrdersRow.holds Try.pinned (OpenSpec.ofChange Rows.netOrdersSpec) :=
  OpenClaim.holds_of_wide 5 Try.f5 rfl rfl rfl rfl rfl rfl rfl ⟨rfl, rfl, rfl, rfl, rfl⟩ rfl rfl rfl rfl rfl (by kernel_rfl) Try.func5 (by kernel_rfl)
    (of_decide_eq_true (by kernel_rfl)) (by unfold Func.isWrapper; first | (rw [if_pos (by decide +kernel)]; kernel_rfl) | (rw [if_neg (by decide +kernel)]; exact ⟨rfl, rfl⟩))
    (fun os started H enc _ => lifted os started H enc)

theorem proved : Rows.NetOrdersSaid := over
#print axioms proved
end Go.Proofs.Ytdkemjipbkanoaa.netOrders
