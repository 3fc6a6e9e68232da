/-
  Proved: for all records and numbers LogEnds answers true: the first bytes that are no record's end the log: with a byte of a record, or of its check, changed, those ahead of it are told alone. No condition.
-/
import Derived.Test.YtdlciehboimciaaLhe
import Derived.Test.YtdlciehboimciaaLhf
import Derived.Test.YtdlciehboimciaaDkn
import Derived.Test.YtdlciehboimciaaBx
namespace Go.Proofs.Ytdlciehboimciaa.logEnds
set_option maxRecDepth 100000
open Go.ChangeShapes Go.WideShapes Go.ChangeAt Go.RowKit
set_option linter.unusedVariables false
set_option linter.unusedSimpArgs false

theorem xor_ne (v u : UInt8) (h : u ≠ 0) : v ^^^ u ≠ v := by
  intro e
  apply h
  have : v ^^^ (v ^^^ u) = v ^^^ v := by rw [e]
  simpa [← UInt8.xor_assoc] using this
set_option maxRecDepth 100000 in
set_option maxHeartbeats 16000000 in
theorem walk (w : World) (A0 : Option Addr) (n0 c0 : Nat) (l : List (List UInt8)) (hn : l.length = n0) (hp : PartsV w w.heap.size A0 l) (hn9 : n0 ≤ 9223372036854775807) (z1 z2 : Int) : Calls Try.prog 5 #[.slice A0 n0 c0, .int .i64 z1, .int .i64 z2] w fun e w' => e = .returned (.bool true) ∧ Below w.heap.size w w' := by
  have cf : Calls Try.prog 26 #[.slice A0 n0 c0, .int .i64 5, .int .i64 60] w _ := fewL_parts w A0 n0 c0 5 60 l hn hp hn9 (by omega) (by omega)
  obtain ⟨R, hR⟩ : ∃ R, fewL l 5 60 = R := ⟨_, rfl⟩
  obtain ⟨K, hK⟩ : ∃ K, min 5 n0 = K := ⟨_, rfl⟩
  rw [hR, hK] at cf
  unfold FewP at cf
  have hK5 : K ≤ 5 := by omega
  have HRL := hidg_ (show R.length = K by rw [← hR, fewL_len, hn, hK])
  have HRS := hidg_ (show ∀ r ∈ R, r.length ≤ 60 by rw [← hR]; exact fewL_small l 5 60)
  have HAB := hidg_ (show (allB R).length ≤ 340 by rw [← hR]; exact fewL_allB l 5 60)
  have hroom : roomN 30 = 896 := rfl
  clear hR hK hn hp
  obtain ⟨Y1, hY1, hY1b⟩ := u64_natK z1
  obtain ⟨Y2, hY2, hY2b⟩ := u64_natK z2
  go_enter Try.func5, Try.ntmps5
  go_upto_region 6 with (first
    | (go_at_call 26; ((with_reducible refine cf.mono ?_); clear cf; rintro e w1 ⟨A1, c1, rfl, hT, hb⟩; have T1 := hidg_ hT; have B1 := hidg_ hb; clear hT hb))
    | (go_at_call 7; have cn : Calls Try.prog 7 #[.int .i64 30] w1 _ := dnew_yes w1 30 (by omega) (by omega); ((with_reducible refine cn.mono ?_); clear cn; rintro e w2 ⟨p, q, rfl, h1, hb⟩; have D2 := hidg_ (show DkJ w1.heap.size w2 p q 30 ⟨zsecs 30, [], 0, false⟩ from h1); have B2 := hidg_ hb; clear h1 hb))
    | (go_at_call 8; have cp := format_v D2.out B2.out.size (by omega) (by omega); ((with_reducible refine cp.mono ?_); clear cp; rintro e w3 ⟨g, rfl, hL, hb⟩; have L3 := hidg_ hL; have B3 := hidg_ (B2.out.trans hb); clear hL hb))
    | (go_at_call 9; have cp := logs_any w3; ((with_reducible refine cp.mono ?_); clear cp; rintro e w4 ⟨rfl, hb⟩; have L4 := hidg_ (L3.out.below hb); have B4 := hidg_ (B3.out.trans (hb.mono B3.out.size)); clear hb))
    | (go_at_call 11; have cp := replace_v0 L4.out rfl B4.out.size (by omega) (by omega) (by omega) R K A1 c1 HRL.out (T1.out.below B4.out).pta (by rw [hroom]; have := HAB.out; omega); ((with_reducible refine cp.mono ?_); clear cp; rintro e w5 ⟨rfl, s5, hf5, hL, hb, _⟩; have L5 := hidg_ hL; have F5 := hidg_ hf5; have B5 := hidg_ (B4.out.trans hb); clear hL hb hf5)))
  have T5 := hidg_ (T1.out.below B5.out)
  have X5 := hidg_ (B1.out.trans (B5.out.mono B1.out.size))
  clear T1 D2 L3 L4 B2 B3 B4
  rcases Nat.eq_zero_or_pos K with hK0 | hK0
  · have d1 : ((K : Int) == 0) = true := by simp; omega
    have d2 : (K : Int) = 0 := by omega
    subst hK0
    go_wp2
    go_ret
    exact ⟨rfl, X5.out⟩
  · have d1 : ((K : Int) == 0) = false := by simp; omega
    have d2 : ¬ (K : Int) = 0 := by omega
    obtain ⟨k, hk⟩ : ∃ k, Y1 % K = k := ⟨_, rfl⟩
    have hkK : k < K := by rw [← hk]; exact Nat.mod_lt _ hK0
    have hm1 : (Y1 : Int).tmod (K : Int) = (k : Int) := by rw [Int.tmod_eq_emod_of_nonneg (by omega), ← hk]; simp
    have hu1 : IntKind.u64.wrap (K : Int) = (K : Int) := IntWalk.u64_in _ (by omega)
    have hu2 : IntKind.u64.wrap (k : Int) = (k : Int) := IntWalk.u64_in _ (by omega)
    have hu3 : IntKind.i64.wrap (k : Int) = (k : Int) := IntWalk.i64_in _ (by omega)
    have hc1 := T5.out.src.2.2
    have hsl := fun W => slice_to_rows A1 K c1 k (by omega) W
    have HTK := hidg_ (show (R.take k).length = k by rw [List.length_take, HRL.out]; omega)
    have hPK : PtA w5 A1 (R.take k) := fun j hj => by
      have hj2 : j < k := by rw [HTK.out] at hj; exact hj
      obtain ⟨b, off, a, c, h1, h2, h3, h4⟩ := T5.out.pta j (by rw [HRL.out]; omega)
      have e : (R.take k).getD j [] = R.getD j [] := by simp [List.getD, List.getElem?_take, hj2]
      rw [e]
      exact ⟨b, off, a, c, h1, h2, h3, h4⟩
    obtain ⟨ah, hah⟩ : ∃ x, (allB (R.take k)).length = x := ⟨_, rfl⟩
    have hah3 : ah ≤ 340 := by rw [← hah]; exact Nat.le_trans (allB_le R k) HAB.out
    have ca := allL_any (w := w5) (A := A1) (La := R.take k) k c1 HTK.out hPK (by omega)
    have hsz1 : (strOf (allB (R.take k))).size = ah := by rw [strOf_size, hah]
    have HAH := hidg_ hah
    have HPK := hidg_ hPK
    clear hk hPK hah
    go_upto_region 10 with (first
      | (go_at_call 12; ((with_reducible refine ca.mono ?_); clear ca; rintro e w6 ⟨rfl, hb⟩; have B6 := hidg_ hb; clear hb)))
    have L6 := hidg_ (L5.out.below B6.out)
    have X6 := hidg_ (X5.out.trans (B6.out.mono X5.out.size))
    have T6 := hidg_ (T5.out.below B6.out)
    obtain ⟨b1, o1, a1, k1, rfl, hcx, hrx, hlx⟩ := T6.out.pta k (by rw [HRL.out]; exact hkK)
    obtain ⟨r, hr⟩ : ∃ r, R.getD k [] = r := ⟨_, rfl⟩
    rw [hr] at hcx hrx
    obtain ⟨rn, hrn⟩ : ∃ x, r.length = x := ⟨_, rfl⟩
    rw [hrn] at hcx
    have hrn6 : rn ≤ 60 := by
      rw [← hrn, ← hr]
      have : k < R.length := by rw [HRL.out]; exact hkK
      exact HRS.out _ (by simp [List.getD, this])
    obtain ⟨rs, hrs⟩ : ∃ x, rn + 8 = x := ⟨_, rfl⟩
    obtain ⟨m4, hm4⟩ : ∃ x, rn + 4 = x := ⟨_, rfl⟩
    obtain ⟨ii, hii⟩ : ∃ x, Y2 % m4 = x := ⟨_, rfl⟩
    have hiim : ii < m4 := by rw [← hii]; exact Nat.mod_lt _ (by omega)
    obtain ⟨v66, hv66⟩ : ∃ x, 1024 + ah = x := ⟨_, rfl⟩
    obtain ⟨v67, hv67⟩ : ∃ x, v66 + 4 = x := ⟨_, rfl⟩
    obtain ⟨at_, hat⟩ : ∃ x, v67 + ii = x := ⟨_, rfl⟩
    obtain ⟨si, hsi⟩ : ∃ x, at_ / 64 = x := ⟨_, rfl⟩
    obtain ⟨sj, hsj⟩ : ∃ x, at_ % 64 = x := ⟨_, rfl⟩
    have hat6 : at_ ≤ 10000 := by omega
    have hsj64 : sj < 64 := by omega
    have hsi6 : si ≤ 200 := by omega
    have e64 : IntKind.i64.wrap 1024 = 1024 := IntWalk.i64_in _ (by omega)
    have e66 : (1024 : Int) + (ah : Int) = (v66 : Int) := by omega
    have e67 : (v66 : Int) + 4 = (v67 : Int) := by omega
    have e81 : (v67 : Int) + (ii : Int) = (at_ : Int) := by omega
    have e77 : (rs : Int) - 4 = (m4 : Int) := by omega
    have ew1 : IntKind.i64.wrap (v66 : Int) = (v66 : Int) := IntWalk.i64_in _ (by omega)
    have ew2 : IntKind.i64.wrap (v67 : Int) = (v67 : Int) := IntWalk.i64_in _ (by omega)
    have ew3 : IntKind.i64.wrap (at_ : Int) = (at_ : Int) := IntWalk.i64_in _ (by omega)
    have ew4 : IntKind.i64.wrap (m4 : Int) = (m4 : Int) := IntWalk.i64_in _ (by omega)
    have eu1 : IntKind.u64.wrap (m4 : Int) = (m4 : Int) := IntWalk.u64_in _ (by omega)
    have eu2 : IntKind.u64.wrap (ii : Int) = (ii : Int) := IntWalk.u64_in _ (by omega)
    have eu3 : IntKind.i64.wrap (ii : Int) = (ii : Int) := IntWalk.i64_in _ (by omega)
    have em1 : (Y2 : Int).tmod (m4 : Int) = (ii : Int) := by rw [Int.tmod_eq_emod_of_nonneg (by omega), ← hii]; simp
    have em0 : ((m4 : Int) == 0) = false := by simp; omega
    have em2 : ¬ (m4 : Int) = 0 := by omega
    have em3 : ¬ m4 = 0 := by omega
    have hv661 : v66 ≤ 10000 := by omega
    have hv671 : v67 ≤ 10000 := by omega
    have hrs1 : rs ≤ 100 := by omega
    have hm41 : m4 ≤ 100 := by omega
    have hii1 : ii ≤ 100 := by omega
    have hrsz : (strOf (recB r)).size = rs := by rw [strOf_size, recB_len, hrn, hrs]
    have CX := hidg_ (fun W (hW : Below w6.heap.size w6 W) => (hW.cell (p := ⟨b1, o1 + k, none⟩) hlx).trans hcx)
    have VX := hidg_ (fun W (hW : Below w6.heap.size w6 W) => conv_strn (hrx.below hW) rn k1 hrn)
    have QR := hidg_ (fun W (hW : Below w6.heap.size w6 W) => (refRoomL_any 30 (by omega) (by omega) W).mono fun e w' hh => (show e = .returned (.int .i64 896) ∧ Below w6.heap.size w6 w' from ⟨hh.1, hh.2 ▸ hW⟩))
    have QB := hidg_ (fun W (hW : Below w6.heap.size w6 W) => (refRecL_any W r rn hrn (by omega)).mono fun e w' hh => (show e = .returned (.string (strOf (recB r))) ∧ Below w6.heap.size w6 w' from ⟨hh.1, hW.trans (hh.2.mono hW.size)⟩))
    have t0 : (0 : Int) ≤ (k : Int) := by omega
    have tn : (k : Int) < (K : Int) := by omega
    have HR := hidg_ hr
    have HRN := hidg_ hrn
    have HRS2 := hidg_ hrs
    have HM4 := hidg_ hm4
    have HIIM := hidg_ hiim
    have HATS := hidg_ (show at_ = 1024 + ah + (4 + ii) by omega)
    have HSI := hidg_ hsi
    have HSJ := hidg_ hsj
    clear hcx hrx hlx hr hrn hrs hm4 hii hiim hv66 hv67 hat hsi hsj hm1 hu1 hu2 hu3 hsl hY1 hsz1
    refine region_quiet_in (C := fun W => Below w6.heap.size w6 W) (by kernel_rfl) (by kernel_rfl) ((Below.refl _ _).drew) ?_
    (go_big_quiet_want; (refine quiet_call (.int .i64 896) 13 #[.int .i64 30] ?_ QR.out ?_; (focus (intro W; go_simp; done)); go_simp); go_big_quiet_on)
    (go_big_quiet_want; (refine quiet_run (.int .i64 1024) ?_ ?_; (focus (intro W hW; go_simp; done)); go_simp); go_big_quiet_on)
    (go_big_quiet_want; (refine BigFrame.quiet_move _ rfl ?_; go_simp); go_big_quiet_on)
    (go_big_quiet_want; (refine quiet_run (.int .i64 (v66 : Int)) ?_ ?_; (focus (intro W hW; go_simp; done)); go_simp); go_big_quiet_on)
    (go_big_quiet_want; (refine quiet_run (.int .i64 (v67 : Int)) ?_ ?_; (focus (intro W hW; go_simp; done)); go_simp); go_big_quiet_on)
    (go_big_quiet_want; (refine BigFrame.quiet_move _ rfl ?_; go_simp); go_big_quiet_on)
    (go_big_quiet_want; (refine quiet_run (.int .u64 (Y2 : Int)) ?_ ?_; (focus (intro W hW; go_simp; done)); go_simp); go_big_quiet_on)
    (go_big_quiet_want; (refine BigFrame.quiet_move _ rfl ?_; go_simp); go_big_quiet_on)
    (go_big_quiet_want; (refine BigFrame.quiet_move _ rfl ?_; go_simp); go_big_quiet_on)
    (go_big_quiet_want; (refine quiet_run (.pointer (some ⟨b1, o1 + k, none⟩)) ?_ ?_; (focus (intro W hW; go_simp; done)); go_simp); go_big_quiet_on)
    (go_big_quiet_want; (refine quiet_run (.slice a1 rn k1) ?_ ?_; (focus (intro W hW; have h := CX.out W hW; go_simp; done)); go_simp); go_big_quiet_on)
    (go_big_quiet_want; (refine quiet_run (.string (strOf r)) ?_ ?_; (focus (intro W hW; have h := VX.out W hW; go_simp; done)); go_simp); go_big_quiet_on)
    (go_big_quiet_want; (refine quiet_call (.string (strOf (recB r))) 15 #[.string (strOf r)] ?_ QB.out ?_; (focus (intro W; go_simp; done)); go_simp); go_big_quiet_on)
    (go_big_quiet_want; (refine quiet_run (.int .i64 (rs : Int)) ?_ ?_; (focus (intro W hW; go_simp; done)); go_simp); go_big_quiet_on)
    (go_big_quiet_want; (refine quiet_run (.int .i64 (m4 : Int)) ?_ ?_; (focus (intro W hW; go_simp; done)); go_simp); go_big_quiet_on)
    (go_big_quiet_want; (refine quiet_run (.int .u64 (m4 : Int)) ?_ ?_; (focus (intro W hW; go_simp; done)); go_simp); go_big_quiet_on)
    (go_big_quiet_want; (refine quiet_run (.int .u64 (ii : Int)) ?_ ?_; (focus (intro W hW; go_simp; done)); go_simp); go_big_quiet_on)
    (go_big_quiet_want; (refine quiet_run (.int .i64 (ii : Int)) ?_ ?_; (focus (intro W hW; go_simp; done)); go_simp); go_big_quiet_on)
    (go_big_quiet_want; (refine quiet_run (.int .i64 (at_ : Int)) ?_ ?_; (focus (intro W hW; go_simp; done)); go_simp); go_big_quiet_on)
    (go_big_quiet_want; (refine BigFrame.quiet_assign _ rfl ?_; go_simp); go_big_quiet_on)
    refine wpQuiet_nil ?_
    intro w7 hw7
    have B7 := hidg_ (show Below w6.heap.size w6 w7 from hw7)
    clear hw7 CX VX QR QB ew1 ew2 ew3 ew4 e64 e66 e67 e81 e77 eu1 eu2 eu3 em1 em0 em2 em3 hrsz t0 tn
    have L7 := hidg_ (L6.out.below B7.out)
    have X7 := hidg_ (X6.out.trans (B7.out.mono X6.out.size))
    have T7 := hidg_ (T6.out.below B7.out)
    obtain ⟨D, hD⟩ : ∃ D, s5.F.getD si [] = D := ⟨_, rfl⟩
    obtain ⟨x, hx⟩ : ∃ x, D.getD sj 0 = x := ⟨_, rfl⟩
    obtain ⟨yy, hyy⟩ : ∃ z, Y2 % 255 = z := ⟨_, rfl⟩
    obtain ⟨xx, hxx⟩ : ∃ z, 1 + yy = z := ⟨_, rfl⟩
    have hxx8 : xx ≤ 255 := by omega
    obtain ⟨nb, hnb⟩ : ∃ u : UInt8, u.toNat = xx := ⟨UInt8.ofNat xx, by simp; omega⟩
    obtain ⟨y, hy⟩ : ∃ y, x ^^^ nb = y := ⟨_, rfl⟩
    have hyx : y ≠ x := by rw [← hy]; exact xor_ne x nb (fun e0 => by rw [e0] at hnb; simp at hnb; omega)
    have HXR : bits .xor .u8 ((x.toNat : Nat) : Int) (xx : Int) = ((y.toNat : Nat) : Int) := by rw [← hnb, xor8, hy]
    have en1 : (Y2 : Int).tmod 255 = (yy : Int) := by rw [Int.tmod_eq_emod_of_nonneg (by omega), ← hyy]; simp
    have en2 : IntKind.u64.wrap (yy : Int) = (yy : Int) := IntWalk.u64_in _ (by omega)
    have en3 : IntKind.u8.wrap (yy : Int) = (yy : Int) := by simp [IntKind.wrap, IntKind.signed, IntKind.bits]; omega
    have en4 : (1 : Int) + (yy : Int) = (xx : Int) := by omega
    have en5 : IntKind.u8.wrap (xx : Int) = (xx : Int) := by simp [IntKind.wrap, IntKind.signed, IntKind.bits]; omega
    have en6 : (xx : Int) % 256 = (xx : Int) := by omega
    have ed1 : (at_ : Int) / 64 = (si : Int) := by have := HSI.out; omega
    have ed2 : (at_ : Int).tmod 64 = (sj : Int) := by have := HSJ.out; rw [Int.tmod_eq_emod_of_nonneg (by omega)]; omega
    have u0 : (0 : Int) ≤ (sj : Int) := by omega
    have un : (sj : Int) < 64 := by omega
    have HH := L7.out.ho
    obtain ⟨s6, hs6⟩ : ∃ s6 : DkX, (⟨s5.F, [(si, D.set sj y)], 0, false⟩ : DkX) = s6 := ⟨_, rfl⟩
    have HW := hidg_ (show wrX s5 si (D.set sj y) = s6 by rw [← hs6]; simp [wrX, L7.out.on, L7.out.sR, F5.out])
    have hcut := holds_cut HH (by omega) (by omega) (by omega) k (4 + ii) (by rw [HRL.out]; exact hkK) (by omega) (by rw [HR.out, HRN.out]; have := HIIM.out; have := HM4.out; omega) si sj hsj64 (by have h1 := HATS.out; have h2 := HSI.out; have h3 := HSJ.out; rw [HAH.out, show firstS 30 1 = 16 from rfl]; omega) y (by rw [hD, hx]; exact hyx) s6 (by rw [← hs6, hD]; rfl)
    obtain ⟨q1, q2, q3, q4⟩ := hcut
    have HD64 := hidg_ (show D.length = 64 by rw [← hD]; exact getD_mem64 HH.s64 si (by rw [HH.len]; exact q4))
    have crd : Calls Try.prog 27 #[.pointer (some ⟨p, 0, none⟩), .int .i64 (si : Int)] w7 (fun e w' => e = .returned (.tuple #[.agg (rowOf D), .int .i64 0]) ∧ Below w7.heap.size w7 w') := by
      have h := dread_any L7.out.dk (si : Int)
      have e1 : hasE 30 s5.off (si : Int) = 0 := by unfold hasE; rw [if_neg (by rw [L7.out.on]; decide), if_neg (by omega)]
      rw [e1, show readD 30 s5.F s5.R s5.off (si : Int) = D by unfold readD; rw [if_pos e1, L7.out.sR, appl_nil]; exact hD] at h
      exact h
    have H6 := hidg_ hs6
    have Q1 := hidg_ q1
    have Q3 := hidg_ q3
    have Q4 := hidg_ q4
    have HI := hidg_ (iSec D HD64.out)
    have HI2 := hidg_ (iSec (D.set sj y) (by rw [List.length_set]; exact HD64.out))
    have HXV := hidg_ hx
    have hzs := zeroSec
    clear hD hx hyy hxx hnb hy hyx HH hs6 q1 q2 q3 q4
    go_upto_region 12 with (first
      | (go_at_call 27; ((with_reducible refine crd.mono ?_); clear crd; rintro e w8 ⟨rfl, hb⟩; have B8 := hidg_ hb; clear hb; (obtain ⟨gx, hgx⟩ : ∃ x, w8.heap.size = x := ⟨_, rfl⟩); (obtain ⟨wa, hwa⟩ : ∃ W, w8.alloc (.cells (rowOf zsec) 58) = W := ⟨_, rfl⟩); have BA := hidg_ (show Below w8.heap.size w8 wa by rw [← hwa]; exact (Below.refl _ _).alloc (Nat.le_refl _) _); have KA := hidg_ (show Bk wa gx 58 (rowOf zsec) by rw [← hwa, ← hgx]; exact Bk.new w8 _ _)))
      | (refine wpList_put_row rfl 58 (.tmp 15) (.tmp 87) rfl gx (rowOf D) rfl rfl 58 (rowOf zsec) KA.out HI.out (by rw [rowOf_size, rowOf_size, HD64.out, zsec_len]) (bytes_one _) ?_; intro w9 k9 g9 s9; have K9 := hidg_ k9; have X9 := hidg_ (BA.out.grown g9 BA.out.size (fun k e => by injection e with e; omega)); clear k9 g9 s9))
    have hcell : w9.cell? ⟨gx, sj, none⟩ = some (.int .u8 ((x.toNat : Nat) : Int)) := by
      rw [K9.out.cell]
      have := rowOf_at D sj (by rw [HD64.out]; exact hsj64)
      rw [HXV.out] at this
      simpa using this
    have hfrz := K9.out.frozen sj
    have K10 := hidg_ (show Bk (w9.setCell ⟨gx, sj, none⟩ (.int .u8 ((y.toNat : Nat) : Int))) gx 58 (rowOf (D.set sj y)) by rw [← rowOf_set]; exact K9.out.set_ sj _)
    have B10 := hidg_ (show Below w7.heap.size w7 (w9.setCell ⟨gx, sj, none⟩ (.int .u8 ((y.toNat : Nat) : Int))) from (B8.out.trans (X9.out.mono B8.out.size)).setCell (p := ⟨gx, sj, none⟩) (by rw [← hgx]; exact B8.out.size) _)
    go_upto_region 13 with fail
    obtain ⟨wb, hwb⟩ : ∃ W, w9.setCell ⟨gx, sj, none⟩ (.int .u8 ((y.toNat : Nat) : Int)) = W := ⟨_, rfl⟩
    rw [hwb] at K10 B10 ⊢
    clear hwb hcell hfrz HXR en1 en2 en3 en4 en5 en6 ed2 u0 un hY2 hwa K9
    have Lb := hidg_ (L7.out.below B10.out)
    have Xb := hidg_ (X7.out.trans (B10.out.mono X7.out.size))
    have Tb := hidg_ (T7.out.below B10.out)
    have hb1 : w1.heap.size ≤ wb.heap.size := Nat.le_trans B5.out.size (Nat.le_trans B6.out.size (Nat.le_trans B7.out.size B10.out.size))
    have cw := dwrite_x Lb.out.dk hb1 si Q4.out (D.set sj y) (by rw [List.length_set]; exact HD64.out) (by rw [Lb.out.sR]; simp)
    rw [HW.out] at cw
    unfold DkQ at cw
    rw [show erX s6 = 0 by rw [← H6.out]; rfl] at cw
    go_upto_region 15 with (first
      | (refine wpList_load_sub rfl 58 (.tmp 15) rfl gx 0 rfl (rowOf (D.set sj y)) (fun j hj => by rw [Nat.zero_add]; exact K10.out.cell j) _ Try.underlying58 rfl HI2.out ?_)
      | (go_at_call 28; ((with_reducible refine cw.mono ?_); clear cw; rintro e wc ⟨rfl, hd, hb, hu⟩; have Dc := hidg_ hd; have Bc := hidg_ hb; have Uc := hidg_ hu; clear hd hb hu))
      | (go_at_call 21; have co := lopen_yes (n := 30) Dc.out (by rw [← H6.out]) (by omega) (by omega) (by rw [Q1.out]; show 2 ≠ 0; omega) (by rw [Q3.out, HAH.out]; omega); rw [Q3.out, Q1.out] at co; ((with_reducible refine co.mono ?_); clear co; rintro e wd ⟨g8, A8, k8, c8, rfl, hk8, hg8, hR8, hl8, hb8⟩; obtain rfl : k = k8 := HTK.out.symm.trans hk8; have B8d := hidg_ hb8; have P8 := hidg_ hR8.pta; have L8 := hidg_ hl8; have G8 := hidg_ hg8; have D8 := hidg_ (DkI.below Dc.out hb8); clear hg8 hR8 hl8 hb8 hk8)))
    have hcK := hc1
    have hsl := fun W => slice_to_rows (some ⟨b1, o1, none⟩) K c1 k (by omega) W
    have Td := hidg_ ((Tb.out.unt Uc.out (by decide) (by decide)).below B8d.out)
    have hPd : PtA wd (some ⟨b1, o1, none⟩) (R.take k) := fun j hj => by
      have hj2 : j < k := by rw [HTK.out] at hj; exact hj
      obtain ⟨b, off, a, c, h1, h2, h3, h4⟩ := Td.out.pta j (by rw [HRL.out]; omega)
      have e : (R.take k).getD j [] = R.getD j [] := by simp [List.getD, List.getElem?_take, hj2]
      rw [e]
      exact ⟨b, off, a, c, h1, h2, h3, h4⟩
    have csm := sameL_any (w := wd) k c8 k c1 HTK.out HTK.out P8.out hPd (by omega) (by omega)
    rw [decide_eq_true rfl] at csm
    obtain ⟨lf, hlf⟩ : ∃ z, 896 - ah = z := ⟨_, rfl⟩
    have elf : (896 : Int) - (ah : Int) = (lf : Int) := by omega
    have hlf9 : lf ≤ 1000 := by omega
    have Xd := hidg_ ((Xb.out.trans (Bc.out.mono B1.out.size)).trans (B8d.out.mono (Nat.le_trans Xb.out.size Bc.out.size)))
    have HLF := hidg_ hlf
    clear hlf hPd
    go_wp2_with (first
      | (go_at_call 22; ((with_reducible refine csm.mono ?_); clear csm; rintro e we ⟨rfl, hb⟩; have Be := hidg_ hb; clear hb))
      | (go_at_call 19; have cl : Calls _ _ _ _ (fun e w' => e = .returned (.int .i64 (lf : Int)) ∧ Below we.heap.size we w') := (by have h := lleft_any (L8.out.below Be.out) (DkI.below D8.out Be.out) (by omega) (by omega) (by rw [HAH.out, hroom]; omega); rw [HAH.out, hroom, HLF.out] at h; exact h); ((with_reducible refine cl.mono ?_); clear cl; rintro e wf ⟨rfl, hb⟩; have Bf := hidg_ hb; clear hb))
      | (go_at_call 13; have cp : Calls Try.prog 13 #[.int .i64 30] wf (fun e w' => e = .returned (.int .i64 896) ∧ wf = w') := refRoomL_any 30 (by omega) (by omega) wf; ((with_reducible refine cp.mono ?_); clear cp; rintro e w' ⟨rfl, rfl⟩)))
    go_ret
    exact ⟨rfl, (Xd.out.trans (Be.out.mono Xd.out.size)).trans (Bf.out.mono (Nat.le_trans Xd.out.size Be.out.size))⟩

set_option maxRecDepth 100000 in
theorem lifted (os : Os) (started : os.Started) (H : Type) (enc : TypeId × Value → H) :
    ReturnsInHanded {} Try.checked os 5 .any (Rows.logEndsSpec.pre6 enc Try.prog Try.f5 Rows.logEndsRow.domain false) (Rows.logEndsSpec.post enc Try.prog Try.f5 false true false false) := by
  refine returnsInHanded_of_change (C := Try.checked) own_ started (by kernel_rfl) Try.func5
    (ChangeSpec.witness6 (enc := enc) (C := Try.checked) false ⟨#[], #[.slice none 0 0, .int .i64 0, .int .i64 0], []⟩ 8 (by kernel_rfl) (by kernel_rfl) (by kernel_rfl) (by kernel_rfl)) ?_
  intro W base args ds gs before hval0 hW hcnd _
  have hval : ∀ (j : Nat) t v, Try.f5.params[j]? = some t → args[j]? = some v → Value.okWide Try.prog W .any base t v := hval0
  have hW' := hW
  obtain ⟨p, q, hA0, hV, rfl, hfz, hnd⟩ := hW
  have hA : DataW.TrodAll enc Try.prog W 0 (fun _ => true) true Try.f5.params.toList args.toList ds p := hA0
  rw [Try.params5] at hA hval
  obtain ⟨v0, vs0, d0, ds0, p0, q0, hargs, rfl, rfl, h0, r0⟩ := trodAll_cons hA
  obtain ⟨v1, vs1, d1, ds1, p1, q1, rfl, rfl, rfl, h1, r1⟩ := trodAll_cons r0
  obtain ⟨v2, vs2, d2, ds2, p2, q2, rfl, rfl, rfl, h2, r2⟩ := trodAll_cons r1
  obtain ⟨rfl, rfl, rfl⟩ := trodAll_nil r2
  obtain rfl : args = #[v0, v1, v2] := by cases args; simp_all
  obtain ⟨rfl, rfl⟩ := trodVars_none hV
  obtain ⟨A0, n0, c0, l0, rfl, hl0, hp0, hm0⟩ := open_partsV Try.underlying32 Try.underlying39 Try.underlying5 (by kernel_rfl) (by kernel_rfl) (hval 0 32 v0 rfl rfl) h0
  obtain ⟨z1, rfl, rfl, rfl, w1⟩ := open_int Try.underlying3 (hval 1 3 v1 rfl rfl) h1
  obtain ⟨z2, rfl, rfl, rfl, w2⟩ := open_int Try.underlying3 (hval 2 3 v2 rfl rfl) h2
  refine (walk W A0 n0 c0 l0 hl0 hp0 hm0 z1 z2).mono fun e W' ⟨he, hg⟩ => ⟨_, he, ?_⟩
  exact law_post laidOut_ (of_decide_eq_true (by kernel_rfl)) rfl rfl Try.underlying4 rfl hW' hg

theorem over : Rows.logEndsRow.holds Try.pinned (OpenSpec.ofChange Rows.logEndsSpec) :=
  OpenClaim.holds_of_wide 5 Try.f5 rfl rfl rfl rfl rfl rfl rfl ⟨rfl, rfl, rfl, rfl, rfl⟩ rfl rfl rfl rfl rfl (by kernel_rfl) Try.func5 (by kernel_rfl)
    (of_decide_eq_true (by kernel_rfl)) (by unfold Func.isWrapper; first | (rw [if_pos (by decide +kernel)]; kernel_rfl) | (rw [if_neg (by decide +kernel)]; exact ⟨rfl, rfl⟩))
    (fun os started H enc _ => lifted os started H enc)

theorem proved : Rows.LogEndsSaid := over
#print axioms proved
end Go.Proofs.Ytdlciehboimciaa.logEnds
