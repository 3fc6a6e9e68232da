/-
  Proved: for all numbers NetFull answers true: sixty-four messages are in a box, and not one more, neither sent nor copied, till one is taken. No condition.
-/
import Derived.Test.YtdkemjipbkanoaaVg
import Derived.Test.YtdkemjipbkanoaaLp
namespace Go.Proofs.Ytdkemjipbkanoaa.netFull
open Go.ChangeShapes Go.WideShapes Go.ChangeAt Go.RowKit
set_option linter.unusedVariables false
set_option linter.unusedSimpArgs false

theorem one_rd (w : World) (i : Nat) (hi : i ≤ 255) : Rd (w.alloc (.cells #[.int .u8 (i : Int)] 5)) (w.alloc (.cells #[.int .u8 (i : Int)] 5)).heap.size (some ⟨w.heap.size, 0, none⟩) (one8 i) := by
  have h := (Own8.lit w w.heap.size (one8 i) (Nat.le_refl _) (by simp [one8, maxLen])).rd.1
  have e : rowOf (one8 i) = #[.int .u8 (i : Int)] := by simp [rowOf, one8]; omega
  rw [e] at h
  exact h
theorem byte_at {w : World} {F : List Nat} {A : Option Addr} {i : Nat} (hi : i ≤ 255) (h : RdF w F A (one8 i)) : ∃ b off, A = some ⟨b, off, none⟩ ∧ w.cell? ⟨b, off, none⟩ = some (.int .u8 (i : Int)) := by
  obtain ⟨b, off, e, _, _, hc⟩ := h (by simp [one8])
  have := hc 0 (by simp [one8])
  refine ⟨b, off, e, ?_⟩
  rw [Nat.add_zero] at this
  rw [this]
  simp [one8, List.getD]
  omega

set_option maxRecDepth 100000 in
set_option maxHeartbeats 16000000 in
theorem walk (w : World) (a b : Int) : Calls Try.prog 4 #[.int .i64 a, .int .i64 b] w fun e w' => e = .returned (.bool true) ∧ Below w.heap.size w w' := by
  obtain ⟨x, hx, hxb⟩ := u64_natV a
  obtain ⟨y, hy, hyb⟩ := u64_natV b
  obtain ⟨m, hm⟩ : ∃ m, x % 9 = m := ⟨_, rfl⟩
  obtain ⟨k, hk⟩ : ∃ k, y % 60 = k := ⟨_, rfl⟩
  have r3 : (x : Int).tmod 9 = (m : Int) := by rw [Int.tmod_eq_emod_of_nonneg (by omega)]; omega
  have r4 : IntKind.u64.wrap (m : Int) = (m : Int) := IntWalk.u64_in _ (by omega)
  have r5 : IntKind.i64.wrap (m : Int) = (m : Int) := IntWalk.i64_in _ (by omega)
  have s3 : (y : Int).tmod 60 = (k : Int) := by rw [Int.tmod_eq_emod_of_nonneg (by omega)]; omega
  have s4 : IntKind.u64.wrap (k : Int) = (k : Int) := IntWalk.u64_in _ (by omega)
  have s5 : IntKind.i64.wrap (k : Int) = (k : Int) := IntWalk.i64_in _ (by omega)
  obtain ⟨M, hM⟩ : ∃ M, 60 + m = M := ⟨_, rfl⟩
  have r6 : IntKind.i64.wrap (60 + (m : Int)) = (M : Int) := by rw [IntWalk.i64_in _ (by omega)]; omega
  have hM1 : M ≤ 68 := by omega
  have hM0 : 60 ≤ M := by omega
  have hk60 : k < 60 := by omega
  have cn := new_i w 2 2 rfl (by omega) (by omega) [[], [], [], []] rfl
  have cs := fun W => nets_any W
  clear hm hk hM hxb hyb
  go_enter Try.func4, Try.ntmps4
  go_upto_region 5 with (first
    | (go_at_call 14; ((with_reducible refine cn.mono ?_); clear cn; rintro e w1 ⟨p, q, F, rfl, h⟩; have H1 := hidv_ h; clear h))
    | (go_at_call 9; ((with_reducible refine (cs _).mono ?_); clear cs; rintro e w2 ⟨rfl, hb⟩; have H2 := hidv_ (H1.out.below hb); clear hb)))
  clear r3 r4 r5 r6 hx
  go_wp2
  go_loopw [8] (fun i wr => ∃ (j : Nat) (F' : List Nat), j ≤ M ∧ i = .int .i64 j ∧ Hid (NetI w wr p q 2 [[], [], fullL j, []] F')) (fun i _ => M - (intOf i).toNat)
  case atStart => exact ⟨0, F, Nat.zero_le _, rfl, H2⟩
  case round =>
    obtain ⟨j, F', hj, rfl, HI⟩ := hrel
    by_cases hlt : j < M
    · have hd1 : decide ((j : Int) < (M : Int)) = true := decide_eq_true (by omega)
      have hd2 : decide (j < M) = true := decide_eq_true hlt
      have e8 : IntKind.u8.wrap (j : Int) = (j : Int) := IntWalk.u8_in _ (by omega)
      obtain ⟨wa, hwa⟩ : ∃ x, wr.alloc (.cells #[.int .u8 (j : Int)] 5) = x := ⟨_, rfl⟩
      have ra := one_rd wr j (by omega)
      rw [hwa] at ra
      have HA := hidv_ (HI.out.below (show Below wr.heap.size wr wa by rw [← hwa]; exact (Below.refl _ _).alloc (Nat.le_refl _) _))
      have c1 := send_yes HA.out.net 1 (by omega) _ 1 1 (one8 j) rfl ra (by omega)
      rw [fullL_add, fullL_err] at c1
      clear ra
      by_cases h64 : j < 64
      · rw [if_neg (by omega)] at c1
        have d1 : decide ((j : Int) < 64) = true := decide_eq_true (by omega)
        have c2 : Calls Try.prog 10 #[.pointer (some ⟨p, 0, none⟩), .int .i64 1, .slice (some ⟨wr.heap.size, 0, none⟩) 1 1] wa (NetP wa p q 2 [[], [], fullL (j + 1), []] F' 0) := c1
        clear c1 h64
        go_wp2_with (go_at_call 10; ((with_reducible refine c2.mono ?_); clear c2; rintro e w3 ⟨rfl, F2, h1, h2, h3⟩; have H3 := hidv_ (HA.out.act h1 h2 h3); clear h1 h2 h3))
        go_roundw
        case rel => exact ⟨j + 1, F2, by omega, by go_num, H3⟩
        case measure => simp [intOf]; omega
      · rw [if_pos (by omega)] at c1
        have d1 : decide ((j : Int) < 64) = false := decide_eq_false (by omega)
        have c2 : Calls Try.prog 10 #[.pointer (some ⟨p, 0, none⟩), .int .i64 1, .slice (some ⟨wr.heap.size, 0, none⟩) 1 1] wa (NetP wa p q 2 [[], [], fullL (j + 1), []] F' 10) := c1
        clear c1 h64
        go_wp2_with (go_at_call 10; ((with_reducible refine c2.mono ?_); clear c2; rintro e w3 ⟨rfl, F2, h1, h2, h3⟩; have H3 := hidv_ (HA.out.act h1 h2 h3); clear h1 h2 h3))
        go_roundw
        case rel => exact ⟨j + 1, F2, by omega, by go_num, H3⟩
        case measure => simp [intOf]; omega
    · have hjM : j = M := by omega
      have hd1 : decide ((j : Int) < (M : Int)) = false := decide_eq_false (by omega)
      have hd2 : decide (j < M) = false := decide_eq_false hlt
      have e8 : IntKind.u8.wrap (k : Int) = (k : Int) := IntWalk.u8_in _ (by omega)
      have HJ := hidv_ hjM
      have hk64 : k < min j 64 := by omega
      have hl0 : ([[], [], fullL j, []] : List (List (List UInt8))).getD (1 * 2) [] = fullL j := rfl
      have cc := copy_yes HI.out.net 1 (by omega) k (by rw [hl0, fullL_len]; exact hk64) (by rw [hl0, fullL_len]; omega)
      rw [hl0, fullL_get j k hk64, fullL_err] at cc
      obtain ⟨l1, hl1⟩ : ∃ l, l = (if j < 64 then fullL j ++ [one8 k] else fullL j) := ⟨_, rfl⟩
      have hadd : addL [[], [], fullL j, []] 1 (one8 k) = [[], [], l1, []] := by
        unfold addL
        rw [hl0, fullL_len, hl1]
        by_cases h : j < 64
        · rw [if_neg (by omega), if_pos h]; rfl
        · rw [if_pos (by omega), if_neg h]
      rw [hadd] at cc
      have hlen1 : k < l1.length ∧ l1.length ≤ 64 ∧ l1.getD k [] = one8 k := by
        rw [hl1]
        split
        · rw [List.length_append, fullL_len]
          refine ⟨by omega, by simp; omega, ?_⟩
          rw [List.getD_eq_getElem?_getD, List.getElem?_append_left (by rw [fullL_len]; exact hk64), ← List.getD_eq_getElem?_getD]
          exact fullL_get j k hk64
        · rw [fullL_len]
          exact ⟨hk64, by omega, fullL_get j k hk64⟩
      have HL1 := hidv_ hlen1
      clear hl1 hlen1 hadd hl0 hjM hlt hk64
      generalize hz : (if 64 ≤ j then (10 : Int) else 0) = z at *
      have HZ := hidv_ hz
      clear hz
      have c1 : Calls Try.prog 11 #[.pointer (some ⟨p, 0, none⟩), .int .i64 1, .int .i64 (k : Int)] wr (NetP wr p q 2 [[], [], l1, []] F' z) := cc
      clear cc
      go_upto_region 13 with (go_at_call 11; ((with_reducible refine c1.mono ?_); clear c1; rintro e w3 ⟨rfl, F2, h1, h2, h3⟩; have H3 := hidv_ (HI.out.act h1 h2 h3); clear h1 h2 h3))
      have ct := take_yes H3.out.net 1 (by omega) k HL1.out.1 (Nat.le_trans HL1.out.2.1 (by omega)) (show 0 + 1 ≤ 1000000 by omega) 1 (show (l1.getD k []).length = 1 by rw [HL1.out.2.2]; rfl) (by omega)
      have c2 : Calls Try.prog 7 #[.pointer (some ⟨p, 0, none⟩), .int .i64 1, .int .i64 (k : Int)] w3 (TakeP w3 p q 2 [[], [], l1.eraseIdx k, [one8 k]] F2 1 (one8 k)) := by
        have e : takeL [[], [], l1, []] 1 k = [[], [], l1.eraseIdx k, [l1.getD k []]] := rfl
        rw [e] at ct
        have e2 : ([[], [], l1, []] : List (List (List UInt8))).getD (1 * 2) [] = l1 := rfl
        rw [e2, HL1.out.2.2] at ct
        exact ct
      clear ct
      go_upto_region 14 with (go_at_call 7; ((with_reducible refine c2.mono ?_); clear c2; rintro e w4 ⟨A4, c4, F4, rfl, ho, hr, h1, h2, h3⟩; have H4 := hidv_ (H3.out.act h1 h2 h3); have hby := byte_at (show k ≤ 255 by omega) hr; clear ho hr h1 h2 h3))
      obtain ⟨b4, o4, rfl, hcb⟩ := hby
      have c3 : Calls Try.prog 10 #[.pointer (some ⟨p, 0, none⟩), .int .i64 1, .slice none 0 0] w4 (NetP w4 p q 2 [[], [], l1.eraseIdx k ++ [[]], [one8 k]] F4 0) := by
        have h := send_yes H4.out.net 1 (by omega) none 0 0 [] rfl Rd.nil (by omega)
        have e2 : ([[], [], l1.eraseIdx k, [one8 k]] : List (List (List UInt8))).getD (1 * 2) [] = l1.eraseIdx k := rfl
        have e3 : (l1.eraseIdx k).length < 64 := by rw [List.length_eraseIdx, if_pos HL1.out.1]; have := HL1.out; omega
        unfold addL addE at h
        rw [e2, if_neg (by omega), if_neg (by omega)] at h
        exact h
      by_cases h64 : j < 64
      · have d1 : decide ((M : Int) < 64) = true := decide_eq_true (by have := HJ.out; omega)
        have hz : z = 0 := by rw [← HZ.out, if_neg (by omega)]
        subst hz
        clear h64
        go_wp2_with (first
          | (go_at_call 10; ((with_reducible refine c3.mono ?_); clear c3; rintro e w5 ⟨rfl, F5, h1, h2, h3⟩; have H5 := hidv_ (H4.out.act h1 h2 h3); clear h1 h2 h3; have c5 : Calls Try.prog 12 #[.pointer (some ⟨p, 0, none⟩), .int .i64 0] w5 (fun e w' => e = .returned (.int .i64 0) ∧ w5 = w') := len_yes H5.out.net 0 (by omega) 0 rfl))
          | (go_at_call 12; ((with_reducible refine c5.mono ?_); clear c5; rintro e w6 ⟨rfl, rfl⟩)))
        go_ret
        exact ⟨rfl, H5.out.un⟩
      · have d1 : decide ((M : Int) < 64) = false := decide_eq_false (by have := HJ.out; omega)
        have hz : z = 10 := by rw [← HZ.out, if_pos (by omega)]
        subst hz
        clear h64
        go_wp2_with (first
          | (go_at_call 10; ((with_reducible refine c3.mono ?_); clear c3; rintro e w5 ⟨rfl, F5, h1, h2, h3⟩; have H5 := hidv_ (H4.out.act h1 h2 h3); clear h1 h2 h3; have c5 : Calls Try.prog 12 #[.pointer (some ⟨p, 0, none⟩), .int .i64 0] w5 (fun e w' => e = .returned (.int .i64 0) ∧ w5 = w') := len_yes H5.out.net 0 (by omega) 0 rfl))
          | (go_at_call 12; ((with_reducible refine c5.mono ?_); clear c5; rintro e w6 ⟨rfl, rfl⟩)))
        go_ret
        exact ⟨rfl, H5.out.un⟩

set_option maxRecDepth 100000 in
theorem lifted (os : Os) (started : os.Started) (H : Type) (enc : TypeId × Value → H) :
    ReturnsInHanded {} Try.checked os 4 .any (Rows.netFullSpec.pre6 enc Try.prog Try.f4 Rows.netFullRow.domain false) (Rows.netFullSpec.post enc Try.prog Try.f4 false true false false) := by
  refine returnsInHanded_of_change (C := Try.checked) own_ started (by kernel_rfl) Try.func4
    (ChangeSpec.witness6 (enc := enc) (C := Try.checked) false ⟨#[], #[.int .i64 0, .int .i64 0], []⟩ 8 (by kernel_rfl) (by kernel_rfl) (by kernel_rfl) (by kernel_rfl)) ?_
  intro W base args ds gs before hval0 hW hcnd _
  have hval : ∀ (j : Nat) t v, Try.f4.params[j]? = some t → args[j]? = some v → Value.okWide Try.prog W .any base t v := hval0
  have hW' := hW
  obtain ⟨p, q, hA0, hV, rfl, hfz, hnd⟩ := hW
  have hA : DataW.TrodAll enc Try.prog W 0 (fun _ => true) true Try.f4.params.toList args.toList ds p := hA0
  rw [Try.params4] at hA hval
  obtain ⟨v0, vs0, d0, ds0, p0, q0, hargs, rfl, rfl, h0, r0⟩ := trodAll_cons hA
  obtain ⟨v1, vs1, d1, ds1, p1, q1, rfl, rfl, rfl, h1, r1⟩ := trodAll_cons r0
  obtain ⟨rfl, rfl, rfl⟩ := trodAll_nil r1
  obtain rfl : args = #[v0, v1] := by cases args; simp_all
  obtain ⟨rfl, rfl⟩ := trodVars_none hV
  obtain ⟨a0, rfl, rfl, rfl, w0⟩ := open_int Try.underlying3 (hval 0 3 v0 rfl rfl) h0
  obtain ⟨a1, rfl, rfl, rfl, w1⟩ := open_int Try.underlying3 (hval 1 3 v1 rfl rfl) h1
  refine (walk W a0 a1).mono fun e W' ⟨he, hg⟩ => ⟨_, he, ?_⟩
  exact law_post laidOut_ (of_decide_eq_true (by kernel_rfl)) rfl rfl Try.underlying4 rfl hW' hg

theorem over : Rows.netFullRow.holds Try.pinned (OpenSpec.ofChange Rows.netFullSpec) :=
  OpenClaim.holds_of_wide 4 Try.f4 rfl rfl rfl rfl rfl rfl rfl ⟨rfl, rfl, rfl, rfl, rfl⟩ rfl rfl rfl rfl rfl (by kernel_rfl) Try.func4 (by kernel_rfl)
    (of_decide_eq_true (by kernel_rfl)) (by unfold Func.isWrapper; first | (rw [if_pos (by decide +kernel)]; kernel_rfl) | (rw [if_neg (by decide +kernel)]; exact ⟨rfl, rfl⟩))
    (fun os started H enc _ => lifted os started H enc)

theorem proved : Rows.NetFullSaid := over
#print axioms proved
end Go.Proofs.Ytdkemjipbkanoaa.netFull
