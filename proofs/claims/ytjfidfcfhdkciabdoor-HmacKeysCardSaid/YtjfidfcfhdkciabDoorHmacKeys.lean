/-
  Proved: for all keys, texts and counts HmacKeys answers true: a long key has its digest's digests, a key with noughts behind it its own. No condition.
-/
import Derived.Test.YtjfidfcfhdkciabDoorHi
namespace Go.Proofs.YtjfidfcfhdkciabDoor.hmacKeys
open Go.ChangeShapes Go.WideShapes Go.ChangeAt Go.RowKit
set_option linter.unusedVariables false
set_option linter.unusedSimpArgs false

theorem hid_ {p : Prop} (h : p) : Hid p := h
theorem parts_1 {W : World} {h n1 c1 : Nat} {A1 : Option Addr} {X : List UInt8} (hb : Bk W h 29 #[.slice A1 n1 c1]) (hn1 : X.length = n1) (hX : Rd W W.heap.size A1 X) (hc1 : n1 ≤ c1) (hm1 : c1 ≤ 9223372036854775807) : Parts W W.heap.size (some ⟨h, 0, none⟩) [X] := by
  subst hn1
  have h0 := hb.cell 0
  simp only [List.getElem?_toArray, List.getElem?_cons_zero] at h0
  refine fun _ => ⟨h, 0, rfl, hb.lt, fun j hj => ?_⟩
  have hj3 : j < 1 := hj
  obtain rfl : j = 0 := by omega
  exact ⟨_, _, h0, hX, hc1, hm1⟩
theorem u64_nat (z : Int) : ∃ x : Nat, IntKind.u64.wrap z = (x : Int) ∧ x ≤ 18446744073709551615 := by
  have h : IntKind.u64.wrap z = z % 18446744073709551616 := by simp [IntKind.wrap, IntKind.signed, IntKind.bits]
  rw [h]
  exact ⟨(z % 18446744073709551616).toNat, by omega, by omega⟩

/-- What each operation of a line leaves. -/
def KaR (vb : Value) (d2 dg : List UInt8) : Nat → Value → World → Prop
  | 0, v, _ => v = .bool true
  | 1, v, _ => v = .bool true
  | 2, v, _ => v = .agg (rowOf dg)
  | 3, v, _ => v = .string (strOf d2)
  | 4, v, W => ∃ h c, v = .slice (some ⟨h, 0, none⟩) 32 c ∧ Rd W W.heap.size (some ⟨h, 0, none⟩) d2 ∧ 32 ≤ c ∧ c ≤ 9223372036854775807
  | 5, v, _ => v = vb
  | 6, v, W => ∃ h, v = .slice (some ⟨h, 0, none⟩) 1 1 ∧ Bk W h 29 #[vb]
  | 7, v, _ => v = .agg (rowOf dg)
  | 8, v, _ => v = .bool true
  | 9, v, _ => v = .bool true
  | 10, v, _ => v = .bool true
  | _, _, _ => True
theorem KaR.stable {vb : Value} {d2 dg : List UInt8} {W W' : World} (hT : Below W.heap.size W W') : ∀ (j : Nat) (v : Value), KaR vb d2 dg j v W → KaR vb d2 dg j v W'
  | 0, _, h => h
  | 1, _, h => h
  | 2, _, h => h
  | 3, _, h => h
  | 4, _, h => by
    obtain ⟨q, c, h1, h2, h3⟩ := h
    exact ⟨q, c, h1, (h2.below hT).more hT.size, h3⟩
  | 5, _, h => h
  | 6, _, h => by
    obtain ⟨q, h1, h2⟩ := h
    exact ⟨q, h1, h2.below hT h2.lt⟩
  | 7, _, h => h
  | 8, _, h => h
  | 9, _, h => h
  | 10, _, h => h
  | _ + 11, _, _ => trivial
/-- What each operation of a line leaves. -/
def KbR (vl vb : Value) (dg : List UInt8) : Nat → Value → World → Prop
  | 0, v, _ => v = .bool true
  | 1, v, _ => v = .bool true
  | 2, v, _ => v = .agg (rowOf dg)
  | 3, v, _ => v = vl
  | 4, v, _ => v = vb
  | 5, v, W => ∃ h, v = .slice (some ⟨h, 0, none⟩) 1 1 ∧ Bk W h 29 #[vb]
  | 6, v, _ => v = .agg (rowOf dg)
  | 7, v, _ => v = .bool true
  | 8, v, _ => v = .bool true
  | 9, v, _ => v = .bool true
  | _, _, _ => True
theorem KbR.stable {vl vb : Value} {dg : List UInt8} {W W' : World} (hT : Below W.heap.size W W') : ∀ (j : Nat) (v : Value), KbR vl vb dg j v W → KbR vl vb dg j v W'
  | 0, _, h => h
  | 1, _, h => h
  | 2, _, h => h
  | 3, _, h => h
  | 4, _, h => h
  | 5, _, h => by
    obtain ⟨q, h1, h2⟩ := h
    exact ⟨q, h1, h2.below hT h2.lt⟩
  | 6, _, h => h
  | 7, _, h => h
  | 8, _, h => h
  | 9, _, h => h
  | _ + 10, _, _ => trivial

/-- The worlds behind the first digest. -/
structure HkC (w : World) (D : Nat) (dg : List UInt8) (A9 : Option Addr) (t : List UInt8) (A8 : Option Addr) (b : List UInt8) (W : World) : Prop where
  d : Bk W D 34 (rowOf dg)
  key : Rd W W.heap.size A9 t
  text : Rd W W.heap.size A8 b
  tab : Tab W
  low : 0 < W.heap.size
  below : Below w.heap.size w W
theorem HkC.keep {w : World} {D : Nat} {dg : List UInt8} {A9 : Option Addr} {t : List UInt8} {A8 : Option Addr} {b : List UInt8} {W W' : World} (h : HkC w D dg A9 t A8 b W) (hb : Below W.heap.size W W') : HkC w D dg A9 t A8 b W' :=
  ⟨h.d.below hb h.d.lt, (h.key.below hb).more hb.size, (h.text.below hb).more hb.size, fun t ht => (hb.cell (p := ⟨_, t, none⟩) h.low).trans (h.tab t ht), Nat.lt_of_lt_of_le h.low hb.size, h.below.trans (hb.mono h.below.size)⟩

set_option maxRecDepth 100000 in
set_option maxHeartbeats 8000000 in
theorem walk (w : World) (A9 : Option Addr) (l9 : List UInt8) (c9 : Nat) (hr9 : Rd w w.heap.size A9 l9) (hlc9 : l9.length ≤ c9) (hcm9 : c9 ≤ 9223372036854775807)
    (A8 : Option Addr) (l8 : List UInt8) (c8 : Nat) (hr8 : Rd w w.heap.size A8 l8) (hlc8 : l8.length ≤ c8) (hcm8 : c8 ≤ 9223372036854775807) (z : Int) (ht : Tab w) (hg1 : 0 < w.heap.size) :
    Calls Tryd.prog 7 #[.slice A9 l9.length c9, .slice A8 l8.length c8, .int .i64 z] w fun e w' => e = .returned (.bool true) ∧ Below w.heap.size w w' := by
  obtain ⟨m9, hm9⟩ : ∃ m, m = min l9.length 200 := ⟨_, rfl⟩
  have hmn9 := fun W => run_min2 l9.length 200 m9 hm9 W
  rw [show ((200 : Nat) : Int) = 200 from rfl] at hmn9
  have hs9 := fun W => slice_to A9 l9.length c9 (m9 : Int) m9 rfl (by omega) W
  have M9 := hid_ (show (l9.take 200).length = m9 by rw [List.length_take, hm9, Nat.min_comm])
  have R9 := hid_ (hr9.take 200)
  obtain ⟨m8, hm8⟩ : ∃ m, m = min l8.length 200 := ⟨_, rfl⟩
  have hmn8 := fun W => run_min2 l8.length 200 m8 hm8 W
  rw [show ((200 : Nat) : Int) = 200 from rfl] at hmn8
  have hs8 := fun W => slice_to A8 l8.length c8 (m8 : Int) m8 rfl (by omega) W
  have M8 := hid_ (show (l8.take 200).length = m8 by rw [List.length_take, hm8, Nat.min_comm])
  have R8 := hid_ (hr8.take 200)
  have hb9 : m9 ≤ 200 := by omega
  have hb8 : m8 ≤ 200 := by omega
  have hc9 : m9 ≤ c9 := by omega
  have hc8 : m8 ≤ c8 := by omega
  generalize l9.take 200 = t at *
  generalize l8.take 200 = b at *
  generalize l9.length = n9 at *
  generalize l8.length = n8 at *
  have HT := hid_ ht
  obtain ⟨x, hx, hxb⟩ := u64_nat z
  have hz := z32
  obtain ⟨dg, hdg⟩ : ∃ dg, hmacB t b = dg := ⟨_, rfl⟩
  have HDG := hid_ hdg
  have DL := hid_ (show dg.length = 32 by rw [← hdg]; exact hmacB_len _ _)
  have I := hid_ (show (Tryd.prog.info? 34).map (·.size) = some (rowOf dg).size by rw [rowOf_size, DL.out]; exact i32_)
  have Q := hid_ (show (rowOf (zbytes 32)).size = (rowOf dg).size by rw [rowOf_size, rowOf_size, DL.out, zbytes_len])
  have E1 := hid_ (eqIn32 dg dg DL.out DL.out)
  rw [show (dg == dg) = true by simp] at E1
  have HF1 := hid_ (show ([b] : List (List UInt8)).flatten = b by simp)
  clear hr9 hr8 hlc9 hlc8 hm9 hm8 ht hdg
  go_enter Tryd.func7, Tryd.ntmps7
  go_upto_region 1 with fail
  go_cut [0, 1] (fun s0 s1 wx => s0 = .slice A9 m9 c9 ∧ s1 = .slice A8 m8 c8 ∧ Hid (Below w.heap.size w wx))
  case first =>
    refine region_quiet_in (C := fun W => Below w.heap.size w W) (by kernel_rfl) (by kernel_rfl) ((Below.refl _ _).drew) ?_
    repeat (first | go_big_quiet_skip | (go_big_quiet_want; (first
      | (refine BigFrame.quiet_move _ rfl ?_; go_simp)
      | (refine BigFrame.quiet_assign _ rfl ?_; go_simp)
      | (refine quiet_run (.int .i64 (n9 : Int)) ?_ ?_; (focus (intro W hW; go_simp; done)); go_simp)
      | (refine quiet_run (.int .i64 (n8 : Int)) ?_ ?_; (focus (intro W hW; go_simp; done)); go_simp)
      | (refine quiet_run (.int .i64 (m9 : Int)) ?_ ?_; (focus (intro W hW; go_simp; done)); go_simp)
      | (refine quiet_run (.int .i64 (m8 : Int)) ?_ ?_; (focus (intro W hW; go_simp; done)); go_simp)
      | (refine quiet_run (.slice A9 m9 c9) ?_ ?_; (focus (intro W hW; go_simp; done)); go_simp)
      | (refine quiet_run (.slice A8 m8 c8) ?_ ?_; (focus (intro W hW; go_simp; done)); go_simp)); go_big_quiet_on))
    refine wpQuiet_nil ?_
    intro w3 hw3
    have X3 : Hid (Below w.heap.size w w3) := hid_ hw3
    clear hw3
    go_wp2
    go_meet
    exact ⟨rfl, rfl, X3⟩
  case rest =>
    obtain ⟨rfl, rfl, X3⟩ := hcut
    rename_i K hK
    refine hK _ _ ?_
    clear hK
    have B3 := hid_ ((R8.out.below X3.out).more X3.out.size)
    have K3 := hid_ ((R9.out.below X3.out).more X3.out.size)
    obtain ⟨w4, hw4⟩ : ∃ w4, wc.alloc (.cells #[.slice A8 m8 c8] 29) = w4 := ⟨_, rfl⟩
    have b4 : Below wc.heap.size wc w4 := by rw [← hw4]; exact (Below.refl _ _).alloc (Nat.le_refl _) _
    have k4 : Bk w4 wc.heap.size 29 #[.slice A8 m8 c8] := by rw [← hw4]; exact Bk.new wc _ _
    have X4 := hid_ (X3.out.trans (b4.mono X3.out.size))
    have BB4 := hid_ ((B3.out.below b4).more b4.size)
    have KK4 := hid_ ((K3.out.below b4).more b4.size)
    have ch := hmac_any w4 A9 m9 c9 t M9.out (by omega) hc9 hcm9 KK4.out (some ⟨wc.heap.size, 0, none⟩) 1 1 [b] rfl (parts_1 k4 M8.out BB4.out hc8 hcm8) (by omega) (by rw [HF1.out, M8.out]; omega) (fun t h => (X4.out.cell (p := ⟨_, t, none⟩) hg1).trans (HT.out t h)) (Nat.lt_of_lt_of_le hg1 X4.out.size)
    rw [HF1.out, HDG.out] at ch
    clear b4 k4
    go_upto_region 3 with (first
      | (go_at_call 24; ((with_reducible refine ch.mono ?_); rintro e w5 ⟨rfl, hb⟩; have X5 := hid_ (X4.out.trans (hb.mono X4.out.size)); have B5 := hid_ ((BB4.out.below hb).more hb.size); have K5 := hid_ ((KK4.out.below hb).more hb.size); clear hb ch))
      | (refine wpList_put_row rfl 34 _ _ rfl w5.heap.size (rowOf dg) rfl rfl 34 (rowOf (zbytes 32)) (Bk.new w5 _ _) I.out Q.out (bytes_one _) ?_; intro w6 k6 g6 s6; have BX : Below w5.heap.size w5 w6 := (((Below.refl w5.heap.size w5).alloc (Nat.le_refl _) (.cells (rowOf (zbytes 32)) 34)).grown g6 (by simp) (fun k hk => by injection hk with hk; omega)); have S6 : Hid (HkC w w5.heap.size dg A9 t A8 b w6) := hid_ ⟨k6, (K5.out.below BX).more BX.size, (B5.out.below BX).more BX.size, fun t h => ((X5.out.trans (BX.mono X5.out.size)).cell (p := ⟨_, t, none⟩) hg1).trans (HT.out t h), Nat.lt_of_lt_of_le hg1 (X5.out.trans (BX.mono X5.out.size)).size, X5.out.trans (BX.mono X5.out.size)⟩; clear k6 g6 s6 BX))
    rw [put_none]
    generalize w5.heap.size = Dk at *
    clear hw4
    by_cases hbig : 64 < m9
    · have hd1 : decide ((64 : Int) < (m9 : Int)) = true := decide_eq_true (by omega)
      have hd2 : decide (64 < m9) = true := decide_eq_true hbig
      have hcv : (convert 29 9 (.slice A9 m9 c9)).run Tryd.prog w6 = .ok (.string (strOf t)) w6 := conv_strn S6.out.key m9 c9 M9.out
      have cr := refSum_any t w6 (by have := M9.out; omega)
      obtain ⟨d2, hd2e⟩ : ∃ d2, sha t = d2 := ⟨_, rfl⟩
      have L2 := hid_ (show d2.length = 32 by rw [← hd2e]; exact sha_len _)
      have H2 := hid_ (show hmacB d2 b = dg by rw [← hd2e, hmacB_sha t b (by rw [M9.out]; exact hbig), HDG.out])
      rw [hd2e] at cr
      clear hd2e
      go_upto_region 5 with (go_at_call 21; ((with_reducible refine cr.mono ?_); rintro e w7 ⟨rfl, hb⟩; have S7 := hid_ (S6.out.keep hb); clear hb cr))
      have g7 : 0 < w7.heap.size := S7.out.low
      clear hcv hd1 hd2 hbig
      refine region_byJF [31, 32, 33, 34, 35, 36, 37, 38, 39, 40, 6] (fun W => Below w7.heap.size w7 W) (fun W W' => Below W.heap.size W W') (KaR (.slice A8 m8 c8) d2 dg) (fun _ _ _ => True) (by kernel_rfl) (by kernel_rfl) (by kernel_rfl) (by kernel_rfl) (fun j v w w' hT hr => ?_) (fun j v w hlt hj _ => ?_) (below_drewN (Below.refl _ _) 1) ?_ trivial ?_
      · exact KaR.stable hT j v hr
      · rcases j with _ | _ | _ | _ | _ | _ | _ | _ | _ | _ | _ | j
        all_goals first
          | (exfalso; simp [dstOf] at hj; done)
          | trivial
      · refine ⟨fun D a W hC hd hsz hf hv hJ hL hW K hK => ?_, fun D a W hC hd hsz hf hv hJ hL hW K hK => ?_, fun D a W hC hd hsz hf hv hJ hL hW K hK => ?_, fun D a W hC hd hsz hf hv hJ hL hW K hK => ?_, fun D a W hC hd hsz hf hv hJ hL hW K hK => ?_, fun D a W hC hd hsz hf hv hJ hL hW K hK => ?_, fun D a W hC hd hsz hf hv hJ hL hW K hK => ?_, fun D a W hC hd hsz hf hv hJ hL hW K hK => ?_, fun D a W hC hd hsz hf hv hJ hL hW K hK => ?_, fun D a W hC hd hsz hf hv hJ hL hW K hK => ?_, fun D a W hC hd hsz hf hv hJ hL hW K hK => ?_, trivial⟩
        · clear hsz
          have ck := keyed_any W (fun t h => (hC.cell (p := ⟨_, t, none⟩) g7).trans (S7.out.tab t h)) (Nat.lt_of_lt_of_le g7 hC.size)
          refine step_callx 25 #[] (wanted_none rfl) (w' := W) ?_ (ck.mono fun e W2 hh => ?_)
          · go_simp
          · obtain ⟨rfl, hbl⟩ := hh
            exact ⟨_, rfl, hK _ _ (hC.trans (hbl.mono hC.size)) hbl rfl trivial⟩
        · clear hsz
          have e1 := slot_of (a := a) (s := 31) (v := .bool true) (hv 0 (by kernel_rfl))
          refine step_run (wanted_none rfl) (v := .bool true) (w' := W) ?_ (hK _ _ hC (Below.refl _ _) rfl (trivial))
          go_simp
        · clear hsz
          have e7 : a.tmps.getD 7 undef = .pointer (some ⟨Dk, 0, none⟩) := hf 7 (by kernel_rfl)
          exact step_load_rowW (wanted_at (j := 1) (s := 32) (b := true) rfl (by kernel_rfl) (hv 1 (by kernel_rfl))) 34 (.tmp 7) rfl Dk (eval_of e7) 34 (rowOf dg) (S7.out.d.below hC S7.out.d.lt) _ Tryd.underlying34 rfl I.out (hK _ _ hC (Below.refl _ _) rfl trivial)
        · clear hsz
          have e1 := slot_of (a := a) (s := 8) (v := .string (strOf d2)) (hf 8 (by kernel_rfl))
          refine step_run (wanted_at (j := 1) (s := 32) (b := true) rfl (by kernel_rfl) (hv 1 (by kernel_rfl))) (v := .string (strOf d2)) (w' := W) ?_ (hK _ _ hC (Below.refl _ _) rfl (trivial))
          go_simp
        · clear hsz
          have e1 := slot_of (a := a) (s := 34) (v := .string (strOf d2)) (hv 3 (by kernel_rfl))
          obtain ⟨W2, c2, h1, h2, h3, h4, h5⟩ := conv_bytes W d2 32 L2.out (by unfold maxLen; omega)
          refine step_run (wanted_at (j := 1) (s := 32) (b := true) rfl (by kernel_rfl) (hv 1 (by kernel_rfl))) (v := .slice (some ⟨W.heap.size, 0, none⟩) 32 c2) (w' := W2) ?_ (hK _ _ (hC.trans (h2.mono hC.size)) h2 ⟨_, _, rfl, h3, h4, h5⟩ trivial)
          go_simp
        · clear hsz
          have e1 := slot_of (a := a) (s := 1) (v := .slice A8 m8 c8) (hf 1 (by kernel_rfl))
          refine step_run (wanted_at (j := 1) (s := 32) (b := true) rfl (by kernel_rfl) (hv 1 (by kernel_rfl))) (v := .slice A8 m8 c8) (w' := W) ?_ (hK _ _ hC (Below.refl _ _) rfl (trivial))
          go_simp
        · clear hsz
          have e1 := slot_of (a := a) (s := 36) (v := .slice A8 m8 c8) (hv 5 (by kernel_rfl))
          have hbl := (Below.refl W.heap.size W).alloc (Nat.le_refl _) (.cells #[.slice A8 m8 c8] 29)
          refine step_run (wanted_at (j := 1) (s := 32) (b := true) rfl (by kernel_rfl) (hv 1 (by kernel_rfl))) (v := .slice (some ⟨W.heap.size, 0, none⟩) 1 1) (w' := W.alloc (.cells #[.slice A8 m8 c8] 29)) ?_ (hK _ _ (hC.trans (hbl.mono hC.size)) hbl ⟨_, rfl, Bk.new W _ _⟩ trivial)
          go_simp
        · clear hsz
          obtain ⟨q, eq, hq⟩ : ∃ q, a.tmps.getD 37 undef = .slice (some ⟨q, 0, none⟩) 1 1 ∧ Bk W q 29 #[.slice A8 m8 c8] := hv 6 (by kernel_rfl)
          have e1 := slot_of (a := a) (s := 37) eq
          obtain ⟨qk, ck, ek, hk1, hk2, hk3⟩ : ∃ qk ck, a.tmps.getD 35 undef = .slice (some ⟨qk, 0, none⟩) 32 ck ∧ Rd W W.heap.size (some ⟨qk, 0, none⟩) d2 ∧ 32 ≤ ck ∧ ck ≤ 9223372036854775807 := hv 4 (by kernel_rfl)
          have e2 := slot_of (a := a) (s := 35) ek
          have tW : Tab W := fun t h => (hC.cell (p := ⟨_, t, none⟩) g7).trans (S7.out.tab t h)
          have ch := hmac_any W (some ⟨qk, 0, none⟩) 32 ck d2 L2.out (by omega) hk2 hk3 hk1 (some ⟨q, 0, none⟩) 1 1 [b] rfl (parts_1 hq M8.out ((S7.out.text.below hC).more hC.size) hc8 hcm8) (by omega) (by rw [HF1.out, M8.out]; omega) tW (Nat.lt_of_lt_of_le g7 hC.size)
          rw [HF1.out, H2.out] at ch
          refine step_callx 24 #[.slice (some ⟨qk, 0, none⟩) 32 ck, .slice (some ⟨q, 0, none⟩) 1 1] (wanted_at (j := 1) (s := 32) (b := true) rfl (by kernel_rfl) (hv 1 (by kernel_rfl))) (w' := W) ?_ (ch.mono fun e W2 hh => ?_)
          · go_simp
          · obtain ⟨rfl, hbl⟩ := hh
            exact ⟨_, rfl, hK _ _ (hC.trans (hbl.mono hC.size)) hbl rfl trivial⟩
        · clear hsz
          have e1 := slot_of (a := a) (s := 33) (v := .agg (rowOf dg)) (hv 2 (by kernel_rfl))
          have e2 := slot_of (a := a) (s := 38) (v := .agg (rowOf dg)) (hv 7 (by kernel_rfl))
          have h := E1.out W
          refine step_run (wanted_at (j := 1) (s := 32) (b := true) rfl (by kernel_rfl) (hv 1 (by kernel_rfl))) (v := .bool true) (w' := W) ?_ (hK _ _ hC (Below.refl _ _) rfl (trivial))
          go_simp
        · clear hsz
          have e1 := slot_of (a := a) (s := 32) (v := .bool true) (hv 1 (by kernel_rfl))
          have e2 := slot_of (a := a) (s := 39) (v := .bool true) (hv 8 (by kernel_rfl))
          refine step_run (wanted_none rfl) (v := .bool true) (w' := W) ?_ (hK _ _ hC (Below.refl _ _) rfl (trivial))
          go_simp
        · clear hsz
          have e1 := slot_of (a := a) (s := 40) (v := .bool true) (hv 9 (by kernel_rfl))
          refine step_run (wanted_none rfl) (v := .bool true) (w' := W) ?_ (hK _ _ hC (Below.refl _ _) rfl (trivial))
          go_simp
      · intro f w8 hC8 hv8 D8 hD8 hJ8
        have e8 : f 6 = .bool true := hv8 10 (by decide)
        have B8 := hid_ (S7.out.below.trans (hC8.mono S7.out.below.size))
        simp only [framed, List.foldl_cons, List.foldl_nil, List.setIfInBounds_toArray, List.set_cons_succ, List.set_cons_zero]
        rw [e8]
        clear hv8 hD8 hJ8 hC8
        go_wp2
        go_ret
        exact ⟨rfl, B8.out⟩
    · have hd1 : decide ((64 : Int) < (m9 : Int)) = false := decide_eq_false (by omega)
      have hd2 : decide (64 < m9) = false := decide_eq_false hbig
      obtain ⟨q, hq⟩ : ∃ q, 65 - m9 = q := ⟨_, rfl⟩
      have hq0 : ¬ ((q : Int) = 0) := by omega
      have hq1 : ¬ (q = 0) := by omega
      obtain ⟨k, hk⟩ : ∃ k, x % q = k := ⟨_, rfl⟩
      have hkq : m9 + k ≤ 64 := by have := Nat.mod_lt x (show 0 < q by omega); omega
      have r1 : IntKind.i64.wrap (65 - (m9 : Int)) = (q : Int) := by rw [IntWalk.i64_in _ (by omega)]; omega
      have r2 : IntKind.u64.wrap (q : Int) = (q : Int) := IntWalk.u64_in _ (by omega)
      have r3 : (x : Int).tmod (q : Int) = (k : Int) := by rw [Int.tmod_eq_emod_of_nonneg (by omega), ← hk]; push_cast; rfl
      have r4 : IntKind.u64.wrap (k : Int) = (k : Int) := IntWalk.u64_in _ (by omega)
      have r5 : IntKind.i64.wrap (k : Int) = (k : Int) := IntWalk.i64_in _ (by omega)
      clear hk hq hbig
      go_upto_region 7 with fail
      clear hd1 hd2 r1 r2 r3 r4 r5 hq0 hq1
      have hown := Own8.lit w6 w6.heap.size [] (Nat.le_refl _) (Nat.zero_le _)
      have hwal := hid_ ((Below.refl w6.heap.size w6).alloc (Nat.le_refl _) (.cells (rowOf []) 5))
      have hle0 : ([] : List UInt8).length + m9 ≤ 140737488355328 := by simp; omega
      have hsz0 : w6.heap.size ≤ (w6.alloc (.cells (rowOf []) 5)).heap.size := by simp
      have hrt := S6.out.key.alloc (Nat.le_refl _) (.cells (rowOf []) 5)
      go_upto_region 8 with (first
        | (at_builtin; refine wpList_app rfl (.tmp 49) (.tmp 50) rfl hown rfl m9 c9 rfl hrt M9.out hle0 hsz0 ?_; (intro A0 c0 w7 k1 k2 k3; have O1 := hid_ (show Own8 w7 w6.heap.size (.slice A0 m9 c0) t by simpa using k1); have X7 := hid_ (hwal.out.grown k2 hsz0 (fun k hk => by simp [Value.ownBlock] at hk; omega)); clear k1 k2 k3 hrt hown))
        | (at_builtin; refine wpList_appZ rfl (.tmp 51) (.tmp 52) rfl O1.out rfl k rfl (by rw [M9.out]; omega) X7.out.size ?_; (intro A1 c1 w8 k1 k2 k3; rw [M9.out] at k1 ⊢; have O2 := hid_ k1; have X8 := hid_ (X7.out.grown k2 X7.out.size (fun k hk => (World.ownsRow.lt O1.out k hk).1)); clear k1 k2 k3)))
      have S8 := hid_ (S6.out.keep X8.out)
      have g8 : 0 < w8.heap.size := S8.out.low
      have RL := hid_ O2.out.rd.1
      have CL := hid_ O2.out.cap
      have LL := hid_ (show (t ++ List.replicate k (0 : UInt8)).length = m9 + k by rw [List.length_append, List.length_replicate, M9.out])
      have H8 := hid_ (show hmacB (t ++ List.replicate k 0) b = dg by rw [hmacB_zeros t b k (by rw [M9.out]; exact hkq), HDG.out])
      generalize t ++ List.replicate k (0 : UInt8) = tl at *
      obtain ⟨n10, hn10⟩ : ∃ n, m9 + k = n := ⟨_, rfl⟩
      rw [hn10] at LL CL ⊢
      clear hle0 hsz0 O1 O2 X7 hwal
      refine region_byJF [54, 55, 56, 57, 58, 59, 60, 61, 62, 6] (fun W => Below w8.heap.size w8 W) (fun W W' => Below W.heap.size W W') (KbR (.slice A1 n10 c1) (.slice A8 m8 c8) dg) (fun _ _ _ => True) (by kernel_rfl) (by kernel_rfl) (by kernel_rfl) (by kernel_rfl) (fun j v w w' hT hr => ?_) (fun j v w hlt hj _ => ?_) (below_drewN (Below.refl _ _) 1) ?_ trivial ?_
      · exact KbR.stable hT j v hr
      · rcases j with _ | _ | _ | _ | _ | _ | _ | _ | _ | _ | j
        all_goals first
          | (exfalso; simp [dstOf] at hj; done)
          | trivial
      · refine ⟨fun D a W hC hd hsz hf hv hJ hL hW K hK => ?_, fun D a W hC hd hsz hf hv hJ hL hW K hK => ?_, fun D a W hC hd hsz hf hv hJ hL hW K hK => ?_, fun D a W hC hd hsz hf hv hJ hL hW K hK => ?_, fun D a W hC hd hsz hf hv hJ hL hW K hK => ?_, fun D a W hC hd hsz hf hv hJ hL hW K hK => ?_, fun D a W hC hd hsz hf hv hJ hL hW K hK => ?_, fun D a W hC hd hsz hf hv hJ hL hW K hK => ?_, fun D a W hC hd hsz hf hv hJ hL hW K hK => ?_, fun D a W hC hd hsz hf hv hJ hL hW K hK => ?_, trivial⟩
        · clear hsz
          have ck := keyed_any W (fun t h => (hC.cell (p := ⟨_, t, none⟩) g8).trans (S8.out.tab t h)) (Nat.lt_of_lt_of_le g8 hC.size)
          refine step_callx 25 #[] (wanted_none rfl) (w' := W) ?_ (ck.mono fun e W2 hh => ?_)
          · go_simp
          · obtain ⟨rfl, hbl⟩ := hh
            exact ⟨_, rfl, hK _ _ (hC.trans (hbl.mono hC.size)) hbl rfl trivial⟩
        · clear hsz
          have e1 := slot_of (a := a) (s := 54) (v := .bool true) (hv 0 (by kernel_rfl))
          refine step_run (wanted_none rfl) (v := .bool true) (w' := W) ?_ (hK _ _ hC (Below.refl _ _) rfl (trivial))
          go_simp
        · clear hsz
          have e7 : a.tmps.getD 7 undef = .pointer (some ⟨Dk, 0, none⟩) := hf 7 (by kernel_rfl)
          exact step_load_rowW (wanted_at (j := 1) (s := 55) (b := true) rfl (by kernel_rfl) (hv 1 (by kernel_rfl))) 34 (.tmp 7) rfl Dk (eval_of e7) 34 (rowOf dg) (S8.out.d.below hC S8.out.d.lt) _ Tryd.underlying34 rfl I.out (hK _ _ hC (Below.refl _ _) rfl trivial)
        · clear hsz
          have e1 := slot_of (a := a) (s := 10) (v := .slice A1 n10 c1) (hf 10 (by kernel_rfl))
          refine step_run (wanted_at (j := 1) (s := 55) (b := true) rfl (by kernel_rfl) (hv 1 (by kernel_rfl))) (v := .slice A1 n10 c1) (w' := W) ?_ (hK _ _ hC (Below.refl _ _) rfl (trivial))
          go_simp
        · clear hsz
          have e1 := slot_of (a := a) (s := 1) (v := .slice A8 m8 c8) (hf 1 (by kernel_rfl))
          refine step_run (wanted_at (j := 1) (s := 55) (b := true) rfl (by kernel_rfl) (hv 1 (by kernel_rfl))) (v := .slice A8 m8 c8) (w' := W) ?_ (hK _ _ hC (Below.refl _ _) rfl (trivial))
          go_simp
        · clear hsz
          have e1 := slot_of (a := a) (s := 58) (v := .slice A8 m8 c8) (hv 4 (by kernel_rfl))
          have hbl := (Below.refl W.heap.size W).alloc (Nat.le_refl _) (.cells #[.slice A8 m8 c8] 29)
          refine step_run (wanted_at (j := 1) (s := 55) (b := true) rfl (by kernel_rfl) (hv 1 (by kernel_rfl))) (v := .slice (some ⟨W.heap.size, 0, none⟩) 1 1) (w' := W.alloc (.cells #[.slice A8 m8 c8] 29)) ?_ (hK _ _ (hC.trans (hbl.mono hC.size)) hbl ⟨_, rfl, Bk.new W _ _⟩ trivial)
          go_simp
        · clear hsz
          obtain ⟨q, eq, hq⟩ : ∃ q, a.tmps.getD 59 undef = .slice (some ⟨q, 0, none⟩) 1 1 ∧ Bk W q 29 #[.slice A8 m8 c8] := hv 5 (by kernel_rfl)
          have e1 := slot_of (a := a) (s := 59) eq
          have e2 := slot_of (a := a) (s := 57) (v := .slice A1 n10 c1) (hv 3 (by kernel_rfl))
          have tW : Tab W := fun t h => (hC.cell (p := ⟨_, t, none⟩) g8).trans (S8.out.tab t h)
          have ch := hmac_any W A1 n10 c1 tl LL.out (by omega) CL.out.1 CL.out.2 ((RL.out.below hC).more hC.size) (some ⟨q, 0, none⟩) 1 1 [b] rfl (parts_1 hq M8.out ((S8.out.text.below hC).more hC.size) hc8 hcm8) (by omega) (by rw [HF1.out, M8.out]; omega) tW (Nat.lt_of_lt_of_le g8 hC.size)
          rw [HF1.out, H8.out] at ch
          refine step_callx 24 #[.slice A1 n10 c1, .slice (some ⟨q, 0, none⟩) 1 1] (wanted_at (j := 1) (s := 55) (b := true) rfl (by kernel_rfl) (hv 1 (by kernel_rfl))) (w' := W) ?_ (ch.mono fun e W2 hh => ?_)
          · go_simp
          · obtain ⟨rfl, hbl⟩ := hh
            exact ⟨_, rfl, hK _ _ (hC.trans (hbl.mono hC.size)) hbl rfl trivial⟩
        · clear hsz
          have e1 := slot_of (a := a) (s := 56) (v := .agg (rowOf dg)) (hv 2 (by kernel_rfl))
          have e2 := slot_of (a := a) (s := 60) (v := .agg (rowOf dg)) (hv 6 (by kernel_rfl))
          have h := E1.out W
          refine step_run (wanted_at (j := 1) (s := 55) (b := true) rfl (by kernel_rfl) (hv 1 (by kernel_rfl))) (v := .bool true) (w' := W) ?_ (hK _ _ hC (Below.refl _ _) rfl (trivial))
          go_simp
        · clear hsz
          have e1 := slot_of (a := a) (s := 55) (v := .bool true) (hv 1 (by kernel_rfl))
          have e2 := slot_of (a := a) (s := 61) (v := .bool true) (hv 7 (by kernel_rfl))
          refine step_run (wanted_none rfl) (v := .bool true) (w' := W) ?_ (hK _ _ hC (Below.refl _ _) rfl (trivial))
          go_simp
        · clear hsz
          have e1 := slot_of (a := a) (s := 62) (v := .bool true) (hv 8 (by kernel_rfl))
          refine step_run (wanted_none rfl) (v := .bool true) (w' := W) ?_ (hK _ _ hC (Below.refl _ _) rfl (trivial))
          go_simp
      · intro f w8 hC8 hv8 D8 hD8 hJ8
        have e8 : f 6 = .bool true := hv8 9 (by decide)
        have B8 := hid_ (S8.out.below.trans (hC8.mono S8.out.below.size))
        simp only [framed, List.foldl_cons, List.foldl_nil, List.setIfInBounds_toArray, List.set_cons_succ, List.set_cons_zero]
        rw [e8]
        clear hv8 hD8 hJ8 hC8
        go_wp2
        go_ret
        exact ⟨rfl, B8.out⟩

theorem laid_met3 (os : Os) : laidMet Tryd.prog [("casket/sha2.roundWords", Rows.laid_casket_sha2_roundWords)] ((laidWorld os).forCall (fun _ _ => 0) ⟨#[], #[.slice none 0 0, .slice none 0 0, .int .i64 0], []⟩).memory :=
  laidMet_of_run' 8 (by kernel_rfl) (by kernel_rfl)

/-- What the walk gives, for every argument and every world in which the constants lie. -/
theorem contract (H : Type) (enc : TypeId × Value → H) (W : World) (base : Nat) (args : Array Value) (ds gs : List (DataW H)) (before : List MemPlace)
    (hval : ∀ (j : Nat) t v, Tryd.f7.params[j]? = some t → args[j]? = some v → Value.okWide Tryd.prog W .any base t v)
    (hW : DataW.Whole enc Tryd.prog Tryd.f7.params.toList Rows.hmacKeysSpec.vars false W args.toList ds gs before) (hL : laidMetH Tryd.prog Rows.hmacKeysRow.laid W) :
    Calls Tryd.prog 7 args W fun e W' => ∃ v, e = .returned v ∧ Rows.hmacKeysSpec.post enc Tryd.prog Tryd.f7 false true false false W args v W' := by
  obtain ⟨ht, hg1⟩ := tab_of hL
  have hW' := hW
  obtain ⟨p, q, hA0, hV, rfl, hfz, hnd⟩ := hW
  have hA : DataW.TrodAll enc Tryd.prog W 0 (fun _ => true) true Tryd.f7.params.toList args.toList ds p := hA0
  rw [Tryd.params7] at hA hval
  obtain ⟨v0, vs0, d0, ds0, p0, q0, hargs, rfl, rfl, h0, r0⟩ := trodAll_cons hA
  obtain ⟨v1, vs1, d1, ds1, p1, q1, rfl, rfl, rfl, h1, r1⟩ := trodAll_cons r0
  obtain ⟨v2, vs2, d2, ds2, p2, q2, rfl, rfl, rfl, h2, r2⟩ := trodAll_cons r1
  obtain ⟨rfl, rfl, rfl⟩ := trodAll_nil r2
  obtain rfl : args = #[v0, v1, v2] := by cases args; simp_all
  obtain ⟨rfl, rfl⟩ := trodVars_none hV
  obtain ⟨A0, l0, c0, rfl, hr0, hlc0, hcm0⟩ := open_bytes Tryd.underlying29 Tryd.underlying5 (by kernel_rfl) (hval 0 29 v0 rfl rfl) h0
  obtain ⟨A1, l1, c1, rfl, hr1, hlc1, hcm1⟩ := open_bytes Tryd.underlying29 Tryd.underlying5 (by kernel_rfl) (hval 1 29 v1 rfl rfl) h1
  obtain ⟨a2, rfl, rfl, rfl, w2⟩ := open_int Tryd.underlying3 (hval 2 3 v2 rfl rfl) h2
  refine (walk W A0 l0 c0 hr0 hlc0 (by unfold maxLen at hcm0; omega) A1 l1 c1 hr1 hlc1 (by unfold maxLen at hcm1; omega) a2 ht hg1).mono fun e W' ⟨he, hg⟩ => ⟨_, he, ?_⟩
  exact law_post laidOut_ (of_decide_eq_true (by kernel_rfl)) rfl rfl Tryd.underlying4 rfl hW' hg

theorem reads (os : Os) {H : Type} (enc : TypeId × Value → H) : ∃ places, DataW.whole enc Tryd.prog ((laidWorld os).forCall (fun _ _ => 0) ⟨#[], #[.slice none 0 0, .slice none 0 0, .int .i64 0], []⟩).memory Tryd.f7.params.toList Rows.hmacKeysSpec.vars false #[Value.slice none 0 0, Value.slice none 0 0, Value.int .i64 0].toList 8 = some ([.nil, .nil, .lit (.int .i64 0)], [], places) :=
  ⟨[], by kernel_rfl⟩

set_option maxRecDepth 100000 in
theorem lifted (os : Os) (started : os.Started) (H : Type) (enc : TypeId × Value → H) (F : Stop.Interp) :
    ReturnsInHanded {} Tryd.checked os 7 .any ((OpenSpec.ofChange Rows.hmacKeysSpec).preRow enc Tryd.prog Tryd.f7 Rows.hmacKeysRow.domain false Rows.hmacKeysRow.laid) (((OpenSpec.ofChange Rows.hmacKeysSpec).at F).post enc Tryd.prog Tryd.f7 false true false false) := by
  obtain ⟨places, hx⟩ := reads os enc
  refine returnsInHanded_of_row (C := Tryd.checked) (s := OpenSpec.ofChange Rows.hmacKeysSpec) own_ started (by kernel_rfl) Tryd.func7
    (witness_row_at (enc := enc) (C := Tryd.checked) false (laidWorld os) #[.slice none 0 0, .slice none 0 0, .int .i64 0] rfl (by kernel_rfl) (by kernel_rfl) (by kernel_rfl)
      (OpenSpec.preRow_of_cond 8 hx (by kernel_rfl) (fun k hk => by cases hk) (by kernel_rfl) (laid_met3 os))) ?_
  intro W base args ds gs before hval hW _ _ _ hL _ _
  exact contract H enc W base args ds gs before hval hW hL

theorem said : Rows.HmacKeysSaid :=
  OpenClaim.holds_of_cond 7 Tryd.f7 rfl rfl rfl rfl rfl rfl rfl ⟨rfl, rfl, rfl, rfl, rfl⟩ rfl rfl rfl rfl rfl (by kernel_rfl) Tryd.func7 (by kernel_rfl)
    (of_decide_eq_true (by kernel_rfl)) (by unfold Func.isWrapper; first | (rw [if_pos (by decide +kernel)]; kernel_rfl) | (rw [if_neg (by decide +kernel)]; exact ⟨rfl, rfl⟩))
    (fun os started H enc _ F => by rw [OpenClaim.pre_eq_preRow]; exact lifted os started H enc F)

/-- No parameter wants a stand-in; the program's own looks are off: what the card asks. -/
theorem plain (f : FuncId) (fn : Func) (hf : Tryd.pinned.checked.prog.funcNamed "casket/casketlaw03.HmacKeys" = some f) (hfn : Tryd.pinned.checked.prog.funcs[f]? = some fn) :
    false = Tryd.pinned.checked.prog.looks [] ∧ ∀ (j : Nat) t, fn.params[j]? = some t → Tryd.pinned.checked.prog.wantsStandIn t = false := by
  obtain rfl : f = 7 := Option.some.inj ((show Tryd.prog.funcNamed "casket/casketlaw03.HmacKeys" = some 7 by kernel_rfl).symm.trans hf) |>.symm
  obtain rfl : fn = Tryd.f7 := (Option.some.inj (Tryd.func7.symm.trans hfn)).symm
  refine ⟨by kernel_rfl, fun j t ht => ?_⟩
  rw [Tryd.params7] at ht
  have hm := Array.mem_of_getElem? ht
  simp only [List.mem_toArray, List.mem_cons, List.not_mem_nil, or_false] at hm
  rcases hm with rfl | rfl | rfl
  · exact (show Tryd.prog.wantsStandIn 29 = false by kernel_rfl)
  · exact (show Tryd.prog.wantsStandIn 29 = false by kernel_rfl)
  · exact (show Tryd.prog.wantsStandIn 3 = false by kernel_rfl)

/-- The card. -/
theorem proved : Rows.HmacKeysCardSaid :=
  Claim7.holds_tied_plain_at .later [] _ _ _ _ said (fun _ h => by cases h) (by kernel_rfl) (fun _ h => by cases h) hmacKeys_row_tie rfl ⟨rfl, rfl⟩ (by kernel_rfl) rfl plain (by kernel_rfl)
#print axioms proved
end Go.Proofs.YtjfidfcfhdkciabDoor.hmacKeys
