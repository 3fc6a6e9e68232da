/-
  Proved: for all keys, texts and places HmacParts answers true: parted otherwise, a text has the same digest. No condition.
-/
import Derived.Test.YtjfidfcfhdkciabDoorHh
namespace Go.Proofs.YtjfidfcfhdkciabDoor.hmacParts
open Go.ChangeShapes Go.WideShapes Go.ChangeAt Go.RowKit
set_option linter.unusedVariables false
set_option linter.unusedSimpArgs false

theorem hid_ {p : Prop} (h : p) : Hid p := h
/-- What each operation of the last line leaves. -/
def PtR (vk vb v1 v2 : Value) (k : Nat) (dg : List UInt8) : Nat → Value → World → Prop
  | 0, v, _ => v = .bool true
  | 1, v, _ => v = .bool true
  | 2, v, _ => v = vk
  | 3, v, _ => v = vb
  | 4, v, _ => v = .int .i64 (k : Int)
  | 5, v, _ => v = v1
  | 6, v, _ => v = vb
  | 7, v, _ => v = .int .i64 (k : Int)
  | 8, v, _ => v = v2
  | 9, v, W => ∃ h, v = .slice (some ⟨h, 0, none⟩) 3 3 ∧ Bk W h 29 #[v1, .slice none 0 0, v2]
  | 10, v, _ => v = .agg (rowOf dg)
  | 11, v, _ => v = vk
  | 12, v, _ => v = vb
  | 13, v, W => ∃ h, v = .slice (some ⟨h, 0, none⟩) 1 1 ∧ Bk W h 29 #[vb]
  | 14, v, _ => v = .agg (rowOf dg)
  | 15, v, _ => v = .bool true
  | 16, v, _ => v = .bool true
  | 17, v, _ => v = .bool true
  | _, _, _ => True
theorem PtR.stable {vk vb v1 v2 : Value} {k : Nat} {dg : List UInt8} {W W' : World} (hT : Below W.heap.size W W') : ∀ (j : Nat) (v : Value), PtR vk vb v1 v2 k dg j v W → PtR vk vb v1 v2 k dg j v W'
  | 0, _, h => h
  | 1, _, h => h
  | 2, _, h => h
  | 3, _, h => h
  | 4, _, h => h
  | 5, _, h => h
  | 6, _, h => h
  | 7, _, h => h
  | 8, _, h => h
  | 9, _, h => by
    obtain ⟨q, h1, h2⟩ := h
    exact ⟨q, h1, h2.below hT h2.lt⟩
  | 10, _, h => h
  | 11, _, h => h
  | 12, _, h => h
  | 13, _, h => by
    obtain ⟨q, h1, h2⟩ := h
    exact ⟨q, h1, h2.below hT h2.lt⟩
  | 14, _, h => h
  | 15, _, h => h
  | 16, _, h => h
  | 17, _, h => h
  | _ + 18, _, _ => trivial
theorem parts_three {W : World} {h n1 c1 n2 c2 : Nat} {A1 A2 : Option Addr} {X Y : List UInt8} (hb : Bk W h 29 #[.slice A1 n1 c1, .slice none 0 0, .slice A2 n2 c2]) (hn1 : X.length = n1) (hn2 : Y.length = n2) (hX : Rd W W.heap.size A1 X) (hY : Rd W W.heap.size A2 Y) (hc1 : n1 ≤ c1) (hm1 : c1 ≤ 9223372036854775807) (hc2 : n2 ≤ c2) (hm2 : c2 ≤ 9223372036854775807) : Parts W W.heap.size (some ⟨h, 0, none⟩) [X, [], Y] := by
  subst hn1 hn2
  obtain ⟨h0, h1, h2⟩ : W.cell? ⟨h, 0, none⟩ = some (.slice A1 X.length c1) ∧ W.cell? ⟨h, 1, none⟩ = some (.slice none 0 0) ∧ W.cell? ⟨h, 2, none⟩ = some (.slice A2 Y.length c2) := by
    have h0 := hb.cell 0
    have h1 := hb.cell 1
    have h2 := hb.cell 2
    simp only [List.getElem?_toArray, List.getElem?_cons_zero, List.getElem?_cons_succ] at h0 h1 h2
    exact ⟨h0, h1, h2⟩
  refine fun _ => ⟨h, 0, rfl, hb.lt, fun j hj => ?_⟩
  have hj3 : j < 3 := hj
  rcases j with _ | _ | _ | j
  · exact ⟨_, _, h0, hX, hc1, hm1⟩
  · exact ⟨_, _, h1, Rd.nil, Nat.le_refl _, by show 0 ≤ _; omega⟩
  · exact ⟨_, _, h2, hY, hc2, hm2⟩
  · omega
theorem parts_1 {W : World} {h n1 c1 : Nat} {A1 : Option Addr} {X : List UInt8} (hb : Bk W h 29 #[.slice A1 n1 c1]) (hn1 : X.length = n1) (hX : Rd W W.heap.size A1 X) (hc1 : n1 ≤ c1) (hm1 : c1 ≤ 9223372036854775807) : Parts W W.heap.size (some ⟨h, 0, none⟩) [X] := by
  subst hn1
  have h0 := hb.cell 0
  simp only [List.getElem?_toArray, List.getElem?_cons_zero] at h0
  refine fun _ => ⟨h, 0, rfl, hb.lt, fun j hj => ?_⟩
  have hj3 : j < 1 := hj
  obtain rfl : j = 0 := by omega
  exact ⟨_, _, h0, hX, hc1, hm1⟩
theorem u64_nat (z : Int) : ∃ x : Nat, IntKind.u64.wrap z = (x : Int) ∧ x ≤ 18446744073709551615 := by
  have h : IntKind.u64.wrap z = z % 18446744073709551616 := by simp [IntKind.wrap, IntKind.signed, IntKind.bits]
  rw [h]
  exact ⟨(z % 18446744073709551616).toNat, by omega, by omega⟩

set_option maxRecDepth 100000 in
set_option maxHeartbeats 8000000 in
theorem walk (w : World) (A9 : Option Addr) (l9 : List UInt8) (c9 : Nat) (hr9 : Rd w w.heap.size A9 l9) (hlc9 : l9.length ≤ c9) (hcm9 : c9 ≤ 9223372036854775807)
    (A8 : Option Addr) (l8 : List UInt8) (c8 : Nat) (hr8 : Rd w w.heap.size A8 l8) (hlc8 : l8.length ≤ c8) (hcm8 : c8 ≤ 9223372036854775807) (z : Int) (ht : Tab w) (hg1 : 0 < w.heap.size) :
    Calls Tryd.prog 8 #[.slice A9 l9.length c9, .slice A8 l8.length c8, .int .i64 z] w fun e w' => e = .returned (.bool true) ∧ Below w.heap.size w w' := by
  obtain ⟨m9, hm9⟩ : ∃ m, m = min l9.length 100 := ⟨_, rfl⟩
  have hmn9 := fun W => run_min2 l9.length 100 m9 hm9 W
  rw [show ((100 : Nat) : Int) = 100 from rfl] at hmn9
  have hs9 := fun W => slice_to A9 l9.length c9 (m9 : Int) m9 rfl (by omega) W
  have M9 := hid_ (show (l9.take 100).length = m9 by rw [List.length_take, hm9, Nat.min_comm])
  have R9 := hid_ (hr9.take 100)
  obtain ⟨m8, hm8⟩ : ∃ m, m = min l8.length 200 := ⟨_, rfl⟩
  have hmn8 := fun W => run_min2 l8.length 200 m8 hm8 W
  rw [show ((200 : Nat) : Int) = 200 from rfl] at hmn8
  have hs8 := fun W => slice_to A8 l8.length c8 (m8 : Int) m8 rfl (by omega) W
  have M8 := hid_ (show (l8.take 200).length = m8 by rw [List.length_take, hm8, Nat.min_comm])
  have R8 := hid_ (hr8.take 200)
  have hb9 : m9 ≤ 100 := by omega
  have hb8 : m8 ≤ 200 := by omega
  have hc9 : m9 ≤ c9 := by omega
  have hc8 : m8 ≤ c8 := by omega
  generalize l9.take 100 = t at *
  generalize l8.take 200 = b at *
  generalize l9.length = n9 at *
  generalize l8.length = n8 at *
  have HT := hid_ ht
  obtain ⟨x, hx, hxb⟩ := u64_nat z
  obtain ⟨k, hk⟩ : ∃ k, x % (m8 + 1) = k := ⟨_, rfl⟩
  have hkm : k ≤ m8 := by have := Nat.mod_lt x (show 0 < m8 + 1 by omega); omega
  have r1 : IntKind.i64.wrap ((m8 : Int) + 1) = (m8 : Int) + 1 := IntWalk.i64_in _ (by omega)
  have r2 : IntKind.u64.wrap ((m8 : Int) + 1) = (m8 : Int) + 1 := IntWalk.u64_in _ (by omega)
  have r3 : (x : Int).tmod ((m8 : Int) + 1) = (k : Int) := by rw [Int.tmod_eq_emod_of_nonneg (by omega), ← hk]; push_cast; rfl
  have r4 : IntKind.u64.wrap (k : Int) = (k : Int) := IntWalk.u64_in _ (by omega)
  have r5 : IntKind.i64.wrap (k : Int) = (k : Int) := IntWalk.i64_in _ (by omega)
  have hst := fun W => slice_to A8 m8 c8 (k : Int) k rfl (by omega) W
  have hsf := fun W => slice_from A8 m8 c8 k hkm W
  have RF := rd_from R8.out c8 k (by rw [M8.out]; exact hkm) (by rw [M8.out]; exact hc8)
  obtain ⟨A7, hA7⟩ : ∃ A7, (if c8 = k then A8 else A8.map (·.add k)) = A7 := ⟨_, rfl⟩
  rw [hA7] at hsf RF
  have R7 := hid_ RF
  have hkc : k ≤ c8 := by omega
  have HK := hid_ hkm
  clear hr9 hr8 hlc9 hlc8 hm9 hm8 ht hA7 RF hk hkm
  go_enter Tryd.func8, Tryd.ntmps8
  go_upto_region 1 with fail
  go_cut [0, 1] (fun s0 s1 wx => s0 = .slice A9 m9 c9 ∧ s1 = .slice A8 m8 c8 ∧ Hid (Below w.heap.size w wx))
  case first =>
    refine region_quiet_in (C := fun W => Below w.heap.size w W) (by kernel_rfl) (by kernel_rfl) ((Below.refl _ _).drew) ?_
    repeat (first | go_big_quiet_skip | (go_big_quiet_want; (first
      | (refine BigFrame.quiet_move _ rfl ?_; go_simp)
      | (refine BigFrame.quiet_assign _ rfl ?_; go_simp)
      | (refine quiet_run (.int .i64 (n9 : Int)) ?_ ?_; (focus (intro W hW; go_simp; done)); go_simp)
      | (refine quiet_run (.int .i64 (n8 : Int)) ?_ ?_; (focus (intro W hW; go_simp; done)); go_simp)
      | (refine quiet_run (.int .i64 (m9 : Int)) ?_ ?_; (focus (intro W hW; go_simp; done)); go_simp)
      | (refine quiet_run (.int .i64 (m8 : Int)) ?_ ?_; (focus (intro W hW; go_simp; done)); go_simp)
      | (refine quiet_run (.slice A9 m9 c9) ?_ ?_; (focus (intro W hW; go_simp; done)); go_simp)
      | (refine quiet_run (.slice A8 m8 c8) ?_ ?_; (focus (intro W hW; go_simp; done)); go_simp)); go_big_quiet_on))
    refine wpQuiet_nil ?_
    intro w3 hw3
    have X3 : Hid (Below w.heap.size w w3) := hid_ hw3
    clear hw3
    go_wp2
    go_meet
    exact ⟨rfl, rfl, X3⟩
  case rest =>
    obtain ⟨rfl, rfl, X3⟩ := hcut
    rename_i K hK
    refine hK _ _ ?_
    clear hK
    go_upto_region 3 with fail
    have K3 := hid_ ((R9.out.below X3.out).more X3.out.size)
    have B3 := hid_ ((R8.out.below X3.out).more X3.out.size)
    have S3 := hid_ (((R8.out.take k).below X3.out).more X3.out.size)
    have F3 := hid_ ((R7.out.below X3.out).more X3.out.size)
    have LT := hid_ (show (b.take k).length = k by rw [List.length_take, M8.out]; have := HK.out; omega)
    have LD := hid_ (show (b.drop k).length = m8 - k by rw [List.length_drop, M8.out])
    have T3 := hid_ (show Tab wc from fun t h => (X3.out.cell (p := ⟨_, t, none⟩) hg1).trans (HT.out t h))
    have g3 : 0 < wc.heap.size := Nat.lt_of_lt_of_le hg1 X3.out.size
    have hf3 : ([b.take k, [], b.drop k] : List (List UInt8)).flatten = b := by simp
    have hf1 : ([b] : List (List UInt8)).flatten = b := by simp
    have HF3 := hid_ hf3
    have HF1 := hid_ hf1
    obtain ⟨dg, hdg⟩ : ∃ dg, hmacB t b = dg := ⟨_, rfl⟩
    have HDG := hid_ hdg
    have DL := hid_ (show dg.length = 32 by rw [← hdg]; exact hmacB_len _ _)
    have E1 := hid_ (eqIn32 dg dg DL.out DL.out)
    rw [show (dg == dg) = true by simp] at E1
    clear hf3 hf1 hdg
    refine region_byJF [26, 27, 28, 29, 30, 31, 32, 33, 34, 35, 36, 37, 38, 39, 40, 41, 42, 6] (fun W => Below wc.heap.size wc W) (fun W W' => Below W.heap.size W W') (PtR (.slice A9 m9 c9) (.slice A8 m8 c8) (.slice A8 k c8) (.slice A7 (m8 - k) (c8 - k)) k dg) (fun _ _ _ => True) (by kernel_rfl) (by kernel_rfl) (by kernel_rfl) (by kernel_rfl) (fun j v w w' hT hr => ?_) (fun j v w hlt hj _ => ?_) (below_drewN (Below.refl _ _) 1) ?_ trivial ?_
    · exact PtR.stable hT j v hr
    · rcases j with _ | _ | _ | _ | _ | _ | _ | _ | _ | _ | _ | _ | _ | _ | _ | _ | _ | _ | j
      all_goals first
        | (exfalso; simp [dstOf] at hj; done)
        | trivial
    · refine ⟨fun D a W hC hd hsz hf hv hJ hL hW K hK => ?_, fun D a W hC hd hsz hf hv hJ hL hW K hK => ?_, fun D a W hC hd hsz hf hv hJ hL hW K hK => ?_, fun D a W hC hd hsz hf hv hJ hL hW K hK => ?_, fun D a W hC hd hsz hf hv hJ hL hW K hK => ?_, fun D a W hC hd hsz hf hv hJ hL hW K hK => ?_, fun D a W hC hd hsz hf hv hJ hL hW K hK => ?_, fun D a W hC hd hsz hf hv hJ hL hW K hK => ?_, fun D a W hC hd hsz hf hv hJ hL hW K hK => ?_, fun D a W hC hd hsz hf hv hJ hL hW K hK => ?_, fun D a W hC hd hsz hf hv hJ hL hW K hK => ?_, fun D a W hC hd hsz hf hv hJ hL hW K hK => ?_, fun D a W hC hd hsz hf hv hJ hL hW K hK => ?_, fun D a W hC hd hsz hf hv hJ hL hW K hK => ?_, fun D a W hC hd hsz hf hv hJ hL hW K hK => ?_, fun D a W hC hd hsz hf hv hJ hL hW K hK => ?_, fun D a W hC hd hsz hf hv hJ hL hW K hK => ?_, fun D a W hC hd hsz hf hv hJ hL hW K hK => ?_, trivial⟩
      · clear hsz
        have ck := keyed_any W (fun t h => (hC.cell (p := ⟨_, t, none⟩) g3).trans (T3.out t h)) (Nat.lt_of_lt_of_le g3 hC.size)
        refine step_callx 25 #[] (wanted_none rfl) (w' := W) ?_ (ck.mono fun e W2 hh => ?_)
        · go_simp
        · obtain ⟨rfl, hbl⟩ := hh
          exact ⟨_, rfl, hK _ _ (hC.trans (hbl.mono hC.size)) hbl rfl trivial⟩
      · clear hsz
        have e1 := slot_of (a := a) (s := 26) (v := .bool true) (hv 0 (by kernel_rfl))
        refine step_run (wanted_none rfl) (v := .bool true) (w' := W) ?_ (hK _ _ hC (Below.refl _ _) rfl (trivial))
        go_simp
      · clear hsz
        have e1 := slot_of (a := a) (s := 0) (v := .slice A9 m9 c9) (hf 0 (by kernel_rfl))
        refine step_run (wanted_at (j := 1) (s := 27) (b := true) rfl (by kernel_rfl) (hv 1 (by kernel_rfl))) (v := .slice A9 m9 c9) (w' := W) ?_ (hK _ _ hC (Below.refl _ _) rfl (trivial))
        go_simp
      · clear hsz
        have e1 := slot_of (a := a) (s := 1) (v := .slice A8 m8 c8) (hf 1 (by kernel_rfl))
        refine step_run (wanted_at (j := 1) (s := 27) (b := true) rfl (by kernel_rfl) (hv 1 (by kernel_rfl))) (v := .slice A8 m8 c8) (w' := W) ?_ (hK _ _ hC (Below.refl _ _) rfl (trivial))
        go_simp
      · clear hsz
        have e1 := slot_of (a := a) (s := 7) (v := .int .i64 (k : Int)) (hf 7 (by kernel_rfl))
        refine step_run (wanted_at (j := 1) (s := 27) (b := true) rfl (by kernel_rfl) (hv 1 (by kernel_rfl))) (v := .int .i64 (k : Int)) (w' := W) ?_ (hK _ _ hC (Below.refl _ _) rfl (trivial))
        go_simp
      · clear hsz
        have e1 := slot_of (a := a) (s := 29) (v := .slice A8 m8 c8) (hv 3 (by kernel_rfl))
        have e2 := slot_of (a := a) (s := 30) (v := .int .i64 (k : Int)) (hv 4 (by kernel_rfl))
        have h := hst W
        refine step_run (wanted_at (j := 1) (s := 27) (b := true) rfl (by kernel_rfl) (hv 1 (by kernel_rfl))) (v := .slice A8 k c8) (w' := W) ?_ (hK _ _ hC (Below.refl _ _) rfl (trivial))
        go_simp
      · clear hsz
        have e1 := slot_of (a := a) (s := 1) (v := .slice A8 m8 c8) (hf 1 (by kernel_rfl))
        refine step_run (wanted_at (j := 1) (s := 27) (b := true) rfl (by kernel_rfl) (hv 1 (by kernel_rfl))) (v := .slice A8 m8 c8) (w' := W) ?_ (hK _ _ hC (Below.refl _ _) rfl (trivial))
        go_simp
      · clear hsz
        have e1 := slot_of (a := a) (s := 7) (v := .int .i64 (k : Int)) (hf 7 (by kernel_rfl))
        refine step_run (wanted_at (j := 1) (s := 27) (b := true) rfl (by kernel_rfl) (hv 1 (by kernel_rfl))) (v := .int .i64 (k : Int)) (w' := W) ?_ (hK _ _ hC (Below.refl _ _) rfl (trivial))
        go_simp
      · clear hsz
        have e1 := slot_of (a := a) (s := 32) (v := .slice A8 m8 c8) (hv 6 (by kernel_rfl))
        have e2 := slot_of (a := a) (s := 33) (v := .int .i64 (k : Int)) (hv 7 (by kernel_rfl))
        have h := hsf W
        refine step_run (wanted_at (j := 1) (s := 27) (b := true) rfl (by kernel_rfl) (hv 1 (by kernel_rfl))) (v := .slice A7 (m8 - k) (c8 - k)) (w' := W) ?_ (hK _ _ hC (Below.refl _ _) rfl (trivial))
        go_simp
      · clear hsz
        have e1 := slot_of (a := a) (s := 31) (v := .slice A8 k c8) (hv 5 (by kernel_rfl))
        have e2 := slot_of (a := a) (s := 34) (v := .slice A7 (m8 - k) (c8 - k)) (hv 8 (by kernel_rfl))
        have hbl := (Below.refl W.heap.size W).alloc (Nat.le_refl _) (.cells #[.slice A8 k c8, .slice none 0 0, .slice A7 (m8 - k) (c8 - k)] 29)
        refine step_run (wanted_at (j := 1) (s := 27) (b := true) rfl (by kernel_rfl) (hv 1 (by kernel_rfl))) (v := .slice (some ⟨W.heap.size, 0, none⟩) 3 3) (w' := W.alloc (.cells #[.slice A8 k c8, .slice none 0 0, .slice A7 (m8 - k) (c8 - k)] 29)) ?_ (hK _ _ (hC.trans (hbl.mono hC.size)) hbl ⟨_, rfl, Bk.new W _ _⟩ trivial)
        go_simp
      · clear hsz
        obtain ⟨q, eq, hq⟩ : ∃ q, a.tmps.getD 35 undef = .slice (some ⟨q, 0, none⟩) 3 3 ∧ Bk W q 29 #[.slice A8 k c8, .slice none 0 0, .slice A7 (m8 - k) (c8 - k)] := hv 9 (by kernel_rfl)
        have e1 := slot_of (a := a) (s := 35) eq
        have e2 := slot_of (a := a) (s := 28) (v := .slice A9 m9 c9) (hv 2 (by kernel_rfl))
        have tW : Tab W := fun t h => (hC.cell (p := ⟨_, t, none⟩) g3).trans (T3.out t h)
        have ch := hmac_any W A9 m9 c9 t M9.out (by omega) hc9 hcm9 ((K3.out.below hC).more hC.size) (some ⟨q, 0, none⟩) 3 3 [b.take k, [], b.drop k] rfl (parts_three hq LT.out LD.out ((S3.out.below hC).more hC.size) ((F3.out.below hC).more hC.size) hkc hcm8 (by omega) (by omega)) (by omega) (by rw [HF3.out, M8.out]; omega) tW (Nat.lt_of_lt_of_le g3 hC.size)
        rw [HF3.out] at ch
        rw [HDG.out] at ch
        refine step_callx 24 #[.slice A9 m9 c9, .slice (some ⟨q, 0, none⟩) 3 3] (wanted_at (j := 1) (s := 27) (b := true) rfl (by kernel_rfl) (hv 1 (by kernel_rfl))) (w' := W) ?_ (ch.mono fun e W2 hh => ?_)
        · go_simp
        · obtain ⟨rfl, hbl⟩ := hh
          exact ⟨_, rfl, hK _ _ (hC.trans (hbl.mono hC.size)) hbl rfl trivial⟩
      · clear hsz
        have e1 := slot_of (a := a) (s := 0) (v := .slice A9 m9 c9) (hf 0 (by kernel_rfl))
        refine step_run (wanted_at (j := 1) (s := 27) (b := true) rfl (by kernel_rfl) (hv 1 (by kernel_rfl))) (v := .slice A9 m9 c9) (w' := W) ?_ (hK _ _ hC (Below.refl _ _) rfl (trivial))
        go_simp
      · clear hsz
        have e1 := slot_of (a := a) (s := 1) (v := .slice A8 m8 c8) (hf 1 (by kernel_rfl))
        refine step_run (wanted_at (j := 1) (s := 27) (b := true) rfl (by kernel_rfl) (hv 1 (by kernel_rfl))) (v := .slice A8 m8 c8) (w' := W) ?_ (hK _ _ hC (Below.refl _ _) rfl (trivial))
        go_simp
      · clear hsz
        have e1 := slot_of (a := a) (s := 38) (v := .slice A8 m8 c8) (hv 12 (by kernel_rfl))
        have hbl := (Below.refl W.heap.size W).alloc (Nat.le_refl _) (.cells #[.slice A8 m8 c8] 29)
        refine step_run (wanted_at (j := 1) (s := 27) (b := true) rfl (by kernel_rfl) (hv 1 (by kernel_rfl))) (v := .slice (some ⟨W.heap.size, 0, none⟩) 1 1) (w' := W.alloc (.cells #[.slice A8 m8 c8] 29)) ?_ (hK _ _ (hC.trans (hbl.mono hC.size)) hbl ⟨_, rfl, Bk.new W _ _⟩ trivial)
        go_simp
      · clear hsz
        obtain ⟨q, eq, hq⟩ : ∃ q, a.tmps.getD 39 undef = .slice (some ⟨q, 0, none⟩) 1 1 ∧ Bk W q 29 #[.slice A8 m8 c8] := hv 13 (by kernel_rfl)
        have e1 := slot_of (a := a) (s := 39) eq
        have e2 := slot_of (a := a) (s := 37) (v := .slice A9 m9 c9) (hv 11 (by kernel_rfl))
        have tW : Tab W := fun t h => (hC.cell (p := ⟨_, t, none⟩) g3).trans (T3.out t h)
        have ch := hmac_any W A9 m9 c9 t M9.out (by omega) hc9 hcm9 ((K3.out.below hC).more hC.size) (some ⟨q, 0, none⟩) 1 1 [b] rfl (parts_1 hq M8.out ((B3.out.below hC).more hC.size) hc8 hcm8) (by omega) (by rw [HF1.out, M8.out]; omega) tW (Nat.lt_of_lt_of_le g3 hC.size)
        rw [HF1.out] at ch
        rw [HDG.out] at ch
        refine step_callx 24 #[.slice A9 m9 c9, .slice (some ⟨q, 0, none⟩) 1 1] (wanted_at (j := 1) (s := 27) (b := true) rfl (by kernel_rfl) (hv 1 (by kernel_rfl))) (w' := W) ?_ (ch.mono fun e W2 hh => ?_)
        · go_simp
        · obtain ⟨rfl, hbl⟩ := hh
          exact ⟨_, rfl, hK _ _ (hC.trans (hbl.mono hC.size)) hbl rfl trivial⟩
      · clear hsz
        have e1 := slot_of (a := a) (s := 36) (v := .agg (rowOf dg)) (hv 10 (by kernel_rfl))
        have e2 := slot_of (a := a) (s := 40) (v := .agg (rowOf dg)) (hv 14 (by kernel_rfl))
        have h := E1.out W
        refine step_run (wanted_at (j := 1) (s := 27) (b := true) rfl (by kernel_rfl) (hv 1 (by kernel_rfl))) (v := .bool true) (w' := W) ?_ (hK _ _ hC (Below.refl _ _) rfl (trivial))
        go_simp
      · clear hsz
        have e1 := slot_of (a := a) (s := 27) (v := .bool true) (hv 1 (by kernel_rfl))
        have e2 := slot_of (a := a) (s := 41) (v := .bool true) (hv 15 (by kernel_rfl))
        refine step_run (wanted_none rfl) (v := .bool true) (w' := W) ?_ (hK _ _ hC (Below.refl _ _) rfl (trivial))
        go_simp
      · clear hsz
        have e1 := slot_of (a := a) (s := 42) (v := .bool true) (hv 16 (by kernel_rfl))
        refine step_run (wanted_none rfl) (v := .bool true) (w' := W) ?_ (hK _ _ hC (Below.refl _ _) rfl (trivial))
        go_simp
    · intro f w6 hC6 hv6 D6 hD6 hJ6
      have e6 : f 6 = .bool true := hv6 17 (by decide)
      have B6 := hid_ (X3.out.trans (hC6.mono X3.out.size))
      simp only [framed, List.foldl_cons, List.foldl_nil, List.setIfInBounds_toArray, List.set_cons_succ, List.set_cons_zero]
      rw [e6]
      clear hv6 hD6 hJ6 hC6
      go_wp2
      go_ret
      exact ⟨rfl, B6.out⟩

theorem laid_met3 (os : Os) : laidMet Tryd.prog [("casket/sha2.roundWords", Rows.laid_casket_sha2_roundWords)] ((laidWorld os).forCall (fun _ _ => 0) ⟨#[], #[.slice none 0 0, .slice none 0 0, .int .i64 0], []⟩).memory :=
  laidMet_of_run' 8 (by kernel_rfl) (by kernel_rfl)

/-- What the walk gives, for every argument and every world in which the constants lie. -/
theorem contract (H : Type) (enc : TypeId × Value → H) (W : World) (base : Nat) (args : Array Value) (ds gs : List (DataW H)) (before : List MemPlace)
    (hval : ∀ (j : Nat) t v, Tryd.f8.params[j]? = some t → args[j]? = some v → Value.okWide Tryd.prog W .any base t v)
    (hW : DataW.Whole enc Tryd.prog Tryd.f8.params.toList Rows.hmacPartsSpec.vars false W args.toList ds gs before) (hL : laidMetH Tryd.prog Rows.hmacPartsRow.laid W) :
    Calls Tryd.prog 8 args W fun e W' => ∃ v, e = .returned v ∧ Rows.hmacPartsSpec.post enc Tryd.prog Tryd.f8 false true false false W args v W' := by
  obtain ⟨ht, hg1⟩ := tab_of hL
  have hW' := hW
  obtain ⟨p, q, hA0, hV, rfl, hfz, hnd⟩ := hW
  have hA : DataW.TrodAll enc Tryd.prog W 0 (fun _ => true) true Tryd.f8.params.toList args.toList ds p := hA0
  rw [Tryd.params8] at hA hval
  obtain ⟨v0, vs0, d0, ds0, p0, q0, hargs, rfl, rfl, h0, r0⟩ := trodAll_cons hA
  obtain ⟨v1, vs1, d1, ds1, p1, q1, rfl, rfl, rfl, h1, r1⟩ := trodAll_cons r0
  obtain ⟨v2, vs2, d2, ds2, p2, q2, rfl, rfl, rfl, h2, r2⟩ := trodAll_cons r1
  obtain ⟨rfl, rfl, rfl⟩ := trodAll_nil r2
  obtain rfl : args = #[v0, v1, v2] := by cases args; simp_all
  obtain ⟨rfl, rfl⟩ := trodVars_none hV
  obtain ⟨A0, l0, c0, rfl, hr0, hlc0, hcm0⟩ := open_bytes Tryd.underlying29 Tryd.underlying5 (by kernel_rfl) (hval 0 29 v0 rfl rfl) h0
  obtain ⟨A1, l1, c1, rfl, hr1, hlc1, hcm1⟩ := open_bytes Tryd.underlying29 Tryd.underlying5 (by kernel_rfl) (hval 1 29 v1 rfl rfl) h1
  obtain ⟨a2, rfl, rfl, rfl, w2⟩ := open_int Tryd.underlying3 (hval 2 3 v2 rfl rfl) h2
  refine (walk W A0 l0 c0 hr0 hlc0 (by unfold maxLen at hcm0; omega) A1 l1 c1 hr1 hlc1 (by unfold maxLen at hcm1; omega) a2 ht hg1).mono fun e W' ⟨he, hg⟩ => ⟨_, he, ?_⟩
  exact law_post laidOut_ (of_decide_eq_true (by kernel_rfl)) rfl rfl Tryd.underlying4 rfl hW' hg

theorem reads (os : Os) {H : Type} (enc : TypeId × Value → H) : ∃ places, DataW.whole enc Tryd.prog ((laidWorld os).forCall (fun _ _ => 0) ⟨#[], #[.slice none 0 0, .slice none 0 0, .int .i64 0], []⟩).memory Tryd.f8.params.toList Rows.hmacPartsSpec.vars false #[Value.slice none 0 0, Value.slice none 0 0, Value.int .i64 0].toList 8 = some ([.nil, .nil, .lit (.int .i64 0)], [], places) :=
  ⟨[], by kernel_rfl⟩

set_option maxRecDepth 100000 in
theorem lifted (os : Os) (started : os.Started) (H : Type) (enc : TypeId × Value → H) (F : Stop.Interp) :
    ReturnsInHanded {} Tryd.checked os 8 .any ((OpenSpec.ofChange Rows.hmacPartsSpec).preRow enc Tryd.prog Tryd.f8 Rows.hmacPartsRow.domain false Rows.hmacPartsRow.laid) (((OpenSpec.ofChange Rows.hmacPartsSpec).at F).post enc Tryd.prog Tryd.f8 false true false false) := by
  obtain ⟨places, hx⟩ := reads os enc
  refine returnsInHanded_of_row (C := Tryd.checked) (s := OpenSpec.ofChange Rows.hmacPartsSpec) own_ started (by kernel_rfl) Tryd.func8
    (witness_row_at (enc := enc) (C := Tryd.checked) false (laidWorld os) #[.slice none 0 0, .slice none 0 0, .int .i64 0] rfl (by kernel_rfl) (by kernel_rfl) (by kernel_rfl)
      (OpenSpec.preRow_of_cond 8 hx (by kernel_rfl) (fun k hk => by cases hk) (by kernel_rfl) (laid_met3 os))) ?_
  intro W base args ds gs before hval hW _ _ _ hL _ _
  exact contract H enc W base args ds gs before hval hW hL

theorem said : Rows.HmacPartsSaid :=
  OpenClaim.holds_of_cond 8 Tryd.f8 rfl rfl rfl rfl rfl rfl rfl ⟨rfl, rfl, rfl, rfl, rfl⟩ rfl rfl rfl rfl rfl (by kernel_rfl) Tryd.func8 (by kernel_rfl)
    (of_decide_eq_true (by kernel_rfl)) (by unfold Func.isWrapper; first | (rw [if_pos (by decide +kernel)]; kernel_rfl) | (rw [if_neg (by decide +kernel)]; exact ⟨rfl, rfl⟩))
    (fun os started H enc _ F => by rw [OpenClaim.pre_eq_preRow]; exact lifted os started H enc F)

/-- No parameter wants a stand-in; the program's own looks are off: what the card asks. -/
theorem plain (f : FuncId) (fn : Func) (hf : Tryd.pinned.checked.prog.funcNamed "casket/casketlaw03.HmacParts" = some f) (hfn : Tryd.pinned.checked.prog.funcs[f]? = some fn) :
    false = Tryd.pinned.checked.prog.looks [] ∧ ∀ (j : Nat) t, fn.params[j]? = some t → Tryd.pinned.checked.prog.wantsStandIn t = false := by
  obtain rfl : f = 8 := Option.some.inj ((show Tryd.prog.funcNamed "casket/casketlaw03.HmacParts" = some 8 by kernel_rfl).symm.trans hf) |>.symm
  obtain rfl : fn = Tryd.f8 := (Option.some.inj (Tryd.func8.symm.trans hfn)).symm
  refine ⟨by kernel_rfl, fun j t ht => ?_⟩
  rw [Tryd.params8] at ht
  have hm := Array.mem_of_getElem? ht
  simp only [List.mem_toArray, List.mem_cons, List.not_mem_nil, or_false] at hm
  rcases hm with rfl | rfl | rfl
  · exact (show Tryd.prog.wantsStandIn 29 = false by kernel_rfl)
  · exact (show Tryd.prog.wantsStandIn 29 = false by kernel_rfl)
  · exact (show Tryd.prog.wantsStandIn 3 = false by kernel_rfl)

/-- The card. -/
theorem proved : Rows.HmacPartsCardSaid :=
  Claim7.holds_tied_plain_at .later [] _ _ _ _ said (fun _ h => by cases h) (by kernel_rfl) (fun _ h => by cases h) hmacParts_row_tie rfl ⟨rfl, rfl⟩ (by kernel_rfl) rfl plain (by kernel_rfl)
#print axioms proved
end Go.Proofs.YtjfidfcfhdkciabDoor.hmacParts
