/-
  The document's Write of a message: its parts (in, row, list).
-/
import Derived.Test.YtnlipmcnpekifaaMtq
namespace Go.Proofs.Ytnlipmcnpekifaa
set_option maxRecDepth 100000
open Go.RowKit
set_option linter.unusedVariables false
set_option linter.unusedSimpArgs false

set_option maxRecDepth 100000 in
set_option maxHeartbeats 4000000 in
theorem rin_any (w : World) (n lo hi : Int) : Calls Try.prog 26 #[.int .i64 n, .int .i64 lo, .int .i64 hi] w fun e w' => e = .returned (.bool (decide (lo ≤ n ∧ n ≤ hi))) ∧ Below w.heap.size w w' := by
  by_cases h1 : lo ≤ n
  · by_cases h2 : n ≤ hi
    · have e : decide (lo ≤ n ∧ n ≤ hi) = true := decide_eq_true ⟨h1, h2⟩
      rw [e]
      clear e
      go_enter Try.func26, Try.ntmps26
      go_wp2
      go_ret
      exact ⟨rfl, Below.refl _ _⟩
    · have e : decide (lo ≤ n ∧ n ≤ hi) = false := decide_eq_false (fun h => h2 h.2)
      rw [e]
      clear e
      go_enter Try.func26, Try.ntmps26
      go_wp2
      go_ret
      exact ⟨rfl, Below.refl _ _⟩
  · have e : decide (lo ≤ n ∧ n ≤ hi) = false := decide_eq_false (fun h => h1 h.1)
    rw [e]
    clear e
    go_enter Try.func26, Try.ntmps26
    go_wp2
    go_ret
    exact ⟨rfl, Below.refl _ _⟩
set_option maxRecDepth 100000 in
set_option maxHeartbeats 4000000 in
theorem rrow_any (w : World) (K S : List UInt8) (hK : K.length ≤ 100000000) (hS : S.length ≤ 100000000) : Calls Try.prog 29 #[.agg (rr K S)] w fun e w' => e = .returned (.tuple #[.string (strOf (krB ⟨K, S⟩)), .bool (decide (S.length ≤ 1048576))]) ∧ Below w.heap.size w w' := by
  obtain ⟨g, hg⟩ : ∃ g, w.heap.size = g := ⟨_, rfl⟩
  obtain ⟨w1, hw1⟩ : ∃ x, w.alloc (.cells (rr K S) 23) = x := ⟨_, rfl⟩
  have B1 := hidm_ (show Below w.heap.size w w1 by rw [← hw1]; exact (Below.refl _ _).alloc (Nat.le_refl _) _)
  have M1 := hidm_ (show Bk w1 g 23 (rr K S) by rw [← hw1, ← hg]; exact Bk.new w _ _)
  obtain ⟨n, hn⟩ : ∃ n, S.length = n := ⟨_, rfl⟩
  obtain ⟨X, hX⟩ : ∃ X, highB 4 n ++ S = X := ⟨_, rfl⟩
  have hX2 : krB ⟨K, S⟩ = K ++ X := by rw [← hX, ← hn]; rfl
  have hXl : X.length ≤ 100000004 := by rw [← hX, List.length_append, highB_len]; omega
  rw [hX2, hn]
  obtain ⟨b, hb⟩ : ∃ b, decide (n ≤ 1048576) = b := ⟨_, rfl⟩
  have hb2 : decide ((n : Int) ≤ 1048576) = b := by rw [← hb, decide_eq_decide]; omega
  have hap := strOf_append K X
  have had : (strOf K).size + (strOf X).size ≤ 9223372036854775807 := by rw [strOf_size, strOf_size]; omega
  have hs1 : (strOf S).size = n := by rw [strOf_size, hn]
  have CB : Hid (∀ W, Below w1.heap.size w1 W → Calls Try.prog 56 #[.string (strOf S)] W fun e w' => e = .returned (.string (strOf X)) ∧ Below w1.heap.size w1 w') := hidm_ (fun W h => (refBytes_any W S n hn (by omega)).mono fun e w' hh => ⟨by rw [hh.1, hX], h.trans (hh.2.mono h.size)⟩)
  have CK := hidm_ (fun W (h : Below w1.heap.size w1 W) => ((M1.out.below h M1.out.lt).cell 0).trans (show (rr K S)[0]? = some (.string (strOf K)) from rfl))
  have CS := hidm_ (fun W (h : Below w1.heap.size w1 W) => ((M1.out.below h M1.out.lt).cell 1).trans (show (rr K S)[1]? = some (.string (strOf S)) from rfl))
  have HG := hidm_ hg
  rw [hb]
  clear hX2 hXl hn hX hb hK hS
  go_enter Try.func29, Try.ntmps29
  go_upto_region 1 with fail
  rename_i K9 hK9
  clear hw1 hg
  refine region_byJF [4, 5, 6, 7, 8, 9, 10, 11, 12, 13, 2, 3] (fun _ => True) (fun _ _ => True) (fun jR_ vR_ (wR_ : World) => (match jR_ with | 0 => vR_ = .pointer (some ⟨g, 0, none⟩) | 1 => vR_ = .string (strOf K) | 2 => vR_ = .pointer (some ⟨g, 1, none⟩) | 3 => vR_ = .string (strOf S) | 4 => vR_ = .string (strOf X) | 5 => vR_ = .string (strOf (K ++ X)) | 6 => vR_ = .pointer (some ⟨g, 1, none⟩) | 7 => vR_ = .string (strOf S) | 8 => vR_ = .int .i64 (n : Int) | 9 => vR_ = .bool b | 10 => vR_ = .string (strOf (K ++ X)) | 11 => vR_ = .bool b | _ => True)) (fun D _ W => Below w1.heap.size w1 W) (by kernel_rfl) (by kernel_rfl) (by kernel_rfl) (by kernel_rfl) (fun j v w w' hT hr => hr) (fun j v w hlt hj _ => ?_) trivial ?_ (below_drewN (Below.refl _ _) 1) ?_
  · rcases j with _ | _ | _ | _ | _ | _ | _ | _ | _ | _ | _ | _ | j
    all_goals first
      | (exfalso; simp [dstOf] at hj; done)
      | trivial
  · refine ⟨fun D a9 W hC hd hsz hf hv hJ hL hW K8 hK => ?_, fun D a9 W hC hd hsz hf hv hJ hL hW K8 hK => ?_, fun D a9 W hC hd hsz hf hv hJ hL hW K8 hK => ?_, fun D a9 W hC hd hsz hf hv hJ hL hW K8 hK => ?_, fun D a9 W hC hd hsz hf hv hJ hL hW K8 hK => ?_, fun D a9 W hC hd hsz hf hv hJ hL hW K8 hK => ?_, fun D a9 W hC hd hsz hf hv hJ hL hW K8 hK => ?_, fun D a9 W hC hd hsz hf hv hJ hL hW K8 hK => ?_, fun D a9 W hC hd hsz hf hv hJ hL hW K8 hK => ?_, fun D a9 W hC hd hsz hf hv hJ hL hW K8 hK => ?_, fun D a9 W hC hd hsz hf hv hJ hL hW K8 hK => ?_, fun D a9 W hC hd hsz hf hv hJ hL hW K8 hK => ?_, trivial⟩
    · clear hsz
      have eS1_ := slot_of (a := a9) (s := 1) (v := .pointer (some ⟨g, 0, none⟩)) (hf 1 (by kernel_rfl))
      refine step_run (wanted_none rfl) (v := .pointer (some ⟨g, 0, none⟩)) (w' := W) ?_ (hK _ _ trivial trivial rfl (hJ))
      go_simp
    · clear hsz
      have eS1_ := slot_of (a := a9) (s := 4) (v := .pointer (some ⟨g, 0, none⟩)) (hv 0 (by kernel_rfl))
      have hc := CK.out W hJ
      refine step_run (wanted_none rfl) (v := .string (strOf K)) (w' := W) ?_ (hK _ _ trivial trivial rfl (hJ))
      go_simp
    · clear hsz
      have eS1_ := slot_of (a := a9) (s := 1) (v := .pointer (some ⟨g, 0, none⟩)) (hf 1 (by kernel_rfl))
      refine step_run (wanted_none rfl) (v := .pointer (some ⟨g, 1, none⟩)) (w' := W) ?_ (hK _ _ trivial trivial rfl (hJ))
      go_simp
    · clear hsz
      have eS1_ := slot_of (a := a9) (s := 6) (v := .pointer (some ⟨g, 1, none⟩)) (hv 2 (by kernel_rfl))
      have hc := CS.out W hJ
      refine step_run (wanted_none rfl) (v := .string (strOf S)) (w' := W) ?_ (hK _ _ trivial trivial rfl (hJ))
      go_simp
    · clear hsz
      have eS1_ := slot_of (a := a9) (s := 7) (v := .string (strOf S)) (hv 3 (by kernel_rfl))
      refine step_callx 56 #[.string (strOf S)] (wanted_none rfl) (w' := W) ?_ ((CB.out W hJ).mono fun e W2 hh => ?_)
      · go_simp
      · obtain ⟨rfl, hB⟩ := hh
        exact ⟨_, rfl, hK _ _ trivial trivial rfl hB⟩
    · clear hsz
      have eS1_ := slot_of (a := a9) (s := 5) (v := .string (strOf K)) (hv 1 (by kernel_rfl))
      have eS2_ := slot_of (a := a9) (s := 8) (v := .string (strOf X)) (hv 4 (by kernel_rfl))
      refine step_run (wanted_none rfl) (v := .string (strOf (K ++ X))) (w' := W) ?_ (hK _ _ trivial trivial rfl (hJ))
      go_simp
    · clear hsz
      have eS1_ := slot_of (a := a9) (s := 1) (v := .pointer (some ⟨g, 0, none⟩)) (hf 1 (by kernel_rfl))
      refine step_run (wanted_none rfl) (v := .pointer (some ⟨g, 1, none⟩)) (w' := W) ?_ (hK _ _ trivial trivial rfl (hJ))
      go_simp
    · clear hsz
      have eS1_ := slot_of (a := a9) (s := 10) (v := .pointer (some ⟨g, 1, none⟩)) (hv 6 (by kernel_rfl))
      have hc := CS.out W hJ
      refine step_run (wanted_none rfl) (v := .string (strOf S)) (w' := W) ?_ (hK _ _ trivial trivial rfl (hJ))
      go_simp
    · clear hsz
      have eS1_ := slot_of (a := a9) (s := 11) (v := .string (strOf S)) (hv 7 (by kernel_rfl))
      refine step_run (wanted_none rfl) (v := .int .i64 (n : Int)) (w' := W) ?_ (hK _ _ trivial trivial rfl (hJ))
      go_simp
    · clear hsz
      have eS1_ := slot_of (a := a9) (s := 12) (v := .int .i64 (n : Int)) (hv 8 (by kernel_rfl))
      refine step_run (wanted_none rfl) (v := .bool b) (w' := W) ?_ (hK _ _ trivial trivial rfl (hJ))
      go_simp
    · clear hsz
      have eS1_ := slot_of (a := a9) (s := 9) (v := .string (strOf (K ++ X))) (hv 5 (by kernel_rfl))
      refine step_run (wanted_none rfl) (v := .string (strOf (K ++ X))) (w' := W) ?_ (hK _ _ trivial trivial rfl (hJ))
      go_simp
    · clear hsz
      have eS1_ := slot_of (a := a9) (s := 13) (v := .bool b) (hv 9 (by kernel_rfl))
      refine step_run (wanted_none rfl) (v := .bool b) (w' := W) ?_ (hK _ _ trivial trivial rfl (hJ))
      go_simp
  · intro f9 w6 hC6 hv6 D6 hD6 hJ6
    obtain ⟨a6, hJ, _⟩ := hJ6
    have e2 : f9 2 = .string (strOf (K ++ X)) := hv6 10 (by decide)
    have e3 : f9 3 = .bool b := hv6 11 (by decide)
    have XB := hidm_ hJ
    clear hv6 hD6 hC6 hJ
    simp only [framed, List.foldl_cons, List.foldl_nil, List.setIfInBounds_toArray, List.set_cons_succ, List.set_cons_zero]
    rw [e2, e3]
    clear e2 e3
    refine hK9 _ _ ?_
    go_wp2
    go_ret2
    exact ⟨rfl, B1.out.trans (XB.out.mono B1.out.size)⟩
/-- What list tells of a row of nodes. -/
def lstB (xs : List Int) : List UInt8 := smallL (xs.length : Int) ++ xs.flatMap numL
def lstOk (xs : List Int) : Prop := xs.length ≤ 255 ∧ ∀ x ∈ xs, 0 ≤ x ∧ x ≤ 255
def LsP (xs : List Int) (w : World) (e : Ending) (w' : World) : Prop := ∃ b : Bool, e = .returned (.tuple #[.string (strOf (lstB xs)), .bool b]) ∧ (b = true ↔ lstOk xs) ∧ Below w.heap.size w w'
theorem flatN_le (l : List Int) : (l.flatMap numL).length ≤ l.length * 8 := flatB_le numL 8 l fun x _ => num_le x
set_option maxRecDepth 100000 in
set_option maxHeartbeats 8000000 in
theorem rlist_any (w : World) (xs : List Int) (A : Option Addr) (n c : Nat) (hn : xs.length = n) (hl : n ≤ 1000) (hr : RdG intE w w.heap.size A xs) (hb : ∀ x ∈ xs, x ≤ 9223372036854775807) :
    Calls Try.prog 30 #[.slice A n c] w (LsP xs w) := by
  have cs := refSmall_any w (n : Int) (by omega)
  have HR := hidm_ hr
  have HB := hidm_ hb
  have HN := hidm_ hn
  obtain ⟨s0, hs0⟩ : ∃ s, smallL (n : Int) = s := ⟨_, rfl⟩
  have HS0 := hidm_ hs0
  have HSL := hidm_ (show s0.length ≤ 1 by rw [← hs0]; exact small_le _)
  obtain ⟨b0, hb0⟩ : ∃ b, decide ((n : Int) ≤ 255) = b := ⟨_, rfl⟩
  have HB0 := hidm_ hb0
  rw [hs0] at cs
  clear hs0 hr hb hn
  go_enter Try.func30, Try.ntmps30
  go_upto_region 3 with (go_at_call 27; ((with_reducible refine cs.mono ?_); clear cs; rintro e w5 ⟨rfl, hb⟩; have B5 := hidm_ hb; clear hb))
  clear hb0
  go_loopw [4, 5, 6] (fun s o i wr => ∃ (k : Nat) (t : List UInt8) (b : Bool), k ≤ n ∧ i = .int .i64 k ∧ s = .string (strOf t) ∧ o = .bool b ∧ Hid (t = s0 ++ (xs.take k).flatMap numL) ∧ Hid (b = true ↔ (n ≤ 255 ∧ ∀ x ∈ xs.take k, 0 ≤ x ∧ x ≤ 255)) ∧ Hid (Below w.heap.size w wr)) (fun _ _ i _ => n - (intOf i).toNat)
  case atStart => exact ⟨0, s0, b0, Nat.zero_le _, rfl, rfl, rfl, hidm_ (by simp), hidm_ (by rw [← HB0.out, decide_eq_true_iff]; exact ⟨fun h => ⟨by omega, fun x hx => (by simp at hx)⟩, fun h => by omega⟩), B5⟩
  case round =>
    obtain ⟨k, t, b, hk, rfl, rfl, rfl, HT, HO, HW⟩ := hrel
    clear B5
    by_cases hlt : k < n
    · have tl : (k : Int) < (n : Int) := by omega
      have t0 : (0 : Int) ≤ (k : Int) := by omega
      have hlk : k < xs.length := by rw [HN.out]; exact hlt
      obtain ⟨bb, off, rfl, hbl, hcb⟩ := HR.out (show 0 < xs.length by omega)
      obtain ⟨z, hz⟩ : ∃ z, xs[k] = z := ⟨_, rfl⟩
      have hzb := HB.out z (by rw [← hz]; exact List.getElem_mem hlk)
      have hcz : wr.cell? ⟨bb, off + k, none⟩ = some (.int .i64 z) := (HW.out.cell (p := ⟨bb, _, none⟩) hbl).trans (by have hx := hcb k hlk 0 (by decide); rw [hz] at hx; rw [show off + k = off + k * 1 + 0 by omega]; exact hx)
      have HTK := hidm_ (show xs.take (k + 1) = xs.take k ++ [z] by rw [List.take_succ_eq_append_getElem hlk, hz])
      have cn := refNum_any wr z hzb
      have hnl := num_le z
      have htl : t.length ≤ 1 + n * 8 := by
        rw [HT.out, List.length_append]
        have h1 := flatN_le (xs.take k)
        have h2 := HSL.out
        have h3 : (xs.take k).length * 8 ≤ n * 8 := Nat.mul_le_mul_right _ (by rw [List.length_take]; omega)
        omega
      obtain ⟨u, hu⟩ : ∃ u, numL z = u := ⟨_, rfl⟩
      rw [hu] at cn hnl
      have HU := hidm_ hu
      have hap := strOf_append t u
      have had : (strOf t).size + (strOf u).size ≤ 9223372036854775807 := by rw [strOf_size, strOf_size]; omega
      have HZ := hidm_ (show (t ++ u) = s0 ++ (xs.take (k + 1)).flatMap numL by rw [HTK.out, List.flatMap_append, HT.out, ← HU.out]; simp)
      obtain ⟨d, hd⟩ : ∃ d, decide (0 ≤ z ∧ z ≤ 255) = d := ⟨_, rfl⟩
      have HD := hidm_ hd
      clear hz hcb hu htl hnl hd hlk
      cases b
      · go_wp2_with (go_at_call 28; ((with_reducible refine cn.mono ?_); clear cn; rintro e w5 ⟨rfl, hb⟩; have hcz := (hb.cell (p := ⟨bb, _, none⟩) (Nat.lt_of_lt_of_le hbl HW.out.size)).trans hcz; have B5 := hidm_ (HW.out.trans (hb.mono HW.out.size)); clear hb))
        go_roundw
        case rel => exact ⟨k + 1, t ++ u, false, by omega, by go_num, rfl, rfl, HZ, hidm_ (by
          have h := HO.out
          constructor
          · intro h; cases h
          · intro h2
            exact h.2 ⟨h2.1, fun x hx => h2.2 x (by rw [HTK.out]; exact List.mem_append_left _ hx)⟩), B5⟩
        case measure => simp [intOf]; omega
      · go_wp2_with (first
          | (go_at_call 28; ((with_reducible refine cn.mono ?_); clear cn; rintro e w5 ⟨rfl, hb⟩; have hcz := (hb.cell (p := ⟨bb, _, none⟩) (Nat.lt_of_lt_of_le hbl HW.out.size)).trans hcz; have B5 := hidm_ (HW.out.trans (hb.mono HW.out.size)); have ci := rin_any w5 z 0 255; clear hb))
          | (go_at_call 26; ((with_reducible refine ci.mono ?_); clear ci; rintro e w6 ⟨rfl, hb⟩; rw [HD.out]; have B6 := hidm_ (B5.out.trans (hb.mono B5.out.size)); clear hb)))
        go_roundw
        case rel => exact ⟨k + 1, t ++ u, d, by omega, by go_num, rfl, rfl, HZ, hidm_ (by
          have h := HO.out.1 (by trivial)
          rw [← HD.out, decide_eq_true_iff, HTK.out]
          constructor
          · intro h2
            refine ⟨h.1, fun x hx => ?_⟩
            rcases List.mem_append.1 hx with hx | hx
            · exact h.2 x hx
            · rw [List.mem_singleton.1 hx]; exact h2
          · intro h2
            exact h2.2 z (by simp)), B6⟩
        case measure => simp [intOf]; omega
    · have tl : ¬ (k : Int) < (n : Int) := by omega
      obtain rfl : n = k := by omega
      have HF := hidm_ (show t = lstB xs by rw [HT.out, ← HS0.out, ← HN.out, List.take_length]; rfl)
      have HOK := hidm_ (show b = true ↔ lstOk xs by rw [HO.out, ← HN.out, List.take_length]; exact Iff.rfl)
      go_wp2
      go_ret2
      exact ⟨b, by rw [← HF.out]; rfl, HOK.out, HW.out⟩
end Go.Proofs.Ytnlipmcnpekifaa
