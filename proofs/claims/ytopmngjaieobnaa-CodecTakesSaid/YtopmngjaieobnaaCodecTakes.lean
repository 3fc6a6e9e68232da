/-
  Proved: for all inputs CodecTakes answers true: of all bytes, and all kinds and limits that are asked, each part is told, or the first thing that is wrong. No condition.
-/
import Derived.Test.YtopmngjaieobnaaGc
import Derived.Test.YtopmngjaieobnaaBx
import Derived.Deep.DeepCutAuto
namespace Go.Proofs.Ytopmngjaieobnaa.codecTakes
open Go.ChangeShapes Go.WideShapes Go.ChangeAt Go.RowKit
set_option linter.unusedVariables false
set_option linter.unusedSimpArgs false

theorem hid_ {p : Prop} (h : p) : Hid p := h
set_option maxRecDepth 100000 in
set_option maxHeartbeats 4000000 in
theorem walk (w : World) (A : Option Addr) (l : List UInt8) (c : Nat) (hr : Rd w w.heap.size A l) (hlc : l.length ≤ c) (hcm : c ≤ 9223372036854775807)
    (A1 : Option Addr) (l1 : List UInt8) (c1 : Nat) (hr1 : Rd w w.heap.size A1 l1) (hlc1 : l1.length ≤ c1) (hcm1 : c1 ≤ 9223372036854775807)
    (A2 : Option Addr) (l2 : List Int) (c2 : Nat) (hr2 : RdI w w.heap.size A2 l2) (hlc2 : l2.length ≤ c2) (hcm2 : c2 ≤ 9223372036854775807) (hb2 : ∀ z ∈ l2, -9223372036854775808 ≤ z ∧ z ≤ 9223372036854775807) :
    Calls Try.prog 11 #[.slice A l.length c, .slice A1 l1.length c1, .slice A2 l2.length c2] w fun e w' => e = .returned (.bool true) ∧ Below w.heap.size w w' := by
  obtain ⟨m, hm⟩ : ∃ m, m = min l.length 400 := ⟨_, rfl⟩
  have hm1 := fun W => run_min2 l.length 400 m hm W
  rw [show ((400 : Nat) : Int) = 400 from rfl] at hm1
  have hs1 := fun W => slice_to A l.length c (m : Int) m rfl (by omega) W
  have HM0 : (l.take 400).length = m := by rw [List.length_take, hm, Nat.min_comm]
  have hrt := (hr.take 400).alloc (Nat.le_refl _) (.cells (rowOf []) 5)
  have m400 : m ≤ 400 := by omega
  generalize l.take 400 = t at *
  have HM := hid_ HM0
  have hown := Own8.lit w w.heap.size [] (Nat.le_refl _) (Nat.zero_le _)
  have hwal := hid_ ((Below.refl w.heap.size w).alloc (Nat.le_refl _) (.cells (rowOf []) 5))
  clear hr hm HM0
  go_enter Try.func11, Try.ntmps11
  go_wp2_with (first
    | (at_builtin; refine wpList_app rfl (.tmp 14) (.tmp 19) rfl hown rfl m c rfl hrt HM.out ?_ ?_ ?_; (simp; omega); (simp); (intro A0 c0 w2 k1 k2 k3; have O2 := hid_ k1; have X2 := hid_ (hwal.out.grown k2 (by simp) (fun k hk => by simp [Value.ownBlock] at hk; omega)); clear k1 k2 k3 hrt hown))
    | (go_at_call 23; have cp := codes_any w2; ((with_reducible refine cp.mono ?_); clear cp; rintro e w3 ⟨rfl, hB3⟩; have O3 := hid_ (O2.out.below hB3 (Nat.le_refl _)); have X3 := hid_ (X2.out.trans (hB3.mono X2.out.size)); clear hB3))
    | (go_at_call 29; ((with_reducible refine (innum_nil _ _).mono ?_); rintro e w' ⟨rfl, rfl⟩))
    | (go_at_call 30; ((with_reducible refine (insmall_nil _ _).mono ?_); rintro e w' ⟨rfl, rfl⟩))
    | (go_at_call 31; ((with_reducible refine (infixed_nil _ _).mono ?_); rintro e w' ⟨rfl, rfl⟩))
    | (go_at_call 32; ((with_reducible refine (inbytes_nil _ _).mono ?_); rintro e w' ⟨rfl, rfl⟩))
    | (go_at_call 33; ((with_reducible refine (end_nil _).mono ?_); rintro e w' ⟨rfl, rfl⟩; have cv := conv_strn O3.out.rd.1 m c0 HM.out))
    | (go_at_call 34; have cp := of_any (w3.alloc (.cells #[.string (strOf t), .int .i64 0] 66)) A0 m c0 t HM.out (O3.out.alloc _).rd.1 (by omega); ((with_reducible refine cp.mono ?_); clear cp; rintro e w5 ⟨gi, Fi, rfl, hI5, hF5, hB5⟩; have I5 := hid_ hI5; have F5 := hid_ hF5; have B5 := hid_ hB5; clear hI5 hF5 hB5)))
  obtain ⟨gr, hgr⟩ : ∃ gr, w3.heap.size = gr := ⟨_, rfl⟩
  have hs3 := X3.out.size
  have hO3 : Own8 w3 w.heap.size (.slice A0 m c0) t := by simpa using O3.out
  have hsz4 : (w3.alloc (.cells #[.string (strOf t), .int .i64 0] 66)).heap.size = gr + 1 := by simp [hgr]
  have hR4 : RiF (w3.alloc (.cells #[.string (strOf t), .int .i64 0] 66)) gr t 0 := by rw [← hgr]; exact Bk.new w3 _ _
  have hF5 := F5.out
  have hB5 := B5.out
  rw [hsz4] at hF5 hB5
  have hfar0 : gr ∉ Fi := fun h => by have := (hF5 gr h).1; omega
  have S5 : Hid (TkS w gr gi Fi t t 0 m w5) := hid_ ⟨Bk.below hR4 hB5 (by omega), I5.out, fun _ => rfl, Nat.le_of_eq HM.out, hfar0, ⟨by omega, by have := (hF5 gi I5.out.1).1; omega⟩, (X3.out.alloc hs3 _).trans (hB5.mono (by omega))⟩
  obtain ⟨_, _, _, _, hbd⟩ := hO3.form
  have HBD : Hid (∀ b, (Value.slice A0 m c0).ownBlock = some b → (b ≠ gr ∧ b ∉ Fi) ∧ w.heap.size ≤ b) := hid_ (fun b hb => by
    have h1 := hbd b hb
    exact ⟨⟨by omega, fun h => by have := (hF5 b h).1; omega⟩, h1.1⟩)
  have T5 : Hid (∃ l, l.length = m ∧ Own8 w5 w.heap.size (.slice A0 m c0) l) := hid_ ⟨t, HM.out, (hO3.alloc _).below hB5 (by rw [hsz4]; exact Nat.le_refl _)⟩
  rw [hgr]
  clear hsz4 hR4 hF5 hB5 hfar0 hbd hO3 hs3 cv B5 F5 I5 O3 O2 X2 X3 hgr hs1 hm1
  go_loopw [10] (fun i wr => ∃ k : Nat, k ≤ m ∧ i = .int .i64 k ∧ Hid (TkS w gr gi Fi t t 0 m wr) ∧ Hid (∃ l, l.length = m ∧ Own8 wr w.heap.size (.slice A0 m c0) l)) (fun i _ => m - (intOf i).toNat)
  case atStart => exact ⟨0, Nat.zero_le _, rfl, S5, T5⟩
  case round =>
    obtain ⟨k, hk, rfl, HS, HT⟩ := hrel
    by_cases hlt : k < m
    · have hd1 : decide ((k : Int) < (m : Int)) = true := decide_eq_true (by omega)
      have hd2 : decide (k < m) = true := decide_eq_true hlt
      obtain ⟨lk, hlk, hok⟩ := HT.out
      obtain ⟨b, rfl⟩ := hok.block_ (by omega)
      obtain ⟨⟨hb1, hb2'⟩, hb3⟩ := HBD.out b rfl
      have hcell := hok.cellz k hlt
      have hfro := hok.frozenz k
      obtain ⟨v, hv⟩ : ∃ v, lk.getD k 0 = v := ⟨_, rfl⟩
      rw [hv] at hcell
      have hxor : bits .xor .u8 ((v.toNat : Nat) : Int) 85 = (((v ^^^ 85).toNat : Nat) : Int) := xor8 v 85
      have HP := hid_ (hok.put_ k (v ^^^ 85)).1
      have HS2 := hid_ (HS.out.turn (k := k) hb1 hb2' hb3 (.int .u8 (((v ^^^ 85).toNat : Nat) : Int)))
      have t0 : (0 : Int) ≤ (k : Int) := by omega
      have t1 : (k : Int) < (m : Int) := by omega
      have HLK := hid_ hlk
      clear hok hv hlk hb1 hb2' hb3
      go_wp2
      go_roundw
      case rel => exact ⟨k + 1, by omega, by go_num, HS2, hid_ ⟨_, by rw [List.length_set]; exact HLK.out, HP.out⟩⟩
      case measure => simp [intOf]; omega
    · have hd1 : decide ((k : Int) < (m : Int)) = false := decide_eq_false (by omega)
      have hd2 : decide (k < m) = false := decide_eq_false hlt
      have HS0 := hid_ HS.out
      go_wp2
      clear hlt HT HBD hd1 hd2 T5 S5 HS
      go_loopw [11, 12, 13] (fun i _ _ wr => ∃ k : Nat, k ≤ l1.length ∧ i = .int .i64 k ∧ Hid (∃ z L L' err, z ≤ 400 ∧ TkS w gr gi Fi L L' err z wr)) (fun i _ _ _ => l1.length - (intOf i).toNat)
      case atStart => exact ⟨0, Nat.zero_le _, rfl, hid_ ⟨_, _, _, _, by omega, HS0.out⟩⟩
      case round =>
        obtain ⟨k, hk, rfl, HSx⟩ := hrel
        obtain ⟨z, L, L', err, hz4, hS⟩ := HSx.out
        have HSS := hid_ hS
        have hz : z ≤ 140737488355328 := by omega
        have ce := end_any wr gi L err Fi hS.inp
        have cf := refend_any wr gr L' err hS.ref
        rw [endS_same L L' err hS.same] at cf
        by_cases hk1 : k < l1.length
        · have hd1 : decide ((k : Int) < (l1.length : Int)) = true := decide_eq_true (by omega)
          have hd2 : decide (k < l1.length) = true := decide_eq_true hk1
          by_cases hk2 : k < 30
          · have hd3 : decide ((k : Int) < 30) = true := decide_eq_true (by omega)
            have hd4 : decide (k < 30) = true := decide_eq_true hk2
            clear ce cf
            obtain ⟨b1, o1, rfl, hb1l, hc1⟩ := hr1 (by omega)
            have hcell1 := (HSS.out.below.cell (p := ⟨b1, o1 + k, none⟩) hb1l).trans (hc1 k hk1)
            obtain ⟨v, hv⟩ : ∃ v, l1.getD k 0 = v := ⟨_, rfl⟩
            rw [hv] at hcell1
            have t0 : (0 : Int) ≤ (k : Int) := by omega
            have t1 : (k : Int) < (l1.length : Int) := by omega
            clear hc1 hv hb1l
            have hv4 : v.toNat % 4 = 0 ∨ v.toNat % 4 = 1 ∨ v.toNat % 4 = 2 ∨ v.toNat % 4 = 3 := by omega
            by_cases hk3 : k < l2.length
            · have hd5 : decide ((k : Int) < (l2.length : Int)) = true := decide_eq_true (by omega)
              have hd6 : decide (k < l2.length) = true := decide_eq_true hk3
              obtain ⟨b2, o2, rfl, hb2l, hc2⟩ := hr2 (by omega)
              have hcell2 := (HSS.out.below.cell (p := ⟨b2, o2 + k, none⟩) hb2l).trans (hc2 k hk3)
              obtain ⟨hp0, hp1⟩ := hb2 (l2.getD k 0) (by simp [List.getD, hk3])
              generalize l2.getD k 0 = p at hp0 hp1 hcell2
              have t2 : (k : Int) < (l2.length : Int) := by omega
              clear hc2 hb2l
              rcases hv4 with hv4 | hv4 | hv4 | hv4
              · -- kind 0
                have hrem : (((v.toNat : Nat) : Int)) % 4 = 0 := by omega
                have hrem2 : (((v.toNat : Nat) : Int)).tmod 4 = 0 := by rw [Int.tmod_eq_emod_of_nonneg (by omega)]; exact hrem
                obtain ⟨x, L2, e2, hle, ca, cb⟩ := num_both hS p hp0 hp1
                have HLE := hid_ hle
                clear hle
                go_wp2_with (first
                  | (go_at_call 29; ((with_reducible refine ca.mono ?_); rintro e w6 ⟨rfl, hI6, hU6⟩; have I6 := hid_ hI6; have U6 := hid_ hU6; have R6 := hid_ (HSS.out.mid hU6); clear hI6 hU6))
                  | (go_at_call 35; have cp := cb w6 R6.out; ((with_reducible refine cp.mono ?_); clear cp; rintro e w7 ⟨rfl, ⟨L2', hR7, hs7⟩, hU7⟩; have S7 := hid_ (HSS.out.next I6.out U6.out hR7 hs7 hU7 HLE.out); clear hR7 hs7 hU7)))
                go_roundw
                case rel => exact ⟨k + 1, by omega, by go_num, hid_ ⟨_, _, _, _, hz4, S7.out⟩⟩
                case measure => simp [intOf]; omega
              · -- kind 1
                have hrem : (((v.toNat : Nat) : Int)) % 4 = 1 := by omega
                have hrem2 : (((v.toNat : Nat) : Int)).tmod 4 = 1 := by rw [Int.tmod_eq_emod_of_nonneg (by omega)]; exact hrem
                obtain ⟨x, L2, e2, hle, ca, cb⟩ := small_both hS p hp0 hp1
                have HLE := hid_ hle
                clear hle
                go_wp2_with (first
                  | (go_at_call 30; ((with_reducible refine ca.mono ?_); rintro e w6 ⟨rfl, hI6, hU6⟩; have I6 := hid_ hI6; have U6 := hid_ hU6; have R6 := hid_ (HSS.out.mid hU6); clear hI6 hU6))
                  | (go_at_call 36; have cp := cb w6 R6.out; ((with_reducible refine cp.mono ?_); clear cp; rintro e w7 ⟨rfl, ⟨L2', hR7, hs7⟩, hU7⟩; have S7 := hid_ (HSS.out.next I6.out U6.out hR7 hs7 hU7 HLE.out); clear hR7 hs7 hU7)))
                go_roundw
                case rel => exact ⟨k + 1, by omega, by go_num, hid_ ⟨_, _, _, _, hz4, S7.out⟩⟩
                case measure => simp [intOf]; omega
              · -- kind 2
                have hrem : (((v.toNat : Nat) : Int)) % 4 = 2 := by omega
                have hrem2 : (((v.toNat : Nat) : Int)).tmod 4 = 2 := by rw [Int.tmod_eq_emod_of_nonneg (by omega)]; exact hrem
                obtain ⟨y, L2, e2, hle, ca, cb⟩ := fixed_both hS hz p hp0 hp1
                have HLE := hid_ hle
                have CA := hid_ ca
                have CB := hid_ cb
                clear hle ca cb
                go_upto_region 24 with fail
                have hne := HSS.out.ne
                have hfar := HSS.out.far
                have hgr := Bk.lt HSS.out.ref
                have hgi : gi < wr.heap.size := (by obtain ⟨A9, n9, c9, h9⟩ := HSS.out.inp.out; exact h9.head.lt)
                refine region_byJF [111, 112, 113, 114, 115, 116, 117, 118, 13] (fun W => Untouched [gi, gr] wr W) (fun W W' => Untouched [gi, gr] W W') (TkR gi gr p y) (fun D a W => TkJ gi gr Fi L L' L2 err e2 D W) (by kernel_rfl) (by kernel_rfl) (by kernel_rfl) (by kernel_rfl) (fun j v w w' hT hr => TkR.stable hT j v hr) (fun j v w hlt hj _ => ?_) (Untouched.drewN 1) ?_ (TkJ.start (HSS.out.inp.apart (G := []) (Untouched.drewN 1) fun _ _ => by simp) (Bk.drewN HSS.out.ref 1)) ?_
                · rcases j with _ | _ | _ | _ | _ | _ | _ | _ | _ | j
                  all_goals first
                    | (exfalso; simp [dstOf] at hj; done)
                    | trivial
                · refine ⟨fun D a W hC hd hsz hf hv hJ hL hW K hK => ?_, fun D a W hC hd hsz hf hv hJ hL hW K hK => ?_, fun D a W hC hd hsz hf hv hJ hL hW K hK => ?_, fun D a W hC hd hsz hf hv hJ hL hW K hK => ?_, fun D a W hC hd hsz hf hv hJ hL hW K hK => ?_, fun D a W hC hd hsz hf hv hJ hL hW K hK => ?_, fun D a W hC hd hsz hf hv hJ hL hW K hK => ?_, fun D a W hC hd hsz hf hv hJ hL hW K hK => ?_, fun D a W hC hd hsz hf hv hJ hL hW K hK => ?_, trivial⟩
                  · clear hsz
                    have e1 := slot_of (a := a) (s := 9) (v := .pointer (some ⟨gi, 0, none⟩)) (hf 9 (by kernel_rfl))
                    refine step_run (wanted_none rfl) (v := .pointer (some ⟨gi, 0, none⟩)) (w' := W) ?_ (hK _ _ hC (Untouched.refl _ _) rfl (hJ.same 0 (by decide) (by decide)))
                    go_simp
                  · clear hsz
                    have e1 := slot_of (a := a) (s := 12) (v := .int .i64 p) (hf 12 (by kernel_rfl))
                    refine step_run (wanted_none rfl) (v := .int .i64 p) (w' := W) ?_ (hK _ _ hC (Untouched.refl _ _) rfl (hJ.same 1 (by decide) (by decide)))
                    go_simp
                  · clear hsz
                    have e1 := slot_of (a := a) (s := 111) (v := .pointer (some ⟨gi, 0, none⟩)) (hv 0 (by kernel_rfl))
                    have e2 := slot_of (a := a) (s := 112) (v := .int .i64 p) (hv 1 (by kernel_rfl))
                    refine step_callx 31 #[.pointer (some ⟨gi, 0, none⟩), .int .i64 p] (wanted_none rfl) (w' := W) ?_ ((CA.out W (hJ.i0 hL)).mono fun e W2 hh => ?_)
                    · go_simp
                    · obtain ⟨⟨A5, m5, c5, rfl, hy5, hO5⟩, hI5, hU5⟩ := hh
                      exact ⟨_, rfl, hK _ _ (hC.trans (Grew.refl _ _) (hU5.wide (by simp))) (hU5.wide (by simp)) ⟨A5, m5, c5, rfl, hy5, own_rdf hO5 (fun j hj => by have := hC.size; rcases List.mem_cons.1 hj with rfl | hj; omega; rcases List.mem_singleton.1 hj with rfl; omega)⟩ (hJ.take hne hI5 hU5)⟩
                  · clear hsz
                    obtain ⟨A5, m5, c5, e5, hy5, hr5⟩ := hv 2 (by kernel_rfl)
                    have e1 := slot_of (a := a) (s := 113) e5
                    have cv := conv_strn hr5.rd m5 c5 hy5
                    refine step_run (wanted_none rfl) (v := .string (strOf y)) (w' := W) ?_ (hK _ _ hC (Untouched.refl _ _) rfl (hJ.same 3 (by decide) (by decide)))
                    go_simp
                  · clear hsz
                    have e1 := slot_of (a := a) (s := 8) (v := .pointer (some ⟨gr, 0, none⟩)) (hf 8 (by kernel_rfl))
                    refine step_run (wanted_none rfl) (v := .pointer (some ⟨gr, 0, none⟩)) (w' := W) ?_ (hK _ _ hC (Untouched.refl _ _) rfl (hJ.same 4 (by decide) (by decide)))
                    go_simp
                  · clear hsz
                    have e1 := slot_of (a := a) (s := 12) (v := .int .i64 p) (hf 12 (by kernel_rfl))
                    refine step_run (wanted_none rfl) (v := .int .i64 p) (w' := W) ?_ (hK _ _ hC (Untouched.refl _ _) rfl (hJ.same 5 (by decide) (by decide)))
                    go_simp
                  · clear hsz
                    have e1 := slot_of (a := a) (s := 115) (v := .pointer (some ⟨gr, 0, none⟩)) (hv 4 (by kernel_rfl))
                    have e2 := slot_of (a := a) (s := 116) (v := .int .i64 p) (hv 5 (by kernel_rfl))
                    refine step_callx 37 #[.pointer (some ⟨gr, 0, none⟩), .int .i64 p] (wanted_none rfl) (w' := W) ?_ ((CB.out W (hJ.r0 hL)).mono fun e W2 hh => ?_)
                    · go_simp
                    · obtain ⟨rfl, hex, hU5⟩ := hh
                      exact ⟨_, rfl, hK _ _ (hC.trans (Grew.refl _ _) (hU5.wide (by simp))) (hU5.wide (by simp)) rfl (hJ.ask hfar hex hU5)⟩
                  · clear hsz
                    have e1 := slot_of (a := a) (s := 114) (v := .string (strOf y)) (hv 3 (by kernel_rfl))
                    have e2 := slot_of (a := a) (s := 117) (v := .string (strOf y)) (hv 6 (by kernel_rfl))
                    refine step_run (wanted_none rfl) (v := .bool true) (w' := W) ?_ (hK _ _ hC (Untouched.refl _ _) rfl (hJ.same 7 (by decide) (by decide)))
                    go_simp
                  · clear hsz
                    have e1 := slot_of (a := a) (s := 118) (v := .bool true) (hv 7 (by kernel_rfl))
                    refine step_run (wanted_none rfl) (v := .bool true) (w' := W) ?_ (hK _ _ hC (Untouched.refl _ _) rfl (hJ.same 8 (by decide) (by decide)))
                    go_simp
                · intro f w6 hC6 hv6 D6 hD6 hJ6
                  obtain ⟨a6, hJ, -⟩ := hJ6
                  obtain ⟨L2', hR7, hs7⟩ := hJ.r1 (hD6 6 (by decide))
                  have S7 := hid_ (HSS.out.next2 (hJ.i1 (hD6 2 (by decide))) hR7 hs7 hC6 HLE.out)
                  have e13 : f 13 = .bool true := hv6 8 (by decide)
                  simp only [framed, List.foldl_cons, List.foldl_nil, List.setIfInBounds_toArray, List.set_cons_succ, List.set_cons_zero]
                  rw [e13]
                  clear hv6 hD6 hJ hR7 hs7 hC6
                  go_wp2
                  go_roundw
                  case rel => exact ⟨k + 1, by omega, by go_num, hid_ ⟨_, _, _, _, hz4, S7.out⟩⟩
                  case measure => simp [intOf]; omega
              · -- kind 3
                have hrem : (((v.toNat : Nat) : Int)) % 4 = 3 := by omega
                have hrem2 : (((v.toNat : Nat) : Int)).tmod 4 = 3 := by rw [Int.tmod_eq_emod_of_nonneg (by omega)]; exact hrem
                obtain ⟨y, L2, e2, hle, ca, cb⟩ := bytes_both hS hz p hp0 hp1
                have HLE := hid_ hle
                have CA := hid_ ca
                have CB := hid_ cb
                clear hle ca cb
                go_upto_region 26 with fail
                have hne := HSS.out.ne
                have hfar := HSS.out.far
                have hgr := Bk.lt HSS.out.ref
                have hgi : gi < wr.heap.size := (by obtain ⟨A9, n9, c9, h9⟩ := HSS.out.inp.out; exact h9.head.lt)
                refine region_byJF [121, 122, 123, 124, 125, 126, 127, 128, 13] (fun W => Untouched [gi, gr] wr W) (fun W W' => Untouched [gi, gr] W W') (TkR gi gr p y) (fun D a W => TkJ gi gr Fi L L' L2 err e2 D W) (by kernel_rfl) (by kernel_rfl) (by kernel_rfl) (by kernel_rfl) (fun j v w w' hT hr => TkR.stable hT j v hr) (fun j v w hlt hj _ => ?_) (Untouched.drewN 1) ?_ (TkJ.start (HSS.out.inp.apart (G := []) (Untouched.drewN 1) fun _ _ => by simp) (Bk.drewN HSS.out.ref 1)) ?_
                · rcases j with _ | _ | _ | _ | _ | _ | _ | _ | _ | j
                  all_goals first
                    | (exfalso; simp [dstOf] at hj; done)
                    | trivial
                · refine ⟨fun D a W hC hd hsz hf hv hJ hL hW K hK => ?_, fun D a W hC hd hsz hf hv hJ hL hW K hK => ?_, fun D a W hC hd hsz hf hv hJ hL hW K hK => ?_, fun D a W hC hd hsz hf hv hJ hL hW K hK => ?_, fun D a W hC hd hsz hf hv hJ hL hW K hK => ?_, fun D a W hC hd hsz hf hv hJ hL hW K hK => ?_, fun D a W hC hd hsz hf hv hJ hL hW K hK => ?_, fun D a W hC hd hsz hf hv hJ hL hW K hK => ?_, fun D a W hC hd hsz hf hv hJ hL hW K hK => ?_, trivial⟩
                  · clear hsz
                    have e1 := slot_of (a := a) (s := 9) (v := .pointer (some ⟨gi, 0, none⟩)) (hf 9 (by kernel_rfl))
                    refine step_run (wanted_none rfl) (v := .pointer (some ⟨gi, 0, none⟩)) (w' := W) ?_ (hK _ _ hC (Untouched.refl _ _) rfl (hJ.same 0 (by decide) (by decide)))
                    go_simp
                  · clear hsz
                    have e1 := slot_of (a := a) (s := 12) (v := .int .i64 p) (hf 12 (by kernel_rfl))
                    refine step_run (wanted_none rfl) (v := .int .i64 p) (w' := W) ?_ (hK _ _ hC (Untouched.refl _ _) rfl (hJ.same 1 (by decide) (by decide)))
                    go_simp
                  · clear hsz
                    have e1 := slot_of (a := a) (s := 121) (v := .pointer (some ⟨gi, 0, none⟩)) (hv 0 (by kernel_rfl))
                    have e2 := slot_of (a := a) (s := 122) (v := .int .i64 p) (hv 1 (by kernel_rfl))
                    refine step_callx 32 #[.pointer (some ⟨gi, 0, none⟩), .int .i64 p] (wanted_none rfl) (w' := W) ?_ ((CA.out W (hJ.i0 hL)).mono fun e W2 hh => ?_)
                    · go_simp
                    · obtain ⟨⟨A5, m5, c5, rfl, hy5, hO5⟩, hI5, hU5⟩ := hh
                      exact ⟨_, rfl, hK _ _ (hC.trans (Grew.refl _ _) (hU5.wide (by simp))) (hU5.wide (by simp)) ⟨A5, m5, c5, rfl, hy5, own_rdf hO5 (fun j hj => by have := hC.size; rcases List.mem_cons.1 hj with rfl | hj; omega; rcases List.mem_singleton.1 hj with rfl; omega)⟩ (hJ.take hne hI5 hU5)⟩
                  · clear hsz
                    obtain ⟨A5, m5, c5, e5, hy5, hr5⟩ := hv 2 (by kernel_rfl)
                    have e1 := slot_of (a := a) (s := 123) e5
                    have cv := conv_strn hr5.rd m5 c5 hy5
                    refine step_run (wanted_none rfl) (v := .string (strOf y)) (w' := W) ?_ (hK _ _ hC (Untouched.refl _ _) rfl (hJ.same 3 (by decide) (by decide)))
                    go_simp
                  · clear hsz
                    have e1 := slot_of (a := a) (s := 8) (v := .pointer (some ⟨gr, 0, none⟩)) (hf 8 (by kernel_rfl))
                    refine step_run (wanted_none rfl) (v := .pointer (some ⟨gr, 0, none⟩)) (w' := W) ?_ (hK _ _ hC (Untouched.refl _ _) rfl (hJ.same 4 (by decide) (by decide)))
                    go_simp
                  · clear hsz
                    have e1 := slot_of (a := a) (s := 12) (v := .int .i64 p) (hf 12 (by kernel_rfl))
                    refine step_run (wanted_none rfl) (v := .int .i64 p) (w' := W) ?_ (hK _ _ hC (Untouched.refl _ _) rfl (hJ.same 5 (by decide) (by decide)))
                    go_simp
                  · clear hsz
                    have e1 := slot_of (a := a) (s := 125) (v := .pointer (some ⟨gr, 0, none⟩)) (hv 4 (by kernel_rfl))
                    have e2 := slot_of (a := a) (s := 126) (v := .int .i64 p) (hv 5 (by kernel_rfl))
                    refine step_callx 38 #[.pointer (some ⟨gr, 0, none⟩), .int .i64 p] (wanted_none rfl) (w' := W) ?_ ((CB.out W (hJ.r0 hL)).mono fun e W2 hh => ?_)
                    · go_simp
                    · obtain ⟨rfl, hex, hU5⟩ := hh
                      exact ⟨_, rfl, hK _ _ (hC.trans (Grew.refl _ _) (hU5.wide (by simp))) (hU5.wide (by simp)) rfl (hJ.ask hfar hex hU5)⟩
                  · clear hsz
                    have e1 := slot_of (a := a) (s := 124) (v := .string (strOf y)) (hv 3 (by kernel_rfl))
                    have e2 := slot_of (a := a) (s := 127) (v := .string (strOf y)) (hv 6 (by kernel_rfl))
                    refine step_run (wanted_none rfl) (v := .bool true) (w' := W) ?_ (hK _ _ hC (Untouched.refl _ _) rfl (hJ.same 7 (by decide) (by decide)))
                    go_simp
                  · clear hsz
                    have e1 := slot_of (a := a) (s := 128) (v := .bool true) (hv 7 (by kernel_rfl))
                    refine step_run (wanted_none rfl) (v := .bool true) (w' := W) ?_ (hK _ _ hC (Untouched.refl _ _) rfl (hJ.same 8 (by decide) (by decide)))
                    go_simp
                · intro f w6 hC6 hv6 D6 hD6 hJ6
                  obtain ⟨a6, hJ, -⟩ := hJ6
                  obtain ⟨L2', hR7, hs7⟩ := hJ.r1 (hD6 6 (by decide))
                  have S7 := hid_ (HSS.out.next2 (hJ.i1 (hD6 2 (by decide))) hR7 hs7 hC6 HLE.out)
                  have e13 : f 13 = .bool true := hv6 8 (by decide)
                  simp only [framed, List.foldl_cons, List.foldl_nil, List.setIfInBounds_toArray, List.set_cons_succ, List.set_cons_zero]
                  rw [e13]
                  clear hv6 hD6 hJ hR7 hs7 hC6
                  go_wp2
                  go_roundw
                  case rel => exact ⟨k + 1, by omega, by go_num, hid_ ⟨_, _, _, _, hz4, S7.out⟩⟩
                  case measure => simp [intOf]; omega
            · have hd5 : decide ((k : Int) < (l2.length : Int)) = false := decide_eq_false (by omega)
              have hd6 : decide (k < l2.length) = false := decide_eq_false hk3
              obtain ⟨p, hpp⟩ : ∃ p : Int, p = 1099511627776 := ⟨_, rfl⟩
              have hp0 : -9223372036854775808 ≤ p := by omega
              have hp1 : p ≤ 9223372036854775807 := by omega
              subst hpp
              rcases hv4 with hv4 | hv4 | hv4 | hv4
              · -- kind 0
                have hrem : (((v.toNat : Nat) : Int)) % 4 = 0 := by omega
                have hrem2 : (((v.toNat : Nat) : Int)).tmod 4 = 0 := by rw [Int.tmod_eq_emod_of_nonneg (by omega)]; exact hrem
                obtain ⟨x, L2, e2, hle, ca, cb⟩ := num_both hS 1099511627776 hp0 hp1
                have HLE := hid_ hle
                clear hle
                go_wp2_with (first
                  | (go_at_call 29; ((with_reducible refine ca.mono ?_); rintro e w6 ⟨rfl, hI6, hU6⟩; have I6 := hid_ hI6; have U6 := hid_ hU6; have R6 := hid_ (HSS.out.mid hU6); clear hI6 hU6))
                  | (go_at_call 35; have cp := cb w6 R6.out; ((with_reducible refine cp.mono ?_); clear cp; rintro e w7 ⟨rfl, ⟨L2', hR7, hs7⟩, hU7⟩; have S7 := hid_ (HSS.out.next I6.out U6.out hR7 hs7 hU7 HLE.out); clear hR7 hs7 hU7)))
                go_roundw
                case rel => exact ⟨k + 1, by omega, by go_num, hid_ ⟨_, _, _, _, hz4, S7.out⟩⟩
                case measure => simp [intOf]; omega
              · -- kind 1
                have hrem : (((v.toNat : Nat) : Int)) % 4 = 1 := by omega
                have hrem2 : (((v.toNat : Nat) : Int)).tmod 4 = 1 := by rw [Int.tmod_eq_emod_of_nonneg (by omega)]; exact hrem
                obtain ⟨x, L2, e2, hle, ca, cb⟩ := small_both hS 1099511627776 hp0 hp1
                have HLE := hid_ hle
                clear hle
                go_wp2_with (first
                  | (go_at_call 30; ((with_reducible refine ca.mono ?_); rintro e w6 ⟨rfl, hI6, hU6⟩; have I6 := hid_ hI6; have U6 := hid_ hU6; have R6 := hid_ (HSS.out.mid hU6); clear hI6 hU6))
                  | (go_at_call 36; have cp := cb w6 R6.out; ((with_reducible refine cp.mono ?_); clear cp; rintro e w7 ⟨rfl, ⟨L2', hR7, hs7⟩, hU7⟩; have S7 := hid_ (HSS.out.next I6.out U6.out hR7 hs7 hU7 HLE.out); clear hR7 hs7 hU7)))
                go_roundw
                case rel => exact ⟨k + 1, by omega, by go_num, hid_ ⟨_, _, _, _, hz4, S7.out⟩⟩
                case measure => simp [intOf]; omega
              · -- kind 2
                have hrem : (((v.toNat : Nat) : Int)) % 4 = 2 := by omega
                have hrem2 : (((v.toNat : Nat) : Int)).tmod 4 = 2 := by rw [Int.tmod_eq_emod_of_nonneg (by omega)]; exact hrem
                obtain ⟨y, L2, e2, hle, ca, cb⟩ := fixed_both hS hz 1099511627776 hp0 hp1
                have HLE := hid_ hle
                have CA := hid_ ca
                have CB := hid_ cb
                clear hle ca cb
                go_upto_region 24 with fail
                have hne := HSS.out.ne
                have hfar := HSS.out.far
                have hgr := Bk.lt HSS.out.ref
                have hgi : gi < wr.heap.size := (by obtain ⟨A9, n9, c9, h9⟩ := HSS.out.inp.out; exact h9.head.lt)
                refine region_byJF [111, 112, 113, 114, 115, 116, 117, 118, 13] (fun W => Untouched [gi, gr] wr W) (fun W W' => Untouched [gi, gr] W W') (TkR gi gr 1099511627776 y) (fun D a W => TkJ gi gr Fi L L' L2 err e2 D W) (by kernel_rfl) (by kernel_rfl) (by kernel_rfl) (by kernel_rfl) (fun j v w w' hT hr => TkR.stable hT j v hr) (fun j v w hlt hj _ => ?_) (Untouched.drewN 1) ?_ (TkJ.start (HSS.out.inp.apart (G := []) (Untouched.drewN 1) fun _ _ => by simp) (Bk.drewN HSS.out.ref 1)) ?_
                · rcases j with _ | _ | _ | _ | _ | _ | _ | _ | _ | j
                  all_goals first
                    | (exfalso; simp [dstOf] at hj; done)
                    | trivial
                · refine ⟨fun D a W hC hd hsz hf hv hJ hL hW K hK => ?_, fun D a W hC hd hsz hf hv hJ hL hW K hK => ?_, fun D a W hC hd hsz hf hv hJ hL hW K hK => ?_, fun D a W hC hd hsz hf hv hJ hL hW K hK => ?_, fun D a W hC hd hsz hf hv hJ hL hW K hK => ?_, fun D a W hC hd hsz hf hv hJ hL hW K hK => ?_, fun D a W hC hd hsz hf hv hJ hL hW K hK => ?_, fun D a W hC hd hsz hf hv hJ hL hW K hK => ?_, fun D a W hC hd hsz hf hv hJ hL hW K hK => ?_, trivial⟩
                  · clear hsz
                    have e1 := slot_of (a := a) (s := 9) (v := .pointer (some ⟨gi, 0, none⟩)) (hf 9 (by kernel_rfl))
                    refine step_run (wanted_none rfl) (v := .pointer (some ⟨gi, 0, none⟩)) (w' := W) ?_ (hK _ _ hC (Untouched.refl _ _) rfl (hJ.same 0 (by decide) (by decide)))
                    go_simp
                  · clear hsz
                    have e1 := slot_of (a := a) (s := 12) (v := .int .i64 1099511627776) (hf 12 (by kernel_rfl))
                    refine step_run (wanted_none rfl) (v := .int .i64 1099511627776) (w' := W) ?_ (hK _ _ hC (Untouched.refl _ _) rfl (hJ.same 1 (by decide) (by decide)))
                    go_simp
                  · clear hsz
                    have e1 := slot_of (a := a) (s := 111) (v := .pointer (some ⟨gi, 0, none⟩)) (hv 0 (by kernel_rfl))
                    have e2 := slot_of (a := a) (s := 112) (v := .int .i64 1099511627776) (hv 1 (by kernel_rfl))
                    refine step_callx 31 #[.pointer (some ⟨gi, 0, none⟩), .int .i64 1099511627776] (wanted_none rfl) (w' := W) ?_ ((CA.out W (hJ.i0 hL)).mono fun e W2 hh => ?_)
                    · go_simp
                    · obtain ⟨⟨A5, m5, c5, rfl, hy5, hO5⟩, hI5, hU5⟩ := hh
                      exact ⟨_, rfl, hK _ _ (hC.trans (Grew.refl _ _) (hU5.wide (by simp))) (hU5.wide (by simp)) ⟨A5, m5, c5, rfl, hy5, own_rdf hO5 (fun j hj => by have := hC.size; rcases List.mem_cons.1 hj with rfl | hj; omega; rcases List.mem_singleton.1 hj with rfl; omega)⟩ (hJ.take hne hI5 hU5)⟩
                  · clear hsz
                    obtain ⟨A5, m5, c5, e5, hy5, hr5⟩ := hv 2 (by kernel_rfl)
                    have e1 := slot_of (a := a) (s := 113) e5
                    have cv := conv_strn hr5.rd m5 c5 hy5
                    refine step_run (wanted_none rfl) (v := .string (strOf y)) (w' := W) ?_ (hK _ _ hC (Untouched.refl _ _) rfl (hJ.same 3 (by decide) (by decide)))
                    go_simp
                  · clear hsz
                    have e1 := slot_of (a := a) (s := 8) (v := .pointer (some ⟨gr, 0, none⟩)) (hf 8 (by kernel_rfl))
                    refine step_run (wanted_none rfl) (v := .pointer (some ⟨gr, 0, none⟩)) (w' := W) ?_ (hK _ _ hC (Untouched.refl _ _) rfl (hJ.same 4 (by decide) (by decide)))
                    go_simp
                  · clear hsz
                    have e1 := slot_of (a := a) (s := 12) (v := .int .i64 1099511627776) (hf 12 (by kernel_rfl))
                    refine step_run (wanted_none rfl) (v := .int .i64 1099511627776) (w' := W) ?_ (hK _ _ hC (Untouched.refl _ _) rfl (hJ.same 5 (by decide) (by decide)))
                    go_simp
                  · clear hsz
                    have e1 := slot_of (a := a) (s := 115) (v := .pointer (some ⟨gr, 0, none⟩)) (hv 4 (by kernel_rfl))
                    have e2 := slot_of (a := a) (s := 116) (v := .int .i64 1099511627776) (hv 5 (by kernel_rfl))
                    refine step_callx 37 #[.pointer (some ⟨gr, 0, none⟩), .int .i64 1099511627776] (wanted_none rfl) (w' := W) ?_ ((CB.out W (hJ.r0 hL)).mono fun e W2 hh => ?_)
                    · go_simp
                    · obtain ⟨rfl, hex, hU5⟩ := hh
                      exact ⟨_, rfl, hK _ _ (hC.trans (Grew.refl _ _) (hU5.wide (by simp))) (hU5.wide (by simp)) rfl (hJ.ask hfar hex hU5)⟩
                  · clear hsz
                    have e1 := slot_of (a := a) (s := 114) (v := .string (strOf y)) (hv 3 (by kernel_rfl))
                    have e2 := slot_of (a := a) (s := 117) (v := .string (strOf y)) (hv 6 (by kernel_rfl))
                    refine step_run (wanted_none rfl) (v := .bool true) (w' := W) ?_ (hK _ _ hC (Untouched.refl _ _) rfl (hJ.same 7 (by decide) (by decide)))
                    go_simp
                  · clear hsz
                    have e1 := slot_of (a := a) (s := 118) (v := .bool true) (hv 7 (by kernel_rfl))
                    refine step_run (wanted_none rfl) (v := .bool true) (w' := W) ?_ (hK _ _ hC (Untouched.refl _ _) rfl (hJ.same 8 (by decide) (by decide)))
                    go_simp
                · intro f w6 hC6 hv6 D6 hD6 hJ6
                  obtain ⟨a6, hJ, -⟩ := hJ6
                  obtain ⟨L2', hR7, hs7⟩ := hJ.r1 (hD6 6 (by decide))
                  have S7 := hid_ (HSS.out.next2 (hJ.i1 (hD6 2 (by decide))) hR7 hs7 hC6 HLE.out)
                  have e13 : f 13 = .bool true := hv6 8 (by decide)
                  simp only [framed, List.foldl_cons, List.foldl_nil, List.setIfInBounds_toArray, List.set_cons_succ, List.set_cons_zero]
                  rw [e13]
                  clear hv6 hD6 hJ hR7 hs7 hC6
                  go_wp2
                  go_roundw
                  case rel => exact ⟨k + 1, by omega, by go_num, hid_ ⟨_, _, _, _, hz4, S7.out⟩⟩
                  case measure => simp [intOf]; omega
              · -- kind 3
                have hrem : (((v.toNat : Nat) : Int)) % 4 = 3 := by omega
                have hrem2 : (((v.toNat : Nat) : Int)).tmod 4 = 3 := by rw [Int.tmod_eq_emod_of_nonneg (by omega)]; exact hrem
                obtain ⟨y, L2, e2, hle, ca, cb⟩ := bytes_both hS hz 1099511627776 hp0 hp1
                have HLE := hid_ hle
                have CA := hid_ ca
                have CB := hid_ cb
                clear hle ca cb
                go_upto_region 26 with fail
                have hne := HSS.out.ne
                have hfar := HSS.out.far
                have hgr := Bk.lt HSS.out.ref
                have hgi : gi < wr.heap.size := (by obtain ⟨A9, n9, c9, h9⟩ := HSS.out.inp.out; exact h9.head.lt)
                refine region_byJF [121, 122, 123, 124, 125, 126, 127, 128, 13] (fun W => Untouched [gi, gr] wr W) (fun W W' => Untouched [gi, gr] W W') (TkR gi gr 1099511627776 y) (fun D a W => TkJ gi gr Fi L L' L2 err e2 D W) (by kernel_rfl) (by kernel_rfl) (by kernel_rfl) (by kernel_rfl) (fun j v w w' hT hr => TkR.stable hT j v hr) (fun j v w hlt hj _ => ?_) (Untouched.drewN 1) ?_ (TkJ.start (HSS.out.inp.apart (G := []) (Untouched.drewN 1) fun _ _ => by simp) (Bk.drewN HSS.out.ref 1)) ?_
                · rcases j with _ | _ | _ | _ | _ | _ | _ | _ | _ | j
                  all_goals first
                    | (exfalso; simp [dstOf] at hj; done)
                    | trivial
                · refine ⟨fun D a W hC hd hsz hf hv hJ hL hW K hK => ?_, fun D a W hC hd hsz hf hv hJ hL hW K hK => ?_, fun D a W hC hd hsz hf hv hJ hL hW K hK => ?_, fun D a W hC hd hsz hf hv hJ hL hW K hK => ?_, fun D a W hC hd hsz hf hv hJ hL hW K hK => ?_, fun D a W hC hd hsz hf hv hJ hL hW K hK => ?_, fun D a W hC hd hsz hf hv hJ hL hW K hK => ?_, fun D a W hC hd hsz hf hv hJ hL hW K hK => ?_, fun D a W hC hd hsz hf hv hJ hL hW K hK => ?_, trivial⟩
                  · clear hsz
                    have e1 := slot_of (a := a) (s := 9) (v := .pointer (some ⟨gi, 0, none⟩)) (hf 9 (by kernel_rfl))
                    refine step_run (wanted_none rfl) (v := .pointer (some ⟨gi, 0, none⟩)) (w' := W) ?_ (hK _ _ hC (Untouched.refl _ _) rfl (hJ.same 0 (by decide) (by decide)))
                    go_simp
                  · clear hsz
                    have e1 := slot_of (a := a) (s := 12) (v := .int .i64 1099511627776) (hf 12 (by kernel_rfl))
                    refine step_run (wanted_none rfl) (v := .int .i64 1099511627776) (w' := W) ?_ (hK _ _ hC (Untouched.refl _ _) rfl (hJ.same 1 (by decide) (by decide)))
                    go_simp
                  · clear hsz
                    have e1 := slot_of (a := a) (s := 121) (v := .pointer (some ⟨gi, 0, none⟩)) (hv 0 (by kernel_rfl))
                    have e2 := slot_of (a := a) (s := 122) (v := .int .i64 1099511627776) (hv 1 (by kernel_rfl))
                    refine step_callx 32 #[.pointer (some ⟨gi, 0, none⟩), .int .i64 1099511627776] (wanted_none rfl) (w' := W) ?_ ((CA.out W (hJ.i0 hL)).mono fun e W2 hh => ?_)
                    · go_simp
                    · obtain ⟨⟨A5, m5, c5, rfl, hy5, hO5⟩, hI5, hU5⟩ := hh
                      exact ⟨_, rfl, hK _ _ (hC.trans (Grew.refl _ _) (hU5.wide (by simp))) (hU5.wide (by simp)) ⟨A5, m5, c5, rfl, hy5, own_rdf hO5 (fun j hj => by have := hC.size; rcases List.mem_cons.1 hj with rfl | hj; omega; rcases List.mem_singleton.1 hj with rfl; omega)⟩ (hJ.take hne hI5 hU5)⟩
                  · clear hsz
                    obtain ⟨A5, m5, c5, e5, hy5, hr5⟩ := hv 2 (by kernel_rfl)
                    have e1 := slot_of (a := a) (s := 123) e5
                    have cv := conv_strn hr5.rd m5 c5 hy5
                    refine step_run (wanted_none rfl) (v := .string (strOf y)) (w' := W) ?_ (hK _ _ hC (Untouched.refl _ _) rfl (hJ.same 3 (by decide) (by decide)))
                    go_simp
                  · clear hsz
                    have e1 := slot_of (a := a) (s := 8) (v := .pointer (some ⟨gr, 0, none⟩)) (hf 8 (by kernel_rfl))
                    refine step_run (wanted_none rfl) (v := .pointer (some ⟨gr, 0, none⟩)) (w' := W) ?_ (hK _ _ hC (Untouched.refl _ _) rfl (hJ.same 4 (by decide) (by decide)))
                    go_simp
                  · clear hsz
                    have e1 := slot_of (a := a) (s := 12) (v := .int .i64 1099511627776) (hf 12 (by kernel_rfl))
                    refine step_run (wanted_none rfl) (v := .int .i64 1099511627776) (w' := W) ?_ (hK _ _ hC (Untouched.refl _ _) rfl (hJ.same 5 (by decide) (by decide)))
                    go_simp
                  · clear hsz
                    have e1 := slot_of (a := a) (s := 125) (v := .pointer (some ⟨gr, 0, none⟩)) (hv 4 (by kernel_rfl))
                    have e2 := slot_of (a := a) (s := 126) (v := .int .i64 1099511627776) (hv 5 (by kernel_rfl))
                    refine step_callx 38 #[.pointer (some ⟨gr, 0, none⟩), .int .i64 1099511627776] (wanted_none rfl) (w' := W) ?_ ((CB.out W (hJ.r0 hL)).mono fun e W2 hh => ?_)
                    · go_simp
                    · obtain ⟨rfl, hex, hU5⟩ := hh
                      exact ⟨_, rfl, hK _ _ (hC.trans (Grew.refl _ _) (hU5.wide (by simp))) (hU5.wide (by simp)) rfl (hJ.ask hfar hex hU5)⟩
                  · clear hsz
                    have e1 := slot_of (a := a) (s := 124) (v := .string (strOf y)) (hv 3 (by kernel_rfl))
                    have e2 := slot_of (a := a) (s := 127) (v := .string (strOf y)) (hv 6 (by kernel_rfl))
                    refine step_run (wanted_none rfl) (v := .bool true) (w' := W) ?_ (hK _ _ hC (Untouched.refl _ _) rfl (hJ.same 7 (by decide) (by decide)))
                    go_simp
                  · clear hsz
                    have e1 := slot_of (a := a) (s := 128) (v := .bool true) (hv 7 (by kernel_rfl))
                    refine step_run (wanted_none rfl) (v := .bool true) (w' := W) ?_ (hK _ _ hC (Untouched.refl _ _) rfl (hJ.same 8 (by decide) (by decide)))
                    go_simp
                · intro f w6 hC6 hv6 D6 hD6 hJ6
                  obtain ⟨a6, hJ, -⟩ := hJ6
                  obtain ⟨L2', hR7, hs7⟩ := hJ.r1 (hD6 6 (by decide))
                  have S7 := hid_ (HSS.out.next2 (hJ.i1 (hD6 2 (by decide))) hR7 hs7 hC6 HLE.out)
                  have e13 : f 13 = .bool true := hv6 8 (by decide)
                  simp only [framed, List.foldl_cons, List.foldl_nil, List.setIfInBounds_toArray, List.set_cons_succ, List.set_cons_zero]
                  rw [e13]
                  clear hv6 hD6 hJ hR7 hs7 hC6
                  go_wp2
                  go_roundw
                  case rel => exact ⟨k + 1, by omega, by go_num, hid_ ⟨_, _, _, _, hz4, S7.out⟩⟩
                  case measure => simp [intOf]; omega
          · have hd3 : decide ((k : Int) < 30) = false := decide_eq_false (by omega)
            have hd4 : decide (k < 30) = false := decide_eq_false hk2
            clear hk1 hk2 hS
            go_wp2_with (first
              | (go_at_call 33; ((with_reducible refine ce.mono ?_); rintro e w6 ⟨rfl, rfl⟩))
              | (go_at_call 39; ((with_reducible refine cf.mono ?_); rintro e w6 ⟨rfl, rfl⟩)))
            go_ret
            exact ⟨rfl, HSS.out.below⟩
        · have hd1 : decide ((k : Int) < (l1.length : Int)) = false := decide_eq_false (by omega)
          have hd2 : decide (k < l1.length) = false := decide_eq_false hk1
          clear hk1 hS
          go_wp2_with (first
            | (go_at_call 33; ((with_reducible refine ce.mono ?_); rintro e w6 ⟨rfl, rfl⟩))
            | (go_at_call 39; ((with_reducible refine cf.mono ?_); rintro e w6 ⟨rfl, rfl⟩)))
          go_ret
          exact ⟨rfl, HSS.out.below⟩

set_option maxRecDepth 100000 in
theorem lifted (os : Os) (started : os.Started) (H : Type) (enc : TypeId × Value → H) :
    ReturnsInHanded {} Try.checked os 11 .any (Rows.codecTakesSpec.pre6 enc Try.prog Try.f11 Rows.codecTakesRow.domain false) (Rows.codecTakesSpec.post enc Try.prog Try.f11 false true false false) := by
  refine returnsInHanded_of_change (C := Try.checked) own_ started (by kernel_rfl) Try.func11
    (ChangeSpec.witness6 (enc := enc) (C := Try.checked) false ⟨#[], #[.slice none 0 0, .slice none 0 0, .slice none 0 0], []⟩ 8 (by kernel_rfl) (by kernel_rfl) (by kernel_rfl) (by kernel_rfl)) ?_
  intro W base args ds gs before hval0 hW hcnd _
  have hval : ∀ (j : Nat) t v, Try.f11.params[j]? = some t → args[j]? = some v → Value.okWide Try.prog W .any base t v := hval0
  have hW' := hW
  obtain ⟨p, q, hA0, hV, rfl, hfz, hnd⟩ := hW
  have hA : DataW.TrodAll enc Try.prog W 0 (fun _ => true) true Try.f11.params.toList args.toList ds p := hA0
  rw [Try.params11] at hA hval
  obtain ⟨v0, vs0, d0, ds0, p0, q0, hargs, rfl, rfl, h0, r0⟩ := trodAll_cons hA
  obtain ⟨v1, vs1, d1, ds1, p1, q1, rfl, rfl, rfl, h1, r1⟩ := trodAll_cons r0
  obtain ⟨v2, vs2, d2, ds2, p2, q2, rfl, rfl, rfl, h2, r2⟩ := trodAll_cons r1
  obtain ⟨rfl, rfl, rfl⟩ := trodAll_nil r2
  obtain rfl : args = #[v0, v1, v2] := by cases args; simp_all
  obtain ⟨rfl, rfl⟩ := trodVars_none hV
  obtain ⟨A0, l0, c0, rfl, hr0, hlc0, hcm0⟩ := open_bytes Try.underlying23 Try.underlying5 (by kernel_rfl) (hval 0 23 v0 rfl rfl) h0
  obtain ⟨A1, l1, c1, rfl, hr1, hlc1, hcm1⟩ := open_bytes Try.underlying23 Try.underlying5 (by kernel_rfl) (hval 1 23 v1 rfl rfl) h1
  obtain ⟨A2, l2, c2, rfl, hr2, hlc2, hcm2, hbz2⟩ := open_i64s Try.underlying59 Try.underlying3 (by kernel_rfl) (hval 2 59 v2 rfl rfl) h2
  refine (walk W A0 l0 c0 hr0 hlc0 (by unfold maxLen at hcm0; omega) A1 l1 c1 hr1 hlc1 (by unfold maxLen at hcm1; omega) A2 l2 c2 hr2 hlc2 (by unfold maxLen at hcm2; omega) hbz2).mono fun e W' ⟨he, hg⟩ => ⟨_, he, ?_⟩
  exact law_post laidOut_ (of_decide_eq_true (by kernel_rfl)) rfl rfl Try.underlying4 rfl hW' hg

theorem over : Rows.codecTakesRow.holds Try.pinned (OpenSpec.ofChange Rows.codecTakesSpec) :=
  OpenClaim.holds_of_wide 11 Try.f11 rfl rfl rfl rfl rfl rfl rfl ⟨rfl, rfl, rfl, rfl, rfl⟩ rfl rfl rfl rfl rfl (by kernel_rfl) Try.func11 (by kernel_rfl)
    (of_decide_eq_true (by kernel_rfl)) (by unfold Func.isWrapper; first | (rw [if_pos (by decide +kernel)]; kernel_rfl) | (rw [if_neg (by decide +kernel)]; exact ⟨rfl, rfl⟩))
    (fun os started H enc _ => lifted os started H enc)

theorem proved : Rows.CodecTakesSaid := over
#print axioms proved
end Go.Proofs.Ytopmngjaieobnaa.codecTakes
