/-
  The document's Expand gives the bytes, too; expands answers true.
-/
import Derived.Test.YteijlgifcmlkoaaDoorHj
namespace Go.Proofs.YteijlgifcmlkoaaDoor
open Go.ChangeShapes Go.WideShapes Go.ChangeAt Go.RowKit
set_option linter.unusedVariables false
set_option linter.unusedSimpArgs false

theorem OwnT.capT {w : World} {base : Nat} {A : Option Addr} {n c : Nat} {l : List UInt8} (h : OwnT w base (.slice A n c) l) : n ≤ c ∧ c ≤ 9223372036854775807 := by
  rcases h with ⟨hv, rfl⟩ | ⟨g, cap, cur, fz, hv, _, _, _, h1, h2, _⟩
  · injection hv with _ h2 h3
    omega
  · injection hv with _ h3 h4
    unfold maxLen at h2
    omega
set_option maxRecDepth 100000 in
set_option maxHeartbeats 1000000 in
theorem refoneH (w : World) (k : Nat) (hk : k < 256) : Calls Tryd.prog 20 #[.int .i64 (k : Int)] w fun e w' => e = .returned (.string (strOf [UInt8.ofNat k])) ∧ Below w.heap.size w w' := by
  have hw : IntKind.u8.wrap (k : Int) = (k : Int) := by simp [IntKind.wrap, IntKind.signed, IntKind.bits]; omega
  have hm : (k : Int) % 256 = (k : Int) := by omega
  have hcv := conv_one k w
  rw [show k % 256 = k by omega, hm] at hcv
  have HB := hidj_ ((Below.refl w.heap.size w).alloc (Nat.le_refl _) (.cells #[.int .u8 (k : Int)] 5))
  go_enter Tryd.func20, Tryd.ntmps20
  go_wp2
  go_ret
  exact ⟨rfl, HB.out⟩
set_option maxRecDepth 100000 in
set_option maxHeartbeats 8000000 in
theorem refExpand_any (w : World) (key use : List UInt8) (hk : key.length ≤ 100000) (hu : use.length ≤ 100000) (n : Nat) (hn : n ≤ 8160) :
    Calls Tryd.prog 10 #[.string (strOf key), .string (strOf use), .int .i64 (n : Int)] w fun e w' => e = .returned (.string (strOf (expandB key use n))) ∧ Below w.heap.size w w' := by
  have e0 : (⟨#[]⟩ : ByteArray) = strOf (lastB key use 0) := rfl
  have S0 : Hid (OwnT w w.heap.size (.slice none 0 0) (outB key use 0)) := hidj_ (.inl ⟨rfl, rfl⟩)
  have B0 := hidj_ (Below.refl w.heap.size w)
  have UL := hidj_ hu
  have KL := hidj_ hk
  go_enter Tryd.func10, Tryd.ntmps10
  go_upto_region 4 with fail
  go_loopw [7, 8, 9] (fun v7 v8 i wr => ∃ j : Nat, 1 ≤ j ∧ j ≤ 256 ∧ i = .int .i64 j ∧ v8 = .string (strOf (lastB key use (j - 1))) ∧ Hid (OwnT wr w.heap.size v7 (outB key use (j - 1))) ∧ Hid (Below w.heap.size w wr)) (fun _ _ i _ => 256 - (intOf i).toNat)
  case atStart => exact ⟨1, by omega, by omega, rfl, rfl, S0, B0⟩
  case round =>
    obtain ⟨j, hj0, hj1, rfl, rfl, HO, HB⟩ := hrel
    clear S0 B0 e0
    have OL0 := outB_len key use (j - 1)
    obtain ⟨A1, c1, rfl⟩ := HO.out.form
    obtain ⟨q, hq⟩ : ∃ q, Hid (32 * (j - 1) = q) := ⟨_, hidj_ rfl⟩
    rw [hq.out] at OL0
    have OL := hidj_ OL0
    by_cases hlt : q < n
    · have hj2 : j < 256 := by have := hq.out; omega
      have hst := hidj_ (show outB key use (j - 1 + 1) = outB key use (j - 1) ++ lastB key use (j - 1 + 1) from rfl)
      have hlb := hidj_ (show lastB key use (j - 1 + 1) = hmacB key (lastB key use (j - 1) ++ use ++ [UInt8.ofNat (j - 1 + 1)]) from rfl)
      rw [show j - 1 + 1 = j by omega] at hst hlb
      have LJ := hidj_ (show (lastB key use j).length = 32 by have h := lastB_len key use (j - 1); rw [show j - 1 + 1 = j by omega] at h; exact h)
      have H9 := lastB_le key use (j - 1)
      have HO1 := HO.out
      generalize lastB key use (j - 1) = p at *
      generalize outB key use (j - 1) = O at *
      rw [OL.out] at HO1 ⊢
      have HO2 := hidj_ HO1
      have c1' := fun W => refoneH W j hj2
      have ha1 := strOf_append p use
      have ha2 := strOf_append (p ++ use) [UInt8.ofNat j]
      generalize UInt8.ofNat j = bj at *
      have z1 : (strOf p).size + (strOf use).size ≤ 9223372036854775807 := by rw [strOf_size, strOf_size]; omega
      have z2 : (strOf (p ++ use)).size + (strOf [bj]).size ≤ 9223372036854775807 := by rw [strOf_size, strOf_size, List.length_append]; simp; omega
      have cs := fun W => refHmac_any W key (p ++ use ++ [bj]) (by have := KL.out; omega) (by have := UL.out; simp; omega)
      rw [← hlb.out] at cs
      simp only [List.append_assoc] at cs
      obtain ⟨dg, hdg⟩ : ∃ dg, lastB key use j = dg := ⟨_, rfl⟩
      rw [hdg] at hst hlb LJ cs
      have HLJ := hidj_ hdg
      have hd1 : decide ((q : Int) < (n : Int)) = true := decide_eq_true (by omega)
      have hd2 : decide (q < n) = true := decide_eq_true hlt
      clear hdg OL0 HO1 HO H9
      go_wp2_with (first
        | (go_at_call 20; ((with_reducible refine (c1' _).mono ?_); rintro e w2 ⟨rfl, hb⟩; have X2 := hidj_ (HB.out.trans (hb.mono HB.out.size)); have O2 := hidj_ (HO2.out.below hb (Nat.le_refl _)); clear hb))
        | (go_at_call 9; ((with_reducible refine (cs _).mono ?_); rintro e w3 ⟨rfl, hb⟩; have X3 := hidj_ (X2.out.trans (hb.mono X2.out.size)); have O3 := hidj_ (O2.out.below hb (Nat.le_refl _)); clear hb))
        | (at_builtin; refine wpList_appS rfl (.tmp 24) (.tmp 25) rfl O3.out rfl dg 32 rfl LJ.out (by rw [OL.out]; omega) X3.out.size ?_; (intro A7 c7 w7 k1 k2; rw [OL.out] at k1 ⊢; have O7 := hidj_ k1; have X7 := hidj_ (X3.out.grown k2 X3.out.size (fun k hk => (O3.out.lt k hk).1)); clear k1 k2)))
      go_roundw
      case rel => exact ⟨j + 1, by omega, by omega, by go_num, by rw [Nat.add_sub_cancel, HLJ.out], hidj_ (by rw [Nat.add_sub_cancel, hst.out]; exact O7.out), X7⟩
      case measure => simp [intOf]; omega
    · have HE := hidj_ (expandB_eq key use n (j - 1) (by omega) (by have := hq.out; omega))
      have HO1 := HO.out
      generalize lastB key use (j - 1) = p at *
      generalize outB key use (j - 1) = O at *
      rw [OL.out] at HO1 ⊢
      obtain ⟨hc0, hc1⟩ := HO1.capT
      have hsl := fun W => slice_to A1 q c1 (n : Int) n rfl (by omega) W
      have hcv := conv_strn (HO1.rd.1.take n) n c1 (by rw [List.length_take, OL.out]; omega)
      have hd1 : decide ((q : Int) < (n : Int)) = false := decide_eq_false (by omega)
      have hd2 : decide (q < n) = false := decide_eq_false hlt
      clear OL0
      go_wp2
      go_ret
      exact ⟨by rw [HE.out]; rfl, HB.out⟩
end Go.Proofs.YteijlgifcmlkoaaDoor
