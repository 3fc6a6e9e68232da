/-
  Contract: the reference's Poly1305: Tag.
-/
import Derived.Test.YtopmngjaieobnaaU4
import Derived.Test.YtopmngjaieobnaaU1
namespace Go.Proofs.Ytopmngjaieobnaa
open Go.RowKit
set_option linter.unusedVariables false

def sizeV : Value → Nat | .string c => c.size | _ => 0
/-- The first i of a row, and noughts. -/
def preI (l : List Int) (i : Nat) : List Int := l.take i ++ List.replicate (34 - i) 0
theorem preI_len (l : List Int) (i : Nat) (h : i ≤ 34) (hl : i ≤ l.length) : (preI l i).length = 34 := by simp [preI]; omega
theorem preI_zero (l : List Int) : preI l 0 = zerosI := by simp [preI, zerosI]
theorem preI_step (l : List Int) (i : Nat) (h : i < 34) (hl : i < l.length) : (preI l i).set i (l.getD i 0) = preI l (i + 1) := by
  obtain ⟨m, hm⟩ : ∃ m, 34 - i = m + 1 := ⟨34 - i - 1, by omega⟩
  have h1 : (l.take i).length = i := by rw [List.length_take]; omega
  have h2 : l.getD i 0 = l[i] := by simp [List.getD, hl]
  unfold preI
  rw [List.set_append_right _ _ (by omega), h1, Nat.sub_self, hm, List.replicate_succ, List.set_cons_zero, show 34 - (i + 1) = m by omega, List.take_succ_eq_append_getElem hl, h2, List.append_assoc]
  rfl
/-- The factor's row. -/
def facI (key : List UInt8) : List Int := preI (intsB (clampB key)) 16
theorem facI_val (key : List UInt8) (h : key.length = 32) : vI (facI key) = (factN key).val := by
  have hl : (intsB (clampB key)).length = 16 := by rw [intsB_len, clampB_len key h]
  unfold facI preI
  rw [vI_append, vI_zeros, Int.mul_zero, Int.add_zero, List.take_of_length_le (by omega), vI_ints, factN_val key h]
theorem facI_len (key : List UInt8) (h : key.length = 32) : (facI key).length = 34 := by
  unfold facI
  rw [preI_len _ _ (by omega) (by rw [intsB_len, clampB_len key h]; omega)]
theorem facI_rng (key : List UInt8) : rngI 255 (facI key) := fun x hx => by
  rcases List.mem_append.1 hx with h | h
  · exact intsB_range _ x (List.mem_of_mem_take h)
  · rw [List.eq_of_mem_replicate h]; omega
theorem facI_take (key : List UInt8) (h : key.length = 32) : vI ((facI key).take 17) = vI (facI key) := by
  have hl : (intsB (clampB key)).length = 16 := by rw [intsB_len, clampB_len key h]
  have e : (facI key).take 17 = intsB (clampB key) ++ List.replicate 1 0 := by
    unfold facI preI
    rw [List.take_of_length_le (show (intsB (clampB key)).length ≤ 16 by omega), List.take_append, List.take_of_length_le (show (intsB (clampB key)).length ≤ 17 by omega), hl, List.take_replicate]
    rfl
  rw [e, facI, preI, vI_append, vI_append, vI_zeros, vI_zeros, List.take_of_length_le (show (intsB (clampB key)).length ≤ 16 by omega)]
theorem fac_lt (key : List UInt8) (h : key.length = 32) : 0 ≤ (factN key).val ∧ (factN key).val < 340282366920938463463374607431768211456 := by
  rw [factN_val key h]
  have h1 := leN_lt (clampB key)
  rw [clampB_len key h] at h1
  have : (256 : Nat) ^ 16 = 340282366920938463463374607431768211456 := by decide
  omega
theorem clI_a (key : List UInt8) (k : Nat) (h : k % 4 = 3) : ((clI key k : Nat) : Int) = ((key.getD k 0).toNat : Int) % 16 := by
  unfold clI
  simp only [h, if_true]
  rw [if_neg (by omega)]
  omega
theorem clI_b (key : List UInt8) (k : Nat) (h : k % 4 = 0) (h0 : 0 < k) : ((clI key k : Nat) : Int) = ((key.getD k 0).toNat : Int) - ((key.getD k 0).toNat : Int) % 4 := by
  unfold clI
  simp only
  rw [if_pos ⟨h0, h⟩, if_neg (by omega)]
  omega
theorem clI_c (key : List UInt8) (k : Nat) (h : k % 4 ≠ 3) (h0 : ¬ (0 < k ∧ k % 4 = 0)) : ((clI key k : Nat) : Int) = ((key.getD k 0).toNat : Int) := by
  unfold clI
  simp only
  rw [if_neg h0, if_neg h]
theorem accP_lt (f : Int) (b : List UInt8) : ∀ k, 0 ≤ accP f b k ∧ accP f b k < 1361129467683753853853498429727072845819
  | 0 => ⟨Int.le_refl _, by show (0 : Int) < _; decide⟩
  | k + 1 => by
    have h : primeP = 1361129467683753853853498429727072845819 := rfl
    unfold accP
    rw [h]
    exact ⟨Int.emod_nonneg _ (by decide), Int.emod_lt_of_pos _ (by decide)⟩
theorem part_lt (l : List UInt8) (h : l.length ≤ 16) : leN l + 256 ^ l.length < 2 * 340282366920938463463374607431768211456 := by
  have h1 := leN_lt l
  have h2 : 256 ^ l.length ≤ 256 ^ 16 := Nat.pow_le_pow_right (by omega) h
  have : (256 : Nat) ^ 16 = 340282366920938463463374607431768211456 := by decide
  omega
theorem dig_lowpart (A : Int) (h0 : 0 ≤ A) (h : A < 87112285931760246646623899502532662132736) : vI ((digI 34 A).take 17) = A := by
  rw [dig_take 34 17 A (by omega), vI_dig]
  exact Int.emod_eq_of_lt h0 h
theorem dig_whole (A : Int) (h0 : 0 ≤ A) (h : A < 1361129467683753853853498429727072845819) : vI (digI 34 A) = A := by
  rw [vI_dig]
  have e : (256 : Int) ^ 34 = 7588550360256754183279148073529370729071901715047420004889892225542594864082845696 := by decide
  rw [e]
  exact Int.emod_eq_of_lt h0 (by omega)
theorem tag_start {v acc : Int} (h : v = acc) (c : List UInt8) : Hid (v = acc + ((leN (c.take 0) : Nat) : Int)) := by
  subst h
  show v = v + 0
  omega
/-- One is added above the text's bytes. -/
theorem one_step (l : List Int) (c : List UInt8) (r : Nat) (acc : Int) (hl : r < l.length) (hv : vI l = acc + ((leN (c.take r) : Nat) : Int)) :
    vI (l.set r (l.getD r 0 + 1)) = acc + ((leN (c.take r) + 256 ^ r : Nat) : Int) := by
  rw [vI_set l r _ hl, hv, Int.natCast_add, Int.natCast_pow]
  grind
/-- A product of digits more is added. -/
theorem mul_step (xs D rl : List Int) (i j : Nat) (T : Int) (hx : i + j < xs.length) (hr : j < rl.length) (hv : vI xs = T + 256 ^ i * D.getD i 0 * vI (rl.take j)) :
    vI (xs.set (i + j) (xs.getD (i + j) 0 + D.getD i 0 * rl.getD j 0)) = T + 256 ^ i * D.getD i 0 * vI (rl.take (j + 1)) := by
  rw [vI_set xs (i + j) _ hx, hv, vI_take_succ rl j hr, Int.pow_add]
  grind
theorem mul_row (D : List Int) (i : Nat) (v F : Int) (hd : i < D.length) (hv : v = vI (D.take i) * F + 256 ^ i * D.getD i 0 * F) : v = vI (D.take (i + 1)) * F := by
  rw [hv, vI_take_succ D i hd]
  grind
theorem prod_bd {a u B C : Int} (h1 : 0 ≤ a ∧ a ≤ B) (h2 : 0 ≤ u ∧ u ≤ C) : 0 ≤ a * u ∧ a * u ≤ B * C :=
  ⟨Int.mul_nonneg h1.1 h2.1, Int.mul_le_mul h1.2 h2.2 h2.1 (by omega)⟩
/-- A byte more is added. -/
theorem add_step (l : List Int) (c : List UInt8) (j : Nat) (acc : Int) (hl : j < l.length) (hc : j < c.length) (hv : vI l = acc + ((leN (c.take j) : Nat) : Int)) :
    vI (l.set j (l.getD j 0 + ((c.getD j 0).toNat : Int))) = acc + ((leN (c.take (j + 1)) : Nat) : Int) := by
  have h1 : (c.take j).length = j := by rw [List.length_take]; omega
  rw [vI_set l j _ hl, hv, take_snoc8 c j hc, leN_snoc, h1, Int.natCast_add, Int.natCast_mul, Int.natCast_pow]
  grind
theorem mul_lt (a f : Int) (h0 : 0 ≤ a) (h1 : a < 2041694201525630780780247644590609268731) (h2 : 0 ≤ f) (h3 : f < 340282366920938463463374607431768211456) : 0 ≤ a * f ∧ a * f < 256 ^ 34 := by
  have e : (256 : Int) ^ 34 = 7588550360256754183279148073529370729071901715047420004889892225542594864082845696 := by decide
  refine ⟨Int.mul_nonneg h0 h2, ?_⟩
  have : a * f ≤ 2041694201525630780780247644590609268731 * 340282366920938463463374607431768211456 := Int.mul_le_mul (by omega) (by omega) h2 (by omega)
  rw [e]
  have e2 : (2041694201525630780780247644590609268731 : Int) * 340282366920938463463374607431768211456 < 7588550360256754183279148073529370729071901715047420004889892225542594864082845696 := by decide
  omega

set_option maxRecDepth 100000 in
set_option maxHeartbeats 8000000 in
theorem refTag_any (key b : List UInt8) (n : Nat) (w : World) (hk : key.length = 32) (hn : b.length = n) (hm : n ≤ 70368744177664) :
    Calls Try.prog 16 #[.string (strOf key), .string (strOf b)] w fun e w' => e = .returned (.string (strOf (polyTag key b))) ∧ Below w.heap.size w w' := by
  have hz := z34
  have hsk : (strOf key).size = 32 := by rw [strOf_size, hk]
  have hsb : (strOf b).size = n := by rw [strOf_size, hn]
  have HK := hidu_ hk
  have HN := hidu_ hn
  obtain ⟨g, hg⟩ : ∃ g, Hid (w.heap.size = g) := ⟨_, rfl⟩
  obtain ⟨w0, hw0⟩ : ∃ W, Hid ((w.alloc (.cells (rowI zerosI) 82)).alloc (.cells (rowI zerosI) 82) = W) := ⟨_, rfl⟩
  have HG : Hid (Bk w0 g 82 (rowI zerosI)) := hidu_ (by rw [← hw0.out, ← hg.out]; exact (Bk.new w _ _).alloc _)
  have HZ : Hid (Bk w0 (g + 1) 82 (rowI zerosI)) := hidu_ (by
    have h := Bk.new (w.alloc (.cells (rowI zerosI) 82)) 82 (rowI zerosI)
    rw [← hw0.out, ← hg.out]
    simpa using h)
  have HB : Hid (Below g w w0) := hidu_ (by rw [← hw0.out, ← hg.out]; exact ((Below.refl _ _).alloc (Nat.le_refl _) _).alloc (by simp) _)
  have hI : ∀ l : List Int, l.length = 34 → (Try.prog.info? 82).map (·.size) = some (rowI l).size := i34
  have HI := hidu_ hI
  have hs1 : (w.alloc (.cells (rowI zerosI) 82)).heap.size = g + 1 := by rw [← hg.out]; simp
  have FV := hidu_ (facI_val key hk)
  have FL := hidu_ (facI_len key hk)
  have FR := hidu_ (facI_rng key)
  have FT := hidu_ (facI_take key hk)
  have FB := hidu_ (fac_lt key hk)
  have CL : Hid ((intsB (clampB key)).length = 16) := hidu_ (by rw [intsB_len, clampB_len key hk])
  have CG := hidu_ (fun i (h : i < 16) => show (intsB (clampB key)).getD i 0 = ((clI key i : Nat) : Int) by rw [intsB_get, clampB_get key hk i h])
  clear hI hk hn
  go_enter Try.func16, Try.ntmps16
  go_upto_region 2 with fail
  first | rw [hs1] | skip
  rw [hg.out, hw0.out]
  clear hs1
  go_wp2
  go_loopw [7] (fun i wr => ∃ k : Nat, k ≤ 16 ∧ i = .int .i64 k ∧ Hid (Bk wr g 82 (rowI (preI (intsB (clampB key)) k))) ∧ Hid (Bk wr (g + 1) 82 (rowI zerosI)) ∧ Hid (Below g w wr)) (fun i _ => 16 - (intOf i).toNat)
  case atStart => exact ⟨0, by omega, rfl, by rw [preI_zero]; exact HG, HZ, HB⟩
  case round =>
    obtain ⟨k, hk, rfl, B0, B1, BB⟩ := hrel
    clear HG HZ HB
    by_cases hlt : k < 16
    · have hd16 : decide ((k : Int) < 16) = true := decide_eq_true (by omega)
      have hgk : ∀ h : k < (strOf key).size, ((strOf key)[k]'h).toNat = (key.getD k 0).toNat := fun h => strOf_get key k h
      have hb0 := (key.getD k 0).toNat_lt
      have hc := B0.out.cell k
      rw [rowI_at _ _ (by rw [preI_len _ _ (by omega) (by rw [CL.out]; omega)]; omega)] at hc
      have hf := B0.out.frozen k
      have hcl := CG.out k hlt
      have hset := B0.out.set_ k (.int .i64 (clI key k))
      rw [rowI_set, ← hcl, preI_step _ _ (by omega) (by rw [CL.out]; omega), hcl] at hset
      have HS := hidu_ hset
      have HF := hidu_ (B1.out.far (p := ⟨g, k, none⟩) (by simp) (.int .i64 (clI key k)))
      have HX := hidu_ (BB.out.setCell (p := ⟨g, k, none⟩) (by simp) (.int .i64 (clI key k)))
      have t0 : (0 : Int) ≤ (k : Int) := by omega
      have t1 : (k : Int) < 34 := by omega
      clear hset hcl
      generalize (preI (intsB (clampB key)) k).getD k 0 = v0 at *
      by_cases h3 : k % 4 = 3
      · have hcv := clI_a key k h3
        rw [hcv] at HS HF HX
        have e3 : ((k : Int) % 4 == 3) = true := by
          have : (k : Int) % 4 = 3 := by omega
          rw [this]; rfl
        have e0 : ((k : Int) % 4 == 0) = false := by
          have : (k : Int) % 4 = 3 := by omega
          rw [this]; rfl
        have e1 : decide ((0 : Int) < (k : Int)) = true := decide_eq_true (by omega)
        have e2 : decide (0 < k) = true := decide_eq_true (by omega)
        have e4 : 0 < k := by omega
        clear hcv h3
        generalize (key.getD k 0).toNat = c at *
        go_wp2
        go_roundw
        case rel => exact ⟨k + 1, by omega, by go_num, HS, HF, HX⟩
        case measure => simp [intOf]; omega
      · by_cases h0 : k = 0
        · have hcv := clI_c key k h3 (by omega)
          rw [hcv] at HS HF HX
          have e3 : ((k : Int) % 4 == 3) = false := by
            have : (k : Int) % 4 = 0 := by omega
            rw [this]; rfl
          have e1 : decide ((0 : Int) < (k : Int)) = false := decide_eq_false (by omega)
          have e2 : decide (0 < k) = false := decide_eq_false (by omega)
          have e4 : ¬ 0 < k := by omega
          clear hcv h3 h0
          generalize (key.getD k 0).toNat = c at *
          go_wp2
          go_roundw
          case rel => exact ⟨k + 1, by omega, by go_num, HS, HF, HX⟩
          case measure => simp [intOf]; omega
        · by_cases h4 : k % 4 = 0
          · have hcv := clI_b key k h4 (by omega)
            rw [hcv] at HS HF HX
            have e3 : ((k : Int) % 4 == 3) = false := by
              have : (k : Int) % 4 = 0 := by omega
              rw [this]; rfl
            have e0 : ((k : Int) % 4 == 0) = true := by
              have : (k : Int) % 4 = 0 := by omega
              rw [this]; rfl
            have e1 : decide ((0 : Int) < (k : Int)) = true := decide_eq_true (by omega)
            have e2 : decide (0 < k) = true := decide_eq_true (by omega)
            have e4 : 0 < k := by omega
            clear hcv h3 h0 h4
            generalize (key.getD k 0).toNat = c at *
            go_wp2
            go_roundw
            case rel => exact ⟨k + 1, by omega, by go_num, HS, HF, HX⟩
            case measure => simp [intOf]; omega
          · have hcv := clI_c key k h3 (by omega)
            rw [hcv] at HS HF HX
            have e3 : ((k : Int) % 4 == 3) = false := by
              have : (k : Int) % 4 ≠ 3 := by omega
              simpa using this
            have e0 : ((k : Int) % 4 == 0) = false := by
              have : (k : Int) % 4 ≠ 0 := by omega
              simpa using this
            have e1 : decide ((0 : Int) < (k : Int)) = true := decide_eq_true (by omega)
            have e2 : decide (0 < k) = true := decide_eq_true (by omega)
            have e4 : 0 < k := by omega
            clear hcv h3 h0 h4
            generalize (key.getD k 0).toNat = c at *
            go_wp2
            go_roundw
            case rel => exact ⟨k + 1, by omega, by go_num, HS, HF, HX⟩
            case measure => simp [intOf]; omega
    · have e16 : k = 16 := by omega
      have hd16 : decide ((k : Int) < 16) = false := decide_eq_false (by omega)
      rw [e16] at B0
      clear e16
      have R0 : Hid (Bk wr g 82 (rowI (facI key))) := B0
      have HF0 := hidu_ (dig_zero 34)
      have Z0 : Hid (Bk wr (g + 1) 82 (rowI (digI 34 (accP (factN key).val b 0)))) := hidu_ (by
        show Bk wr (g + 1) _ (rowI (digI 34 0)); rw [HF0.out]; exact B1.out)
      clear B0 B1 HF0 CG CL
      obtain ⟨rl, hrl⟩ : ∃ rl, Hid (facI key = rl) := ⟨_, rfl⟩
      obtain ⟨F, hF⟩ : ∃ F, Hid ((factN key).val = F) := ⟨_, rfl⟩
      rw [hrl.out] at R0 FV FL FR FT
      rw [hF.out] at FV FB Z0
      go_wp2
      go_loopw [1] (fun s wr => ∃ k m : Nat, s = .string (strOf (b.drop (16 * k))) ∧ 16 * k ≤ n + 15 ∧ m ≤ n ∧ Hid ((b.drop (16 * k)).length = m) ∧ Hid (Bk wr g 82 (rowI rl)) ∧ Hid (Bk wr (g + 1) 82 (rowI (digI 34 (accP F b k)))) ∧ Hid (Below g w wr)) (fun s _ => sizeV s)
      case atStart => exact ⟨0, n, rfl, by omega, Nat.le_refl _, HN, R0, Z0, BB⟩
      case round =>
        obtain ⟨q, m, rfl, hq, hmn, HM, B0, B1, BB⟩ := hrel
        clear R0 Z0
        have hsm : (strOf (b.drop (16 * q))).size = m := by rw [strOf_size, HM.out]
        by_cases h0 : m = 0
        · have hqn : (b.length + 15) / 16 = q := by
            have h := HM.out
            rw [List.length_drop, HN.out] at h
            rw [HN.out]
            omega
          subst h0
          have HAb := hidu_ (accP_lt F b q)
          have HT : Hid (polyTag key b = lowB 16 (accP F b q + ((leN (key.drop 16) : Nat) : Int)).toNat) := hidu_ (by
            have h1 := (accP_lt F b q).1
            unfold polyTag
            rw [hF.out, hqn]
            have e : (256 : Nat) ^ 16 = 340282366920938463463374607431768211456 := by decide
            rw [← lowB_mod 16 (accP F b q + ((leN (key.drop 16) : Nat) : Int)).toNat, e]
            congr 1
            omega)
          have hkd : ((key.drop 16)).length = 16 := by rw [List.length_drop, HK.out]
          have HKD := hidu_ hkd
          have HKb := hidu_ (leN_lt (key.drop 16))
          clear hqn hkd
          obtain ⟨acc, hacc⟩ : ∃ acc, Hid (accP F b q = acc) := ⟨_, rfl⟩
          rw [hacc.out] at HAb B1 HT
          obtain ⟨ke, hke⟩ : ∃ ke, Hid (key.drop 16 = ke) := ⟨_, rfl⟩
          rw [hke.out] at HT HKD HKb
          go_wp2
          go_loopw [14] (fun i wr => ∃ (j : Nat) (l : List Int), j ≤ 16 ∧ i = .int .i64 j ∧ Hid (Bk wr (g + 1) 82 (rowI l)) ∧ Hid (Below g w wr) ∧ Hid (l.length = 34) ∧ Hid (rngI (255 + 255 * (j : Int)) l) ∧ Hid (vI l = acc + ((leN (ke.take j) : Nat) : Int))) (fun i _ => 16 - (intOf i).toNat)
          case atStart => exact ⟨0, _, Nat.zero_le _, rfl, B1, BB, digI_len _ _, (rngI_dig 34 acc).mono (by omega), tag_start (dig_whole acc HAb.out.1 HAb.out.2) ke⟩
          case round =>
            obtain ⟨j, l, hj, rfl, B1, BB, JL, JR, JV⟩ := hrel
            by_cases hltj : j < 16
            · have hdj : decide ((j : Int) < 16) = true := decide_eq_true (by omega)
              have hkg : (key.getD (16 + j) 0).toNat = (ke.getD j 0).toNat := by rw [← hke.out]; simp [List.getD]
              have hgj : ∀ h : 16 + j < (strOf key).size, ((strOf key)[16 + j]'h).toNat = (ke.getD j 0).toNat := fun h => by rw [strOf_get, hkg]
              have hu0 := (ke.getD j 0).toNat_lt
              have hcl := B1.out.cell j
              rw [rowI_at _ _ (by rw [JL.out]; omega)] at hcl
              have hb := JR.out.get (by omega) j
              have JV2 := hidu_ (add_step l ke j acc (by rw [JL.out]; omega) (by rw [HKD.out]; omega) JV.out)
              obtain ⟨a, ha⟩ : ∃ a, Hid (l.getD j 0 = a) := ⟨_, rfl⟩
              rw [ha.out] at hcl hb JV2
              obtain ⟨u, hu⟩ : ∃ a, Hid ((ke.getD j 0).toNat = a) := ⟨_, rfl⟩
              rw [hu.out] at JV2 hu0 hgj
              obtain ⟨hb0, hb1⟩ := hb
              have JR2 : Hid (rngI (255 + 255 * ((j + 1 : Nat) : Int)) (l.set j (a + (u : Int)))) := hidu_ ((JR.out.mono (by omega)).set j (by omega) (by omega))
              have JL2 : Hid ((l.set j (a + (u : Int))).length = 34) := hidu_ (by rw [List.length_set, JL.out])
              have t0 : (0 : Int) ≤ (j : Int) := by omega
              have t1 : (j : Int) < 34 := by omega
              have t2 : (0 : Int) ≤ 16 + (j : Int) := by omega
              have t3 : 16 + (j : Int) < 32 := by omega
              have t4 : (16 + (j : Int)).toNat = 16 + j := by omega
              have q1 : IntKind.i64.wrap (16 + (j : Int)) = 16 + (j : Int) := IntWalk.i64_in _ (by omega)
              clear hkg
              go_upto_region 32 with fail
              refine region_quiet_tail_lit 11 (by kernel_rfl) (by kernel_rfl) ?_
              simp only [List.take_succ_cons, List.take_zero]
              repeat (go_big_quiet_step (fail))
              refine wpQuiet_nil ?_
              intro w' hw'
              obtain ⟨nq, rfl⟩ := hw'
              simp only [List.drop_succ_cons, List.drop_zero]
              have hset := (B1.out.drewN nq).set_ j (.int .i64 (a + (u : Int)))
              rw [rowI_set] at hset
              have hf5 := (B1.out.drewN nq).frozen j
              have hc5 := (B1.out.drewN nq).cell j
              rw [rowI_at _ _ (by rw [JL.out]; omega), ha.out] at hc5
              have HS5 := hidu_ hset
              have HX5 := hidu_ ((below_drewN BB.out nq).setCell (p := ⟨g + 1, j, none⟩) (by simp) (.int .i64 (a + (u : Int))))
              clear hset hcl B1 BB q1
              generalize wr.drewN nq = w3 at *
              refine wpList_plain rfl fun K hK => ?_
              go_simp
              refine hK _ _ ?_
              clear hK K
              rename_i K hK
              refine hK _ _ ?_
              clear hf5 hc5 hgj
              go_wp2
              go_roundw
              case rel => exact ⟨j + 1, _, by omega, by go_num, HS5, HX5, JL2, JR2, JV2⟩
              case measure => simp [intOf]; omega
            · have ej : j = 16 := by omega
              have hdj : decide ((j : Int) < 16) = false := decide_eq_false (by omega)
              rw [ej] at JV JR
              clear ej
              have hv := JV.out
              rw [List.take_of_length_le (by rw [HKD.out]; omega)] at hv
              have cc := fun W => carry_any l W JL.out (JR.out.mono (by omega))
              rw [hv] at cc
              have hzz : Hid ((((acc + ((leN ke : Nat) : Int)).toNat : Nat) : Int) = acc + ((leN ke : Nat) : Int)) := hidu_ (by have := HAb.out.1; omega)
              clear hv
              obtain ⟨z, hz⟩ : ∃ z, Hid ((acc + ((leN ke : Nat) : Int)).toNat = z) := ⟨_, rfl⟩
              rw [hz.out] at HT hzz
              rw [← hzz.out] at cc
              obtain ⟨E, hE⟩ : ∃ E, Hid (digI 34 (z : Int) = E) := ⟨_, rfl⟩
              have EL : Hid (E.length = 34) := hidu_ (by rw [← hE.out]; exact digI_len _ _)
              have EG : Hid (∀ i, i < 16 → E.getD i 0 = (((UInt8.ofNat (z / 256 ^ i % 256)).toNat : Nat) : Int)) := hidu_ (fun i hi => by
                rw [← hE.out, dig_getD 34 i _ (by omega)]
                have e : (UInt8.ofNat (z / 256 ^ i % 256)).toNat = z / 256 ^ i % 256 := by simp
                rw [e, Int.natCast_emod, Int.natCast_ediv, Int.natCast_pow]
                rfl)
              rw [hE.out] at cc
              have K2 := B1.out
              go_upto_region 34 with (first
                | (refine wpList_load_row rfl 82 (.tmp 6) rfl (g + 1) rfl 82 (rowI l) (0, 0) _ K2 Try.underlying82 rfl (HI.out _ JL.out) ?_)
                | (go_at_call 49; ((with_reducible refine (cc _).mono ?_); rintro e w4 ⟨rfl, hb4⟩);
                   have A5 := hidu_ (B1.out.below hb4 B1.out.lt); have A6 := hidu_ (BB.out.trans (hb4.mono (by have := B1.out.lt; omega)));
                   have A7 := A5.out; clear hb4)
                | (refine wpList_put_row rfl 82 (.tmp 6) (.tmp 120) rfl (g + 1) (rowI E) rfl rfl 82 (rowI l) A7 (HI.out _ EL.out) (by rw [rowI_size, rowI_size, JL.out, EL.out]) (rowI_one _) ?_; intro w5 k5 g5 s5;
                   have D6 := hidu_ (A6.out.grown g5 (by have := A5.out.lt; omega) (fun i hi => by injection hi with hi; omega)); have D7 := hidu_ k5; clear k5 g5 s5 A5 A6 A7))
              rw [put_none]
              clear K2 cc B1 BB
              have hgw : g + 1 < w5.heap.size := D7.out.lt
              have O0 : Hid (Own8 w5 (g + 2) (.slice none 0 0) []) := hidu_ (Own8.nil_ _ _)
              go_wp2
              go_loopw [15, 16] (fun o i wr => ∃ j : Nat, j ≤ 16 ∧ i = .int .i64 j ∧ Hid (Own8 wr (g + 2) o (lowB j z)) ∧ Hid (Bk wr (g + 1) 82 (rowI E)) ∧ Hid (Below g w wr)) (fun _ i _ => 16 - (intOf i).toNat)
              case atStart => exact ⟨0, Nat.zero_le _, rfl, O0, D7, D6⟩
              case round =>
                obtain ⟨i, hi, rfl, OO, B1, BB⟩ := hrel
                clear O0 D7 D6
                obtain ⟨A2, c2, rfl, _⟩ := OO.out.form
                rw [lowB_len] at OO
                rw [lowB_len]
                by_cases hlti : i < 16
                · have hdi : decide ((i : Int) < 16) = true := decide_eq_true (by omega)
                  have hcl := B1.out.cell i
                  rw [rowI_at _ _ (by rw [EL.out]; omega), EG.out i hlti] at hcl
                  have HLs := hidu_ (lowB_succ i z)
                  have HLl := hidu_ (lowB_len i z)
                  have t0 : (0 : Int) ≤ (i : Int) := by omega
                  have t1 : (i : Int) < 34 := by omega
                  have hub := (UInt8.ofNat (z / 256 ^ i % 256)).toNat_lt
                  obtain ⟨u, hu⟩ : ∃ u, Hid (UInt8.ofNat (z / 256 ^ i % 256) = u) := ⟨_, rfl⟩
                  rw [hu.out] at hcl hub HLs
                  have hw8 : IntKind.u8.wrap ((u.toNat : Nat) : Int) = ((u.toNat : Nat) : Int) := by simp [IntKind.wrap, IntKind.signed, IntKind.bits]; omega
                  have hro : Hid (rowOf [u] = #[.int .u8 ((u.toNat : Nat) : Int)]) := hidu_ rfl
                  have H2 := OO.out
                  have hlt2 := OO.out.lt
                  have HL2 := hidu_ hlt2
                  clear OO
                  obtain ⟨fl, hfl⟩ : ∃ fl, Hid (lowB i z = fl) := ⟨_, rfl⟩
                  rw [hfl.out] at H2 HLs HLl
                  have hr8 : Rd (wr.alloc (.cells (rowOf [u]) 5)) (wr.heap.size + 1) (some ⟨wr.heap.size, 0, none⟩) [u] := rd_mark wr [u] (0, 0)
                  rw [hro.out] at hr8
                  have H3 := H2.alloc (.cells #[.int .u8 ((u.toNat : Nat) : Int)] 5)
                  have hb3 : Below g w (wr.alloc (.cells #[.int .u8 ((u.toNat : Nat) : Int)] 5)) := BB.out.alloc (by have := B1.out.lt; omega) _
                  have HB3 := hidu_ hb3
                  have B3 := hidu_ (B1.out.alloc (.cells #[.int .u8 ((u.toNat : Nat) : Int)] 5))
                  have hsz : g + 2 ≤ wr.heap.size + 1 := by have := B1.out.lt; omega
                  have hown2 : ∀ t, some t = (Value.slice A2 i c2).ownBlock → g + 2 ≤ t := fun t ht => (HL2.out t ht.symm).1
                  have HO2 := hidu_ hown2
                  clear hlt2 hb3 H2 hown2
                  go_wp2_with (at_builtin; refine wpList_app rfl (.tmp 125) (.tmp 130) rfl H3 rfl 1 1 rfl hr8 rfl ?_ ?_ ?_; (rw [HLl.out]; omega); (simp; omega); (intro A' c' w2 k1 k2 k3; rw [HLl.out] at k1 ⊢))
                  have E1 := hidu_ k1
                  have E2 := hidu_ (HB3.out.grown k2 (by simp; omega) (fun t ht => by have h := HO2.out t ht.symm; omega))
                  have E3 := hidu_ (B3.out.grown k2 (fun e => by have := HO2.out _ e; omega))
                  clear k1 k2 k3 H3 hr8 hcl
                  go_wp2
                  go_roundw
                  case rel => exact ⟨i + 1, by omega, by go_num, by rw [HLs.out]; exact E1, E3, E2⟩
                  case measure => simp [intOf]; omega
                · have ei : i = 16 := by omega
                  have hdi : decide ((i : Int) < 16) = false := decide_eq_false (by omega)
                  have hrd := OO.out.rd.1
                  rw [ei] at hrd
                  have hcv := conv_strn hrd 16 c2 (lowB_len 16 z)
                  rw [← HT.out] at hcv
                  rw [← ei] at hcv
                  clear ei hrd
                  go_wp2
                  go_ret
                  exact ⟨rfl, by rw [hg.out]; exact BB.out⟩
        · have hmq : 16 * q + m = n := by have := HM.out; rw [List.length_drop, HN.out] at this; omega
          obtain ⟨r, hr⟩ : ∃ r, r = min 16 m := ⟨_, rfl⟩
          have hmin : (if (16 : Int) < (m : Int) then (16 : Int) else (m : Int)) = (r : Int) := by split <;> omega
          have hr1 : 0 < r := by omega
          have hr2 : r ≤ 16 := by omega
          have hr3 : r ≤ m := by omega
          have hpl : ((b.drop (16 * q)).take 16).length = r := by rw [List.length_take, HM.out, hr]
          have hpt : (b.drop (16 * q)).take r = (b.drop (16 * q)).take 16 := by
            rw [hr]
            rcases Nat.le_total 16 m with h | h
            · rw [Nat.min_eq_left h]
            · rw [Nat.min_eq_right h, List.take_of_length_le (by rw [HM.out]; omega), List.take_of_length_le (by rw [HM.out]; exact h)]
          have hdrop : Hid ((b.drop (16 * q)).drop r = b.drop (16 * (q + 1))) := hidu_ (by
            rw [List.drop_drop]
            rcases Nat.lt_or_ge m 16 with h | h
            · rw [List.drop_eq_nil_of_le (by rw [HN.out]; omega), List.drop_eq_nil_of_le (by rw [HN.out]; omega)]
            · rw [show 16 * q + r = 16 * (q + 1) by omega])
          have HAcc : Hid (accP F b (q + 1) = (accP F b q + ((leN ((b.drop (16 * q)).take 16) + 256 ^ ((b.drop (16 * q)).take 16).length : Nat) : Int)) * F % pI) := hidu_ rfl
          have HPL := hidu_ (part_lt ((b.drop (16 * q)).take 16) (by rw [hpl]; omega))
          rw [hpl, ← hpt] at HAcc HPL
          have HAb := hidu_ (accP_lt F b q)
          obtain ⟨acc, hacc⟩ : ∃ acc, Hid (accP F b q = acc) := ⟨_, rfl⟩
          rw [hacc.out] at HAcc HAb B1
          obtain ⟨c, hc⟩ : ∃ c, Hid (b.drop (16 * q) = c) := ⟨_, rfl⟩
          have HMn : Hid ((b.drop (16 * (q + 1))).length = m - r) := hidu_ (by rw [← hdrop.out, List.length_drop, HM.out])
          rw [hc.out] at HAcc HPL hdrop HM hsm ⊢
          have hex : (strOf c).extract r m = strOf (c.drop r) := by
            rw [strOf_mid, List.take_of_length_le (by rw [List.length_drop, HM.out]; omega)]
          rw [hdrop.out] at hex
          clear hpl hpt hr
          have hm1 : 0 < m := by omega
          have hm2 : decide ((0 : Int) < (m : Int)) = true := decide_eq_true (by omega)
          have hm3 : decide (0 < m) = true := decide_eq_true (by omega)
          go_wp2
          go_loopw [10] (fun i wr => ∃ (j : Nat) (l : List Int), j ≤ r ∧ i = .int .i64 j ∧ Hid (Bk wr g 82 (rowI rl)) ∧ Hid (Bk wr (g + 1) 82 (rowI l)) ∧ Hid (Below g w wr) ∧ Hid (l.length = 34) ∧ Hid (rngI (255 + 255 * (j : Int)) l) ∧ Hid (vI l = acc + ((leN (c.take j) : Nat) : Int))) (fun i _ => r - (intOf i).toNat)
          case atStart => exact ⟨0, _, Nat.zero_le _, rfl, B0, B1, BB, digI_len _ _, (rngI_dig 34 acc).mono (by omega), tag_start (dig_whole acc HAb.out.1 HAb.out.2) c⟩
          case round =>
            obtain ⟨j, l, hj, rfl, B0, B1, BB, JL, JR, JV⟩ := hrel
            by_cases hltj : j < r
            · have hdj : decide ((j : Int) < (r : Int)) = true := decide_eq_true (by omega)
              have hdj2 : decide (j < r) = true := decide_eq_true hltj
              have hgj : ∀ h : j < (strOf c).size, ((strOf c)[j]'h).toNat = (c.getD j 0).toNat := fun h => strOf_get c j h
              have hu0 := (c.getD j 0).toNat_lt
              have hcl := B1.out.cell j
              rw [rowI_at _ _ (by rw [JL.out]; omega)] at hcl
              have hb := JR.out.get (by omega) j
              have JV2 := hidu_ (add_step l c j acc (by rw [JL.out]; omega) (by rw [HM.out]; omega) JV.out)
              obtain ⟨a, ha⟩ : ∃ a, Hid (l.getD j 0 = a) := ⟨_, rfl⟩
              rw [ha.out] at hcl hb JV2
              obtain ⟨u, hu⟩ : ∃ a, Hid ((c.getD j 0).toNat = a) := ⟨_, rfl⟩
              rw [hu.out] at JV2 hu0 hgj
              obtain ⟨hb0, hb1⟩ := hb
              have JR2 : Hid (rngI (255 + 255 * ((j + 1 : Nat) : Int)) (l.set j (a + (u : Int)))) := hidu_ ((JR.out.mono (by omega)).set j (by omega) (by omega))
              have JL2 : Hid ((l.set j (a + (u : Int))).length = 34) := hidu_ (by rw [List.length_set, JL.out])
              have t0 : (0 : Int) ≤ (j : Int) := by omega
              have t1 : (j : Int) < 34 := by omega
              have t2 : (j : Int) < (m : Int) := by omega
              go_upto_region 16 with fail
              refine region_quiet_tail_lit 10 (by kernel_rfl) (by kernel_rfl) ?_
              simp only [List.take_succ_cons, List.take_zero]
              repeat (go_big_quiet_step (fail))
              refine wpQuiet_nil ?_
              intro w' hw'
              obtain ⟨nq, rfl⟩ := hw'
              simp only [List.drop_succ_cons, List.drop_zero]
              have hset := (B1.out.drewN nq).set_ j (.int .i64 (a + (u : Int)))
              rw [rowI_set] at hset
              have hf5 := (B1.out.drewN nq).frozen j
              have hc5 := (B1.out.drewN nq).cell j
              rw [rowI_at _ _ (by rw [JL.out]; omega), ha.out] at hc5
              have HS5 := hidu_ hset
              have HF5 := hidu_ ((B0.out.drewN nq).far (p := ⟨g + 1, j, none⟩) (by simp) (.int .i64 (a + (u : Int))))
              have HX5 := hidu_ ((below_drewN BB.out nq).setCell (p := ⟨g + 1, j, none⟩) (by simp) (.int .i64 (a + (u : Int))))
              clear hset hcl B0 B1 BB
              generalize wr.drewN nq = w3 at *
              refine wpList_plain rfl fun K hK => ?_
              go_simp
              refine hK _ _ ?_
              clear hK K
              rename_i K hK
              refine hK _ _ ?_
              clear hf5 hc5 hgj
              go_wp2
              go_roundw
              case rel => exact ⟨j + 1, _, by omega, by go_num, HF5, HS5, HX5, JL2, JR2, JV2⟩
              case measure => simp [intOf]; omega
            · have ejr : j = r := by omega
              have hdj : decide ((j : Int) < (r : Int)) = false := decide_eq_false (by omega)
              have hdj2 : decide (j < r) = false := decide_eq_false hltj
              rw [ejr] at JV JR
              clear ejr
              have hcl := B1.out.cell r
              rw [rowI_at _ _ (by rw [JL.out]; omega)] at hcl
              have hb := JR.out.get (by omega) r
              have JV2 := hidu_ (one_step l c r acc (by rw [JL.out]; omega) JV.out)
              obtain ⟨a, ha⟩ : ∃ a, Hid (l.getD r 0 = a) := ⟨_, rfl⟩
              rw [ha.out] at hcl hb JV2
              obtain ⟨hb0, hb1⟩ := hb
              have JR2 : Hid (rngI 1000000000 (l.set r (a + 1))) := hidu_ ((JR.out.mono (by omega)).set r (by omega) (by omega))
              have JL2 : Hid ((l.set r (a + 1)).length = 34) := hidu_ (by rw [List.length_set, JL.out])
              have hset := B1.out.set_ r (.int .i64 (a + 1))
              rw [rowI_set] at hset
              have hf := B1.out.frozen r
              have HS := hidu_ hset
              have HF := hidu_ (B0.out.far (p := ⟨g + 1, r, none⟩) (by simp) (.int .i64 (a + 1)))
              have HX := hidu_ (BB.out.setCell (p := ⟨g + 1, r, none⟩) (by simp) (.int .i64 (a + 1)))
              have t0 : (0 : Int) ≤ (r : Int) := by omega
              have t1 : (r : Int) < 34 := by omega
              clear hset B0 B1 BB
              go_upto_region 18 with fail
              obtain ⟨w2, hw2⟩ : ∃ W, Hid (wr.setCell ⟨g + 1, r, none⟩ (.int .i64 (a + 1)) = W) := ⟨_, rfl⟩
              rw [hw2.out] at HS HF HX ⊢
              clear hcl hf hw2
              have hrm : (r : Int) ≤ (m : Int) := by omega
              go_upto_region 19 with fail
              obtain ⟨l1, hl1⟩ : ∃ l1, Hid (l.set r (a + 1) = l1) := ⟨_, rfl⟩
              rw [hl1.out] at HS JV2 JR2 JL2
              obtain ⟨A, hA⟩ : ∃ A, Hid (acc + ((leN (c.take r) + 256 ^ r : Nat) : Int) = A) := ⟨_, rfl⟩
              have hAb : Hid (0 ≤ A ∧ A < 2041694201525630780780247644590609268731) := hidu_ (by
                rw [← hA.out]; have h1 := HAb.out; have h2 := HPL.out; revert h2; generalize leN (c.take r) + 256 ^ r = z; intro h2; omega)
              rw [hA.out] at JV2 HAcc
              have cc := fun W => carry_any l1 W JL2.out JR2.out
              rw [JV2.out] at cc
              have K2 := HS.out
              have hlD : Hid ((digI 34 A).length = 34) := hidu_ (digI_len _ _)
              have hrD : Hid (rngI 255 (digI 34 A)) := hidu_ (rngI_dig 34 A)
              have hvD : Hid (vI ((digI 34 A).take 17) = A) := hidu_ (dig_lowpart A hAb.out.1 (by have := hAb.out.2; omega))
              obtain ⟨D, hD⟩ : ∃ D, Hid (digI 34 A = D) := ⟨_, rfl⟩
              rw [hD.out] at cc hlD hrD hvD
              go_upto_region 20 with (first
                | (refine wpList_load_row rfl 82 (.tmp 6) rfl (g + 1) rfl 82 (rowI l1) (0, 0) _ K2 Try.underlying82 rfl (HI.out _ JL2.out) ?_)
                | (go_at_call 49; ((with_reducible refine (cc _).mono ?_); rintro e w4 ⟨rfl, hb4⟩);
                   have A4 := hidu_ (HF.out.below hb4 HF.out.lt); have A5 := hidu_ (HS.out.below hb4 HS.out.lt); have A6 := hidu_ (HX.out.trans (hb4.mono (Nat.le_of_lt HF.out.lt)));
                   have A7 := A5.out; clear hb4)
                | (refine wpList_put_row rfl 82 (.tmp 6) (.tmp 75) rfl (g + 1) (rowI D) rfl rfl 82 (rowI l1) A7 (HI.out _ hlD.out) (by rw [rowI_size, rowI_size, JL2.out, hlD.out]) (rowI_one _) ?_; intro w5 k5 g5 s5;
                   have B5 := hidu_ (A4.out.grown g5 (fun e => by injection e with e; omega)); have B6 := hidu_ (A6.out.grown g5 (by have := A4.out.lt; omega) (fun i hi => by injection hi with hi; omega)); have B7 := hidu_ k5; clear k5 g5 s5 A4 A5 A6 A7))
              rw [put_none]
              clear K2 cc JV2 JR2 HS HF HX JL JR JV
              obtain ⟨w6, hw6⟩ : ∃ W, Hid (w5.alloc (.cells (rowI zerosI) 82) = W) := ⟨_, rfl⟩
              obtain ⟨X, hX⟩ : ∃ X, Hid (w5.heap.size = X) := ⟨_, rfl⟩
              have hgX : g + 1 < X := by rw [← hX.out]; exact B7.out.lt
              have X6 : Hid (Bk w6 X 82 (rowI zerosI)) := hidu_ (by rw [← hw6.out, ← hX.out]; exact Bk.new w5 _ _)
              have C0 : Hid (Bk w6 g 82 (rowI rl)) := hidu_ (by rw [← hw6.out]; exact B5.out.alloc _)
              have C1 : Hid (Bk w6 (g + 1) 82 (rowI D)) := hidu_ (by rw [← hw6.out]; exact B7.out.alloc _)
              have C2 : Hid (Below g w w6) := hidu_ (by rw [← hw6.out]; exact B6.out.alloc (by have := B7.out.lt; omega) _)
              clear B5 B6 B7
              go_upto_region 21 with fail
              rw [hX.out, hw6.out]
              clear hw6 hX
              go_wp2
              go_loopw [12] (fun i wr => ∃ (i0 : Nat) (xs : List Int), i0 ≤ 17 ∧ i = .int .i64 i0 ∧ Hid (Bk wr g 82 (rowI rl)) ∧ Hid (Bk wr (g + 1) 82 (rowI D)) ∧ Hid (Bk wr X 82 (rowI xs)) ∧ Hid (Below g w wr) ∧ Hid (xs.length = 34) ∧ Hid (rngI (1105425 * (i0 : Int)) xs) ∧ Hid (vI xs = vI (D.take i0) * F)) (fun i _ => 17 - (intOf i).toNat)
              case atStart => exact ⟨0, zerosI, by omega, rfl, C0, C1, X6, C2, rfl, hidu_ (rngI_zeros 34 (by omega)), hidu_ (by rw [zerosI, vI_zeros, List.take_zero, vI, Int.zero_mul])⟩
              case round =>
                obtain ⟨i0, xs, hi0, rfl, B0, B1, B3, BB, JL, JR, JV⟩ := hrel
                clear C0 C1 X6 C2
                by_cases hlti : i0 < 17
                · have hdi : decide ((i0 : Int) < 17) = true := decide_eq_true (by omega)
                  go_wp2
                  go_loopw [13] (fun j wr => ∃ (j0 : Nat) (xs : List Int), j0 ≤ 17 ∧ j = .int .i64 j0 ∧ Hid (Bk wr g 82 (rowI rl)) ∧ Hid (Bk wr (g + 1) 82 (rowI D)) ∧ Hid (Bk wr X 82 (rowI xs)) ∧ Hid (Below g w wr) ∧ Hid (xs.length = 34) ∧ Hid (rngI (1105425 * (i0 : Int) + 65025 * (j0 : Int)) xs) ∧ Hid (vI xs = vI (D.take i0) * F + 256 ^ i0 * D.getD i0 0 * vI (rl.take j0))) (fun j _ => 17 - (intOf j).toNat)
                  case atStart => exact ⟨0, xs, by omega, rfl, B0, B1, B3, BB, JL, by simpa using JR, by rw [JV.out, List.take_zero, vI, Int.mul_zero, Int.add_zero]; exact hidu_ rfl⟩
                  case round =>
                    obtain ⟨j0, xs, hj0, rfl, B0, B1, B3, BB, JL, JR, JV⟩ := hrel
                    by_cases hltj0 : j0 < 17
                    · have hdj0 : decide ((j0 : Int) < 17) = true := decide_eq_true (by omega)
                      have hc1 := B1.out.cell i0
                      rw [rowI_at _ _ (by rw [hlD.out]; omega)] at hc1
                      have hc2 := B0.out.cell j0
                      rw [rowI_at _ _ (by rw [FL.out]; omega)] at hc2
                      have hc3 := B3.out.cell (i0 + j0)
                      rw [rowI_at _ _ (by rw [JL.out]; omega)] at hc3
                      have hb1 := hrD.out.get (by omega) i0
                      have hb2 := FR.out.get (by omega) j0
                      have hb3 := JR.out.get (by omega) (i0 + j0)
                      have JV2 := hidu_ (mul_step xs D rl i0 j0 _ (by rw [JL.out]; omega) (by rw [FL.out]; omega) JV.out)
                      obtain ⟨x, hx⟩ : ∃ a, Hid (xs.getD (i0 + j0) 0 = a) := ⟨_, rfl⟩
                      obtain ⟨a, ha⟩ : ∃ a, Hid (D.getD i0 0 = a) := ⟨_, rfl⟩
                      obtain ⟨u, hu⟩ : ∃ a, Hid (rl.getD j0 0 = a) := ⟨_, rfl⟩
                      rw [hx.out] at hc3 hb3 JV2
                      rw [ha.out] at hc1 hb1 JV2
                      rw [hu.out] at hc2 hb2 JV2
                      have hb4 := prod_bd hb1 hb2
                      rw [← ha.out] at JV2
                      have JR2 : Hid (rngI (1105425 * (i0 : Int) + 65025 * ((j0 + 1 : Nat) : Int)) (xs.set (i0 + j0) (x + a * u))) := hidu_ ((JR.out.mono (by omega)).set (i0 + j0) (by omega) (by omega))
                      have JL2 : Hid ((xs.set (i0 + j0) (x + a * u)).length = 34) := hidu_ (by rw [List.length_set, JL.out])
                      have t0 : (0 : Int) ≤ (i0 : Int) + (j0 : Int) := by omega
                      have t1 : (i0 : Int) + (j0 : Int) < 34 := by omega
                      have t2 : ((i0 : Int) + (j0 : Int)).toNat = i0 + j0 := by omega
                      have t3 : (0 : Int) ≤ (i0 : Int) := by omega
                      have t4 : (0 : Int) ≤ (j0 : Int) := by omega
                      have t5 : (i0 : Int) < 34 := by omega
                      have t6 : (j0 : Int) < 34 := by omega
                      have q1 : IntKind.i64.wrap ((i0 : Int) + (j0 : Int)) = (i0 : Int) + (j0 : Int) := IntWalk.i64_in _ (by omega)
                      have q2 : IntKind.i64.wrap (a * u) = a * u := IntWalk.i64_in _ (by omega)
                      have q3 : IntKind.i64.wrap (x + a * u) = x + a * u := IntWalk.i64_in _ (by omega)
                      clear hb1 hb2 hb3 hb4 JV JR
                      go_upto_region 27 with fail
                      refine region_quiet_tail_lit 17 (by kernel_rfl) (by kernel_rfl) ?_
                      simp only [List.take_succ_cons, List.take_zero]
                      repeat (go_big_quiet_step (fail))
                      refine wpQuiet_nil ?_
                      intro w' hw'
                      obtain ⟨nq, rfl⟩ := hw'
                      simp only [List.drop_succ_cons, List.drop_zero]
                      have hset := (B3.out.drewN nq).set_ (i0 + j0) (.int .i64 (x + a * u))
                      rw [rowI_set] at hset
                      have hf5 := (B3.out.drewN nq).frozen (i0 + j0)
                      have hc5 := (B3.out.drewN nq).cell (i0 + j0)
                      rw [rowI_at _ _ (by rw [JL.out]; omega), hx.out] at hc5
                      have HS5 := hidu_ hset
                      have HF5 := hidu_ ((B0.out.drewN nq).far (p := ⟨X, i0 + j0, none⟩) (by simp; omega) (.int .i64 (x + a * u)))
                      have HG5 := hidu_ ((B1.out.drewN nq).far (p := ⟨X, i0 + j0, none⟩) (by simp; omega) (.int .i64 (x + a * u)))
                      have HX5 := hidu_ ((below_drewN BB.out nq).setCell (p := ⟨X, i0 + j0, none⟩) (by simp; omega) (.int .i64 (x + a * u)))
                      clear hset hc1 hc2 hc3 B0 B1 B3 BB q1 q2 q3
                      generalize wr.drewN nq = w3 at *
                      refine wpList_plain rfl fun K hK => ?_
                      go_simp
                      refine hK _ _ ?_
                      clear hK K
                      rename_i K hK
                      refine hK _ _ ?_
                      clear hf5 hc5
                      go_wp2
                      go_roundw
                      case rel => exact ⟨j0 + 1, _, by omega, by go_num, HF5, HG5, HS5, HX5, JL2, JR2, by have h := JV2.out; rw [ha.out] at h ⊢; exact hidu_ h⟩
                      case measure => simp [intOf]; omega
                    · have ej : j0 = 17 := by omega
                      have hdj0 : decide ((j0 : Int) < 17) = false := decide_eq_false (by omega)
                      rw [ej] at JV JR
                      clear ej
                      have hv := JV.out
                      rw [FT.out, FV.out] at hv
                      have JV3 := hidu_ (mul_row D i0 _ F (by rw [hlD.out]; omega) hv)
                      have JR3 : Hid (rngI (1105425 * ((i0 + 1 : Nat) : Int)) xs) := hidu_ (JR.out.mono (by omega))
                      clear hv JV JR
                      go_wp2
                      go_roundw
                      case rel => exact ⟨i0 + 1, xs, by omega, by go_num, B0, B1, B3, BB, JL, JR3, JV3⟩
                      case measure => simp [intOf]; omega
                · have ei : i0 = 17 := by omega
                  have hdi : decide ((i0 : Int) < 17) = false := decide_eq_false (by omega)
                  rw [ei] at JV JR
                  clear ei
                  have hv := JV.out
                  rw [hvD.out] at hv
                  have hml := mul_lt A F hAb.out.1 hAb.out.2 FB.out.1 FB.out.2
                  have cc := fun W => carry_any xs W JL.out (JR.out.mono (by omega))
                  have cf := fun W => fold_any (A * F) W hml
                  rw [hv] at cc
                  rw [← HAcc.out] at cf
                  clear hv hml
                  obtain ⟨E1, hE1⟩ : ∃ E, Hid (digI 34 (A * F) = E) := ⟨_, rfl⟩
                  obtain ⟨E, hE⟩ : ∃ E, Hid (digI 34 (accP F b (q + 1)) = E) := ⟨_, rfl⟩
                  have EL : Hid (E.length = 34) := hidu_ (by rw [← hE.out]; exact digI_len _ _)
                  rw [hE1.out] at cc cf
                  rw [hE.out] at cf
                  have K2 := B3.out
                  go_wp2_with (first
                    | (refine wpList_load_row rfl 82 (.tmp 11) rfl X rfl 82 (rowI xs) (0, 0) _ K2 Try.underlying82 rfl (HI.out _ JL.out) ?_)
                    | (go_at_call 49; ((with_reducible refine (cc _).mono ?_); rintro e w7 ⟨rfl, hb7⟩); have HB7 := hidu_ hb7; clear hb7)
                    | (go_at_call 50; ((with_reducible refine (cf _).mono ?_); rintro e w8 ⟨rfl, hb8⟩);
                       have X8 := hidu_ (HB7.out.trans (hb8.mono HB7.out.size)); clear hb8;
                       have A4 := hidu_ (B0.out.below X8.out B0.out.lt); have A5 := hidu_ (B1.out.below X8.out B1.out.lt); have A6 := hidu_ (BB.out.trans (X8.out.mono (Nat.le_of_lt B0.out.lt)));
                       have A7 := A5.out)
                    | (refine wpList_put_row rfl 82 (.tmp 6) (.tmp 103) rfl (g + 1) (rowI E) rfl rfl 82 (rowI D) A7 (HI.out _ EL.out) (by rw [rowI_size, rowI_size, hlD.out, EL.out]) (rowI_one _) ?_; intro w5 k5 g5 s5;
                       have D5 := hidu_ (A4.out.grown g5 (fun e => by injection e with e; omega)); have D6 := hidu_ (A6.out.grown g5 (by have := A4.out.lt; omega) (fun i hi => by injection hi with hi; omega)); have D7 := hidu_ k5; clear k5 g5 s5 A4 A5 A6 A7))
                  rw [put_none]
                  go_roundw
                  case rel => exact ⟨q + 1, m - r, rfl, by omega, by omega, HMn, D5, by rw [hE.out]; exact D7, D6⟩
                  case measure =>
                    show (strOf (b.drop (16 * (q + 1)))).size < (strOf c).size
                    rw [strOf_size, strOf_size, HMn.out, HM.out]
                    omega
theorem slice_all32 (g : Nat) (W : World) :
    (Instr.sliceAt 22 (.pointer (some ⟨g, 0, none⟩)) none none none).run Try.prog W = .ok (.slice (some ⟨g, 0, none⟩) 32 32) W := by
  have he : Try.prog.elem 22 = 5 := by kernel_rfl
  have hn : Try.prog.arrayLen 22 = 32 := by kernel_rfl
  have ht : Try.prog.underlying 22 = some (.array (Try.prog.arrayLen 22) (Try.prog.elem 22)) := by rw [he, hn]; exact Try.underlying22
  rw [run_sliceAt_array_all W 22 ⟨g, 0, none⟩ ht, size32, hn]
  rfl
end Go.Proofs.Ytopmngjaieobnaa
