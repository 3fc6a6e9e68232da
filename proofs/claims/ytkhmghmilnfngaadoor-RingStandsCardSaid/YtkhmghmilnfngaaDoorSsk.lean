/-
  slices.SortStableFunc at siblings: the stable sort.
-/
import Derived.Test.YtkhmghmilnfngaaDoorSsj
import Derived.Test.YtkhmghmilnfngaaDoorSsi
namespace Go.Proofs.YtkhmghmilnfngaaDoor
set_option maxRecDepth 100000
open Go.ChangeShapes Go.WideShapes Go.ChangeAt Go.RowKit Go.Sort Go.Shelf Go.Lib
set_option linter.unusedVariables false
set_option linter.unusedSectionVars false
set_option linter.unusedSimpArgs false

section
variable {α : Type} [Inhabited α] {enc : α → List Value} {w0 W : World} {blk off : Nat} {d0 d : Array α}
set_option maxRecDepth 1000000 in
set_option maxHeartbeats 8000000 in
theorem stable_any {lt : α → α → Bool} (hw : Wk lt) {cf : α → α → Int} (hlt : ∀ x y, lt x y = decide (cf x y < 0)) (hcmp : CmpS enc w0 blk off d0.size cf) (R : RowK enc 2 w0 blk off d0) (h : SWK enc 2 w0 blk off d W) (hs : d.size = d0.size) (hsz : d.size < 4611686018427387904) (cap : Nat) :
    Calls Tryd.prog 31 #[.slice (some ⟨blk, off, none⟩) d.size cap, .int .i64 (d.size : Nat), .func (.func 21) #[] #[]] W fun e' w' =>
      e' = .returned (.tuple #[]) ∧ ∃ d', SWK enc 2 w0 blk off d' w' ∧ d'.size = d.size ∧ d'.toList = ssort lt d.toList := by
  obtain ⟨z, hz⟩ : ∃ z, d.size = z := ⟨_, rfl⟩
  obtain ⟨L, hL⟩ : ∃ L, d.toList = L := ⟨_, rfl⟩
  have HLZ := hidss_ (show L.length = z by rw [← hL, Array.length_toList]; exact hz)
  have HZ0 := hidss_ (show z = d0.size by omega)
  have hz62 : z < 4611686018427387904 := by omega
  have HR := hidss_ R
  have HW := hidss_ hw
  have HLT := hidss_ hlt
  have HC := hidss_ hcmp
  have HS := hidss_ h
  have HI0 := hidss_ (show StbI lt 20 L 0 d.toList by rw [hL]; exact stbI_start 20 L)
  have HZ := hidss_ hz
  rw [hz, hL]
  clear h R hw hlt hcmp hs hsz hz hL
  go_enter Tryd.func31, Tryd.ntmps31
  go_wp2
  go_loopw [7, 8] (fun i j wr => ∃ (a b : Nat) (dk : Array α), i = .int .i64 a ∧ j = .int .i64 b ∧ a ≤ z ∧ Hid (b = a + 20) ∧ Hid (SWK enc 2 w0 blk off dk wr) ∧ Hid (StbI lt 20 L a dk.toList) ∧ Hid (dk.size = z)) (fun i _ _ => z - (intOf i).toNat)
  case atStart => exact ⟨0, 20, d, rfl, rfl, Nat.zero_le _, hidss_ rfl, HS, HI0, HZ⟩
  case round =>
    clear HS HI0 HZ
    obtain ⟨a, b, dk, rfl, rfl, haz, HB, HSk, HI, HZk⟩ := hrel
    have hsk := hidss_ (HZk.out.trans HZ0.out)
    have hdz := hidss_ (show dk.size < 4611686018427387904 by rw [HZk.out]; exact hz62)
    by_cases hbz : b ≤ z
    · have tb : (b : Int) ≤ (z : Int) := by omega
      obtain ⟨c, hc⟩ : ∃ c, b + 20 = c := ⟨_, rfl⟩
      have wc : IntKind.i64.wrap ((b : Int) + 20) = (c : Int) := by rw [IntKind.wrap_i64]; omega
      obtain ⟨P, A, S, e1, e2, e3, e4⟩ := stbI_next HI.out (show a + 20 ≤ L.length by have := HLZ.out; have := HB.out; omega)
      have ci := insertion_any HW.out HLT.out HC.out HR.out HSk.out hsk.out hdz.out P A S a b cap e1 e2.symm (by have := HB.out; omega)
      rw [HZk.out] at ci
      have HE := hidss_ (show StbI lt 20 L b (P ++ ssort lt A ++ S) by rw [HB.out]; exact e4)
      have HCC := hidss_ hc
      have hab : a < b := by have := HB.out; omega
      clear e1 e2 e3 e4 hc
      go_wp2_with (go_at_call 41; ((with_reducible refine ci.mono ?_); clear ci; rintro e w1 ⟨rfl, d1, h1, h2, h3⟩; have K1 := hidss_ h1; have Z1 := hidss_ h2; have I1 := hidss_ (show StbI lt 20 L b d1.toList by rw [h3]; exact HE.out); clear h1 h2 h3))
      go_roundw
      case rel => exact ⟨b, c, d1, rfl, by go_num, hbz, hidss_ HCC.out.symm, K1, I1, Z1⟩
      case measure => simp [intOf]; omega
    · have tb : ¬ (b : Int) ≤ (z : Int) := by omega
      obtain ⟨P, A, e1, e2, e3, e4⟩ := stbI_end HI.out (show L.length < a + 20 by have := HLZ.out; have := HB.out; omega)
      have ci := insertion_any HW.out HLT.out HC.out HR.out HSk.out hsk.out hdz.out P A [] a z cap e1 e2.symm (by have := HLZ.out; omega)
      rw [HZk.out] at ci
      have HE := hidss_ e4
      clear e1 e2 e3 e4
      go_wp2_with (go_at_call 41; ((with_reducible refine ci.mono ?_); clear ci; rintro e w1 ⟨rfl, d1, h1, h2, h3⟩; have K1 := hidss_ h1; have Z1 := hidss_ h2; have I1 := hidss_ (show StbS lt 20 L d1.toList by rw [h3]; exact HE.out); clear h1 h2 h3))
      clear HE HI HSk HZk hsk hdz tb hbz HB haz
      go_loopw [6] (fun s wr => ∃ (bs : Nat) (dk : Array α), s = .int .i64 bs ∧ 0 < bs ∧ Hid (SWK enc 2 w0 blk off dk wr) ∧ Hid (StbS lt bs L dk.toList) ∧ Hid (dk.size = z)) (fun s _ => z - (intOf s).toNat)
      case atStart => exact ⟨20, d1, rfl, by omega, K1, I1, Z1⟩
      case round =>
        clear K1 I1 Z1
        obtain ⟨bs, d2, rfl, hbs, HS2, HI2, HZ2⟩ := hrel
        by_cases hlt2 : bs < z
        · have tl : (bs : Int) < (z : Int) := by omega
          obtain ⟨b2, hb2⟩ : ∃ x, 2 * bs = x := ⟨_, rfl⟩
          have HB2 := hidss_ hb2
          have w1x : IntKind.i64.wrap (2 * (bs : Int)) = (b2 : Int) := by rw [IntKind.wrap_i64]; omega
          have w2x : IntKind.i64.wrap ((bs : Int) * 2) = (b2 : Int) := by rw [IntKind.wrap_i64]; omega
          have HW2 := hidss_ w2x
          have HW1 := hidss_ w1x
          clear hb2 w2x
          go_wp2
          clear w1x tl
          go_loopw [7, 8] (fun i j wr => ∃ (a b : Nat) (dk : Array α), i = .int .i64 a ∧ j = .int .i64 b ∧ a ≤ z ∧ Hid (b = a + b2) ∧ Hid (SWK enc 2 w0 blk off dk wr) ∧ Hid (StbP lt bs L a dk.toList) ∧ Hid (dk.size = z)) (fun i _ _ => z - (intOf i).toNat)
          case atStart => exact ⟨0, b2, d2, rfl, rfl, Nat.zero_le _, hidss_ (by omega), HS2, hidss_ (stbP_start HI2.out), HZ2⟩
          case round =>
            clear HS2 HI2 HZ2
            obtain ⟨a, b, dk, rfl, rfl, haz, HB, HSk, HI, HZk⟩ := hrel
            have hsk := hidss_ (HZk.out.trans HZ0.out)
            have hdz := hidss_ (show dk.size < 4611686018427387904 by rw [HZk.out]; exact hz62)
            have bs2 : bs ≤ 4611686018427387904 := by omega
            obtain ⟨mm, hmm⟩ : ∃ x, a + bs = x := ⟨_, rfl⟩
            have HMM := hidss_ hmm
            have wm : IntKind.i64.wrap ((a : Int) + (bs : Int)) = (mm : Int) := by rw [IntKind.wrap_i64]; omega
            clear hmm
            by_cases hbz : b ≤ z
            · have tb : (b : Int) ≤ (z : Int) := by omega
              obtain ⟨c, hc⟩ : ∃ c, b + b2 = c := ⟨_, rfl⟩
              have w1x := HW1.out
              have wc : IntKind.i64.wrap ((b : Int) + (b2 : Int)) = (c : Int) := by have := HB.out; rw [IntKind.wrap_i64]; omega
              obtain ⟨P, A, B, S, e1, e2, e3, e4, e5, e6, e7⟩ := stbP_next HW.out HI.out (show a + 2 * bs ≤ L.length by have := HLZ.out; have := HB.out; have := HB2.out; omega)
              have cs := sym_any HW.out HLT.out HC.out HR.out (A.length + B.length) _ dk HSk.out hsk.out hdz.out P A B S a mm b cap e1 e2.symm (by have := HMM.out; omega) (by have := HMM.out; have := HB.out; have := HB2.out; omega) e5 e6 (by omega) (by omega) (Nat.le_refl _)
              rw [HZk.out] at cs
              have HE := hidss_ (show StbP lt bs L b (P ++ mrg lt A B ++ S) by rw [HB.out, ← HB2.out]; exact e7)
              have HCC := hidss_ hc
              have hab : a < b := by have := HB.out; have := HB2.out; omega
              clear e1 e2 e3 e4 e5 e6 e7 hc
              go_wp2_with (go_at_call 42; ((with_reducible refine cs.mono ?_); clear cs; rintro e w1 ⟨rfl, d1, h1, h2, h3⟩; have K1 := hidss_ h1; have Z1 := hidss_ h2; have I1 := hidss_ (show StbP lt bs L b d1.toList by rw [h3]; exact HE.out); clear h1 h2 h3))
              go_roundw
              case rel => exact ⟨b, c, d1, rfl, by go_num, hbz, hidss_ HCC.out.symm, K1, I1, Z1⟩
              case measure => simp [intOf]; omega
            · have tb : ¬ (b : Int) ≤ (z : Int) := by omega
              have w2x := HW2.out
              by_cases hmz : mm < z
              · have tm : (mm : Int) < (z : Int) := by omega
                obtain ⟨P, A, B, e1, e2, e3, e4, e5, e6, e7⟩ := stbP_tail HW.out HI.out (show L.length < a + 2 * bs by have := HLZ.out; have := HB.out; have := HB2.out; omega) (show a + bs < L.length by have := HLZ.out; have := HMM.out; omega)
                have cs := sym_any HW.out HLT.out HC.out HR.out (A.length + B.length) _ dk HSk.out hsk.out hdz.out P A B [] a mm z cap e1 e2.symm (by have := HMM.out; omega) (by have := HMM.out; have := HLZ.out; omega) e5 e6 (by omega) (by have := HMM.out; have := HLZ.out; omega) (Nat.le_refl _)
                rw [HZk.out] at cs
                have HE := hidss_ (show StbS lt b2 L (P ++ mrg lt A B ++ []) by rw [← HB2.out]; exact e7)
                clear e1 e2 e3 e4 e5 e6 e7
                go_wp2_with (go_at_call 42; ((with_reducible refine cs.mono ?_); clear cs; rintro e w1 ⟨rfl, d1, h1, h2, h3⟩; have K1 := hidss_ h1; have Z1 := hidss_ h2; have I1 := hidss_ (show StbS lt b2 L d1.toList by rw [h3]; exact HE.out); clear h1 h2 h3))
                go_roundw
                case rel => exact ⟨b2, d1, by go_num, by have := HB2.out; omega, K1, I1, Z1⟩
                case measure => have := HB2.out; simp [intOf]; omega
              · have tm : ¬ (mm : Int) < (z : Int) := by omega
                have I1 := hidss_ (show StbS lt b2 L dk.toList by rw [← HB2.out]; exact stbP_none HI.out hbs (by have := HLZ.out; have := HMM.out; omega))
                go_wp2
                go_roundw
                case rel => exact ⟨b2, dk, by go_num, by have := HB2.out; omega, HSk, I1, HZk⟩
                case measure => have := HB2.out; simp [intOf]; omega
        · have tl : ¬ (bs : Int) < (z : Int) := by omega
          have HE := hidss_ (stbS_end HI2.out hbs (by have := HLZ.out; omega))
          go_wp2
          go_end0
          exact ⟨rfl, d2, HS2.out, HZ2.out, HE.out⟩
set_option maxRecDepth 1000000 in
set_option maxHeartbeats 4000000 in
theorem sortStable_any {lt : α → α → Bool} (hw : Wk lt) {cf : α → α → Int} (hlt : ∀ x y, lt x y = decide (cf x y < 0)) (hcmp : CmpS enc w0 blk off d0.size cf) (R : RowK enc 2 w0 blk off d0) (h : SWK enc 2 w0 blk off d W) (hs : d.size = d0.size) (hsz : d.size < 4611686018427387904) (cap : Nat) :
    Calls Tryd.prog 20 #[.slice (some ⟨blk, off, none⟩) d.size cap, .func (.func 21) #[] #[]] W fun e' w' =>
      e' = .returned (.tuple #[]) ∧ ∃ d', SWK enc 2 w0 blk off d' w' ∧ d'.size = d.size ∧ d'.toList = ssort lt d.toList := by
  have cs := stable_any hw hlt hcmp R h hs hsz cap
  obtain ⟨z, hz⟩ : ∃ z, d.size = z := ⟨_, rfl⟩
  rw [hz] at cs ⊢
  clear hw hlt hcmp R h hs hsz hz
  go_enter Tryd.func20, Tryd.ntmps20
  go_wp2_with (go_at_call 31; ((with_reducible refine cs.mono ?_); clear cs; rintro e w1 ⟨rfl, d1, h1, h2, h3⟩; have K1 := hidss_ h1; have Z1 := hidss_ h2; have I1 := hidss_ h3; clear h1 h2 h3))
  go_end0
  exact ⟨rfl, d1, K1.out, Z1.out, I1.out⟩
end
/-- Of no elements. -/
theorem insertion_nil (W : World) (FV : Value) : Calls Tryd.prog 41 #[.slice none 0 0, .int .i64 0, .int .i64 0, FV] W fun e' w' => e' = .returned (.tuple #[]) ∧ w' = W := by
  go_enter Tryd.func41, Tryd.ntmps41
  go_wp2
  go_loopw [8] (fun i wr => i = .int .i64 1 ∧ wr = W) (fun _ _ => 0)
  case atStart => exact ⟨rfl, rfl⟩
  case round =>
    obtain ⟨rfl, rfl⟩ := hrel
    go_wp2
    go_end0
    exact ⟨rfl, rfl⟩
theorem sortStable_nil (W : World) (FV : Value) : Calls Tryd.prog 20 #[.slice none 0 0, FV] W fun e' w' => e' = .returned (.tuple #[]) ∧ w' = W := by
  have ci := insertion_nil W FV
  have cs : Calls Tryd.prog 31 #[.slice none 0 0, .int .i64 0, FV] W fun e' w' => e' = .returned (.tuple #[]) ∧ w' = W := by
    go_enter Tryd.func31, Tryd.ntmps31
    go_wp2
    go_loopw [7, 8] (fun i j wr => i = .int .i64 0 ∧ j = .int .i64 20 ∧ wr = W) (fun _ _ _ => 0)
    case atStart => exact ⟨rfl, rfl, rfl⟩
    case round =>
      obtain ⟨rfl, rfl, rfl⟩ := hrel
      go_wp2_with (go_at_call 41; ((with_reducible refine ci.mono ?_); clear ci; rintro e w1 ⟨rfl, rfl⟩))
      go_loopw [6] (fun i wr => i = .int .i64 20 ∧ wr = w1) (fun _ _ => 0)
      case atStart => exact ⟨rfl, rfl⟩
      case round =>
        obtain ⟨rfl, rfl⟩ := hrel
        go_wp2
        go_end0
        exact ⟨rfl, rfl⟩
  go_enter Tryd.func20, Tryd.ntmps20
  go_wp2_with (go_at_call 31; ((with_reducible refine cs.mono ?_); clear cs; rintro e w1 ⟨rfl, rfl⟩))
  go_end0
  exact ⟨rfl, rfl⟩
end Go.Proofs.YtkhmghmilnfngaaDoor
