/-
  Contract: chacha.stirred.
-/
import Derived.Test.YtopmngjaieobnaaK2
namespace Go.Proofs.Ytopmngjaieobnaa
open Go.RowKit
set_option linter.unusedVariables false

theorem quarter_int (g a b c d : Nat) (l : List Int) (w : World) (za zb zc zd : Int) (ea : za = (a : Int)) (eb : zb = (b : Int)) (ec : zc = (c : Int)) (ed : zd = (d : Int)) (hl : l.length = 16) (ho : okL l) (hg : Bk w g 118 (rowW l)) (ha : a < 16) (hb : b < 16) (hc : c < 16) (hd : d < 16) :
    Calls Try.prog 97 #[.pointer (some ⟨g, 0, none⟩), .int .i64 za, .int .i64 zb, .int .i64 zc, .int .i64 zd] w fun e w' => e = .returned (.tuple #[]) ∧ Bk w' g 118 (rowW (quarterL l a b c d)) ∧ w.grownBy w' (some g) := by
  subst ea eb ec ed
  exact quarter_any g a b c d l w hl ho hg ha hb hc hd

set_option maxRecDepth 100000 in
set_option maxHeartbeats 4000000 in
theorem stirred_any (l : List Int) (w : World) (hl : l.length = 16) (ho : okL l) :
    Calls Try.prog 92 #[.agg (rowW l)] w fun e w' => e = .returned (.agg (rowW (roundsL l 10))) ∧ Below w.heap.size w w' := by
  have hzw := zw16
  obtain ⟨g, hg⟩ : ∃ g, Hid (w.heap.size = g) := ⟨_, rfl⟩
  obtain ⟨w0, hw0⟩ : ∃ W, Hid ((w.alloc (.cells (rowW l) 118)).alloc (.cells (rowW zerosW) 118) = W) := ⟨_, rfl⟩
  have HL := hidq_ hl
  have HO := hidq_ ho
  have HG : Hid (Bk w0 g 118 (rowW l)) := hidq_ (by rw [← hw0.out, ← hg.out]; exact (Bk.new w _ _).alloc _)
  have HZ : Hid (Bk w0 (g + 1) 118 (rowW zerosW)) := hidq_ (by
    have h := Bk.new (w.alloc (.cells (rowW l) 118)) 118 (rowW zerosW)
    rw [← hw0.out, ← hg.out]
    simpa using h)
  have HR : Hid (Below g w w0) := hidq_ (by rw [← hw0.out, ← hg.out]; exact ((Below.refl _ _).alloc (Nat.le_refl _) _).alloc (by simp) _)
  clear hl ho
  go_enter Try.func92, Try.ntmps92
  go_wp2
  rw [hg.out, hw0.out]
  clear hzw
  go_loopw [5] (fun i wr => ∃ k : Nat, k ≤ 10 ∧ i = .int .i64 k ∧ Bk wr g 118 (rowW (roundsL l k)) ∧ Bk wr (g + 1) 118 (rowW zerosW) ∧ Below g w wr) (fun i _ => 10 - (intOf i).toNat)
  case atStart => exact ⟨0, by omega, rfl, HG.out, HZ.out, HR.out⟩
  case round =>
    obtain ⟨k, hk, rfl, h1, h2, h3⟩ := hrel
    have G1 := hidq_ h1
    have G2 := hidq_ h2
    have G3 := hidq_ h3
    clear h1 h2 h3 HG HZ HR
    by_cases hlt : k < 10
    · have hd10 : decide ((k : Int) < 10) = true := decide_eq_true (by omega)
      have LK : Hid ((roundsL l k).length = 16) := hidq_ (by rw [roundsL_len, HL.out])
      have OK := hidq_ (roundsL_ok HO.out k)
      go_wp2
      go_loopw [7] (fun i wr => ∃ j : Nat, j ≤ 4 ∧ i = .int .i64 j ∧ Bk wr g 118 (rowW (colsL (roundsL l k) j)) ∧ Bk wr (g + 1) 118 (rowW zerosW) ∧ Below g w wr) (fun i _ => 4 - (intOf i).toNat)
      case atStart => exact ⟨0, by omega, rfl, G1.out, G2.out, G3.out⟩
      case round =>
        obtain ⟨j, hj, rfl, h1, h2, h3⟩ := hrel
        have H1 := hidq_ h1
        have H2 := hidq_ h2
        have H3 := hidq_ h3
        clear h1 h2 h3 G1 G2 G3
        by_cases hlj : j < 4
        · have hd4 : decide ((j : Int) < 4) = true := decide_eq_true (by omega)
          have LJ : Hid ((colsL (roundsL l k) j).length = 16) := hidq_ (by rw [colsL_len, LK.out])
          have OJ := hidq_ (colsL_ok OK.out j)
          go_wp2_with (go_at_call 97; ((refine (quarter_int g j (4 + j) (8 + j) (12 + j) _ _ _ _ _ _ (by omega) (by omega) (by omega) (by omega) LJ.out OJ.out H1.out (by omega) (by omega) (by omega) (by omega)).mono ?_); rintro e w5 ⟨rfl, q1, q2⟩))
          have Q1 := hidq_ q1
          have Q2 := hidq_ (H2.out.grown q2 (by intro e; injection e with e; omega))
          have Q3 := hidq_ (H3.out.grown q2 (by have := H2.out.lt; omega) (fun i hi => by injection hi with hi; omega))
          clear q1 q2
          go_roundw
          case rel => exact ⟨j + 1, by omega, by go_num, Q1.out, Q2.out, Q3.out⟩
          case measure => simp [intOf]; omega
        · have hj4 : Hid (j = 4) := hidq_ (by omega)
          have hd4 : decide ((j : Int) < 4) = false := decide_eq_false (by omega)
          have H1' : Hid (Bk wr g 118 (rowW (colsL (roundsL l k) 4))) := hidq_ (by have h := H1.out; rwa [hj4.out] at h)
          clear H1
          have H1 := H1'
          clear H1'
          have LC : Hid ((colsL (roundsL l k) 4).length = 16) := hidq_ (by rw [colsL_len, LK.out])
          have OC := hidq_ (colsL_ok OK.out 4)
          go_wp2
          go_loopw [19] (fun i wr => ∃ j : Nat, j ≤ 4 ∧ i = .int .i64 j ∧ Bk wr g 118 (rowW (diagsL (colsL (roundsL l k) 4) j)) ∧ Bk wr (g + 1) 118 (rowW zerosW) ∧ Below g w wr) (fun i _ => 4 - (intOf i).toNat)
          case atStart => exact ⟨0, by omega, rfl, H1.out, H2.out, H3.out⟩
          case round =>
            obtain ⟨j, hj, rfl, h1, h2, h3⟩ := hrel
            have K1 := hidq_ h1
            have K2 := hidq_ h2
            have K3 := hidq_ h3
            clear h1 h2 h3 H1 H2 H3
            by_cases hlj : j < 4
            · have hd4 : decide ((j : Int) < 4) = true := decide_eq_true (by omega)
              have LJ : Hid ((diagsL (colsL (roundsL l k) 4) j).length = 16) := hidq_ (by rw [diagsL_len, LC.out])
              have OJ := hidq_ (diagsL_ok OC.out j)
              go_wp2_with (go_at_call 97; ((refine (quarter_int g j (4 + (j + 1) % 4) (8 + (j + 2) % 4) (12 + (j + 3) % 4) _ _ _ _ _ _ (by omega) (by omega) (by omega) (by omega) LJ.out OJ.out K1.out (by omega) (by omega) (by omega) (by omega)).mono ?_); rintro e w5 ⟨rfl, q1, q2⟩))
              have Q1 := hidq_ q1
              have Q2 := hidq_ (K2.out.grown q2 (by intro e; injection e with e; omega))
              have Q3 := hidq_ (K3.out.grown q2 (by have := K2.out.lt; omega) (fun i hi => by injection hi with hi; omega))
              clear q1 q2
              go_roundw
              case rel => exact ⟨j + 1, by omega, by go_num, Q1.out, Q2.out, Q3.out⟩
              case measure => simp [intOf]; omega
            · obtain rfl : j = 4 := by omega
              go_wp2
              go_roundw
              case rel => exact ⟨k + 1, by omega, by go_num, K1.out, K2.out, K3.out⟩
              case measure => simp [intOf]; omega
    · obtain rfl : k = 10 := by omega
      have L10 : Hid ((roundsL l 10).length = 16) := hidq_ (by rw [roundsL_len, HL.out])
      have hs8 : (rowW zerosW).size = (rowW (roundsL l 10)).size := by rw [rowW_size, rowW_size, L10.out]; rfl
      have S8 := hidq_ hs8
      have E8 := hidq_ (iw16 _ L10.out)
      clear hs8
      have bb := G3.out
      have zz := G2.out
      have gg := G1.out
      go_wp2_with (first
        | (refine wpList_load_row rfl 118 _ rfl g rfl 118 (rowW (roundsL l 10)) (0, 0) _ gg Try.underlying118 rfl E8.out ?_)
        | (refine wpList_put_row rfl 118 _ _ rfl (g + 1) (rowW (roundsL l 10)) rfl rfl 118 (rowW zerosW) zz E8.out S8.out (rowW_one _) ?_; intro W9 k9 g9 s9))
      refine bodyPost_ret (results_cell_row Try.results92 _ _ (g + 1) 118 _ (0, 0) _ rfl k9 Try.underlying118 rfl E8.out) rfl ⟨rfl, by rw [hg.out]; exact bb.grown g9 (by have := zz.lt; omega) (fun k hk => by injection hk with hk; omega)⟩
end Go.Proofs.Ytopmngjaieobnaa
