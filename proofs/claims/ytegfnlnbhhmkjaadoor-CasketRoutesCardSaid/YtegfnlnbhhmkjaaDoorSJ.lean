/-
  Merged: Ssj Ssi Ssk.
-/
import Derived.Test.YtegfnlnbhhmkjaaDoorSF
import Derived.Test.YtegfnlnbhhmkjaaDoorSA
namespace Go.Proofs.YtegfnlnbhhmkjaaDoor
set_option maxRecDepth 100000
open Go.ChangeShapes Go.WideShapes Go.ChangeAt Go.RowKit Go.Sort Go.Shelf Go.Lib
set_option linter.unusedVariables false
set_option linter.unusedSectionVars false
set_option linter.unusedSimpArgs false

section
variable {α : Type} [Inhabited α] {enc : α → List Value} {w0 W : World} {blk off : Nat} {d0 d : Array α}
theorem at_two {d : Array α} {P A B S : List α} (h : d.toList = P ++ A ++ B ++ S) {a m i j : Nat} (ha : a = P.length) (hm : m = a + A.length) (hi : i < A.length) (hj : j < B.length) :
    A[i]? = some d[a + i]! ∧ a + i < d.size ∧ B[j]? = some d[m + j]! ∧ m + j < d.size := by
  have h1 : d.toList = (P ++ A.take i) ++ A[i] :: (A.drop (i + 1) ++ (B ++ S)) := by
    rw [h]
    conv => lhs; rw [← List.take_append_drop i A, List.drop_eq_getElem_cons hi]
    simp only [List.append_assoc, List.cons_append, List.nil_append]
  have h2 : d.toList = (P ++ A ++ B.take j) ++ B[j] :: (B.drop (j + 1) ++ S) := by
    rw [h]
    conv => lhs; rw [← List.take_append_drop j B, List.drop_eq_getElem_cons hj]
    simp only [List.append_assoc, List.cons_append, List.nil_append]
  have h3 := at_list' h1 (i := a + i) (by simp only [List.length_append, List.length_take]; omega)
  have h4 := at_list' h2 (i := m + j) (by simp only [List.length_append, List.length_take]; omega)
  exact ⟨by rw [h3.1]; exact List.getElem?_eq_getElem hi, h3.2, by rw [h4.1]; exact List.getElem?_eq_getElem hj, h4.2⟩
theorem sym_in {u v i : Nat} (h1 : symLo u v ≤ i) (h2 : i < symHi u v) : i < u ∧ i < (u + v) / 2 ∧ (u + v) / 2 - 1 - i < v := by
  unfold symLo at h1
  unfold symHi at h2
  split at h1 <;> split at h2 <;> omega
theorem sym_lohi (u v : Nat) : symLo u v ≤ symHi u v := by
  unfold symLo symHi
  split <;> omega
set_option maxRecDepth 1000000 in
set_option maxHeartbeats 8000000 in
theorem sym_any {lt : α → α → Bool} (hw : Wk lt) {cf : α → α → Int} (hlt : ∀ x y, lt x y = decide (cf x y < 0)) (hcmp : CmpS enc w0 blk off d0.size cf) (R : RowK enc 2 w0 blk off d0) :
    ∀ (n : Nat) (W : World) (d : Array α), SWK enc 2 w0 blk off d W → d.size = d0.size → d.size < 4611686018427387904 → ∀ (P A B S : List α) (a m b cap : Nat),
    d.toList = P ++ A ++ B ++ S → a = P.length → m = a + A.length → b = m + B.length → Srt lt A → Srt lt B → 0 < A.length → 0 < B.length → A.length + B.length ≤ n →
    Calls Tryd.prog 67 #[.slice (some ⟨blk, off, none⟩) d.size cap, .int .i64 a, .int .i64 m, .int .i64 b, .func (.func 16) #[] #[]] W fun e' w' =>
      e' = .returned (.tuple #[]) ∧ ∃ d', SWK enc 2 w0 blk off d' w' ∧ d'.size = d.size ∧ d'.toList = P ++ mrg lt A B ++ S := by
  intro n
  induction n with
  | zero => intro W d _ _ _ P A B S a m b cap _ _ _ _ _ _ h1 h2 h3; omega
  | succ n ih =>
  intro W d h hs hsz P A B S a m b cap hL ha hm hb hA hB hA0 hB0 hn
  by_cases hA1 : A.length = 1
  · obtain ⟨e, rfl⟩ := List.length_eq_one_iff.1 hA1
    exact sym_one hw hlt hcmp R h hs hsz P B S e a m b cap (by rw [hL]; simp) ha hm hb hB
  by_cases hB1 : B.length = 1
  · obtain ⟨e, rfl⟩ := List.length_eq_one_iff.1 hB1
    exact sym_one' hw hlt hcmp R h hs hsz P A S e a m b cap (by rw [hL]; simp) ha hm hb (by omega) hA
  have hlen : d.size = P.length + A.length + B.length + S.length := by
    have := congrArg List.length hL
    simp only [List.length_append, Array.length_toList] at this
    omega
  obtain ⟨u, hu⟩ : ∃ u, A.length = u := ⟨_, rfl⟩
  obtain ⟨v, hv⟩ : ∃ v, B.length = v := ⟨_, rfl⟩
  obtain ⟨hh, hhh⟩ : ∃ x, (u + v) / 2 = x := ⟨_, rfl⟩
  obtain ⟨z, hz⟩ : ∃ z, d.size = z := ⟨_, rfl⟩
  have HZ0 := hidss_ (show z = d0.size by omega)
  have hbz : b ≤ z := by omega
  have hz62 : z < 4611686018427387904 := by omega
  have ham : a ≤ m := by omega
  have hmb : m ≤ b := by omega
  obtain ⟨mid, hmid⟩ : ∃ x, a + hh = x := ⟨_, rfl⟩
  obtain ⟨nn, hnn⟩ : ∃ x, mid + m = x := ⟨_, rfl⟩
  obtain ⟨p, hp⟩ : ∃ x, nn - 1 = x := ⟨_, rfl⟩
  obtain ⟨lo, hlo⟩ : ∃ x, a + symLo u v = x := ⟨_, rfl⟩
  obtain ⟨hi, hhi⟩ : ∃ x, a + symHi u v = x := ⟨_, rfl⟩
  have hlh : lo ≤ hi := by have := sym_lohi u v; omega
  have him : hi ≤ m := by rw [← hhi]; unfold symHi; split <;> omega
  have hid2 : hi ≤ mid := by rw [← hhi]; unfold symHi; split <;> omega
  have hmidb : mid ≤ b := by omega
  have w1 : IntKind.i64.wrap ((m : Int) - (a : Int)) = (u : Int) := by rw [IntKind.wrap_i64]; omega
  have w2 : IntKind.i64.wrap ((b : Int) - (m : Int)) = (v : Int) := by rw [IntKind.wrap_i64]; omega
  have t1 : ((u : Int) == 1) = false := by simp; omega
  have t2 : ((v : Int) == 1) = false := by simp; omega
  have w4 : IntKind.u64.wrap ((a : Int) + (b : Int)) = (a : Int) + (b : Int) := by rw [IntKind.wrap_u64]; omega
  have w5 : ((a : Int) + (b : Int)) / 2 = (mid : Int) := by omega
  have w7 : IntKind.i64.wrap ((mid : Int) + (m : Int)) = (nn : Int) := by rw [IntKind.wrap_i64]; omega
  have w8 : IntKind.i64.wrap ((nn : Int) - 1) = (p : Int) := by rw [IntKind.wrap_i64]; omega
  have HR := hidss_ R
  have HS := hidss_ h
  have HW := hidss_ hw
  have HLT := hidss_ hlt
  have HC := hidss_ hcmp
  have HL := hidss_ hL
  have HA := hidss_ hA
  have HB := hidss_ hB
  have HZ := hidss_ hz
  have HU := hidss_ hu
  have HV := hidss_ hv
  have HP := hidss_ ha
  have HM := hidss_ (show m = a + u by omega)
  have HBB := hidss_ (show b = m + v by omega)
  have HMID := hidss_ hmid
  have HNN := hidss_ hnn
  have HPP := hidss_ hp
  have HLO := hidss_ hlo
  have HHI := hidss_ hhi
  have HHH := hidss_ hhh
  have HIH := hidss_ ih
  have HN := hidss_ (show u + v ≤ n + 1 ∧ 2 ≤ u ∧ 2 ≤ v by omega)
  have hst : (hh < u → ((mid : Int) < (m : Int)) ∧ IntKind.i64.wrap ((nn : Int) - (b : Int)) = (lo : Int) ∧ hi = mid) ∧ (¬ hh < u → (¬ (mid : Int) < (m : Int)) ∧ lo = a ∧ hi = m) := by
    refine ⟨fun e => ⟨by omega, ?_, ?_⟩, fun e => ⟨by omega, ?_, ?_⟩⟩
    · rw [IntKind.wrap_i64, ← hlo]; unfold symLo; rw [hhh, if_pos e]; omega
    · rw [← hhi]; unfold symHi; rw [hhh, if_pos e]; omega
    · rw [← hlo]; unfold symLo; rw [hhh, if_neg e]; omega
    · rw [← hhi]; unfold symHi; rw [hhh, if_neg e]; omega
  rw [hz]
  clear h R hw hlt hcmp hL hA hB hz hu hv ha hm hb hmid hnn hp hlo hhi hhh ih hs hsz hlen hA0 hB0 hn hA1 hB1
  go_enter Tryd.func67, Tryd.ntmps67
  by_cases hc : hh < u
  case' pos =>
    obtain ⟨g1, g2, g3⟩ := hst.1 hc
    clear hst hc
    have G2 := hidss_ (show lo = lo from rfl)
    have G3 := hidss_ g3
    clear g3
    go_wp2
    clear w1 w2 t1 t2 w4 w5 w7 w8 g1 g2
  case' neg =>
    obtain ⟨g1, g2, g3⟩ := hst.2 hc
    clear hst hc
    have G2 := hidss_ g2
    have G3 := hidss_ g3
    clear g2 g3
    go_wp2
    clear w1 w2 t1 t2 w4 w5 w7 w8 g1
  all_goals
    go_loopw [20, 21] (fun i j wr => ∃ (ii jj : Nat), i = .int .i64 ii ∧ j = .int .i64 jj ∧ lo ≤ ii ∧ ii ≤ jj ∧ jj ≤ hi ∧ Hid (SWK enc 2 w0 blk off d wr) ∧ Hid (∀ x y, lo < ii → A[ii - a - 1]? = some x → B[hh - 1 - (ii - a - 1)]? = some y → lt y x = false) ∧ Hid (∀ x y, jj < hi → A[jj - a]? = some x → B[hh - 1 - (jj - a)]? = some y → lt y x = true)) (fun i j _ => (intOf j).toNat - (intOf i).toNat)
    case atStart => exact ⟨lo, hi, by first | rfl | rw [G2.out], by first | rfl | rw [G3.out], Nat.le_refl _, hlh, Nat.le_refl _, HS, hidss_ (fun x y h => absurd h (Nat.lt_irrefl _)), hidss_ (fun x y h => absurd h (Nat.lt_irrefl _))⟩
    case round =>
      obtain ⟨ii, jj, rfl, rfl, hli, hij, hjh, HSk, H1, H2⟩ := hrel
      by_cases hlt : ii < jj
      · have tl : (ii : Int) < (jj : Int) := by omega
        obtain ⟨c, hc⟩ : ∃ c, c = (ii + jj) / 2 := ⟨_, rfl⟩
        have hb1 : ii ≤ c ∧ c < jj := by omega
        have c1 : IntKind.u64.wrap ((ii : Int) + (jj : Int)) = (ii : Int) + (jj : Int) := by rw [IntKind.wrap_u64]; omega
        have c0 : ((ii : Int) + (jj : Int)) / 2 = (c : Int) := by omega
        obtain ⟨i, hi_⟩ : ∃ i, c = a + i := ⟨c - a, by have := HLO.out; omega⟩
        obtain ⟨s1, s2, s3⟩ := sym_in (u := u) (v := v) (i := i) (by have := HLO.out; omega) (by have := HHI.out; omega)
        rw [HHH.out] at s2 s3
        obtain ⟨g1, g2, g3, g4⟩ := at_two HL.out HP.out (show m = a + A.length by rw [HU.out]; exact HM.out) (show i < A.length by rw [HU.out]; exact s1) (show hh - 1 - i < B.length by rw [HV.out]; exact s3)
        obtain ⟨q, hq⟩ : ∃ q, m + (hh - 1 - i) = q := ⟨_, rfl⟩
        rw [← hi_] at g1 g2
        rw [hq] at g3 g4
        have w9 : IntKind.i64.wrap ((p : Int) - (c : Int)) = (q : Int) := by have := HPP.out; have := HNN.out; have := HMID.out; rw [IntKind.wrap_i64]; omega
        have hsk : d.size = d0.size := HZ.out.trans HZ0.out
        have Cx := hidss_ (fun W (hW : SWK enc 2 w0 blk off d W) => swk_cells hW HR.out hsk q g4)
        have Cy := hidss_ (fun W (hW : SWK enc 2 w0 blk off d W) => swk_cells hW HR.out hsk c g2)
        have Ia := hidss_ (show (Tryd.prog.info? 61).map (·.size) = some (enc d[q]!).toArray.size by rw [infoSib, List.size_toArray, HR.out.hk])
        have Ib := hidss_ (show (Tryd.prog.info? 61).map (·.size) = some (enc d[c]!).toArray.size by rw [infoSib, List.size_toArray, HR.out.hk])
        have CC := hidss_ (fun W (hW : SWK enc 2 w0 blk off d W) => HC.out W d hW hsk d[q]! d[c]!)
        have HQ := hidss_ (show ∀ x y, A[c - a]? = some x → B[hh - 1 - (c - a)]? = some y → lt y x = decide (cf d[q]! d[c]! < 0) from fun x y hx hy => by
          rw [show c - a = i by omega] at hx hy
          rw [g1] at hx
          rw [g3] at hy
          injection hx with hx
          injection hy with hy
          rw [← hx, ← hy, HLT.out])
        obtain ⟨cz, hcz⟩ : ∃ c', cf d[q]! d[c]! = c' := ⟨_, rfl⟩
        obtain ⟨ca, hca⟩ : ∃ c', (enc d[q]!).toArray = c' := ⟨_, rfl⟩
        obtain ⟨cb, hcb⟩ : ∃ c', (enc d[c]!).toArray = c' := ⟨_, rfl⟩
        rw [hcz] at CC HQ
        rw [hca] at Cx Ia CC
        rw [hcb] at Cy Ib CC
        have ta : (q : Int) < (z : Int) := by have := HZ.out; omega
        have tb2 : (c : Int) < (z : Int) := by have := HZ.out; omega
        clear hca hcb hcz g1 g2 g3 g4 hsk hc hi_ hq s1 s2 s3
        by_cases hc : cz < 0
        · have tc : decide (cz < 0) = true := decide_eq_true hc
          have HTR := hidss_ tc
          go_upto_region 35 with fail
          refine region_quiet_in (C := fun W => SWK enc 2 w0 blk off d W) (by kernel_rfl) (by kernel_rfl) HSk.out.drew ?_
          repeat (first | go_big_quiet_skip | (go_big_quiet_want; (first
            | (refine BigFrame.quiet_move _ rfl ?_; go_simp)
            | (refine quiet_run (.int .i64 (q : Int)) ?_ ?_; (focus (intro W hW; go_simp; done)); go_simp)
            | (refine quiet_run (.pointer (some ⟨blk, off + q * 2, none⟩)) ?_ ?_; (focus (intro W hW; go_simp; done)); go_simp)
            | (refine quiet_run (.pointer (some ⟨blk, off + c * 2, none⟩)) ?_ ?_; (focus (intro W hW; go_simp; done)); go_simp)
            | (refine quiet_load_subS 61 (.tmp 163) rfl blk (off + q * 2) rfl ca _ Tryd.underlying61 rfl Ia.out Cx.out ?_; go_simp)
            | (refine quiet_load_subS 61 (.tmp 167) rfl blk (off + c * 2) rfl cb _ Tryd.underlying61 rfl Ib.out Cy.out ?_; go_simp)
            | (refine quiet_call (.int .i64 cz) 16 #[.agg ca, .agg cb] ?_ CC.out ?_; (focus (intro W; go_simp; done)); go_simp)
            | (refine quiet_run (.bool true) ?_ ?_; (focus (intro W hW; go_simp; done)); go_simp)
            | (refine quiet_run (.bool false) ?_ ?_; (focus (intro W hW; go_simp; done)); go_simp)); go_big_quiet_on))
          refine wpQuiet_nil ?_
          intro w4 hw4
          have HS4 := hidss_ hw4
          clear hw4
          go_wp2
          go_roundw
          case rel => exact ⟨ii, c, rfl, rfl, hli, by omega, by omega, HS4, H1, hidss_ (fun x y _ hx hy => by rw [HQ.out x y hx hy]; exact HTR.out)⟩
          case measure => simp [intOf]; omega
        · have tc : decide (cz < 0) = false := decide_eq_false hc
          have HTR := hidss_ tc
          go_upto_region 35 with fail
          refine region_quiet_in (C := fun W => SWK enc 2 w0 blk off d W) (by kernel_rfl) (by kernel_rfl) HSk.out.drew ?_
          repeat (first | go_big_quiet_skip | (go_big_quiet_want; (first
            | (refine BigFrame.quiet_move _ rfl ?_; go_simp)
            | (refine quiet_run (.int .i64 (q : Int)) ?_ ?_; (focus (intro W hW; go_simp; done)); go_simp)
            | (refine quiet_run (.pointer (some ⟨blk, off + q * 2, none⟩)) ?_ ?_; (focus (intro W hW; go_simp; done)); go_simp)
            | (refine quiet_run (.pointer (some ⟨blk, off + c * 2, none⟩)) ?_ ?_; (focus (intro W hW; go_simp; done)); go_simp)
            | (refine quiet_load_subS 61 (.tmp 163) rfl blk (off + q * 2) rfl ca _ Tryd.underlying61 rfl Ia.out Cx.out ?_; go_simp)
            | (refine quiet_load_subS 61 (.tmp 167) rfl blk (off + c * 2) rfl cb _ Tryd.underlying61 rfl Ib.out Cy.out ?_; go_simp)
            | (refine quiet_call (.int .i64 cz) 16 #[.agg ca, .agg cb] ?_ CC.out ?_; (focus (intro W; go_simp; done)); go_simp)
            | (refine quiet_run (.bool true) ?_ ?_; (focus (intro W hW; go_simp; done)); go_simp)
            | (refine quiet_run (.bool false) ?_ ?_; (focus (intro W hW; go_simp; done)); go_simp)); go_big_quiet_on))
          refine wpQuiet_nil ?_
          intro w4 hw4
          have HS4 := hidss_ hw4
          clear hw4
          go_wp2
          go_roundw
          case rel => exact ⟨c + 1, jj, by go_num, rfl, by omega, by omega, hjh, HS4, hidss_ (fun x y _ hx hy => by rw [show c + 1 - a - 1 = c - a by omega] at hx hy; rw [HQ.out x y hx hy]; exact HTR.out), H2⟩
          case measure => simp [intOf]; omega
      · have tl : ¬ (ii : Int) < (jj : Int) := by omega
        obtain rfl : ii = jj := by omega
        obtain ⟨i, hi_⟩ : ∃ i, ii = a + i := ⟨ii - a, by have := HLO.out; omega⟩
        obtain ⟨e1, e2, e3⟩ := sym_le (u := u) (v := v) (i := i) (by have := HLO.out; omega) (by have := HHI.out; omega)
        have HMG := hidss_ (sym_split HW.out HA.out HB.out HU.out HV.out (i := i) (by have := HLO.out; omega) (by have := HHI.out; omega) (fun x y h0 hx hy => H1.out x y (by have := HLO.out; omega) (by rw [show ii - a - 1 = i - 1 by omega]; exact hx) (by rw [show hh - 1 - (ii - a - 1) = (u + v) / 2 - 1 - (i - 1) by have := HHH.out; omega]; exact hy)) (fun x y h0 hx hy => H2.out x y (by have := HHI.out; omega) (by rw [show ii - a = i by omega]; exact hx) (by rw [show hh - 1 - (ii - a) = (u + v) / 2 - 1 - i by have := HHH.out; omega]; exact hy)))
        rw [HHH.out] at HMG e2 e3
        obtain ⟨A1, hA1⟩ : ∃ x, A.take i = x := ⟨_, rfl⟩
        obtain ⟨A2, hA2⟩ : ∃ x, A.drop i = x := ⟨_, rfl⟩
        obtain ⟨B1, hB1⟩ : ∃ x, B.take (hh - i) = x := ⟨_, rfl⟩
        obtain ⟨B2, hB2⟩ : ∃ x, B.drop (hh - i) = x := ⟨_, rfl⟩
        have lA1 := hidss_ (show A1.length = i by rw [← hA1, List.length_take, HU.out]; omega)
        have lA2 := hidss_ (show A2.length = u - i by rw [← hA2, List.length_drop, HU.out])
        have lB1 := hidss_ (show B1.length = hh - i by rw [← hB1, List.length_take, HV.out]; omega)
        have lB2 := hidss_ (show B2.length = v - (hh - i) by rw [← hB2, List.length_drop, HV.out])
        have sA1 := hidss_ (show Srt lt A1 by rw [← hA1]; exact srt_take HA.out _)
        have sA2 := hidss_ (show Srt lt A2 by rw [← hA2]; exact srt_drop HA.out _)
        have sB1 := hidss_ (show Srt lt B1 by rw [← hB1]; exact srt_take HB.out _)
        have sB2 := hidss_ (show Srt lt B2 by rw [← hB2]; exact srt_drop HB.out _)
        have HL2 := hidss_ (show d.toList = (P ++ A1) ++ A2 ++ B1 ++ (B2 ++ S) by have eA : A = A1 ++ A2 := (by rw [← hA1, ← hA2, List.take_append_drop]); have eB : B = B1 ++ B2 := (by rw [← hB1, ← hB2, List.take_append_drop]); rw [HL.out, eA, eB]; simp)
        rw [hA1, hA2, hB1, hB2] at HMG
        clear hA1 hA2 hB1 hB2 H1 H2 HS
        obtain ⟨e, he⟩ : ∃ x, nn - ii = x := ⟨_, rfl⟩
        have HE := hidss_ (show e = mid + (u - i) ∧ e = m + (hh - i) ∧ ii = a + i ∧ e + (v - (hh - i)) = b ∧ mid = ii + (hh - i) by have := HNN.out; have := HMID.out; have := HM.out; have := HBB.out; omega)
        have we : IntKind.i64.wrap ((nn : Int) - (ii : Int)) = (e : Int) := by have := HNN.out; have := HMID.out; rw [IntKind.wrap_i64]; omega
        have HI2 := hidss_ (show i ≤ u ∧ i ≤ hh ∧ hh - i ≤ v from ⟨e1, e2, e3⟩)
        have hsk := hidss_ (HZ.out.trans HZ0.out)
        have HDZ := hidss_ (show d.size < 4611686018427387904 by rw [HZ.out]; exact hz62)
        have bii : ii ≤ z := by omega
        have be : e ≤ z := by have := HE.out; omega
        clear hi_ e1 e2 e3 he hlt hli hij hjh hlh
        go_upto_region 39 with fail
        clear we tl
        -- turned about, or not
        by_cases r1 : i < u
        case' neg =>
          have tA : ¬ (ii : Int) < (m : Int) := by have := HM.out; have := HE.out; omega
          go_upto_region 41 with fail
          have L1 := hidss_ (show d.toList = P ++ A1 ++ B1 ++ (A2 ++ (B2 ++ S)) by rw [HL2.out, List.eq_nil_of_length_eq_zero (show A2.length = 0 by rw [lA2.out]; omega)]; simp)
          obtain ⟨w1, hw1⟩ : ∃ x, wr = x := ⟨_, rfl⟩
          rw [hw1] at HSk ⊢
          clear hw1
          obtain ⟨d1, hd1⟩ : ∃ x, d = x := ⟨_, rfl⟩
          have K1 := hidss_ (show SWK enc 2 w0 blk off d1 w1 from hd1 ▸ HSk.out)
          have Z1 := hidss_ (show d1.size = z from hd1 ▸ HZ.out)
          rw [hd1] at L1
          clear hd1 tA r1
        case' pos =>
          have tA : (ii : Int) < (m : Int) := by have := HM.out; have := HE.out; omega
          by_cases r2 : 0 < hh - i
          case' neg =>
            have tB : ¬ (m : Int) < (e : Int) := by have := HE.out; omega
            go_upto_region 41 with fail
            have L1 := hidss_ (show d.toList = P ++ A1 ++ B1 ++ (A2 ++ (B2 ++ S)) by rw [HL2.out, List.eq_nil_of_length_eq_zero (show B1.length = 0 by rw [lB1.out]; omega)]; simp)
            obtain ⟨w1, hw1⟩ : ∃ x, wr = x := ⟨_, rfl⟩
            rw [hw1] at HSk ⊢
            clear hw1
            obtain ⟨d1, hd1⟩ : ∃ x, d = x := ⟨_, rfl⟩
            have K1 := hidss_ (show SWK enc 2 w0 blk off d1 w1 from hd1 ▸ HSk.out)
            have Z1 := hidss_ (show d1.size = z from hd1 ▸ HZ.out)
            rw [hd1] at L1
            clear hd1 tA tB r1 r2
          case' pos =>
            have tB : (m : Int) < (e : Int) := by have := HE.out; omega
            have cr := rotate_any HR.out HSk.out hsk.out HDZ.out (P ++ A1) A2 B1 (B2 ++ S) ii m e cap HL2.out (by rw [List.length_append, lA1.out, ← HP.out]; exact HE.out.2.2.1) (by rw [List.length_append, lA1.out, lA2.out, ← HP.out]; have := HM.out; omega) (by rw [List.length_append, lA1.out, lA2.out, lB1.out, ← HP.out]; have := HE.out; have := HMID.out; omega) (by rw [lA2.out]; omega) (by rw [lB1.out]; exact r2) (.func (.func 16) #[] #[])
            rw [HZ.out] at cr
            clear r1 r2
            go_upto_region 41 with (go_at_call 82; ((with_reducible refine cr.mono ?_); clear cr; rintro e' w1 ⟨rfl, d1, h1, h2, h3⟩; have K1 := hidss_ h1; have Z1 := hidss_ h2; have L1 := hidss_ (show d1.toList = P ++ A1 ++ B1 ++ (A2 ++ (B2 ++ S)) by rw [h3]; simp); clear h1 h2 h3))
            clear tA tB
        all_goals
          clear HSk HL2 HDZ hsk
          have hs1 := hidss_ (Z1.out.trans HZ0.out)
          have DZ1 := hidss_ (show d1.size < 4611686018427387904 by rw [Z1.out]; exact hz62)
          have bmid : mid ≤ z := by omega
          by_cases r1 : 0 < i
          case' neg =>
            have tA : ¬ (a : Int) < (ii : Int) := by have := HE.out; omega
            go_upto_region 43 with fail
            have L2 := hidss_ (show d1.toList = P ++ mrg lt A1 B1 ++ (A2 ++ (B2 ++ S)) by rw [L1.out, List.eq_nil_of_length_eq_zero (show A1.length = 0 by rw [lA1.out]; omega), mrg_nil]; simp)
            obtain ⟨w2, hw2⟩ : ∃ x, w1 = x := ⟨_, rfl⟩
            rw [hw2] at K1 ⊢
            obtain ⟨d2, hd2⟩ : ∃ x, d1 = x := ⟨_, rfl⟩
            rw [hd2] at K1 L2 Z1
            have K2 := K1
            have Z2 := Z1
            clear hd2 hw2 tA r1
          case' pos =>
            have tA : (a : Int) < (ii : Int) := by have := HE.out; omega
            by_cases r2 : 0 < hh - i
            case' neg =>
              have tB : ¬ (ii : Int) < (mid : Int) := by have := HE.out; omega
              go_upto_region 43 with fail
              have L2 := hidss_ (show d1.toList = P ++ mrg lt A1 B1 ++ (A2 ++ (B2 ++ S)) by rw [L1.out, List.eq_nil_of_length_eq_zero (show B1.length = 0 by rw [lB1.out]; omega), mrg_nil']; simp)
              obtain ⟨w2, hw2⟩ : ∃ x, w1 = x := ⟨_, rfl⟩
              rw [hw2] at K1 ⊢
              obtain ⟨d2, hd2⟩ : ∃ x, d1 = x := ⟨_, rfl⟩
              rw [hd2] at K1 L2 Z1
              have K2 := K1
              have Z2 := Z1
              clear hd2 hw2 tA tB r1 r2
            case' pos =>
              have tB : (ii : Int) < (mid : Int) := by have := HE.out; omega
              have cr := HIH.out w1 d1 K1.out hs1.out DZ1.out P A1 B1 (A2 ++ (B2 ++ S)) a ii mid cap L1.out HP.out (by rw [lA1.out]; exact HE.out.2.2.1) (by rw [lB1.out]; exact HE.out.2.2.2.2) sA1.out sB1.out (by rw [lA1.out]; exact r1) (by rw [lB1.out]; exact r2) (by rw [lA1.out, lB1.out]; have := HN.out; have := HHH.out; have := HI2.out; omega)
              rw [Z1.out] at cr
              clear r1 r2
              go_upto_region 43 with (go_at_call 67; ((with_reducible refine cr.mono ?_); clear cr; rintro e' w2 ⟨rfl, d2, h1, h2, h3⟩; have K2 := hidss_ h1; have Z2 := hidss_ h2; have L2 := hidss_ h3; clear h1 h2 h3))
              clear tA tB
        all_goals
          have hs2 := hidss_ (Z2.out.trans HZ0.out)
          have DZ2 := hidss_ (show d2.size < 4611686018427387904 by rw [Z2.out]; exact hz62)
          by_cases r1 : 0 < u - i
          case' neg =>
            have tA : ¬ (mid : Int) < (e : Int) := by have := HE.out; omega
            go_wp2
            go_end0
            exact ⟨rfl, d2, K2.out, Z2.out, by rw [L2.out, HMG.out, List.eq_nil_of_length_eq_zero (show A2.length = 0 by rw [lA2.out]; omega), mrg_nil]; simp⟩
          case' pos =>
            have tA : (mid : Int) < (e : Int) := by have := HE.out; omega
            by_cases r2 : 0 < v - (hh - i)
            case' neg =>
              have tB : ¬ (e : Int) < (b : Int) := by have := HE.out; omega
              go_wp2
              go_end0
              exact ⟨rfl, d2, K2.out, Z2.out, by rw [L2.out, HMG.out, List.eq_nil_of_length_eq_zero (show B2.length = 0 by rw [lB2.out]; omega), mrg_nil' A2]; simp⟩
            case' pos =>
              have tB : (e : Int) < (b : Int) := by have := HE.out; omega
              have cr := HIH.out w2 d2 K2.out hs2.out DZ2.out (P ++ mrg lt A1 B1) A2 B2 S mid e b cap (by rw [L2.out]; simp) (by rw [List.length_append, mrg_len, lA1.out, lB1.out, ← HP.out]; have := HE.out; omega) (by rw [lA2.out]; exact HE.out.1) (by rw [lB2.out]; exact HE.out.2.2.2.1.symm) sA2.out sB2.out (by rw [lA2.out]; exact r1) (by rw [lB2.out]; exact r2) (by rw [lA2.out, lB2.out]; have := HN.out; have := HHH.out; have := HI2.out; omega)
              rw [Z2.out] at cr
              clear r1 r2
              go_wp2_with (go_at_call 67; ((with_reducible refine cr.mono ?_); clear cr; rintro e' w3 ⟨rfl, d3, h1, h2, h3⟩; have K3 := hidss_ h1; have Z3 := hidss_ h2; have L3 := hidss_ h3; clear h1 h2 h3))
              go_end0
              exact ⟨rfl, d3, K3.out, Z3.out, by rw [L3.out, HMG.out]; simp⟩
end
end Go.Proofs.YtegfnlnbhhmkjaaDoor

namespace Go.Proofs.YtegfnlnbhhmkjaaDoor
set_option maxRecDepth 100000
open Go.Sort
set_option linter.unusedVariables false
set_option linter.unusedSectionVars false
set_option linter.unusedSimpArgs false

section
variable {α : Type} [Inhabited α] {lt : α → α → Bool}
theorem flat_ssort_len : ∀ (Xs : List (List α)), ((Xs.map (ssort lt)).flatten).length = Xs.flatten.length
  | [] => rfl
  | X :: Xs => by simp only [List.map_cons, List.flatten_cons, List.length_append, ssort_len, flat_ssort_len Xs]
theorem flat_len_eq {s : Nat} : ∀ {Xs : List (List α)}, (∀ X ∈ Xs, X.length = s) → Xs.flatten.length = Xs.length * s
  | [], _ => by simp
  | X :: Xs, h => by
    rw [List.flatten_cons, List.length_append, h X (List.mem_cons_self ..), flat_len_eq (fun Y hY => h Y (List.mem_cons_of_mem _ hY)), List.length_cons, Nat.succ_mul]
    omega
/-- The first pass: blocks of s ahead of a are sorted. -/
def StbI (lt : α → α → Bool) (s : Nat) (L : List α) (a : Nat) (D : List α) : Prop :=
  ∃ (Xs : List (List α)) (R : List α), (∀ X ∈ Xs, X.length = s) ∧ L = Xs.flatten ++ R ∧ a = Xs.flatten.length ∧ D = (Xs.map (ssort lt)).flatten ++ R
/-- All blocks of s are sorted, and what is left behind them. -/
def StbS (lt : α → α → Bool) (s : Nat) (L : List α) (D : List α) : Prop :=
  ∃ (Xs : List (List α)) (R : List α), (∀ X ∈ Xs, X.length = s) ∧ R.length < s ∧ L = Xs.flatten ++ R ∧ D = (Xs.map (ssort lt)).flatten ++ ssort lt R
/-- A later pass: ahead of a two of them are merged each. -/
def StbP (lt : α → α → Bool) (s : Nat) (L : List α) (a : Nat) (D : List α) : Prop :=
  ∃ (Ys Xs : List (List α)) (R : List α), (∀ Y ∈ Ys, Y.length = 2 * s) ∧ (∀ X ∈ Xs, X.length = s) ∧ R.length < s ∧ L = Ys.flatten ++ (Xs.flatten ++ R) ∧ a = Ys.flatten.length ∧ D = (Ys.map (ssort lt)).flatten ++ ((Xs.map (ssort lt)).flatten ++ ssort lt R)
theorem stbI_start (s : Nat) (L : List α) : StbI lt s L 0 L := ⟨[], L, fun _ h => by simp at h, rfl, rfl, rfl⟩
theorem stbI_next {s a : Nat} {L D : List α} (h : StbI lt s L a D) (hn : a + s ≤ L.length) : ∃ P A S, D = P ++ A ++ S ∧ P.length = a ∧ A.length = s ∧ StbI lt s L (a + s) (P ++ ssort lt A ++ S) := by
  obtain ⟨Xs, R, h1, h2, h3, h4⟩ := h
  have hl := congrArg List.length h2
  rw [List.length_append, ← h3] at hl
  have hA : (R.take s).length = s := by rw [List.length_take]; omega
  refine ⟨(Xs.map (ssort lt)).flatten, R.take s, R.drop s, by rw [h4, List.append_assoc, List.take_append_drop], by rw [flat_ssort_len, h3], hA, Xs ++ [R.take s], R.drop s, fun X hX => ?_, ?_, ?_, ?_⟩
  · rcases List.mem_append.1 hX with h | h
    · exact h1 X h
    · rw [List.mem_singleton.1 h]; exact hA
  · rw [List.flatten_append, List.flatten_singleton, List.append_assoc, List.take_append_drop, h2]
  · rw [List.flatten_append, List.flatten_singleton, List.length_append, hA, h3]
  · rw [List.map_append, List.flatten_append, List.map_singleton, List.flatten_singleton]
theorem stbI_end {s a : Nat} {L D : List α} (h : StbI lt s L a D) (hn : L.length < a + s) : ∃ P A, D = P ++ A ++ [] ∧ P.length = a ∧ a + A.length = L.length ∧ StbS lt s L (P ++ ssort lt A ++ []) := by
  obtain ⟨Xs, R, h1, h2, h3, h4⟩ := h
  have hl := congrArg List.length h2
  rw [List.length_append, ← h3] at hl
  exact ⟨(Xs.map (ssort lt)).flatten, R, by rw [h4, List.append_nil], by rw [flat_ssort_len, h3], hl.symm, Xs, R, h1, by omega, h2, by rw [List.append_nil]⟩
theorem stbP_start {s : Nat} {L D : List α} (h : StbS lt s L D) : StbP lt s L 0 D := by
  obtain ⟨Xs, R, h1, h2, h3, h4⟩ := h
  exact ⟨[], Xs, R, fun _ h => by simp at h, h1, h2, by simpa using h3, rfl, by simpa using h4⟩
theorem stbP_next (hw : Wk lt) {s a : Nat} {L D : List α} (h : StbP lt s L a D) (hn : a + 2 * s ≤ L.length) :
    ∃ P A B S, D = P ++ A ++ B ++ S ∧ P.length = a ∧ A.length = s ∧ B.length = s ∧ Srt lt A ∧ Srt lt B ∧ StbP lt s L (a + 2 * s) (P ++ mrg lt A B ++ S) := by
  obtain ⟨Ys, Xs, R, h0, h1, h2, h3, h4, h5⟩ := h
  have hl := congrArg List.length h3
  rw [List.length_append, ← h4, List.length_append] at hl
  match Xs, h1, h3, h5, hl with
  | [], h1, h3, h5, hl => simp at hl; omega
  | [X], h1, h3, h5, hl =>
    have e := h1 X (List.mem_cons_self ..)
    simp at hl
    omega
  | X :: Y :: Xs, h1, h3, h5, hl =>
    have eX := h1 X (by simp)
    have eY := h1 Y (by simp)
    refine ⟨(Ys.map (ssort lt)).flatten, ssort lt X, ssort lt Y, (Xs.map (ssort lt)).flatten ++ ssort lt R, ?_, by rw [flat_ssort_len, h4], by rw [ssort_len, eX], by rw [ssort_len, eY], ssort_srt hw _, ssort_srt hw _, Ys ++ [X ++ Y], Xs, R, fun Z hZ => ?_, fun Z hZ => h1 Z (by simp [hZ]), h2, ?_, ?_, ?_⟩
    · rw [h5]; simp only [List.map_cons, List.flatten_cons, List.append_assoc]
    · rcases List.mem_append.1 hZ with h | h
      · exact h0 Z h
      · rw [List.mem_singleton.1 h, List.length_append]; omega
    · rw [h3]; simp only [List.flatten_append, List.flatten_cons, List.flatten_nil, List.append_nil, List.append_assoc]
    · simp only [List.flatten_append, List.flatten_cons, List.flatten_nil, List.append_nil, List.length_append]; omega
    · simp only [List.map_append, List.map_cons, List.map_nil, List.flatten_append, List.flatten_cons, List.flatten_nil, List.append_nil, List.append_assoc, ssort_app hw X Y]
theorem stbP_tail (hw : Wk lt) {s a : Nat} {L D : List α} (h : StbP lt s L a D) (h1 : L.length < a + 2 * s) (h2 : a + s < L.length) :
    ∃ P A B, D = P ++ A ++ B ++ [] ∧ P.length = a ∧ A.length = s ∧ a + s + B.length = L.length ∧ Srt lt A ∧ Srt lt B ∧ StbS lt (2 * s) L (P ++ mrg lt A B ++ []) := by
  obtain ⟨Ys, Xs, R, g0, g1, g2, g3, g4, g5⟩ := h
  have hl := congrArg List.length g3
  rw [List.length_append, ← g4, List.length_append, flat_len_eq g1] at hl
  match Xs, g1, g3, g5, hl with
  | [], g1, g3, g5, hl => simp at hl; omega
  | [X], g1, g3, g5, hl =>
    have eX := g1 X (by simp)
    simp only [List.length_cons, List.length_nil] at hl
    refine ⟨(Ys.map (ssort lt)).flatten, ssort lt X, ssort lt R, ?_, by rw [flat_ssort_len, g4], by rw [ssort_len, eX], by rw [ssort_len]; omega, ssort_srt hw _, ssort_srt hw _, Ys, X ++ R, g0, ?_, ?_, ?_⟩
    · rw [g5]; simp
    · rw [List.length_append]; omega
    · rw [g3]; simp
    · rw [ssort_app hw X R, List.append_nil]
  | X :: Y :: Xs, g1, g3, g5, hl =>
    exfalso
    simp only [List.length_cons] at hl
    have : (Xs.length + 1 + 1) * s = Xs.length * s + 2 * s := by rw [Nat.add_assoc, Nat.add_mul]
    omega
theorem stbP_none {s a : Nat} {L D : List α} (h : StbP lt s L a D) (h0 : 0 < s) (h2 : L.length ≤ a + s) : StbS lt (2 * s) L D := by
  obtain ⟨Ys, Xs, R, g0, g1, g2, g3, g4, g5⟩ := h
  have hl := congrArg List.length g3
  rw [List.length_append, ← g4, List.length_append, flat_len_eq g1] at hl
  match Xs, g1, g3, g5, hl with
  | [], g1, g3, g5, hl => exact ⟨Ys, R, g0, by omega, by rw [g3]; simp, by rw [g5]; simp⟩
  | [X], g1, g3, g5, hl =>
    have eX := g1 X (by simp)
    simp only [List.length_cons, List.length_nil] at hl
    have hR : R = [] := List.eq_nil_of_length_eq_zero (by omega)
    subst hR
    exact ⟨Ys, X, g0, by omega, by rw [g3]; simp, by rw [g5]; simp [ssort]⟩
  | X :: Y :: Xs, g1, g3, g5, hl =>
    exfalso
    simp only [List.length_cons] at hl
    have : (Xs.length + 1 + 1) * s = Xs.length * s + 2 * s := by rw [Nat.add_assoc, Nat.add_mul]
    omega
theorem stbS_end {s : Nat} {L D : List α} (h : StbS lt s L D) (h0 : 0 < s) (hn : L.length ≤ s) : D = ssort lt L := by
  obtain ⟨Xs, R, g1, g2, g3, g5⟩ := h
  have hl := congrArg List.length g3
  rw [List.length_append, flat_len_eq g1] at hl
  match Xs, g1, g3, g5, hl with
  | [], g1, g3, g5, hl => rw [g5, g3]; simp
  | [X], g1, g3, g5, hl =>
    simp only [List.length_cons, List.length_nil] at hl
    have hR : R = [] := List.eq_nil_of_length_eq_zero (by omega)
    subst hR
    rw [g5, g3]
    simp [ssort]
  | X :: Y :: Xs, g1, g3, g5, hl =>
    exfalso
    simp only [List.length_cons] at hl
    have : (Xs.length + 1 + 1) * s = Xs.length * s + 2 * s := by rw [Nat.add_assoc, Nat.add_mul]
    omega
end
end Go.Proofs.YtegfnlnbhhmkjaaDoor

namespace Go.Proofs.YtegfnlnbhhmkjaaDoor
set_option maxRecDepth 100000
open Go.ChangeShapes Go.WideShapes Go.ChangeAt Go.RowKit Go.Sort Go.Shelf Go.Lib
set_option linter.unusedVariables false
set_option linter.unusedSectionVars false
set_option linter.unusedSimpArgs false

section
variable {α : Type} [Inhabited α] {enc : α → List Value} {w0 W : World} {blk off : Nat} {d0 d : Array α}
set_option maxRecDepth 1000000 in
set_option maxHeartbeats 8000000 in
theorem stable_any {lt : α → α → Bool} (hw : Wk lt) {cf : α → α → Int} (hlt : ∀ x y, lt x y = decide (cf x y < 0)) (hcmp : CmpS enc w0 blk off d0.size cf) (R : RowK enc 2 w0 blk off d0) (h : SWK enc 2 w0 blk off d W) (hs : d.size = d0.size) (hsz : d.size < 4611686018427387904) (cap : Nat) :
    Calls Tryd.prog 50 #[.slice (some ⟨blk, off, none⟩) d.size cap, .int .i64 (d.size : Nat), .func (.func 16) #[] #[]] W fun e' w' =>
      e' = .returned (.tuple #[]) ∧ ∃ d', SWK enc 2 w0 blk off d' w' ∧ d'.size = d.size ∧ d'.toList = ssort lt d.toList := by
  obtain ⟨z, hz⟩ : ∃ z, d.size = z := ⟨_, rfl⟩
  obtain ⟨L, hL⟩ : ∃ L, d.toList = L := ⟨_, rfl⟩
  have HLZ := hidss_ (show L.length = z by rw [← hL, Array.length_toList]; exact hz)
  have HZ0 := hidss_ (show z = d0.size by omega)
  have hz62 : z < 4611686018427387904 := by omega
  have HR := hidss_ R
  have HW := hidss_ hw
  have HLT := hidss_ hlt
  have HC := hidss_ hcmp
  have HS := hidss_ h
  have HI0 := hidss_ (show StbI lt 20 L 0 d.toList by rw [hL]; exact stbI_start 20 L)
  have HZ := hidss_ hz
  rw [hz, hL]
  clear h R hw hlt hcmp hs hsz hz hL
  go_enter Tryd.func50, Tryd.ntmps50
  go_wp2
  go_loopw [7, 8] (fun i j wr => ∃ (a b : Nat) (dk : Array α), i = .int .i64 a ∧ j = .int .i64 b ∧ a ≤ z ∧ Hid (b = a + 20) ∧ Hid (SWK enc 2 w0 blk off dk wr) ∧ Hid (StbI lt 20 L a dk.toList) ∧ Hid (dk.size = z)) (fun i _ _ => z - (intOf i).toNat)
  case atStart => exact ⟨0, 20, d, rfl, rfl, Nat.zero_le _, hidss_ rfl, HS, HI0, HZ⟩
  case round =>
    clear HS HI0 HZ
    obtain ⟨a, b, dk, rfl, rfl, haz, HB, HSk, HI, HZk⟩ := hrel
    have hsk := hidss_ (HZk.out.trans HZ0.out)
    have hdz := hidss_ (show dk.size < 4611686018427387904 by rw [HZk.out]; exact hz62)
    by_cases hbz : b ≤ z
    · have tb : (b : Int) ≤ (z : Int) := by omega
      obtain ⟨c, hc⟩ : ∃ c, b + 20 = c := ⟨_, rfl⟩
      have wc : IntKind.i64.wrap ((b : Int) + 20) = (c : Int) := by rw [IntKind.wrap_i64]; omega
      obtain ⟨P, A, S, e1, e2, e3, e4⟩ := stbI_next HI.out (show a + 20 ≤ L.length by have := HLZ.out; have := HB.out; omega)
      have ci := insertion_any HW.out HLT.out HC.out HR.out HSk.out hsk.out hdz.out P A S a b cap e1 e2.symm (by have := HB.out; omega)
      rw [HZk.out] at ci
      have HE := hidss_ (show StbI lt 20 L b (P ++ ssort lt A ++ S) by rw [HB.out]; exact e4)
      have HCC := hidss_ hc
      have hab : a < b := by have := HB.out; omega
      clear e1 e2 e3 e4 hc
      go_wp2_with (go_at_call 66; ((with_reducible refine ci.mono ?_); clear ci; rintro e w1 ⟨rfl, d1, h1, h2, h3⟩; have K1 := hidss_ h1; have Z1 := hidss_ h2; have I1 := hidss_ (show StbI lt 20 L b d1.toList by rw [h3]; exact HE.out); clear h1 h2 h3))
      go_roundw
      case rel => exact ⟨b, c, d1, rfl, by go_num, hbz, hidss_ HCC.out.symm, K1, I1, Z1⟩
      case measure => simp [intOf]; omega
    · have tb : ¬ (b : Int) ≤ (z : Int) := by omega
      obtain ⟨P, A, e1, e2, e3, e4⟩ := stbI_end HI.out (show L.length < a + 20 by have := HLZ.out; have := HB.out; omega)
      have ci := insertion_any HW.out HLT.out HC.out HR.out HSk.out hsk.out hdz.out P A [] a z cap e1 e2.symm (by have := HLZ.out; omega)
      rw [HZk.out] at ci
      have HE := hidss_ e4
      clear e1 e2 e3 e4
      go_wp2_with (go_at_call 66; ((with_reducible refine ci.mono ?_); clear ci; rintro e w1 ⟨rfl, d1, h1, h2, h3⟩; have K1 := hidss_ h1; have Z1 := hidss_ h2; have I1 := hidss_ (show StbS lt 20 L d1.toList by rw [h3]; exact HE.out); clear h1 h2 h3))
      clear HE HI HSk HZk hsk hdz tb hbz HB haz
      go_loopw [6] (fun s wr => ∃ (bs : Nat) (dk : Array α), s = .int .i64 bs ∧ 0 < bs ∧ Hid (SWK enc 2 w0 blk off dk wr) ∧ Hid (StbS lt bs L dk.toList) ∧ Hid (dk.size = z)) (fun s _ => z - (intOf s).toNat)
      case atStart => exact ⟨20, d1, rfl, by omega, K1, I1, Z1⟩
      case round =>
        clear K1 I1 Z1
        obtain ⟨bs, d2, rfl, hbs, HS2, HI2, HZ2⟩ := hrel
        by_cases hlt2 : bs < z
        · have tl : (bs : Int) < (z : Int) := by omega
          obtain ⟨b2, hb2⟩ : ∃ x, 2 * bs = x := ⟨_, rfl⟩
          have HB2 := hidss_ hb2
          have w1x : IntKind.i64.wrap (2 * (bs : Int)) = (b2 : Int) := by rw [IntKind.wrap_i64]; omega
          have w2x : IntKind.i64.wrap ((bs : Int) * 2) = (b2 : Int) := by rw [IntKind.wrap_i64]; omega
          have HW2 := hidss_ w2x
          have HW1 := hidss_ w1x
          clear hb2 w2x
          go_wp2
          clear w1x tl
          go_loopw [7, 8] (fun i j wr => ∃ (a b : Nat) (dk : Array α), i = .int .i64 a ∧ j = .int .i64 b ∧ a ≤ z ∧ Hid (b = a + b2) ∧ Hid (SWK enc 2 w0 blk off dk wr) ∧ Hid (StbP lt bs L a dk.toList) ∧ Hid (dk.size = z)) (fun i _ _ => z - (intOf i).toNat)
          case atStart => exact ⟨0, b2, d2, rfl, rfl, Nat.zero_le _, hidss_ (by omega), HS2, hidss_ (stbP_start HI2.out), HZ2⟩
          case round =>
            clear HS2 HI2 HZ2
            obtain ⟨a, b, dk, rfl, rfl, haz, HB, HSk, HI, HZk⟩ := hrel
            have hsk := hidss_ (HZk.out.trans HZ0.out)
            have hdz := hidss_ (show dk.size < 4611686018427387904 by rw [HZk.out]; exact hz62)
            have bs2 : bs ≤ 4611686018427387904 := by omega
            obtain ⟨mm, hmm⟩ : ∃ x, a + bs = x := ⟨_, rfl⟩
            have HMM := hidss_ hmm
            have wm : IntKind.i64.wrap ((a : Int) + (bs : Int)) = (mm : Int) := by rw [IntKind.wrap_i64]; omega
            clear hmm
            by_cases hbz : b ≤ z
            · have tb : (b : Int) ≤ (z : Int) := by omega
              obtain ⟨c, hc⟩ : ∃ c, b + b2 = c := ⟨_, rfl⟩
              have w1x := HW1.out
              have wc : IntKind.i64.wrap ((b : Int) + (b2 : Int)) = (c : Int) := by have := HB.out; rw [IntKind.wrap_i64]; omega
              obtain ⟨P, A, B, S, e1, e2, e3, e4, e5, e6, e7⟩ := stbP_next HW.out HI.out (show a + 2 * bs ≤ L.length by have := HLZ.out; have := HB.out; have := HB2.out; omega)
              have cs := sym_any HW.out HLT.out HC.out HR.out (A.length + B.length) _ dk HSk.out hsk.out hdz.out P A B S a mm b cap e1 e2.symm (by have := HMM.out; omega) (by have := HMM.out; have := HB.out; have := HB2.out; omega) e5 e6 (by omega) (by omega) (Nat.le_refl _)
              rw [HZk.out] at cs
              have HE := hidss_ (show StbP lt bs L b (P ++ mrg lt A B ++ S) by rw [HB.out, ← HB2.out]; exact e7)
              have HCC := hidss_ hc
              have hab : a < b := by have := HB.out; have := HB2.out; omega
              clear e1 e2 e3 e4 e5 e6 e7 hc
              go_wp2_with (go_at_call 67; ((with_reducible refine cs.mono ?_); clear cs; rintro e w1 ⟨rfl, d1, h1, h2, h3⟩; have K1 := hidss_ h1; have Z1 := hidss_ h2; have I1 := hidss_ (show StbP lt bs L b d1.toList by rw [h3]; exact HE.out); clear h1 h2 h3))
              go_roundw
              case rel => exact ⟨b, c, d1, rfl, by go_num, hbz, hidss_ HCC.out.symm, K1, I1, Z1⟩
              case measure => simp [intOf]; omega
            · have tb : ¬ (b : Int) ≤ (z : Int) := by omega
              have w2x := HW2.out
              by_cases hmz : mm < z
              · have tm : (mm : Int) < (z : Int) := by omega
                obtain ⟨P, A, B, e1, e2, e3, e4, e5, e6, e7⟩ := stbP_tail HW.out HI.out (show L.length < a + 2 * bs by have := HLZ.out; have := HB.out; have := HB2.out; omega) (show a + bs < L.length by have := HLZ.out; have := HMM.out; omega)
                have cs := sym_any HW.out HLT.out HC.out HR.out (A.length + B.length) _ dk HSk.out hsk.out hdz.out P A B [] a mm z cap e1 e2.symm (by have := HMM.out; omega) (by have := HMM.out; have := HLZ.out; omega) e5 e6 (by omega) (by have := HMM.out; have := HLZ.out; omega) (Nat.le_refl _)
                rw [HZk.out] at cs
                have HE := hidss_ (show StbS lt b2 L (P ++ mrg lt A B ++ []) by rw [← HB2.out]; exact e7)
                clear e1 e2 e3 e4 e5 e6 e7
                go_wp2_with (go_at_call 67; ((with_reducible refine cs.mono ?_); clear cs; rintro e w1 ⟨rfl, d1, h1, h2, h3⟩; have K1 := hidss_ h1; have Z1 := hidss_ h2; have I1 := hidss_ (show StbS lt b2 L d1.toList by rw [h3]; exact HE.out); clear h1 h2 h3))
                go_roundw
                case rel => exact ⟨b2, d1, by go_num, by have := HB2.out; omega, K1, I1, Z1⟩
                case measure => have := HB2.out; simp [intOf]; omega
              · have tm : ¬ (mm : Int) < (z : Int) := by omega
                have I1 := hidss_ (show StbS lt b2 L dk.toList by rw [← HB2.out]; exact stbP_none HI.out hbs (by have := HLZ.out; have := HMM.out; omega))
                go_wp2
                go_roundw
                case rel => exact ⟨b2, dk, by go_num, by have := HB2.out; omega, HSk, I1, HZk⟩
                case measure => have := HB2.out; simp [intOf]; omega
        · have tl : ¬ (bs : Int) < (z : Int) := by omega
          have HE := hidss_ (stbS_end HI2.out hbs (by have := HLZ.out; omega))
          go_wp2
          go_end0
          exact ⟨rfl, d2, HS2.out, HZ2.out, HE.out⟩
set_option maxRecDepth 1000000 in
set_option maxHeartbeats 4000000 in
theorem sortStable_any {lt : α → α → Bool} (hw : Wk lt) {cf : α → α → Int} (hlt : ∀ x y, lt x y = decide (cf x y < 0)) (hcmp : CmpS enc w0 blk off d0.size cf) (R : RowK enc 2 w0 blk off d0) (h : SWK enc 2 w0 blk off d W) (hs : d.size = d0.size) (hsz : d.size < 4611686018427387904) (cap : Nat) :
    Calls Tryd.prog 15 #[.slice (some ⟨blk, off, none⟩) d.size cap, .func (.func 16) #[] #[]] W fun e' w' =>
      e' = .returned (.tuple #[]) ∧ ∃ d', SWK enc 2 w0 blk off d' w' ∧ d'.size = d.size ∧ d'.toList = ssort lt d.toList := by
  have cs := stable_any hw hlt hcmp R h hs hsz cap
  obtain ⟨z, hz⟩ : ∃ z, d.size = z := ⟨_, rfl⟩
  rw [hz] at cs ⊢
  clear hw hlt hcmp R h hs hsz hz
  go_enter Tryd.func15, Tryd.ntmps15
  go_wp2_with (go_at_call 50; ((with_reducible refine cs.mono ?_); clear cs; rintro e w1 ⟨rfl, d1, h1, h2, h3⟩; have K1 := hidss_ h1; have Z1 := hidss_ h2; have I1 := hidss_ h3; clear h1 h2 h3))
  go_end0
  exact ⟨rfl, d1, K1.out, Z1.out, I1.out⟩
end
/-- Of no elements. -/
theorem insertion_nil (W : World) (FV : Value) : Calls Tryd.prog 66 #[.slice none 0 0, .int .i64 0, .int .i64 0, FV] W fun e' w' => e' = .returned (.tuple #[]) ∧ w' = W := by
  go_enter Tryd.func66, Tryd.ntmps66
  go_wp2
  go_loopw [8] (fun i wr => i = .int .i64 1 ∧ wr = W) (fun _ _ => 0)
  case atStart => exact ⟨rfl, rfl⟩
  case round =>
    obtain ⟨rfl, rfl⟩ := hrel
    go_wp2
    go_end0
    exact ⟨rfl, rfl⟩
theorem sortStable_nil (W : World) (FV : Value) : Calls Tryd.prog 15 #[.slice none 0 0, FV] W fun e' w' => e' = .returned (.tuple #[]) ∧ w' = W := by
  have ci := insertion_nil W FV
  have cs : Calls Tryd.prog 50 #[.slice none 0 0, .int .i64 0, FV] W fun e' w' => e' = .returned (.tuple #[]) ∧ w' = W := by
    go_enter Tryd.func50, Tryd.ntmps50
    go_wp2
    go_loopw [7, 8] (fun i j wr => i = .int .i64 0 ∧ j = .int .i64 20 ∧ wr = W) (fun _ _ _ => 0)
    case atStart => exact ⟨rfl, rfl, rfl⟩
    case round =>
      obtain ⟨rfl, rfl, rfl⟩ := hrel
      go_wp2_with (go_at_call 66; ((with_reducible refine ci.mono ?_); clear ci; rintro e w1 ⟨rfl, rfl⟩))
      go_loopw [6] (fun i wr => i = .int .i64 20 ∧ wr = w1) (fun _ _ => 0)
      case atStart => exact ⟨rfl, rfl⟩
      case round =>
        obtain ⟨rfl, rfl⟩ := hrel
        go_wp2
        go_end0
        exact ⟨rfl, rfl⟩
  go_enter Tryd.func15, Tryd.ntmps15
  go_wp2_with (go_at_call 50; ((with_reducible refine cs.mono ?_); clear cs; rintro e w1 ⟨rfl, rfl⟩))
  go_end0
  exact ⟨rfl, rfl⟩
end Go.Proofs.YtegfnlnbhhmkjaaDoor
