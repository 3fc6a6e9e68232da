/-
  Merged: Ssf Ssg Ssh.
-/
import Derived.Test.YtegfnlnbhhmkjaaDoorSA
import Derived.Test.YtegfnlnbhhmkjaaDoorSB
namespace Go.Proofs.YtegfnlnbhhmkjaaDoor
set_option maxRecDepth 100000
open Go.Sort
set_option linter.unusedVariables false
set_option linter.unusedSectionVars false
set_option linter.unusedSimpArgs false

section
variable {α : Type} [Inhabited α] {lt : α → α → Bool}
/-- One ahead of a rising row, told by the search's bounds. -/
theorem mrg_one_b (hw : Wk lt) (x : α) {B : List α} (hB : Srt lt B) (k : Nat) (hk : k ≤ B.length) (h1 : ∀ y, 0 < k → B[k - 1]? = some y → lt y x = true) (h2 : ∀ y, B[k]? = some y → lt y x = false) : mrg lt [x] B = B.take k ++ x :: B.drop k :=
  mrg_one x B k hk (fun y hy => by
    obtain ⟨q, hq, rfl⟩ := List.mem_iff_getElem.1 hy
    rw [List.length_take] at hq
    have gq : B[q]? = some ((B.take k)[q]'(by rw [List.length_take]; omega)) := by rw [List.getElem_take, List.getElem?_eq_getElem]
    have gk : B[k - 1]? = some (B[k - 1]'(by omega)) := List.getElem?_eq_getElem (by omega)
    exact hw.of_lt (srt_get' hw hB (by omega) gq gk) (h1 _ (by omega) gk)) h2
/-- One behind a rising row. -/
theorem mrg_one_b' (hw : Wk lt) {A : List α} (hA : Srt lt A) (y : α) (k : Nat) (hk : k ≤ A.length) (h1 : ∀ x, 0 < k → A[k - 1]? = some x → lt y x = false) (h2 : ∀ x, A[k]? = some x → lt y x = true) : mrg lt A [y] = A.take k ++ y :: A.drop k :=
  mrg_one' A y k hk (fun x hx => by
    obtain ⟨q, hq, rfl⟩ := List.mem_iff_getElem.1 hx
    rw [List.length_take] at hq
    have gq : A[q]? = some ((A.take k)[q]'(by rw [List.length_take]; omega)) := by rw [List.getElem_take, List.getElem?_eq_getElem]
    have gk : A[k - 1]? = some (A[k - 1]'(by omega)) := List.getElem?_eq_getElem (by omega)
    exact hw.tran _ _ _ (srt_get' hw hA (by omega) gq gk) (h1 _ (by omega) gk)) h2
/-- Where the search of symMerge may end: from lo to hi. -/
def symLo (u v : Nat) : Nat := if (u + v) / 2 < u then (u + v) / 2 - v else 0
def symHi (u v : Nat) : Nat := if (u + v) / 2 < u then (u + v) / 2 else u
theorem sym_le {u v i : Nat} (h1 : symLo u v ≤ i) (h2 : i ≤ symHi u v) : i ≤ u ∧ i ≤ (u + v) / 2 ∧ (u + v) / 2 - i ≤ v := by
  unfold symLo at h1
  unfold symHi at h2
  split at h1 <;> split at h2 <;> omega
/-- Where it ends: each bound stands as the test behind it said. -/
theorem sym_split (hw : Wk lt) {A B : List α} (hA : Srt lt A) (hB : Srt lt B) {u v i : Nat} (hu : A.length = u) (hv : B.length = v) (hlo : symLo u v ≤ i) (hhi : i ≤ symHi u v)
    (h1 : ∀ x y, symLo u v < i → A[i - 1]? = some x → B[(u + v) / 2 - 1 - (i - 1)]? = some y → lt y x = false) (h2 : ∀ x y, i < symHi u v → A[i]? = some x → B[(u + v) / 2 - 1 - i]? = some y → lt y x = true) :
    mrg lt A B = mrg lt (A.take i) (B.take ((u + v) / 2 - i)) ++ mrg lt (A.drop i) (B.drop ((u + v) / 2 - i)) := by
  obtain ⟨e1, e2, e3⟩ := sym_le hlo hhi
  refine mrg_split hw hA hB i ((u + v) / 2 - i) (fun x y h0 hx hy => ?_) (fun x y h0 hx hy => ?_) (by omega) (by omega)
  · have hy2 := (List.getElem?_eq_some_iff.1 hy).1
    refine h1 x y ?_ hx (by rw [show (u + v) / 2 - 1 - (i - 1) = (u + v) / 2 - i by omega]; exact hy)
    unfold symLo at hlo ⊢
    split at hlo <;> split <;> omega
  · have hx2 := (List.getElem?_eq_some_iff.1 hx).1
    refine h2 x y ?_ hx (by rw [show (u + v) / 2 - 1 - i = (u + v) / 2 - i - 1 by omega]; exact hy)
    unfold symHi at hhi ⊢
    split at hhi <;> split <;> omega
/-- An element that has gone r places into a row. -/
def movL (P B S : List α) (x : α) (r : Nat) : List α := P ++ B.take r ++ x :: (B.drop r ++ S)
theorem mov_right {d : Array α} {P B S : List α} {x : α} {r i j : Nat} (h : d.toList = movL P B S x r) (hr : r < B.length) (hi : i = P.length + r) (hj : j = i + 1) : (swp d i j).toList = movL P B S x (r + 1) ∧ (swp d j i).toList = movL P B S x (r + 1) ∧ i < d.size ∧ j < d.size := by
  have eB : B.drop r = B[r] :: B.drop (r + 1) := List.drop_eq_getElem_cons hr
  have tB : B.take (r + 1) = B.take r ++ [B[r]] := by rw [List.take_succ_eq_append_getElem hr]
  unfold movL at h ⊢
  rw [eB] at h
  rw [tB]
  generalize B[r] = y at *
  have h1 : d.toList = (P ++ B.take r) ++ x :: ([] ++ y :: (B.drop (r + 1) ++ S)) := by rw [h]; simp
  have l1 : i = (P ++ B.take r).length := by rw [List.length_append, List.length_take]; omega
  have l2 : j = (P ++ B.take r).length + 1 + ([] : List α).length := by rw [← l1, List.length_nil]; omega
  have h2 : d.toList = ((P ++ B.take r) ++ [x]) ++ y :: (B.drop (r + 1) ++ S) := by rw [h1]; simp
  refine ⟨by rw [(swp_at h1 l1 l2).1]; simp, by rw [(swp_at h1 l1 l2).2]; simp, (at_list' h1 l1).2, (at_list' h2 (i := j) ?_).2⟩
  simp only [List.length_append, List.length_cons, List.length_nil] at l2 ⊢
  omega
theorem mov_left {d : Array α} {P A S : List α} {y : α} {r i j : Nat} (h : d.toList = movL P A S y (r + 1)) (hr : r < A.length) (hi : i = P.length + r) (hj : j = i + 1) : (swp d j i).toList = movL P A S y r ∧ i < d.size ∧ j < d.size := by
  have eA : A.drop r = A[r] :: A.drop (r + 1) := List.drop_eq_getElem_cons hr
  have tA : A.take (r + 1) = A.take r ++ [A[r]] := by rw [List.take_succ_eq_append_getElem hr]
  unfold movL at h ⊢
  rw [tA] at h
  rw [eA]
  generalize A[r] = x at *
  have h1 : d.toList = (P ++ A.take r) ++ x :: ([] ++ y :: (A.drop (r + 1) ++ S)) := by rw [h]; simp
  have l1 : i = (P ++ A.take r).length := by rw [List.length_append, List.length_take]; omega
  have l2 : j = (P ++ A.take r).length + 1 + ([] : List α).length := by rw [← l1, List.length_nil]; omega
  have h2 : d.toList = ((P ++ A.take r) ++ [x]) ++ y :: (A.drop (r + 1) ++ S) := by rw [h1]; simp
  refine ⟨by rw [(swp_at h1 l1 l2).2]; simp, (at_list' h1 l1).2, (at_list' h2 (i := j) ?_).2⟩
  simp only [List.length_append, List.length_cons, List.length_nil] at l2 ⊢
  omega
end
end Go.Proofs.YtegfnlnbhhmkjaaDoor

namespace Go.Proofs.YtegfnlnbhhmkjaaDoor
set_option maxRecDepth 100000
open Go.ChangeShapes Go.WideShapes Go.ChangeAt Go.RowKit Go.Sort Go.Shelf Go.Lib
set_option linter.unusedVariables false
set_option linter.unusedSectionVars false
set_option linter.unusedSimpArgs false

def ExR78_11 (blk off z cap a b j x y : Nat) (ca cb : Array Value) : Nat → Value → World → Prop
  | 0, v, _ => v = .slice (some ⟨blk, off, none⟩) z cap
  | 1, v, _ => v = .int .i64 (x : Int)
  | 2, v, _ => v = .slice (some ⟨blk, off, none⟩) z cap
  | 3, v, _ => v = .int .i64 (x : Int)
  | 4, v, _ => v = .int .i64 (y : Int)
  | 5, v, _ => v = .slice (some ⟨blk, off, none⟩) z cap
  | 6, v, _ => v = .int .i64 (x : Int)
  | 7, v, _ => v = .int .i64 (y : Int)
  | 8, v, _ => v = .pointer (some ⟨blk, off + y * 2, none⟩)
  | 9, v, _ => v = .agg cb
  | 10, v, _ => v = .slice (some ⟨blk, off, none⟩) z cap
  | 11, v, _ => v = .int .i64 (x : Int)
  | 12, v, _ => v = .pointer (some ⟨blk, off + x * 2, none⟩)
  | 13, v, _ => v = .agg ca
  | 14, v, _ => v = .pointer (some ⟨blk, off + x * 2, none⟩)
  | 16, v, _ => v = .pointer (some ⟨blk, off + y * 2, none⟩)
  | _, _, _ => True
theorem ExR78_11.any {blk off z cap a b j x y : Nat} {ca cb : Array Value} {q : Nat} {v : Value} {W W' : World} (hh : ExR78_11 blk off z cap a b j x y ca cb q v W) : ExR78_11 blk off z cap a b j x y ca cb q v W' := by
  unfold ExR78_11 at hh ⊢
  split at hh <;> first | exact hh | trivial
section
variable {α : Type} [Inhabited α] {enc : α → List Value} {w0 W : World} {blk off : Nat} {d0 d : Array α}
theorem at_mov {d : Array α} {P B S : List α} {x : α} (h : d.toList = P ++ x :: (B ++ S)) {a k : Nat} (ha : a = P.length) (hk : k < B.length) : d[a]! = x ∧ a < d.size ∧ B[k]? = some d[a + 1 + k]! ∧ a + 1 + k < d.size := by
  have h1 := at_list' h ha
  have h2 : d.toList = (P ++ x :: B.take k) ++ B[k] :: (B.drop (k + 1) ++ S) := by
    rw [h]
    conv => lhs; rw [← List.take_append_drop k B, List.drop_eq_getElem_cons hk]
    simp only [List.append_assoc, List.cons_append, List.nil_append]
  have h3 := at_list' h2 (i := a + 1 + k) (by simp only [List.length_append, List.length_cons, List.length_take]; omega)
  exact ⟨h1.1, h1.2, by rw [h3.1]; exact List.getElem?_eq_getElem hk, h3.2⟩
set_option maxRecDepth 1000000 in
set_option maxHeartbeats 8000000 in
theorem sym_one {lt : α → α → Bool} (hw : Wk lt) {cf : α → α → Int} (hlt : ∀ x y, lt x y = decide (cf x y < 0)) (hcmp : CmpS enc w0 blk off d0.size cf) (R : RowK enc 2 w0 blk off d0) (h : SWK enc 2 w0 blk off d W) (hs : d.size = d0.size) (hsz : d.size < 4611686018427387904) (P B S : List α) (e : α) (a m b cap : Nat)
    (hL : d.toList = P ++ e :: (B ++ S)) (ha : a = P.length) (hm : m = a + 1) (hb : b = m + B.length) (hB : Srt lt B) :
    Calls Tryd.prog 67 #[.slice (some ⟨blk, off, none⟩) d.size cap, .int .i64 a, .int .i64 m, .int .i64 b, .func (.func 16) #[] #[]] W fun e' w' =>
      e' = .returned (.tuple #[]) ∧ ∃ d', SWK enc 2 w0 blk off d' w' ∧ d'.size = d.size ∧ d'.toList = P ++ mrg lt [e] B ++ S := by
  have hlen : d.size = P.length + 1 + B.length + S.length := by
    have := congrArg List.length hL
    simp only [List.length_append, List.length_cons, Array.length_toList] at this
    omega
  obtain ⟨z, hz⟩ : ∃ z, d.size = z := ⟨_, rfl⟩
  have HZ0 := hidss_ (show z = d0.size by omega)
  have hbz : b ≤ z := by omega
  have hmb : m ≤ b := by omega
  have hz62 : z < 4611686018427387904 := by omega
  have HR := hidss_ R
  have HS := hidss_ h
  have HA := hidss_ ha
  have HM := hidss_ hm
  have HBB := hidss_ hb
  have HW := hidss_ hw
  have HLT := hidss_ hlt
  have HC := hidss_ hcmp
  have HL := hidss_ hL
  have HBS := hidss_ hB
  have HZ := hidss_ hz
  have w1 : IntKind.i64.wrap ((m : Int) - (a : Int)) = 1 := by rw [IntKind.wrap_i64]; omega
  rw [hz]
  clear hlen hL ha hb hm h R hs hsz hz hw hlt hcmp hB
  go_enter Tryd.func67, Tryd.ntmps67
  go_wp2
  clear w1
  go_loopw [10, 11] (fun i j wr => ∃ (ii jj : Nat), i = .int .i64 ii ∧ j = .int .i64 jj ∧ m ≤ ii ∧ ii ≤ jj ∧ jj ≤ b ∧ Hid (SWK enc 2 w0 blk off d wr) ∧ Hid (∀ y, m < ii → B[ii - m - 1]? = some y → lt y e = true) ∧ Hid (∀ y, jj < b → B[jj - m]? = some y → lt y e = false)) (fun i j _ => (intOf j).toNat - (intOf i).toNat)
  case atStart => exact ⟨m, b, rfl, rfl, Nat.le_refl _, hmb, Nat.le_refl _, HS, hidss_ (fun y h => absurd h (Nat.lt_irrefl _)), hidss_ (fun y h => absurd h (Nat.lt_irrefl _))⟩
  case round =>
    obtain ⟨ii, jj, rfl, rfl, hmi, hij, hjb, HSk, H1, H2⟩ := hrel
    by_cases hlt : ii < jj
    · have tl : (ii : Int) < (jj : Int) := by omega
      obtain ⟨hh, hhh⟩ : ∃ h, h = (ii + jj) / 2 := ⟨_, rfl⟩
      have hb1 : ii ≤ hh ∧ hh < jj := by omega
      have c1 : IntKind.u64.wrap ((ii : Int) + (jj : Int)) = (ii : Int) + (jj : Int) := by rw [IntKind.wrap_u64]; omega
      have c0 : ((ii : Int) + (jj : Int)) / 2 = (hh : Int) := by omega
      have hk : hh - m < B.length := by have := HBB.out; omega
      obtain ⟨g1, g2, g3, g4⟩ := at_mov HL.out HA.out hk
      have hsk : d.size = d0.size := HZ.out.trans HZ0.out
      rw [show a + 1 + (hh - m) = hh by have := HM.out; omega] at g3 g4
      have Cx := hidss_ (fun W (hW : SWK enc 2 w0 blk off d W) => swk_cells hW HR.out hsk hh g4)
      have Cy := hidss_ (fun W (hW : SWK enc 2 w0 blk off d W) => swk_cells hW HR.out hsk a g2)
      have Ia := hidss_ (show (Tryd.prog.info? 61).map (·.size) = some (enc d[hh]!).toArray.size by rw [infoSib, List.size_toArray, HR.out.hk])
      have Ib := hidss_ (show (Tryd.prog.info? 61).map (·.size) = some (enc d[a]!).toArray.size by rw [infoSib, List.size_toArray, HR.out.hk])
      have CC := hidss_ (fun W (hW : SWK enc 2 w0 blk off d W) => HC.out W d hW hsk d[hh]! d[a]!)
      have HQ := hidss_ (show ∀ y, B[hh - m]? = some y → lt y e = decide (cf d[hh]! d[a]! < 0) from fun y hy => by
        rw [g3] at hy
        injection hy with hy
        rw [← hy, HLT.out, g1])
      obtain ⟨cz, hcz⟩ : ∃ c, cf d[hh]! d[a]! = c := ⟨_, rfl⟩
      obtain ⟨ca, hca⟩ : ∃ c, (enc d[hh]!).toArray = c := ⟨_, rfl⟩
      obtain ⟨cb, hcb⟩ : ∃ c, (enc d[a]!).toArray = c := ⟨_, rfl⟩
      rw [hcz] at CC HQ
      rw [hca] at Cx Ia CC
      rw [hcb] at Cy Ib CC
      have ta : (hh : Int) < (z : Int) := by omega
      have tb2 : (a : Int) < (z : Int) := by have := HZ.out; omega
      clear hca hcb hcz g1 g2 g3 g4 hsk hk hhh
      by_cases hc : cz < 0
      · have tc : decide (cz < 0) = true := decide_eq_true hc
        have HTR := hidss_ tc
        go_upto_region 5 with fail
        refine region_quiet_in (C := fun W => SWK enc 2 w0 blk off d W) (by kernel_rfl) (by kernel_rfl) HSk.out.drew ?_
        repeat (first | go_big_quiet_skip | (go_big_quiet_want; (first
          | (refine BigFrame.quiet_move _ rfl ?_; go_simp)
          | (refine quiet_run (.pointer (some ⟨blk, off + hh * 2, none⟩)) ?_ ?_; (focus (intro W hW; go_simp; done)); go_simp)
          | (refine quiet_run (.pointer (some ⟨blk, off + a * 2, none⟩)) ?_ ?_; (focus (intro W hW; go_simp; done)); go_simp)
          | (refine quiet_load_subS 61 (.tmp 43) rfl blk (off + hh * 2) rfl ca _ Tryd.underlying61 rfl Ia.out Cx.out ?_; go_simp)
          | (refine quiet_load_subS 61 (.tmp 47) rfl blk (off + a * 2) rfl cb _ Tryd.underlying61 rfl Ib.out Cy.out ?_; go_simp)
          | (refine quiet_call (.int .i64 cz) 16 #[.agg ca, .agg cb] ?_ CC.out ?_; (focus (intro W; go_simp; done)); go_simp)
          | (refine quiet_run (.bool true) ?_ ?_; (focus (intro W hW; go_simp; done)); go_simp)
          | (refine quiet_run (.bool false) ?_ ?_; (focus (intro W hW; go_simp; done)); go_simp)); go_big_quiet_on))
        refine wpQuiet_nil ?_
        intro w4 hw4
        have HS4 := hidss_ hw4
        clear hw4
        go_wp2
        go_roundw
        case rel => exact ⟨hh + 1, jj, by go_num, rfl, by omega, by omega, hjb, HS4, hidss_ (fun y _ hy => by rw [show hh + 1 - m - 1 = hh - m by omega] at hy; rw [HQ.out y hy]; exact HTR.out), H2⟩
        case measure => simp [intOf]; omega
      · have tc : decide (cz < 0) = false := decide_eq_false hc
        have HTR := hidss_ tc
        go_upto_region 5 with fail
        refine region_quiet_in (C := fun W => SWK enc 2 w0 blk off d W) (by kernel_rfl) (by kernel_rfl) HSk.out.drew ?_
        repeat (first | go_big_quiet_skip | (go_big_quiet_want; (first
          | (refine BigFrame.quiet_move _ rfl ?_; go_simp)
          | (refine quiet_run (.pointer (some ⟨blk, off + hh * 2, none⟩)) ?_ ?_; (focus (intro W hW; go_simp; done)); go_simp)
          | (refine quiet_run (.pointer (some ⟨blk, off + a * 2, none⟩)) ?_ ?_; (focus (intro W hW; go_simp; done)); go_simp)
          | (refine quiet_load_subS 61 (.tmp 43) rfl blk (off + hh * 2) rfl ca _ Tryd.underlying61 rfl Ia.out Cx.out ?_; go_simp)
          | (refine quiet_load_subS 61 (.tmp 47) rfl blk (off + a * 2) rfl cb _ Tryd.underlying61 rfl Ib.out Cy.out ?_; go_simp)
          | (refine quiet_call (.int .i64 cz) 16 #[.agg ca, .agg cb] ?_ CC.out ?_; (focus (intro W; go_simp; done)); go_simp)
          | (refine quiet_run (.bool true) ?_ ?_; (focus (intro W hW; go_simp; done)); go_simp)
          | (refine quiet_run (.bool false) ?_ ?_; (focus (intro W hW; go_simp; done)); go_simp)); go_big_quiet_on))
        refine wpQuiet_nil ?_
        intro w4 hw4
        have HS4 := hidss_ hw4
        clear hw4
        go_wp2
        go_roundw
        case rel => exact ⟨ii, hh, rfl, rfl, hmi, by omega, by omega, HS4, H1, hidss_ (fun y _ hy => by rw [HQ.out y hy]; exact HTR.out)⟩
        case measure => simp [intOf]; omega
    · have tl : ¬ (ii : Int) < (jj : Int) := by omega
      obtain rfl : ii = jj := by omega
      obtain ⟨k0, hk0⟩ : ∃ k, ii = m + k := ⟨ii - m, by omega⟩
      have HK := hidss_ (show k0 ≤ B.length by have := HBB.out; omega)
      have HMG := hidss_ (mrg_one_b HW.out e HBS.out k0 HK.out (fun y h0 hy => H1.out y (by omega) (by rw [show ii - m - 1 = k0 - 1 by omega]; exact hy)) (fun y hy => H2.out y (by have := (List.getElem?_eq_some_iff.1 hy).1; have := HBB.out; omega) (by rw [show ii - m = k0 by omega]; exact hy)))
      obtain ⟨q, hq⟩ : ∃ q, a + k0 = q := ⟨_, rfl⟩
      have wq : IntKind.i64.wrap ((ii : Int) - 1) = (q : Int) := by have := HM.out; rw [IntKind.wrap_i64]; omega
      have HQ := hidss_ hq
      have hqz : q < z := by have := HM.out; omega
      have HM0 := hidss_ (show d.toList = movL P B S e 0 by rw [HL.out]; unfold movL; simp)
      clear H1 H2 hk0 hq hmi hij
      go_wp2
      go_loopw [13] (fun k wr => ∃ (x r : Nat) (dk : Array α), k = .int .i64 x ∧ x ≤ q ∧ Hid (x = a + r) ∧ Hid (SWK enc 2 w0 blk off dk wr) ∧ Hid (dk.toList = movL P B S e r) ∧ Hid (dk.size = z)) (fun k _ => q - (intOf k).toNat)
      case atStart => exact ⟨a, 0, d, rfl, by have := HQ.out; omega, hidss_ rfl, HSk, HM0, HZ⟩
      case round =>
        clear HSk HS HM0
        obtain ⟨x, r, dk, rfl, hxq, HX, HSk, HLk, HZk⟩ := hrel
        by_cases hlt2 : x < q
        · have tx : (x : Int) < (q : Int) := by omega
          obtain ⟨y, hy⟩ : ∃ y, x + 1 = y := ⟨_, rfl⟩
          obtain ⟨m1, m2, h1, h2⟩ := mov_right (i := x) (j := y) HLk.out (by have := HX.out; have := HQ.out; have := HK.out; omega) (by rw [HX.out, HA.out]) hy.symm
          have HLN := hidss_ m1
          have HY := hidss_ (show y = a + (r + 1) by have := HX.out; omega)
          have HSZ := hidss_ (show (swp dk x y).size = z by rw [size_swp]; exact HZk.out)
          have hsk : dk.size = d0.size := HZk.out.trans HZ0.out
          have Cx := hidss_ (fun W (hW : SWK enc 2 w0 blk off dk W) => swk_cells hW HR.out hsk x h1)
          have Cy := hidss_ (fun W (hW : SWK enc 2 w0 blk off dk W) => swk_cells hW HR.out hsk y h2)
          have St1 := hidss_ (fun W hW => swk_st1 HR.out hsk x h1 dk[y]! W hW)
          have St2 := hidss_ (fun W hW => swk_st2 HR.out hsk x y h1 h2 dk[x]! dk[y]! W hW)
          have Sw := hidss_ (fun W (hW : SWK enc 2 w0 blk off dk W) => hW.swap HR.out.hk HR.out.hblk x y h1 h2)
          have Ia := hidss_ (show (Tryd.prog.info? 61).map (·.size) = some (enc dk[x]!).toArray.size by rw [infoSib, List.size_toArray, HR.out.hk])
          have Ib := hidss_ (show (Tryd.prog.info? 61).map (·.size) = some (enc dk[y]!).toArray.size by rw [infoSib, List.size_toArray, HR.out.hk])
          obtain ⟨ca, hca⟩ : ∃ c, (enc dk[x]!).toArray = c := ⟨_, rfl⟩
          obtain ⟨cb, hcb⟩ : ∃ c, (enc dk[y]!).toArray = c := ⟨_, rfl⟩
          rw [hca] at Cx St2 Ia
          rw [hcb] at Cy St1 Ib
          rw [HZk.out] at h1 h2
          have wy : IntKind.i64.wrap ((x : Int) + 1) = (y : Int) := by rw [IntKind.wrap_i64]; omega
          have ta : (x : Int) < (z : Int) := by omega
          have tb : (y : Int) < (z : Int) := by omega
          have hyq : y ≤ q := by omega
          have HXY := hidss_ (show x < y by omega)
          clear hsk hy hca hcb m1 m2
          go_upto_region 11 with fail
          rename_i K9 hK9
          refine region_byJF [61, 62, 63, 64, 65, 66, 67, 68, 69, 70, 71, 72, 73, 74, 75, 76] (fun _ => True) (fun _ _ => True) (ExR78_11 blk off z cap a b 0 x y ca cb) (fun D _ W => ExJ enc w0 blk off dk x y 9 13 15 17 D W) (by kernel_rfl) (by kernel_rfl) (by kernel_rfl) (by kernel_rfl) (fun j v w w' hT hr => hr.any) (fun j v w hlt hj _ => ?_) trivial ?_ ?_ ?_
          · rcases j with _ | _ | _ | _ | _ | _ | _ | _ | _ | _ | _ | _ | _ | _ | _ | _ | _ | _ | j
            all_goals first
              | (exfalso; simp [dstOf] at hj; done)
              | trivial
          · refine ⟨fun D a9 W hC hd hsz hf hv hJ hL hW K9 hK => ?_, fun D a9 W hC hd hsz hf hv hJ hL hW K9 hK => ?_, fun D a9 W hC hd hsz hf hv hJ hL hW K9 hK => ?_, fun D a9 W hC hd hsz hf hv hJ hL hW K9 hK => ?_, fun D a9 W hC hd hsz hf hv hJ hL hW K9 hK => ?_, fun D a9 W hC hd hsz hf hv hJ hL hW K9 hK => ?_, fun D a9 W hC hd hsz hf hv hJ hL hW K9 hK => ?_, fun D a9 W hC hd hsz hf hv hJ hL hW K9 hK => ?_, fun D a9 W hC hd hsz hf hv hJ hL hW K9 hK => ?_, fun D a9 W hC hd hsz hf hv hJ hL hW K9 hK => ?_, fun D a9 W hC hd hsz hf hv hJ hL hW K9 hK => ?_, fun D a9 W hC hd hsz hf hv hJ hL hW K9 hK => ?_, fun D a9 W hC hd hsz hf hv hJ hL hW K9 hK => ?_, fun D a9 W hC hd hsz hf hv hJ hL hW K9 hK => ?_, fun D a9 W hC hd hsz hf hv hJ hL hW K9 hK => ?_, fun D a9 W hC hd hsz hf hv hJ hL hW K9 hK => ?_, fun D a9 W hC hd hsz hf hv hJ hL hW K9 hK => ?_, fun D a9 W hC hd hsz hf hv hJ hL hW K9 hK => ?_, trivial⟩
            · clear hsz
              have e1 := slot_of (a := a9) (s := 0) (v := .slice (some ⟨blk, off, none⟩) z cap) (hf 0 (by kernel_rfl))
              refine step_run (wanted_none rfl) (v := .slice (some ⟨blk, off, none⟩) z cap) (w' := W) ?_ (hK _ _ trivial trivial rfl (hJ.same 0 (by decide) (by decide)))
              go_simp
            · clear hsz
              have e1 := slot_of (a := a9) (s := 13) (v := .int .i64 (x : Int)) (hf 13 (by kernel_rfl))
              refine step_run (wanted_none rfl) (v := .int .i64 (x : Int)) (w' := W) ?_ (hK _ _ trivial trivial rfl (hJ.same 1 (by decide) (by decide)))
              go_simp
            · clear hsz
              have e1 := slot_of (a := a9) (s := 0) (v := .slice (some ⟨blk, off, none⟩) z cap) (hf 0 (by kernel_rfl))
              refine step_run (wanted_none rfl) (v := .slice (some ⟨blk, off, none⟩) z cap) (w' := W) ?_ (hK _ _ trivial trivial rfl (hJ.same 2 (by decide) (by decide)))
              go_simp
            · clear hsz
              have e1 := slot_of (a := a9) (s := 13) (v := .int .i64 (x : Int)) (hf 13 (by kernel_rfl))
              refine step_run (wanted_none rfl) (v := .int .i64 (x : Int)) (w' := W) ?_ (hK _ _ trivial trivial rfl (hJ.same 3 (by decide) (by decide)))
              go_simp
            · clear hsz
              have e1 := slot_of (a := a9) (s := 64) (v := .int .i64 (x : Int)) (hv 3 (by kernel_rfl))
              refine step_run (wanted_none rfl) (v := .int .i64 (y : Int)) (w' := W) ?_ (hK _ _ trivial trivial rfl (hJ.same 4 (by decide) (by decide)))
              go_simp
            · clear hsz
              have e1 := slot_of (a := a9) (s := 0) (v := .slice (some ⟨blk, off, none⟩) z cap) (hf 0 (by kernel_rfl))
              refine step_run (wanted_none rfl) (v := .slice (some ⟨blk, off, none⟩) z cap) (w' := W) ?_ (hK _ _ trivial trivial rfl (hJ.same 5 (by decide) (by decide)))
              go_simp
            · clear hsz
              have e1 := slot_of (a := a9) (s := 13) (v := .int .i64 (x : Int)) (hf 13 (by kernel_rfl))
              refine step_run (wanted_none rfl) (v := .int .i64 (x : Int)) (w' := W) ?_ (hK _ _ trivial trivial rfl (hJ.same 6 (by decide) (by decide)))
              go_simp
            · clear hsz
              have e1 := slot_of (a := a9) (s := 67) (v := .int .i64 (x : Int)) (hv 6 (by kernel_rfl))
              refine step_run (wanted_none rfl) (v := .int .i64 (y : Int)) (w' := W) ?_ (hK _ _ trivial trivial rfl (hJ.same 7 (by decide) (by decide)))
              go_simp
            · clear hsz
              have e1 := slot_of (a := a9) (s := 66) (v := .slice (some ⟨blk, off, none⟩) z cap) (hv 5 (by kernel_rfl))
              have e2 := slot_of (a := a9) (s := 68) (v := .int .i64 (y : Int)) (hv 7 (by kernel_rfl))
              refine step_run (wanted_none rfl) (v := .pointer (some ⟨blk, off + y * 2, none⟩)) (w' := W) ?_ (hK _ _ trivial trivial rfl (hJ.same 8 (by decide) (by decide)))
              go_simp
            · obtain hS := hJ.early (.inl rfl) hL
              refine step_load_sub (wanted_none rfl) 61 (.tmp 69) rfl blk (off + y * 2) (eval_of (hv 8 (by kernel_rfl))) cb (Cy.out W hS) _ Tryd.underlying61 rfl Ib.out (hK _ _ trivial trivial rfl (hJ.same 9 (by decide) (by decide)))
            · clear hsz
              have e1 := slot_of (a := a9) (s := 0) (v := .slice (some ⟨blk, off, none⟩) z cap) (hf 0 (by kernel_rfl))
              refine step_run (wanted_none rfl) (v := .slice (some ⟨blk, off, none⟩) z cap) (w' := W) ?_ (hK _ _ trivial trivial rfl (hJ.same 10 (by decide) (by decide)))
              go_simp
            · clear hsz
              have e1 := slot_of (a := a9) (s := 13) (v := .int .i64 (x : Int)) (hf 13 (by kernel_rfl))
              refine step_run (wanted_none rfl) (v := .int .i64 (x : Int)) (w' := W) ?_ (hK _ _ trivial trivial rfl (hJ.same 11 (by decide) (by decide)))
              go_simp
            · clear hsz
              have e1 := slot_of (a := a9) (s := 71) (v := .slice (some ⟨blk, off, none⟩) z cap) (hv 10 (by kernel_rfl))
              have e2 := slot_of (a := a9) (s := 72) (v := .int .i64 (x : Int)) (hv 11 (by kernel_rfl))
              refine step_run (wanted_none rfl) (v := .pointer (some ⟨blk, off + x * 2, none⟩)) (w' := W) ?_ (hK _ _ trivial trivial rfl (hJ.same 12 (by decide) (by decide)))
              go_simp
            · obtain hS := hJ.early (.inr rfl) hL
              refine step_load_sub (wanted_none rfl) 61 (.tmp 73) rfl blk (off + x * 2) (eval_of (hv 12 (by kernel_rfl))) ca (Cx.out W hS) _ Tryd.underlying61 rfl Ia.out (hK _ _ trivial trivial rfl (hJ.same 13 (by decide) (by decide)))
            · clear hsz
              have e1 := slot_of (a := a9) (s := 61) (v := .slice (some ⟨blk, off, none⟩) z cap) (hv 0 (by kernel_rfl))
              have e2 := slot_of (a := a9) (s := 62) (v := .int .i64 (x : Int)) (hv 1 (by kernel_rfl))
              refine step_run (wanted_none rfl) (v := .pointer (some ⟨blk, off + x * 2, none⟩)) (w' := W) ?_ (hK _ _ trivial trivial rfl (hJ.same 14 (by decide) (by decide)))
              go_simp
            · obtain hS := hJ.at1 hL (hW 9 (by kernel_rfl)) (hW 13 (by kernel_rfl))
              refine step_store_cells (wanted_none rfl) 61 (.tmp 75) (.tmp 70) rfl blk (off + x * 2) (eval_of (hv 14 (by kernel_rfl))) cb (eval_of (hv 9 (by kernel_rfl))) Ib.out _ (St1.out W hS) (hK _ _ trivial trivial trivial (ExJ.one hS (hW 9 (by kernel_rfl)) (hW 13 (by kernel_rfl)) (by decide) (hJ.no2 hL)))
            · clear hsz
              have e1 := slot_of (a := a9) (s := 63) (v := .slice (some ⟨blk, off, none⟩) z cap) (hv 2 (by kernel_rfl))
              have e2 := slot_of (a := a9) (s := 65) (v := .int .i64 (y : Int)) (hv 4 (by kernel_rfl))
              refine step_run (wanted_none rfl) (v := .pointer (some ⟨blk, off + y * 2, none⟩)) (w' := W) ?_ (hK _ _ trivial trivial rfl (hJ.same 16 (by decide) (by decide)))
              go_simp
            · obtain ⟨W1, hS, rfl⟩ := hJ.at2 hL (hW 15 (by kernel_rfl))
              refine step_store_cells (wanted_none rfl) 61 (.tmp 76) (.tmp 74) rfl blk (off + y * 2) (eval_of (hv 16 (by kernel_rfl))) ca (eval_of (hv 13 (by kernel_rfl))) Ia.out _ (St2.out W1 hS) (hK _ _ trivial trivial trivial (hJ.two (Sw.out W1 hS) (hW 15 (by kernel_rfl)) (by decide)))
          · exact .inl ⟨rfl, rfl, HSk.out.drew⟩
          · intro f wa hCa hva Da hDa hJa
            obtain ⟨aa, hJe, _⟩ := hJa
            have KJ := hidss_ (hJe.end_ (hDa 17 (by decide)))
            simp only [framed, List.foldl_cons, List.foldl_nil, List.setIfInBounds_toArray, List.set_cons_succ, List.set_cons_zero]
            clear hva hDa hJe hCa
            refine hK9 _ _ ?_
            go_wp2
            go_roundw
            case rel => exact ⟨y, r + 1, _, by go_num, hyq, HY, KJ, HLN, HSZ⟩
            case measure => have := HXY.out; simp [intOf]; omega
        · have tx : ¬ (x : Int) < (q : Int) := by omega
          have HE := hidss_ (show dk.toList = P ++ mrg lt [e] B ++ S by
            rw [HLk.out, HMG.out, show r = k0 by have := HX.out; have := HQ.out; omega]
            unfold movL
            simp)
          go_wp2
          (try simp only [Exit.inBlock, Exit.then])
          refine bodyPost_ret (results_none rfl _ _ _) rfl ?_
          exact ⟨rfl, dk, HSk.out, HZk.out, by rw [HE.out]; simp⟩
end
end Go.Proofs.YtegfnlnbhhmkjaaDoor

namespace Go.Proofs.YtegfnlnbhhmkjaaDoor
set_option maxRecDepth 100000
open Go.ChangeShapes Go.WideShapes Go.ChangeAt Go.RowKit Go.Sort Go.Shelf Go.Lib
set_option linter.unusedVariables false
set_option linter.unusedSectionVars false
set_option linter.unusedSimpArgs false

def ExR78_23 (blk off z cap a b j x y : Nat) (ca cb : Array Value) : Nat → Value → World → Prop
  | 0, v, _ => v = .slice (some ⟨blk, off, none⟩) z cap
  | 1, v, _ => v = .int .i64 (x : Int)
  | 2, v, _ => v = .slice (some ⟨blk, off, none⟩) z cap
  | 3, v, _ => v = .int .i64 (x : Int)
  | 4, v, _ => v = .int .i64 (y : Int)
  | 5, v, _ => v = .slice (some ⟨blk, off, none⟩) z cap
  | 6, v, _ => v = .int .i64 (x : Int)
  | 7, v, _ => v = .int .i64 (y : Int)
  | 8, v, _ => v = .pointer (some ⟨blk, off + y * 2, none⟩)
  | 9, v, _ => v = .agg cb
  | 10, v, _ => v = .slice (some ⟨blk, off, none⟩) z cap
  | 11, v, _ => v = .int .i64 (x : Int)
  | 12, v, _ => v = .pointer (some ⟨blk, off + x * 2, none⟩)
  | 13, v, _ => v = .agg ca
  | 14, v, _ => v = .pointer (some ⟨blk, off + x * 2, none⟩)
  | 16, v, _ => v = .pointer (some ⟨blk, off + y * 2, none⟩)
  | _, _, _ => True
theorem ExR78_23.any {blk off z cap a b j x y : Nat} {ca cb : Array Value} {q : Nat} {v : Value} {W W' : World} (hh : ExR78_23 blk off z cap a b j x y ca cb q v W) : ExR78_23 blk off z cap a b j x y ca cb q v W' := by
  unfold ExR78_23 at hh ⊢
  split at hh <;> first | exact hh | trivial
section
variable {α : Type} [Inhabited α] {enc : α → List Value} {w0 W : World} {blk off : Nat} {d0 d : Array α}
theorem at_mov' {d : Array α} {P A S : List α} {e : α} (h : d.toList = P ++ A ++ e :: S) {a m k : Nat} (ha : a = P.length) (hm : m = a + A.length) (hk : k < A.length) : d[m]! = e ∧ m < d.size ∧ A[k]? = some d[a + k]! ∧ a + k < d.size := by
  have h1 := at_list' h (i := m) (by rw [List.length_append]; omega)
  have h2 : d.toList = (P ++ A.take k) ++ A[k] :: (A.drop (k + 1) ++ e :: S) := by
    rw [h]
    conv => lhs; rw [← List.take_append_drop k A, List.drop_eq_getElem_cons hk]
    simp only [List.append_assoc, List.cons_append, List.nil_append]
  have h3 := at_list' h2 (i := a + k) (by simp only [List.length_append, List.length_take]; omega)
  exact ⟨h1.1, h1.2, by rw [h3.1]; exact List.getElem?_eq_getElem hk, h3.2⟩
set_option maxRecDepth 1000000 in
set_option maxHeartbeats 8000000 in
theorem sym_one' {lt : α → α → Bool} (hw : Wk lt) {cf : α → α → Int} (hlt : ∀ x y, lt x y = decide (cf x y < 0)) (hcmp : CmpS enc w0 blk off d0.size cf) (R : RowK enc 2 w0 blk off d0) (h : SWK enc 2 w0 blk off d W) (hs : d.size = d0.size) (hsz : d.size < 4611686018427387904) (P B S : List α) (e : α) (a m b cap : Nat)
    (hL : d.toList = P ++ B ++ e :: S) (ha : a = P.length) (hm : m = a + B.length) (hb : b = m + 1) (hB2 : 1 < B.length) (hB : Srt lt B) :
    Calls Tryd.prog 67 #[.slice (some ⟨blk, off, none⟩) d.size cap, .int .i64 a, .int .i64 m, .int .i64 b, .func (.func 16) #[] #[]] W fun e' w' =>
      e' = .returned (.tuple #[]) ∧ ∃ d', SWK enc 2 w0 blk off d' w' ∧ d'.size = d.size ∧ d'.toList = P ++ mrg lt B [e] ++ S := by
  have hlen : d.size = P.length + B.length + 1 + S.length := by
    have := congrArg List.length hL
    simp only [List.length_append, List.length_cons, Array.length_toList] at this
    omega
  obtain ⟨z, hz⟩ : ∃ z, d.size = z := ⟨_, rfl⟩
  have HZ0 := hidss_ (show z = d0.size by omega)
  have hbz : b ≤ z := by omega
  have hmb : m ≤ b := by omega
  have hz62 : z < 4611686018427387904 := by omega
  have HR := hidss_ R
  have HS := hidss_ h
  have HA := hidss_ ha
  have HM := hidss_ hm
  have HBB := hidss_ hb
  have HW := hidss_ hw
  have HLT := hidss_ hlt
  have HC := hidss_ hcmp
  have HL := hidss_ hL
  have HBS := hidss_ hB
  have HZ := hidss_ hz
  have ham : a < m := by omega
  obtain ⟨u, hu⟩ : ∃ u, m - a = u := ⟨_, rfl⟩
  have w1 : IntKind.i64.wrap ((m : Int) - (a : Int)) = (u : Int) := by rw [IntKind.wrap_i64]; omega
  have w2 : ((u : Int) == 1) = false := beq_false_of_ne (by omega)
  have w3 : IntKind.i64.wrap ((b : Int) - (m : Int)) = 1 := by rw [IntKind.wrap_i64]; omega
  rw [hz]
  clear hlen hL ha hb hm h R hs hsz hz hw hlt hcmp hB hu hB2
  go_enter Tryd.func67, Tryd.ntmps67
  go_wp2
  clear w1 w2 w3
  go_loopw [14, 15] (fun i j wr => ∃ (ii jj : Nat), i = .int .i64 ii ∧ j = .int .i64 jj ∧ a ≤ ii ∧ ii ≤ jj ∧ jj ≤ m ∧ Hid (SWK enc 2 w0 blk off d wr) ∧ Hid (∀ y, a < ii → B[ii - a - 1]? = some y → lt e y = false) ∧ Hid (∀ y, jj < m → B[jj - a]? = some y → lt e y = true)) (fun i j _ => (intOf j).toNat - (intOf i).toNat)
  case atStart => exact ⟨a, m, rfl, rfl, Nat.le_refl _, by omega, Nat.le_refl _, HS, hidss_ (fun y h => absurd h (Nat.lt_irrefl _)), hidss_ (fun y h => absurd h (Nat.lt_irrefl _))⟩
  case round =>
    obtain ⟨ii, jj, rfl, rfl, hmi, hij, hjb, HSk, H1, H2⟩ := hrel
    by_cases hlt : ii < jj
    · have tl : (ii : Int) < (jj : Int) := by omega
      obtain ⟨hh, hhh⟩ : ∃ h, h = (ii + jj) / 2 := ⟨_, rfl⟩
      have hb1 : ii ≤ hh ∧ hh < jj := by omega
      have c1 : IntKind.u64.wrap ((ii : Int) + (jj : Int)) = (ii : Int) + (jj : Int) := by rw [IntKind.wrap_u64]; omega
      have c0 : ((ii : Int) + (jj : Int)) / 2 = (hh : Int) := by omega
      have hk : hh - a < B.length := by have := HM.out; omega
      obtain ⟨g1, g2, g3, g4⟩ := at_mov' HL.out HA.out HM.out hk
      have hsk : d.size = d0.size := HZ.out.trans HZ0.out
      rw [show a + (hh - a) = hh by omega] at g3 g4
      have Cx := hidss_ (fun W (hW : SWK enc 2 w0 blk off d W) => swk_cells hW HR.out hsk hh g4)
      have Cy := hidss_ (fun W (hW : SWK enc 2 w0 blk off d W) => swk_cells hW HR.out hsk m g2)
      have Ia := hidss_ (show (Tryd.prog.info? 61).map (·.size) = some (enc d[hh]!).toArray.size by rw [infoSib, List.size_toArray, HR.out.hk])
      have Ib := hidss_ (show (Tryd.prog.info? 61).map (·.size) = some (enc d[m]!).toArray.size by rw [infoSib, List.size_toArray, HR.out.hk])
      have CC := hidss_ (fun W (hW : SWK enc 2 w0 blk off d W) => HC.out W d hW hsk d[m]! d[hh]!)
      have HQ := hidss_ (show ∀ y, B[hh - a]? = some y → lt e y = decide (cf d[m]! d[hh]! < 0) from fun y hy => by
        rw [g3] at hy
        injection hy with hy
        rw [← hy, HLT.out, g1])
      obtain ⟨cz, hcz⟩ : ∃ c, cf d[m]! d[hh]! = c := ⟨_, rfl⟩
      obtain ⟨ca, hca⟩ : ∃ c, (enc d[hh]!).toArray = c := ⟨_, rfl⟩
      obtain ⟨cb, hcb⟩ : ∃ c, (enc d[m]!).toArray = c := ⟨_, rfl⟩
      rw [hcz] at CC HQ
      rw [hca] at Cx Ia CC
      rw [hcb] at Cy Ib CC
      have ta : (hh : Int) < (z : Int) := by omega
      have tb2 : (m : Int) < (z : Int) := by have := HZ.out; omega
      clear hca hcb hcz g1 g2 g3 g4 hsk hk hhh
      by_cases hc : cz < 0
      · have tc : decide (cz < 0) = true := decide_eq_true hc
        have HTR := hidss_ tc
        go_upto_region 17 with fail
        refine region_quiet_in (C := fun W => SWK enc 2 w0 blk off d W) (by kernel_rfl) (by kernel_rfl) HSk.out.drew ?_
        repeat (first | go_big_quiet_skip | (go_big_quiet_want; (first
          | (refine BigFrame.quiet_move _ rfl ?_; go_simp)
          | (refine quiet_run (.pointer (some ⟨blk, off + hh * 2, none⟩)) ?_ ?_; (focus (intro W hW; go_simp; done)); go_simp)
          | (refine quiet_run (.pointer (some ⟨blk, off + m * 2, none⟩)) ?_ ?_; (focus (intro W hW; go_simp; done)); go_simp)
          | (refine quiet_load_subS 61 (.tmp 99) rfl blk (off + hh * 2) rfl ca _ Tryd.underlying61 rfl Ia.out Cx.out ?_; go_simp)
          | (refine quiet_load_subS 61 (.tmp 95) rfl blk (off + m * 2) rfl cb _ Tryd.underlying61 rfl Ib.out Cy.out ?_; go_simp)
          | (refine quiet_call (.int .i64 cz) 16 #[.agg cb, .agg ca] ?_ CC.out ?_; (focus (intro W; go_simp; done)); go_simp)
          | (refine quiet_run (.bool true) ?_ ?_; (focus (intro W hW; go_simp; done)); go_simp)
          | (refine quiet_run (.bool false) ?_ ?_; (focus (intro W hW; go_simp; done)); go_simp)); go_big_quiet_on))
        refine wpQuiet_nil ?_
        intro w4 hw4
        have HS4 := hidss_ hw4
        clear hw4
        go_wp2
        go_roundw
        case rel => exact ⟨ii, hh, rfl, rfl, hmi, by omega, by omega, HS4, H1, hidss_ (fun y _ hy => by rw [HQ.out y hy]; exact HTR.out)⟩
        case measure => simp [intOf]; omega
      · have tc : decide (cz < 0) = false := decide_eq_false hc
        have HTR := hidss_ tc
        go_upto_region 17 with fail
        refine region_quiet_in (C := fun W => SWK enc 2 w0 blk off d W) (by kernel_rfl) (by kernel_rfl) HSk.out.drew ?_
        repeat (first | go_big_quiet_skip | (go_big_quiet_want; (first
          | (refine BigFrame.quiet_move _ rfl ?_; go_simp)
          | (refine quiet_run (.pointer (some ⟨blk, off + hh * 2, none⟩)) ?_ ?_; (focus (intro W hW; go_simp; done)); go_simp)
          | (refine quiet_run (.pointer (some ⟨blk, off + m * 2, none⟩)) ?_ ?_; (focus (intro W hW; go_simp; done)); go_simp)
          | (refine quiet_load_subS 61 (.tmp 99) rfl blk (off + hh * 2) rfl ca _ Tryd.underlying61 rfl Ia.out Cx.out ?_; go_simp)
          | (refine quiet_load_subS 61 (.tmp 95) rfl blk (off + m * 2) rfl cb _ Tryd.underlying61 rfl Ib.out Cy.out ?_; go_simp)
          | (refine quiet_call (.int .i64 cz) 16 #[.agg cb, .agg ca] ?_ CC.out ?_; (focus (intro W; go_simp; done)); go_simp)
          | (refine quiet_run (.bool true) ?_ ?_; (focus (intro W hW; go_simp; done)); go_simp)
          | (refine quiet_run (.bool false) ?_ ?_; (focus (intro W hW; go_simp; done)); go_simp)); go_big_quiet_on))
        refine wpQuiet_nil ?_
        intro w4 hw4
        have HS4 := hidss_ hw4
        clear hw4
        go_wp2
        go_roundw
        case rel => exact ⟨hh + 1, jj, by go_num, rfl, by omega, by omega, hjb, HS4, hidss_ (fun y _ hy => by rw [show hh + 1 - a - 1 = hh - a by omega] at hy; rw [HQ.out y hy]; exact HTR.out), H2⟩
        case measure => simp [intOf]; omega
    · have tl : ¬ (ii : Int) < (jj : Int) := by omega
      obtain rfl : ii = jj := by omega
      obtain ⟨k0, hk0⟩ : ∃ k, ii = a + k := ⟨ii - a, by omega⟩
      have HK := hidss_ (show k0 ≤ B.length by have := HM.out; omega)
      have HMG := hidss_ (mrg_one_b' HW.out HBS.out e k0 HK.out (fun y h0 hy => H1.out y (by omega) (by rw [show ii - a - 1 = k0 - 1 by omega]; exact hy)) (fun y hy => H2.out y (by have := (List.getElem?_eq_some_iff.1 hy).1; have := HM.out; omega) (by rw [show ii - a = k0 by omega]; exact hy)))
      have HQ := hidss_ hk0
      have hqz : ii ≤ m := by omega
      have HM0 := hidss_ (show d.toList = movL P B S e B.length by rw [HL.out]; unfold movL; simp)
      clear H1 H2 hk0 hij
      go_wp2
      go_loopw [17] (fun k wr => ∃ (x r : Nat) (dk : Array α), k = .int .i64 x ∧ ii ≤ x ∧ Hid (x ≤ m) ∧ Hid (x = a + r) ∧ Hid (SWK enc 2 w0 blk off dk wr) ∧ Hid (dk.toList = movL P B S e r) ∧ Hid (dk.size = z)) (fun k _ => (intOf k).toNat)
      case atStart => exact ⟨m, B.length, d, rfl, hqz, hidss_ (Nat.le_refl _), HM, HSk, HM0, HZ⟩
      case round =>
        clear HSk HS HM0
        obtain ⟨x, r, dk, rfl, hxq, HXM, HX, HSk, HLk, HZk⟩ := hrel
        by_cases hlt2 : ii < x
        · have tx : (ii : Int) < (x : Int) := by omega
          obtain ⟨y, hy⟩ : ∃ y, y + 1 = x := ⟨x - 1, by omega⟩
          obtain ⟨r, rfl⟩ : ∃ q, r = q + 1 := ⟨r - 1, by have := HX.out; have := HQ.out; omega⟩
          have hrl : r < B.length := by
            have h9 := congrArg List.length HLk.out
            unfold movL at h9
            have h8 := HZk.out
            by_cases h7 : r < B.length
            · exact h7
            · exfalso
              have := HX.out
              have := HM.out
              have := HXM.out
              omega
          obtain ⟨m1, h2, h1⟩ := mov_left (i := y) (j := x) HLk.out hrl (by have := HX.out; have := HA.out; omega) hy.symm
          have HLN := hidss_ m1
          have HY := hidss_ (show y = a + r by have := HX.out; omega)
          have HSZ := hidss_ (show (swp dk x y).size = z by rw [size_swp]; exact HZk.out)
          have hsk : dk.size = d0.size := HZk.out.trans HZ0.out
          have Cx := hidss_ (fun W (hW : SWK enc 2 w0 blk off dk W) => swk_cells hW HR.out hsk x h1)
          have Cy := hidss_ (fun W (hW : SWK enc 2 w0 blk off dk W) => swk_cells hW HR.out hsk y h2)
          have St1 := hidss_ (fun W hW => swk_st1 HR.out hsk x h1 dk[y]! W hW)
          have St2 := hidss_ (fun W hW => swk_st2 HR.out hsk x y h1 h2 dk[x]! dk[y]! W hW)
          have Sw := hidss_ (fun W (hW : SWK enc 2 w0 blk off dk W) => hW.swap HR.out.hk HR.out.hblk x y h1 h2)
          have Ia := hidss_ (show (Tryd.prog.info? 61).map (·.size) = some (enc dk[x]!).toArray.size by rw [infoSib, List.size_toArray, HR.out.hk])
          have Ib := hidss_ (show (Tryd.prog.info? 61).map (·.size) = some (enc dk[y]!).toArray.size by rw [infoSib, List.size_toArray, HR.out.hk])
          obtain ⟨ca, hca⟩ : ∃ c, (enc dk[x]!).toArray = c := ⟨_, rfl⟩
          obtain ⟨cb, hcb⟩ : ∃ c, (enc dk[y]!).toArray = c := ⟨_, rfl⟩
          rw [hca] at Cx St2 Ia
          rw [hcb] at Cy St1 Ib
          rw [HZk.out] at h1 h2
          have wy : IntKind.i64.wrap ((x : Int) - 1) = (y : Int) := by rw [IntKind.wrap_i64]; omega
          have ta : (x : Int) < (z : Int) := by omega
          have tb : (y : Int) < (z : Int) := by omega
          have hyq : ii ≤ y := by omega
          have HYM := hidss_ (show y ≤ m by have := HXM.out; omega)
          have HXY := hidss_ (show y < x by omega)
          clear hsk hy hca hcb m1 hrl
          go_upto_region 23 with fail
          rename_i K9 hK9
          refine region_byJF [113, 114, 115, 116, 117, 118, 119, 120, 121, 122, 123, 124, 125, 126, 127, 128] (fun _ => True) (fun _ _ => True) (ExR78_23 blk off z cap a b 0 x y ca cb) (fun D _ W => ExJ enc w0 blk off dk x y 9 13 15 17 D W) (by kernel_rfl) (by kernel_rfl) (by kernel_rfl) (by kernel_rfl) (fun j v w w' hT hr => hr.any) (fun j v w hlt hj _ => ?_) trivial ?_ ?_ ?_
          · rcases j with _ | _ | _ | _ | _ | _ | _ | _ | _ | _ | _ | _ | _ | _ | _ | _ | _ | _ | j
            all_goals first
              | (exfalso; simp [dstOf] at hj; done)
              | trivial
          · refine ⟨fun D a9 W hC hd hsz hf hv hJ hL hW K9 hK => ?_, fun D a9 W hC hd hsz hf hv hJ hL hW K9 hK => ?_, fun D a9 W hC hd hsz hf hv hJ hL hW K9 hK => ?_, fun D a9 W hC hd hsz hf hv hJ hL hW K9 hK => ?_, fun D a9 W hC hd hsz hf hv hJ hL hW K9 hK => ?_, fun D a9 W hC hd hsz hf hv hJ hL hW K9 hK => ?_, fun D a9 W hC hd hsz hf hv hJ hL hW K9 hK => ?_, fun D a9 W hC hd hsz hf hv hJ hL hW K9 hK => ?_, fun D a9 W hC hd hsz hf hv hJ hL hW K9 hK => ?_, fun D a9 W hC hd hsz hf hv hJ hL hW K9 hK => ?_, fun D a9 W hC hd hsz hf hv hJ hL hW K9 hK => ?_, fun D a9 W hC hd hsz hf hv hJ hL hW K9 hK => ?_, fun D a9 W hC hd hsz hf hv hJ hL hW K9 hK => ?_, fun D a9 W hC hd hsz hf hv hJ hL hW K9 hK => ?_, fun D a9 W hC hd hsz hf hv hJ hL hW K9 hK => ?_, fun D a9 W hC hd hsz hf hv hJ hL hW K9 hK => ?_, fun D a9 W hC hd hsz hf hv hJ hL hW K9 hK => ?_, fun D a9 W hC hd hsz hf hv hJ hL hW K9 hK => ?_, trivial⟩
            · clear hsz
              have e1 := slot_of (a := a9) (s := 0) (v := .slice (some ⟨blk, off, none⟩) z cap) (hf 0 (by kernel_rfl))
              refine step_run (wanted_none rfl) (v := .slice (some ⟨blk, off, none⟩) z cap) (w' := W) ?_ (hK _ _ trivial trivial rfl (hJ.same 0 (by decide) (by decide)))
              go_simp
            · clear hsz
              have e1 := slot_of (a := a9) (s := 17) (v := .int .i64 (x : Int)) (hf 17 (by kernel_rfl))
              refine step_run (wanted_none rfl) (v := .int .i64 (x : Int)) (w' := W) ?_ (hK _ _ trivial trivial rfl (hJ.same 1 (by decide) (by decide)))
              go_simp
            · clear hsz
              have e1 := slot_of (a := a9) (s := 0) (v := .slice (some ⟨blk, off, none⟩) z cap) (hf 0 (by kernel_rfl))
              refine step_run (wanted_none rfl) (v := .slice (some ⟨blk, off, none⟩) z cap) (w' := W) ?_ (hK _ _ trivial trivial rfl (hJ.same 2 (by decide) (by decide)))
              go_simp
            · clear hsz
              have e1 := slot_of (a := a9) (s := 17) (v := .int .i64 (x : Int)) (hf 17 (by kernel_rfl))
              refine step_run (wanted_none rfl) (v := .int .i64 (x : Int)) (w' := W) ?_ (hK _ _ trivial trivial rfl (hJ.same 3 (by decide) (by decide)))
              go_simp
            · clear hsz
              have e1 := slot_of (a := a9) (s := 116) (v := .int .i64 (x : Int)) (hv 3 (by kernel_rfl))
              refine step_run (wanted_none rfl) (v := .int .i64 (y : Int)) (w' := W) ?_ (hK _ _ trivial trivial rfl (hJ.same 4 (by decide) (by decide)))
              go_simp
            · clear hsz
              have e1 := slot_of (a := a9) (s := 0) (v := .slice (some ⟨blk, off, none⟩) z cap) (hf 0 (by kernel_rfl))
              refine step_run (wanted_none rfl) (v := .slice (some ⟨blk, off, none⟩) z cap) (w' := W) ?_ (hK _ _ trivial trivial rfl (hJ.same 5 (by decide) (by decide)))
              go_simp
            · clear hsz
              have e1 := slot_of (a := a9) (s := 17) (v := .int .i64 (x : Int)) (hf 17 (by kernel_rfl))
              refine step_run (wanted_none rfl) (v := .int .i64 (x : Int)) (w' := W) ?_ (hK _ _ trivial trivial rfl (hJ.same 6 (by decide) (by decide)))
              go_simp
            · clear hsz
              have e1 := slot_of (a := a9) (s := 119) (v := .int .i64 (x : Int)) (hv 6 (by kernel_rfl))
              refine step_run (wanted_none rfl) (v := .int .i64 (y : Int)) (w' := W) ?_ (hK _ _ trivial trivial rfl (hJ.same 7 (by decide) (by decide)))
              go_simp
            · clear hsz
              have e1 := slot_of (a := a9) (s := 118) (v := .slice (some ⟨blk, off, none⟩) z cap) (hv 5 (by kernel_rfl))
              have e2 := slot_of (a := a9) (s := 120) (v := .int .i64 (y : Int)) (hv 7 (by kernel_rfl))
              refine step_run (wanted_none rfl) (v := .pointer (some ⟨blk, off + y * 2, none⟩)) (w' := W) ?_ (hK _ _ trivial trivial rfl (hJ.same 8 (by decide) (by decide)))
              go_simp
            · obtain hS := hJ.early (.inl rfl) hL
              refine step_load_sub (wanted_none rfl) 61 (.tmp 121) rfl blk (off + y * 2) (eval_of (hv 8 (by kernel_rfl))) cb (Cy.out W hS) _ Tryd.underlying61 rfl Ib.out (hK _ _ trivial trivial rfl (hJ.same 9 (by decide) (by decide)))
            · clear hsz
              have e1 := slot_of (a := a9) (s := 0) (v := .slice (some ⟨blk, off, none⟩) z cap) (hf 0 (by kernel_rfl))
              refine step_run (wanted_none rfl) (v := .slice (some ⟨blk, off, none⟩) z cap) (w' := W) ?_ (hK _ _ trivial trivial rfl (hJ.same 10 (by decide) (by decide)))
              go_simp
            · clear hsz
              have e1 := slot_of (a := a9) (s := 17) (v := .int .i64 (x : Int)) (hf 17 (by kernel_rfl))
              refine step_run (wanted_none rfl) (v := .int .i64 (x : Int)) (w' := W) ?_ (hK _ _ trivial trivial rfl (hJ.same 11 (by decide) (by decide)))
              go_simp
            · clear hsz
              have e1 := slot_of (a := a9) (s := 123) (v := .slice (some ⟨blk, off, none⟩) z cap) (hv 10 (by kernel_rfl))
              have e2 := slot_of (a := a9) (s := 124) (v := .int .i64 (x : Int)) (hv 11 (by kernel_rfl))
              refine step_run (wanted_none rfl) (v := .pointer (some ⟨blk, off + x * 2, none⟩)) (w' := W) ?_ (hK _ _ trivial trivial rfl (hJ.same 12 (by decide) (by decide)))
              go_simp
            · obtain hS := hJ.early (.inr rfl) hL
              refine step_load_sub (wanted_none rfl) 61 (.tmp 125) rfl blk (off + x * 2) (eval_of (hv 12 (by kernel_rfl))) ca (Cx.out W hS) _ Tryd.underlying61 rfl Ia.out (hK _ _ trivial trivial rfl (hJ.same 13 (by decide) (by decide)))
            · clear hsz
              have e1 := slot_of (a := a9) (s := 113) (v := .slice (some ⟨blk, off, none⟩) z cap) (hv 0 (by kernel_rfl))
              have e2 := slot_of (a := a9) (s := 114) (v := .int .i64 (x : Int)) (hv 1 (by kernel_rfl))
              refine step_run (wanted_none rfl) (v := .pointer (some ⟨blk, off + x * 2, none⟩)) (w' := W) ?_ (hK _ _ trivial trivial rfl (hJ.same 14 (by decide) (by decide)))
              go_simp
            · obtain hS := hJ.at1 hL (hW 9 (by kernel_rfl)) (hW 13 (by kernel_rfl))
              refine step_store_cells (wanted_none rfl) 61 (.tmp 127) (.tmp 122) rfl blk (off + x * 2) (eval_of (hv 14 (by kernel_rfl))) cb (eval_of (hv 9 (by kernel_rfl))) Ib.out _ (St1.out W hS) (hK _ _ trivial trivial trivial (ExJ.one hS (hW 9 (by kernel_rfl)) (hW 13 (by kernel_rfl)) (by decide) (hJ.no2 hL)))
            · clear hsz
              have e1 := slot_of (a := a9) (s := 115) (v := .slice (some ⟨blk, off, none⟩) z cap) (hv 2 (by kernel_rfl))
              have e2 := slot_of (a := a9) (s := 117) (v := .int .i64 (y : Int)) (hv 4 (by kernel_rfl))
              refine step_run (wanted_none rfl) (v := .pointer (some ⟨blk, off + y * 2, none⟩)) (w' := W) ?_ (hK _ _ trivial trivial rfl (hJ.same 16 (by decide) (by decide)))
              go_simp
            · obtain ⟨W1, hS, rfl⟩ := hJ.at2 hL (hW 15 (by kernel_rfl))
              refine step_store_cells (wanted_none rfl) 61 (.tmp 128) (.tmp 126) rfl blk (off + y * 2) (eval_of (hv 16 (by kernel_rfl))) ca (eval_of (hv 13 (by kernel_rfl))) Ia.out _ (St2.out W1 hS) (hK _ _ trivial trivial trivial (hJ.two (Sw.out W1 hS) (hW 15 (by kernel_rfl)) (by decide)))
          · exact .inl ⟨rfl, rfl, HSk.out.drew⟩
          · intro f wa hCa hva Da hDa hJa
            obtain ⟨aa, hJe, _⟩ := hJa
            have KJ := hidss_ (hJe.end_ (hDa 17 (by decide)))
            simp only [framed, List.foldl_cons, List.foldl_nil, List.setIfInBounds_toArray, List.set_cons_succ, List.set_cons_zero]
            clear hva hDa hJe hCa
            refine hK9 _ _ ?_
            go_wp2
            go_roundw
            case rel => exact ⟨y, r, _, by go_num, hyq, HYM, HY, KJ, HLN, HSZ⟩
            case measure => have := HXY.out; simp [intOf]; omega
        · have tx : ¬ (ii : Int) < (x : Int) := by omega
          have HE := hidss_ (show dk.toList = P ++ mrg lt B [e] ++ S by
            rw [HLk.out, HMG.out, show r = k0 by have := HX.out; have := HQ.out; omega]
            unfold movL
            simp)
          go_wp2
          (try simp only [Exit.inBlock, Exit.then])
          refine bodyPost_ret (results_none rfl _ _ _) rfl ?_
          exact ⟨rfl, dk, HSk.out, HZk.out, by rw [HE.out]; simp⟩
end
end Go.Proofs.YtegfnlnbhhmkjaaDoor
