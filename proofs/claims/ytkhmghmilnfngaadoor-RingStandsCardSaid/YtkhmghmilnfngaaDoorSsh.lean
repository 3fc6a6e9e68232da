/-
  slices.symMergeCmpFunc at siblings: one element behind a rising row.
-/
import Derived.Test.YtkhmghmilnfngaaDoorSsg
namespace Go.Proofs.YtkhmghmilnfngaaDoor
set_option maxRecDepth 100000
open Go.ChangeShapes Go.WideShapes Go.ChangeAt Go.RowKit Go.Sort Go.Shelf Go.Lib
set_option linter.unusedVariables false
set_option linter.unusedSectionVars false
set_option linter.unusedSimpArgs false

def ExR78_23 (blk off z cap a b j x y : Nat) (ca cb : Array Value) : Nat → Value → World → Prop
  | 0, v, _ => v = .slice (some ⟨blk, off, none⟩) z cap
  | 1, v, _ => v = .int .i64 (x : Int)
  | 2, v, _ => v = .slice (some ⟨blk, off, none⟩) z cap
  | 3, v, _ => v = .int .i64 (x : Int)
  | 4, v, _ => v = .int .i64 (y : Int)
  | 5, v, _ => v = .slice (some ⟨blk, off, none⟩) z cap
  | 6, v, _ => v = .int .i64 (x : Int)
  | 7, v, _ => v = .int .i64 (y : Int)
  | 8, v, _ => v = .pointer (some ⟨blk, off + y * 2, none⟩)
  | 9, v, _ => v = .agg cb
  | 10, v, _ => v = .slice (some ⟨blk, off, none⟩) z cap
  | 11, v, _ => v = .int .i64 (x : Int)
  | 12, v, _ => v = .pointer (some ⟨blk, off + x * 2, none⟩)
  | 13, v, _ => v = .agg ca
  | 14, v, _ => v = .pointer (some ⟨blk, off + x * 2, none⟩)
  | 16, v, _ => v = .pointer (some ⟨blk, off + y * 2, none⟩)
  | _, _, _ => True
theorem ExR78_23.any {blk off z cap a b j x y : Nat} {ca cb : Array Value} {q : Nat} {v : Value} {W W' : World} (hh : ExR78_23 blk off z cap a b j x y ca cb q v W) : ExR78_23 blk off z cap a b j x y ca cb q v W' := by
  unfold ExR78_23 at hh ⊢
  split at hh <;> first | exact hh | trivial
section
variable {α : Type} [Inhabited α] {enc : α → List Value} {w0 W : World} {blk off : Nat} {d0 d : Array α}
theorem at_mov' {d : Array α} {P A S : List α} {e : α} (h : d.toList = P ++ A ++ e :: S) {a m k : Nat} (ha : a = P.length) (hm : m = a + A.length) (hk : k < A.length) : d[m]! = e ∧ m < d.size ∧ A[k]? = some d[a + k]! ∧ a + k < d.size := by
  have h1 := at_list' h (i := m) (by rw [List.length_append]; omega)
  have h2 : d.toList = (P ++ A.take k) ++ A[k] :: (A.drop (k + 1) ++ e :: S) := by
    rw [h]
    conv => lhs; rw [← List.take_append_drop k A, List.drop_eq_getElem_cons hk]
    simp only [List.append_assoc, List.cons_append, List.nil_append]
  have h3 := at_list' h2 (i := a + k) (by simp only [List.length_append, List.length_take]; omega)
  exact ⟨h1.1, h1.2, by rw [h3.1]; exact List.getElem?_eq_getElem hk, h3.2⟩
set_option maxRecDepth 1000000 in
set_option maxHeartbeats 8000000 in
theorem sym_one' {lt : α → α → Bool} (hw : Wk lt) {cf : α → α → Int} (hlt : ∀ x y, lt x y = decide (cf x y < 0)) (hcmp : CmpS enc w0 blk off d0.size cf) (R : RowK enc 2 w0 blk off d0) (h : SWK enc 2 w0 blk off d W) (hs : d.size = d0.size) (hsz : d.size < 4611686018427387904) (P B S : List α) (e : α) (a m b cap : Nat)
    (hL : d.toList = P ++ B ++ e :: S) (ha : a = P.length) (hm : m = a + B.length) (hb : b = m + 1) (hB2 : 1 < B.length) (hB : Srt lt B) :
    Calls Tryd.prog 42 #[.slice (some ⟨blk, off, none⟩) d.size cap, .int .i64 a, .int .i64 m, .int .i64 b, .func (.func 21) #[] #[]] W fun e' w' =>
      e' = .returned (.tuple #[]) ∧ ∃ d', SWK enc 2 w0 blk off d' w' ∧ d'.size = d.size ∧ d'.toList = P ++ mrg lt B [e] ++ S := by
  have hlen : d.size = P.length + B.length + 1 + S.length := by
    have := congrArg List.length hL
    simp only [List.length_append, List.length_cons, Array.length_toList] at this
    omega
  obtain ⟨z, hz⟩ : ∃ z, d.size = z := ⟨_, rfl⟩
  have HZ0 := hidss_ (show z = d0.size by omega)
  have hbz : b ≤ z := by omega
  have hmb : m ≤ b := by omega
  have hz62 : z < 4611686018427387904 := by omega
  have HR := hidss_ R
  have HS := hidss_ h
  have HA := hidss_ ha
  have HM := hidss_ hm
  have HBB := hidss_ hb
  have HW := hidss_ hw
  have HLT := hidss_ hlt
  have HC := hidss_ hcmp
  have HL := hidss_ hL
  have HBS := hidss_ hB
  have HZ := hidss_ hz
  have ham : a < m := by omega
  obtain ⟨u, hu⟩ : ∃ u, m - a = u := ⟨_, rfl⟩
  have w1 : IntKind.i64.wrap ((m : Int) - (a : Int)) = (u : Int) := by rw [IntKind.wrap_i64]; omega
  have w2 : ((u : Int) == 1) = false := beq_false_of_ne (by omega)
  have w3 : IntKind.i64.wrap ((b : Int) - (m : Int)) = 1 := by rw [IntKind.wrap_i64]; omega
  rw [hz]
  clear hlen hL ha hb hm h R hs hsz hz hw hlt hcmp hB hu hB2
  go_enter Tryd.func42, Tryd.ntmps42
  go_wp2
  clear w1 w2 w3
  go_loopw [14, 15] (fun i j wr => ∃ (ii jj : Nat), i = .int .i64 ii ∧ j = .int .i64 jj ∧ a ≤ ii ∧ ii ≤ jj ∧ jj ≤ m ∧ Hid (SWK enc 2 w0 blk off d wr) ∧ Hid (∀ y, a < ii → B[ii - a - 1]? = some y → lt e y = false) ∧ Hid (∀ y, jj < m → B[jj - a]? = some y → lt e y = true)) (fun i j _ => (intOf j).toNat - (intOf i).toNat)
  case atStart => exact ⟨a, m, rfl, rfl, Nat.le_refl _, by omega, Nat.le_refl _, HS, hidss_ (fun y h => absurd h (Nat.lt_irrefl _)), hidss_ (fun y h => absurd h (Nat.lt_irrefl _))⟩
  case round =>
    obtain ⟨ii, jj, rfl, rfl, hmi, hij, hjb, HSk, H1, H2⟩ := hrel
    by_cases hlt : ii < jj
    · have tl : (ii : Int) < (jj : Int) := by omega
      obtain ⟨hh, hhh⟩ : ∃ h, h = (ii + jj) / 2 := ⟨_, rfl⟩
      have hb1 : ii ≤ hh ∧ hh < jj := by omega
      have c1 : IntKind.u64.wrap ((ii : Int) + (jj : Int)) = (ii : Int) + (jj : Int) := by rw [IntKind.wrap_u64]; omega
      have c0 : ((ii : Int) + (jj : Int)) / 2 = (hh : Int) := by omega
      have hk : hh - a < B.length := by have := HM.out; omega
      obtain ⟨g1, g2, g3, g4⟩ := at_mov' HL.out HA.out HM.out hk
      have hsk : d.size = d0.size := HZ.out.trans HZ0.out
      rw [show a + (hh - a) = hh by omega] at g3 g4
      have Cx := hidss_ (fun W (hW : SWK enc 2 w0 blk off d W) => swk_cells hW HR.out hsk hh g4)
      have Cy := hidss_ (fun W (hW : SWK enc 2 w0 blk off d W) => swk_cells hW HR.out hsk m g2)
      have Ia := hidss_ (show (Tryd.prog.info? 55).map (·.size) = some (enc d[hh]!).toArray.size by rw [infoSib, List.size_toArray, HR.out.hk])
      have Ib := hidss_ (show (Tryd.prog.info? 55).map (·.size) = some (enc d[m]!).toArray.size by rw [infoSib, List.size_toArray, HR.out.hk])
      have CC := hidss_ (fun W (hW : SWK enc 2 w0 blk off d W) => HC.out W d hW hsk d[m]! d[hh]!)
      have HQ := hidss_ (show ∀ y, B[hh - a]? = some y → lt e y = decide (cf d[m]! d[hh]! < 0) from fun y hy => by
        rw [g3] at hy
        injection hy with hy
        rw [← hy, HLT.out, g1])
      obtain ⟨cz, hcz⟩ : ∃ c, cf d[m]! d[hh]! = c := ⟨_, rfl⟩
      obtain ⟨ca, hca⟩ : ∃ c, (enc d[hh]!).toArray = c := ⟨_, rfl⟩
      obtain ⟨cb, hcb⟩ : ∃ c, (enc d[m]!).toArray = c := ⟨_, rfl⟩
      rw [hcz] at CC HQ
      rw [hca] at Cx Ia CC
      rw [hcb] at Cy Ib CC
      have ta : (hh : Int) < (z : Int) := by omega
      have tb2 : (m : Int) < (z : Int) := by have := HZ.out; omega
      clear hca hcb hcz g1 g2 g3 g4 hsk hk hhh
      by_cases hc : cz < 0
      · have tc : decide (cz < 0) = true := decide_eq_true hc
        have HTR := hidss_ tc
        go_upto_region 17 with fail
        refine region_quiet_in (C := fun W => SWK enc 2 w0 blk off d W) (by kernel_rfl) (by kernel_rfl) HSk.out.drew ?_
        repeat (first | go_big_quiet_skip | (go_big_quiet_want; (first
          | (refine BigFrame.quiet_move _ rfl ?_; go_simp)
          | (refine quiet_run (.pointer (some ⟨blk, off + hh * 2, none⟩)) ?_ ?_; (focus (intro W hW; go_simp; done)); go_simp)
          | (refine quiet_run (.pointer (some ⟨blk, off + m * 2, none⟩)) ?_ ?_; (focus (intro W hW; go_simp; done)); go_simp)
          | (refine quiet_load_subS 55 (.tmp 99) rfl blk (off + hh * 2) rfl ca _ Tryd.underlying55 rfl Ia.out Cx.out ?_; go_simp)
          | (refine quiet_load_subS 55 (.tmp 95) rfl blk (off + m * 2) rfl cb _ Tryd.underlying55 rfl Ib.out Cy.out ?_; go_simp)
          | (refine quiet_call (.int .i64 cz) 21 #[.agg cb, .agg ca] ?_ CC.out ?_; (focus (intro W; go_simp; done)); go_simp)
          | (refine quiet_run (.bool true) ?_ ?_; (focus (intro W hW; go_simp; done)); go_simp)
          | (refine quiet_run (.bool false) ?_ ?_; (focus (intro W hW; go_simp; done)); go_simp)); go_big_quiet_on))
        refine wpQuiet_nil ?_
        intro w4 hw4
        have HS4 := hidss_ hw4
        clear hw4
        go_wp2
        go_roundw
        case rel => exact ⟨ii, hh, rfl, rfl, hmi, by omega, by omega, HS4, H1, hidss_ (fun y _ hy => by rw [HQ.out y hy]; exact HTR.out)⟩
        case measure => simp [intOf]; omega
      · have tc : decide (cz < 0) = false := decide_eq_false hc
        have HTR := hidss_ tc
        go_upto_region 17 with fail
        refine region_quiet_in (C := fun W => SWK enc 2 w0 blk off d W) (by kernel_rfl) (by kernel_rfl) HSk.out.drew ?_
        repeat (first | go_big_quiet_skip | (go_big_quiet_want; (first
          | (refine BigFrame.quiet_move _ rfl ?_; go_simp)
          | (refine quiet_run (.pointer (some ⟨blk, off + hh * 2, none⟩)) ?_ ?_; (focus (intro W hW; go_simp; done)); go_simp)
          | (refine quiet_run (.pointer (some ⟨blk, off + m * 2, none⟩)) ?_ ?_; (focus (intro W hW; go_simp; done)); go_simp)
          | (refine quiet_load_subS 55 (.tmp 99) rfl blk (off + hh * 2) rfl ca _ Tryd.underlying55 rfl Ia.out Cx.out ?_; go_simp)
          | (refine quiet_load_subS 55 (.tmp 95) rfl blk (off + m * 2) rfl cb _ Tryd.underlying55 rfl Ib.out Cy.out ?_; go_simp)
          | (refine quiet_call (.int .i64 cz) 21 #[.agg cb, .agg ca] ?_ CC.out ?_; (focus (intro W; go_simp; done)); go_simp)
          | (refine quiet_run (.bool true) ?_ ?_; (focus (intro W hW; go_simp; done)); go_simp)
          | (refine quiet_run (.bool false) ?_ ?_; (focus (intro W hW; go_simp; done)); go_simp)); go_big_quiet_on))
        refine wpQuiet_nil ?_
        intro w4 hw4
        have HS4 := hidss_ hw4
        clear hw4
        go_wp2
        go_roundw
        case rel => exact ⟨hh + 1, jj, by go_num, rfl, by omega, by omega, hjb, HS4, hidss_ (fun y _ hy => by rw [show hh + 1 - a - 1 = hh - a by omega] at hy; rw [HQ.out y hy]; exact HTR.out), H2⟩
        case measure => simp [intOf]; omega
    · have tl : ¬ (ii : Int) < (jj : Int) := by omega
      obtain rfl : ii = jj := by omega
      obtain ⟨k0, hk0⟩ : ∃ k, ii = a + k := ⟨ii - a, by omega⟩
      have HK := hidss_ (show k0 ≤ B.length by have := HM.out; omega)
      have HMG := hidss_ (mrg_one_b' HW.out HBS.out e k0 HK.out (fun y h0 hy => H1.out y (by omega) (by rw [show ii - a - 1 = k0 - 1 by omega]; exact hy)) (fun y hy => H2.out y (by have := (List.getElem?_eq_some_iff.1 hy).1; have := HM.out; omega) (by rw [show ii - a = k0 by omega]; exact hy)))
      have HQ := hidss_ hk0
      have hqz : ii ≤ m := by omega
      have HM0 := hidss_ (show d.toList = movL P B S e B.length by rw [HL.out]; unfold movL; simp)
      clear H1 H2 hk0 hij
      go_wp2
      go_loopw [17] (fun k wr => ∃ (x r : Nat) (dk : Array α), k = .int .i64 x ∧ ii ≤ x ∧ Hid (x ≤ m) ∧ Hid (x = a + r) ∧ Hid (SWK enc 2 w0 blk off dk wr) ∧ Hid (dk.toList = movL P B S e r) ∧ Hid (dk.size = z)) (fun k _ => (intOf k).toNat)
      case atStart => exact ⟨m, B.length, d, rfl, hqz, hidss_ (Nat.le_refl _), HM, HSk, HM0, HZ⟩
      case round =>
        clear HSk HS HM0
        obtain ⟨x, r, dk, rfl, hxq, HXM, HX, HSk, HLk, HZk⟩ := hrel
        by_cases hlt2 : ii < x
        · have tx : (ii : Int) < (x : Int) := by omega
          obtain ⟨y, hy⟩ : ∃ y, y + 1 = x := ⟨x - 1, by omega⟩
          obtain ⟨r, rfl⟩ : ∃ q, r = q + 1 := ⟨r - 1, by have := HX.out; have := HQ.out; omega⟩
          have hrl : r < B.length := by
            have h9 := congrArg List.length HLk.out
            unfold movL at h9
            have h8 := HZk.out
            by_cases h7 : r < B.length
            · exact h7
            · exfalso
              have := HX.out
              have := HM.out
              have := HXM.out
              omega
          obtain ⟨m1, h2, h1⟩ := mov_left (i := y) (j := x) HLk.out hrl (by have := HX.out; have := HA.out; omega) hy.symm
          have HLN := hidss_ m1
          have HY := hidss_ (show y = a + r by have := HX.out; omega)
          have HSZ := hidss_ (show (swp dk x y).size = z by rw [size_swp]; exact HZk.out)
          have hsk : dk.size = d0.size := HZk.out.trans HZ0.out
          have Cx := hidss_ (fun W (hW : SWK enc 2 w0 blk off dk W) => swk_cells hW HR.out hsk x h1)
          have Cy := hidss_ (fun W (hW : SWK enc 2 w0 blk off dk W) => swk_cells hW HR.out hsk y h2)
          have St1 := hidss_ (fun W hW => swk_st1 HR.out hsk x h1 dk[y]! W hW)
          have St2 := hidss_ (fun W hW => swk_st2 HR.out hsk x y h1 h2 dk[x]! dk[y]! W hW)
          have Sw := hidss_ (fun W (hW : SWK enc 2 w0 blk off dk W) => hW.swap HR.out.hk HR.out.hblk x y h1 h2)
          have Ia := hidss_ (show (Tryd.prog.info? 55).map (·.size) = some (enc dk[x]!).toArray.size by rw [infoSib, List.size_toArray, HR.out.hk])
          have Ib := hidss_ (show (Tryd.prog.info? 55).map (·.size) = some (enc dk[y]!).toArray.size by rw [infoSib, List.size_toArray, HR.out.hk])
          obtain ⟨ca, hca⟩ : ∃ c, (enc dk[x]!).toArray = c := ⟨_, rfl⟩
          obtain ⟨cb, hcb⟩ : ∃ c, (enc dk[y]!).toArray = c := ⟨_, rfl⟩
          rw [hca] at Cx St2 Ia
          rw [hcb] at Cy St1 Ib
          rw [HZk.out] at h1 h2
          have wy : IntKind.i64.wrap ((x : Int) - 1) = (y : Int) := by rw [IntKind.wrap_i64]; omega
          have ta : (x : Int) < (z : Int) := by omega
          have tb : (y : Int) < (z : Int) := by omega
          have hyq : ii ≤ y := by omega
          have HYM := hidss_ (show y ≤ m by have := HXM.out; omega)
          have HXY := hidss_ (show y < x by omega)
          clear hsk hy hca hcb m1 hrl
          go_upto_region 23 with fail
          rename_i K9 hK9
          refine region_byJF [113, 114, 115, 116, 117, 118, 119, 120, 121, 122, 123, 124, 125, 126, 127, 128] (fun _ => True) (fun _ _ => True) (ExR78_23 blk off z cap a b 0 x y ca cb) (fun D _ W => ExJ enc w0 blk off dk x y 9 13 15 17 D W) (by kernel_rfl) (by kernel_rfl) (by kernel_rfl) (by kernel_rfl) (fun j v w w' hT hr => hr.any) (fun j v w hlt hj _ => ?_) trivial ?_ ?_ ?_
          · rcases j with _ | _ | _ | _ | _ | _ | _ | _ | _ | _ | _ | _ | _ | _ | _ | _ | _ | _ | j
            all_goals first
              | (exfalso; simp [dstOf] at hj; done)
              | trivial
          · refine ⟨fun D a9 W hC hd hsz hf hv hJ hL hW K9 hK => ?_, fun D a9 W hC hd hsz hf hv hJ hL hW K9 hK => ?_, fun D a9 W hC hd hsz hf hv hJ hL hW K9 hK => ?_, fun D a9 W hC hd hsz hf hv hJ hL hW K9 hK => ?_, fun D a9 W hC hd hsz hf hv hJ hL hW K9 hK => ?_, fun D a9 W hC hd hsz hf hv hJ hL hW K9 hK => ?_, fun D a9 W hC hd hsz hf hv hJ hL hW K9 hK => ?_, fun D a9 W hC hd hsz hf hv hJ hL hW K9 hK => ?_, fun D a9 W hC hd hsz hf hv hJ hL hW K9 hK => ?_, fun D a9 W hC hd hsz hf hv hJ hL hW K9 hK => ?_, fun D a9 W hC hd hsz hf hv hJ hL hW K9 hK => ?_, fun D a9 W hC hd hsz hf hv hJ hL hW K9 hK => ?_, fun D a9 W hC hd hsz hf hv hJ hL hW K9 hK => ?_, fun D a9 W hC hd hsz hf hv hJ hL hW K9 hK => ?_, fun D a9 W hC hd hsz hf hv hJ hL hW K9 hK => ?_, fun D a9 W hC hd hsz hf hv hJ hL hW K9 hK => ?_, fun D a9 W hC hd hsz hf hv hJ hL hW K9 hK => ?_, fun D a9 W hC hd hsz hf hv hJ hL hW K9 hK => ?_, trivial⟩
            · clear hsz
              have e1 := slot_of (a := a9) (s := 0) (v := .slice (some ⟨blk, off, none⟩) z cap) (hf 0 (by kernel_rfl))
              refine step_run (wanted_none rfl) (v := .slice (some ⟨blk, off, none⟩) z cap) (w' := W) ?_ (hK _ _ trivial trivial rfl (hJ.same 0 (by decide) (by decide)))
              go_simp
            · clear hsz
              have e1 := slot_of (a := a9) (s := 17) (v := .int .i64 (x : Int)) (hf 17 (by kernel_rfl))
              refine step_run (wanted_none rfl) (v := .int .i64 (x : Int)) (w' := W) ?_ (hK _ _ trivial trivial rfl (hJ.same 1 (by decide) (by decide)))
              go_simp
            · clear hsz
              have e1 := slot_of (a := a9) (s := 0) (v := .slice (some ⟨blk, off, none⟩) z cap) (hf 0 (by kernel_rfl))
              refine step_run (wanted_none rfl) (v := .slice (some ⟨blk, off, none⟩) z cap) (w' := W) ?_ (hK _ _ trivial trivial rfl (hJ.same 2 (by decide) (by decide)))
              go_simp
            · clear hsz
              have e1 := slot_of (a := a9) (s := 17) (v := .int .i64 (x : Int)) (hf 17 (by kernel_rfl))
              refine step_run (wanted_none rfl) (v := .int .i64 (x : Int)) (w' := W) ?_ (hK _ _ trivial trivial rfl (hJ.same 3 (by decide) (by decide)))
              go_simp
            · clear hsz
              have e1 := slot_of (a := a9) (s := 116) (v := .int .i64 (x : Int)) (hv 3 (by kernel_rfl))
              refine step_run (wanted_none rfl) (v := .int .i64 (y : Int)) (w' := W) ?_ (hK _ _ trivial trivial rfl (hJ.same 4 (by decide) (by decide)))
              go_simp
            · clear hsz
              have e1 := slot_of (a := a9) (s := 0) (v := .slice (some ⟨blk, off, none⟩) z cap) (hf 0 (by kernel_rfl))
              refine step_run (wanted_none rfl) (v := .slice (some ⟨blk, off, none⟩) z cap) (w' := W) ?_ (hK _ _ trivial trivial rfl (hJ.same 5 (by decide) (by decide)))
              go_simp
            · clear hsz
              have e1 := slot_of (a := a9) (s := 17) (v := .int .i64 (x : Int)) (hf 17 (by kernel_rfl))
              refine step_run (wanted_none rfl) (v := .int .i64 (x : Int)) (w' := W) ?_ (hK _ _ trivial trivial rfl (hJ.same 6 (by decide) (by decide)))
              go_simp
            · clear hsz
              have e1 := slot_of (a := a9) (s := 119) (v := .int .i64 (x : Int)) (hv 6 (by kernel_rfl))
              refine step_run (wanted_none rfl) (v := .int .i64 (y : Int)) (w' := W) ?_ (hK _ _ trivial trivial rfl (hJ.same 7 (by decide) (by decide)))
              go_simp
            · clear hsz
              have e1 := slot_of (a := a9) (s := 118) (v := .slice (some ⟨blk, off, none⟩) z cap) (hv 5 (by kernel_rfl))
              have e2 := slot_of (a := a9) (s := 120) (v := .int .i64 (y : Int)) (hv 7 (by kernel_rfl))
              refine step_run (wanted_none rfl) (v := .pointer (some ⟨blk, off + y * 2, none⟩)) (w' := W) ?_ (hK _ _ trivial trivial rfl (hJ.same 8 (by decide) (by decide)))
              go_simp
            · obtain hS := hJ.early (.inl rfl) hL
              refine step_load_sub (wanted_none rfl) 55 (.tmp 121) rfl blk (off + y * 2) (eval_of (hv 8 (by kernel_rfl))) cb (Cy.out W hS) _ Tryd.underlying55 rfl Ib.out (hK _ _ trivial trivial rfl (hJ.same 9 (by decide) (by decide)))
            · clear hsz
              have e1 := slot_of (a := a9) (s := 0) (v := .slice (some ⟨blk, off, none⟩) z cap) (hf 0 (by kernel_rfl))
              refine step_run (wanted_none rfl) (v := .slice (some ⟨blk, off, none⟩) z cap) (w' := W) ?_ (hK _ _ trivial trivial rfl (hJ.same 10 (by decide) (by decide)))
              go_simp
            · clear hsz
              have e1 := slot_of (a := a9) (s := 17) (v := .int .i64 (x : Int)) (hf 17 (by kernel_rfl))
              refine step_run (wanted_none rfl) (v := .int .i64 (x : Int)) (w' := W) ?_ (hK _ _ trivial trivial rfl (hJ.same 11 (by decide) (by decide)))
              go_simp
            · clear hsz
              have e1 := slot_of (a := a9) (s := 123) (v := .slice (some ⟨blk, off, none⟩) z cap) (hv 10 (by kernel_rfl))
              have e2 := slot_of (a := a9) (s := 124) (v := .int .i64 (x : Int)) (hv 11 (by kernel_rfl))
              refine step_run (wanted_none rfl) (v := .pointer (some ⟨blk, off + x * 2, none⟩)) (w' := W) ?_ (hK _ _ trivial trivial rfl (hJ.same 12 (by decide) (by decide)))
              go_simp
            · obtain hS := hJ.early (.inr rfl) hL
              refine step_load_sub (wanted_none rfl) 55 (.tmp 125) rfl blk (off + x * 2) (eval_of (hv 12 (by kernel_rfl))) ca (Cx.out W hS) _ Tryd.underlying55 rfl Ia.out (hK _ _ trivial trivial rfl (hJ.same 13 (by decide) (by decide)))
            · clear hsz
              have e1 := slot_of (a := a9) (s := 113) (v := .slice (some ⟨blk, off, none⟩) z cap) (hv 0 (by kernel_rfl))
              have e2 := slot_of (a := a9) (s := 114) (v := .int .i64 (x : Int)) (hv 1 (by kernel_rfl))
              refine step_run (wanted_none rfl) (v := .pointer (some ⟨blk, off + x * 2, none⟩)) (w' := W) ?_ (hK _ _ trivial trivial rfl (hJ.same 14 (by decide) (by decide)))
              go_simp
            · obtain hS := hJ.at1 hL (hW 9 (by kernel_rfl)) (hW 13 (by kernel_rfl))
              refine step_store_cells (wanted_none rfl) 55 (.tmp 127) (.tmp 122) rfl blk (off + x * 2) (eval_of (hv 14 (by kernel_rfl))) cb (eval_of (hv 9 (by kernel_rfl))) Ib.out _ (St1.out W hS) (hK _ _ trivial trivial trivial (ExJ.one hS (hW 9 (by kernel_rfl)) (hW 13 (by kernel_rfl)) (by decide) (hJ.no2 hL)))
            · clear hsz
              have e1 := slot_of (a := a9) (s := 115) (v := .slice (some ⟨blk, off, none⟩) z cap) (hv 2 (by kernel_rfl))
              have e2 := slot_of (a := a9) (s := 117) (v := .int .i64 (y : Int)) (hv 4 (by kernel_rfl))
              refine step_run (wanted_none rfl) (v := .pointer (some ⟨blk, off + y * 2, none⟩)) (w' := W) ?_ (hK _ _ trivial trivial rfl (hJ.same 16 (by decide) (by decide)))
              go_simp
            · obtain ⟨W1, hS, rfl⟩ := hJ.at2 hL (hW 15 (by kernel_rfl))
              refine step_store_cells (wanted_none rfl) 55 (.tmp 128) (.tmp 126) rfl blk (off + y * 2) (eval_of (hv 16 (by kernel_rfl))) ca (eval_of (hv 13 (by kernel_rfl))) Ia.out _ (St2.out W1 hS) (hK _ _ trivial trivial trivial (hJ.two (Sw.out W1 hS) (hW 15 (by kernel_rfl)) (by decide)))
          · exact .inl ⟨rfl, rfl, HSk.out.drew⟩
          · intro f wa hCa hva Da hDa hJa
            obtain ⟨aa, hJe, _⟩ := hJa
            have KJ := hidss_ (hJe.end_ (hDa 17 (by decide)))
            simp only [framed, List.foldl_cons, List.foldl_nil, List.setIfInBounds_toArray, List.set_cons_succ, List.set_cons_zero]
            clear hva hDa hJe hCa
            refine hK9 _ _ ?_
            go_wp2
            go_roundw
            case rel => exact ⟨y, r, _, by go_num, hyq, HYM, HY, KJ, HLN, HSZ⟩
            case measure => have := HXY.out; simp [intOf]; omega
        · have tx : ¬ (ii : Int) < (x : Int) := by omega
          have HE := hidss_ (show dk.toList = P ++ mrg lt B [e] ++ S by
            rw [HLk.out, HMG.out, show r = k0 by have := HX.out; have := HQ.out; omega]
            unfold movL
            simp)
          go_wp2
          (try simp only [Exit.inBlock, Exit.then])
          refine bodyPost_ret (results_none rfl _ _ _) rfl ?_
          exact ⟨rfl, dk, HSk.out, HZk.out, by rw [HE.out]; simp⟩
end
end Go.Proofs.YtkhmghmilnfngaaDoor
