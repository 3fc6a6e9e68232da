/-
  slices.insertionSortCmpFunc at siblings: the stable sort of a part of the row.
-/
import Derived.Test.YtkhmghmilnfngaaDoorSsd
namespace Go.Proofs.YtkhmghmilnfngaaDoor
set_option maxRecDepth 100000
open Go.ChangeShapes Go.WideShapes Go.ChangeAt Go.RowKit Go.Sort Go.Shelf Go.Lib
set_option linter.unusedVariables false
set_option linter.unusedSectionVars false
set_option linter.unusedSimpArgs false

theorem quiet_load_subS {P : Program} {C : World → Prop} {o : Oper} {a : Act} {K : Act → Prop} (ty : TypeId) (x : Operand) (ho : o.op = .load ty x) (g off : Nat) (hx : a.eval x = .pointer (some ⟨g, off, none⟩)) (cs : Array Value) (d : TypeDesc)
    (hu : P.underlying ty = some d) (hd : (match d with | .struct _ | .array _ _ => true | _ => false) = true) (hi : (P.info? ty).map (·.size) = some cs.size)
    (h : ∀ W, C W → ∀ j, j < cs.size → W.cell? ⟨g, off + j, none⟩ = cs[j]?) (hk : K (a.put o.dst (.agg cs))) : o.quiet P a C K :=
  quiet_run (.agg cs) (fun W hW => by
    have hl : (loadCells ⟨g, off, none⟩ cs.toList.length).run P W = .ok cs.toList.toArray W :=
      run_loadCells_list (P := P) W ⟨g, off, none⟩ cs.toList (fun j v hv => by
        have hadd : (⟨g, off, none⟩ : Addr).add j = ⟨g, off + j, none⟩ := by unfold Addr.add; split <;> simp_all
        have hj : j < cs.size := by have := (List.getElem?_eq_some_iff.1 hv).1; simpa using this
        rw [hadd, h W hW j hj, ← hv]
        simp)
    obtain ⟨i, hq, hs⟩ := Option.map_eq_some_iff.1 hi
    have hagg : (isAgg ty).run P W = .ok true W := by
      unfold isAgg
      rw [Sem.run_bind, run_underlying hu W]
      cases d <;> simp_all
    simp only [Array.length_toList, Array.toArray_toList] at hl
    have hrun : (loadVar ty ⟨g, off, none⟩).run P W = .ok (.agg cs) W := by
      simp [loadVar, Sem.run_bind, hagg, Go.sizeOf, typeInfo, hq, hs, hl]
    unfold execOp
    simp only [ho, hx, Instr.loadAt, Instr.sureAddr, Sem.run_bind, Sem.run_pure, Result.andThen_ok, hrun]) hk

section
variable {α : Type} [Inhabited α] {lt : α → α → Bool}
def InsO (lt : α → α → Bool) (P A S : List α) (z t : Nat) (dk : Array α) : Prop := dk.toList = P ++ ssort lt (A.take t) ++ A.drop t ++ S ∧ dk.size = z
def InsI (lt : α → α → Bool) (P A S : List α) (z t r : Nat) (dk : Array α) : Prop :=
  ∃ x, A[t]? = some x ∧ r ≤ t ∧ dk.toList = P ++ (ssort lt (A.take t)).take r ++ x :: ((ssort lt (A.take t)).drop r ++ (A.drop (t + 1) ++ S)) ∧ (∀ q ∈ (ssort lt (A.take t)).drop r, lt x q = true) ∧ dk.size = z
theorem insI_start {P A S : List α} {z t : Nat} {dk : Array α} (h : InsO lt P A S z t dk) (ht : t < A.length) : InsI lt P A S z t t dk := by
  have hl : (ssort lt (A.take t)).length = t := by rw [ssort_len, List.length_take]; omega
  have h1 := h.1
  refine ⟨A[t], List.getElem?_eq_getElem ht, Nat.le_refl _, ?_, fun q hq => ?_, h.2⟩
  · rw [h1, List.drop_eq_getElem_cons ht]
    generalize ssort lt (A.take t) = Q at *
    rw [List.take_of_length_le (l := Q) (by omega), List.drop_of_length_le (l := Q) (by omega)]
    simp only [List.append_assoc, List.cons_append, List.nil_append]
  · rw [List.drop_of_length_le (by omega)] at hq
    cases hq
theorem ins_next (hw : Wk lt) {A : List α} {t : Nat} {x : α} (hx : A[t]? = some x) : ssort lt (A.take (t + 1)) = mrg lt (ssort lt (A.take t)) [x] := by
  obtain ⟨ht, e⟩ := List.getElem?_eq_some_iff.1 hx
  rw [List.take_succ_eq_append_getElem ht, ssort_app hw, ssort_one, e]
theorem insI_zero (hw : Wk lt) {P A S : List α} {z t : Nat} {dk : Array α} (h : InsI lt P A S z t 0 dk) : InsO lt P A S z (t + 1) dk := by
  obtain ⟨x, hx, _, hd, hq, hz⟩ := h
  refine ⟨?_, hz⟩
  rw [ins_next hw hx, mrg_one' _ x 0 (Nat.zero_le _) (fun y hy => by simp at hy) (fun y hy => hq y (by rw [List.drop_zero]; exact List.mem_of_getElem? hy)), hd]
  simp
theorem insI_two (hw : Wk lt) {P A S : List α} {z t r i j : Nat} {dk : Array α} (h : InsI lt P A S z t (r + 1) dk) (hi : i = P.length + r) (hj : j = P.length + (r + 1)) :
    j < dk.size ∧ i < dk.size ∧ (lt dk[j]! dk[i]! = true → InsI lt P A S z t r (swp dk j i)) ∧ (lt dk[j]! dk[i]! = false → InsO lt P A S z (t + 1) dk) := by
  unfold InsI InsO
  obtain ⟨x, hx, hrt, hd, hq, hz⟩ := h
  obtain ⟨ht, _⟩ := List.getElem?_eq_some_iff.1 hx
  have hl : (ssort lt (A.take t)).length = t := by rw [ssort_len, List.length_take]; omega
  have hS := ssort_srt hw (A.take t)
  have hN := ins_next hw hx
  generalize ssort lt (A.take t) = Q at *
  have eQ : Q.drop r = Q[r]'(by omega) :: Q.drop (r + 1) := List.drop_eq_getElem_cons (by omega)
  have tQ : Q.take (r + 1) = Q.take r ++ [Q[r]'(by omega)] := by rw [List.take_succ_eq_append_getElem (by omega)]
  have gQ : Q[r]? = some (Q[r]'(by omega)) := List.getElem?_eq_getElem (by omega)
  generalize Q[r]'(by omega) = y at *
  have h1 : dk.toList = (P ++ Q.take r) ++ y :: ([] ++ x :: (Q.drop (r + 1) ++ (A.drop (t + 1) ++ S))) := by rw [hd, tQ]; simp
  have l1 : i = (P ++ Q.take r).length := by rw [List.length_append, List.length_take]; omega
  have l2 : j = (P ++ Q.take r).length + 1 + ([] : List α).length := by rw [List.length_append, List.length_take, List.length_nil]; omega
  have h2 : dk.toList = ((P ++ Q.take r) ++ [y]) ++ x :: (Q.drop (r + 1) ++ (A.drop (t + 1) ++ S)) := by rw [h1]; simp
  have ey := at_list' h1 l1
  have ex := at_list' h2 (i := j) (by simp only [List.length_append, List.length_cons, List.length_nil] at l2 ⊢; omega)
  rw [ey.1, ex.1]
  refine ⟨ex.2, ey.2, fun hlt => ⟨x, hx, by omega, ?_, fun q hq' => ?_, by rw [size_swp]; exact hz⟩, fun hlt => ⟨?_, hz⟩⟩
  · rw [(swp_at h1 l1 l2).2, eQ]
    simp
  · rw [eQ] at hq'
    rcases List.mem_cons.1 hq' with e | hq'
    · rw [e]; exact hlt
    · exact hq q hq'
  · rw [hN, mrg_one' Q x (r + 1) (by omega) (fun q hq' => ?_) (fun q hq' => hq q ?_), hd]
    · simp
    · obtain ⟨k, hk, rfl⟩ := List.mem_iff_getElem.1 hq'
      rw [List.length_take] at hk
      have gk : Q[k]? = some ((Q.take (r + 1))[k]'(by rw [List.length_take]; omega)) := by rw [List.getElem_take, List.getElem?_eq_getElem]
      exact hw.tran _ _ _ (srt_get' hw hS (by omega) gk gQ) hlt
    · obtain ⟨hk, rfl⟩ := List.getElem?_eq_some_iff.1 hq'
      rw [List.drop_eq_getElem_cons hk]
      exact List.mem_cons_self ..
theorem insO_end {P A S : List α} {z t : Nat} {dk : Array α} (h : InsO lt P A S z t dk) (ht : A.length ≤ t) : dk.toList = P ++ ssort lt A ++ S := by
  rw [h.1, List.take_of_length_le ht, List.drop_of_length_le ht]
  simp
/-- cmp, called in whatever world of the sort. -/
def CmpS (enc : α → List Value) (w0 : World) (blk off z : Nat) (cf : α → α → Int) : Prop :=
  ∀ (W : World) (dk : Array α), SWK enc 2 w0 blk off dk W → dk.size = z → ∀ x y, Calls Tryd.prog 21 #[.agg (enc x).toArray, .agg (enc y).toArray] W fun e w' => e = .returned (.int .i64 (cf x y)) ∧ SWK enc 2 w0 blk off dk w'
end
def ExR77_6 (blk off z cap a b j x y : Nat) (ca cb : Array Value) : Nat → Value → World → Prop
  | 0, v, _ => v = .slice (some ⟨blk, off, none⟩) z cap
  | 1, v, _ => v = .int .i64 (x : Int)
  | 2, v, _ => v = .slice (some ⟨blk, off, none⟩) z cap
  | 3, v, _ => v = .int .i64 (x : Int)
  | 4, v, _ => v = .int .i64 (y : Int)
  | 5, v, _ => v = .slice (some ⟨blk, off, none⟩) z cap
  | 6, v, _ => v = .int .i64 (x : Int)
  | 7, v, _ => v = .int .i64 (y : Int)
  | 8, v, _ => v = .pointer (some ⟨blk, off + y * 2, none⟩)
  | 9, v, _ => v = .agg cb
  | 10, v, _ => v = .slice (some ⟨blk, off, none⟩) z cap
  | 11, v, _ => v = .int .i64 (x : Int)
  | 12, v, _ => v = .pointer (some ⟨blk, off + x * 2, none⟩)
  | 13, v, _ => v = .agg ca
  | 14, v, _ => v = .pointer (some ⟨blk, off + x * 2, none⟩)
  | 16, v, _ => v = .pointer (some ⟨blk, off + y * 2, none⟩)
  | _, _, _ => True
theorem ExR77_6.any {blk off z cap a b j x y : Nat} {ca cb : Array Value} {q : Nat} {v : Value} {W W' : World} (hh : ExR77_6 blk off z cap a b j x y ca cb q v W) : ExR77_6 blk off z cap a b j x y ca cb q v W' := by
  unfold ExR77_6 at hh ⊢
  split at hh <;> first | exact hh | trivial

section
variable {α : Type} [Inhabited α] {enc : α → List Value} {w0 W : World} {blk off : Nat} {d0 d : Array α}
set_option maxRecDepth 1000000 in
set_option maxHeartbeats 8000000 in
theorem insertion_any {lt : α → α → Bool} (hw : Wk lt) {cf : α → α → Int} (hlt : ∀ x y, lt x y = decide (cf x y < 0)) (hcmp : CmpS enc w0 blk off d0.size cf) (R : RowK enc 2 w0 blk off d0) (h : SWK enc 2 w0 blk off d W) (hs : d.size = d0.size) (hsz : d.size < 4611686018427387904) (P A S : List α) (a b cap : Nat)
    (hL : d.toList = P ++ A ++ S) (ha : a = P.length) (hb : b = P.length + A.length) :
    Calls Tryd.prog 41 #[.slice (some ⟨blk, off, none⟩) d.size cap, .int .i64 a, .int .i64 b, .func (.func 21) #[] #[]] W fun e w' =>
      e = .returned (.tuple #[]) ∧ ∃ d', SWK enc 2 w0 blk off d' w' ∧ d'.size = d.size ∧ d'.toList = P ++ ssort lt A ++ S := by
  have hlen : d.size = P.length + A.length + S.length := by
    have := congrArg List.length hL
    simp only [List.length_append, Array.length_toList] at this
    omega
  obtain ⟨z, hz⟩ : ∃ z, d.size = z := ⟨_, rfl⟩
  have HZ0 := hidss_ (show z = d0.size by omega)
  have HB := hidss_ (show b ≤ z ∧ a ≤ b by omega)
  have hbz : b ≤ z := by omega
  have haz : a ≤ z := by omega
  have hz62 : z < 4611686018427387904 := by omega
  have HR := hidss_ R
  have HS := hidss_ h
  have HA := hidss_ ha
  have HBB := hidss_ hb
  have HW := hidss_ hw
  have HLT := hidss_ hlt
  have HC := hidss_ hcmp
  have HO := hidss_ (show InsO lt P A S z 1 d from ⟨by
    cases A with
    | nil => rw [hL]; simp [ssort]
    | cons x A => rw [hL]; simp [ssort_one], hz⟩)
  rw [hz]
  clear hlen hL ha hb h R hs hsz hz hw hlt hcmp
  go_enter Tryd.func41, Tryd.ntmps41
  go_wp2
  go_loopw [8] (fun i wr => ∃ (ii t : Nat) (dk : Array α), i = .int .i64 ii ∧ Hid (ii = a + t ∧ 1 ≤ t) ∧ Hid (SWK enc 2 w0 blk off dk wr) ∧ Hid (InsO lt P A S z t dk)) (fun i _ => b - (intOf i).toNat)
  case atStart => exact ⟨a + 1, 1, d, by go_num, hidss_ ⟨rfl, Nat.le_refl _⟩, HS, HO⟩
  case round =>
    obtain ⟨ii, t, dk, rfl, HI, HSk, HOk⟩ := hrel
    by_cases hib : ii < b
    · have tb : (ii : Int) < (b : Int) := by omega
      have HT := hidss_ (show t < A.length by have := HI.out; have := HA.out; have := HBB.out; omega)
      have HII := hidss_ (insI_start HOk.out HT.out)
      clear HO HOk HS
      go_wp2
      go_loopw [9] (fun j wr => ∃ (x r : Nat) (dk : Array α), j = .int .i64 x ∧ Hid (x = a + r) ∧ Hid (SWK enc 2 w0 blk off dk wr) ∧ Hid (InsI lt P A S z t r dk)) (fun j _ => (intOf j).toNat)
      case atStart => exact ⟨ii, t, dk, rfl, hidss_ HI.out.1, HSk, HII⟩
      case round =>
        clear HSk HII
        obtain ⟨x, r, dk, rfl, HX, HSk, HII⟩ := hrel
        have HXZ := hidss_ (show x ≤ ii by obtain ⟨_, _, h, _⟩ := HII.out; have := HI.out; have := HX.out; omega)
        have hxii : x ≤ ii := HXZ.out
        by_cases hr : r = 0
        · subst hr
          have tg : ¬ (a : Int) < (x : Int) := by have := HX.out; omega
          have HN := hidss_ (insI_zero HW.out HII.out)
          clear HII
          go_upto_region 4 with fail
          refine region_quiet_in (C := fun W => SWK enc 2 w0 blk off dk W) (by kernel_rfl) (by kernel_rfl) HSk.out.drew ?_
          repeat (first | go_big_quiet_skip | (go_big_quiet_want; (first
            | (refine BigFrame.quiet_move _ rfl ?_; go_simp)
            | (refine quiet_run (.bool true) ?_ ?_; (focus (intro W hW; go_simp; done)); go_simp)
            | (refine quiet_run (.bool false) ?_ ?_; (focus (intro W hW; go_simp; done)); go_simp)); go_big_quiet_on))
          refine wpQuiet_nil ?_
          intro w4 hw4
          have HS4 := hidss_ hw4
          clear hw4
          go_wp2
          go_roundw
          case rel => exact ⟨ii + 1, t + 1, dk, by go_num, hidss_ (by have := HI.out; omega), HS4, HN⟩
          case measure => simp [intOf]; omega
        · obtain ⟨r, rfl⟩ : ∃ q, r = q + 1 := ⟨r - 1, by omega⟩
          have hx0 : 0 < x := by have := HX.out; omega
          have tg : (a : Int) < (x : Int) := by have := HX.out; omega
          obtain ⟨y, hy⟩ : ∃ y, x = y + 1 := ⟨x - 1, by omega⟩
          have HY := hidss_ (show y = a + r by have := HX.out; omega)
          obtain ⟨h1, h2, h3, h4⟩ := insI_two (i := y) (j := x) HW.out HII.out (by rw [HY.out, HA.out]) (by rw [HX.out, HA.out])
          have hdz : dk.size = z := by obtain ⟨_, _, _, _, _, h⟩ := HII.out; exact h
          have hsk : dk.size = d0.size := hdz.trans HZ0.out
          have Cx := hidss_ (fun W (hW : SWK enc 2 w0 blk off dk W) => swk_cells hW HR.out hsk x h1)
          have Cy := hidss_ (fun W (hW : SWK enc 2 w0 blk off dk W) => swk_cells hW HR.out hsk y h2)
          have St1 := hidss_ (fun W hW => swk_st1 HR.out hsk x h1 dk[y]! W hW)
          have St2 := hidss_ (fun W hW => swk_st2 HR.out hsk x y h1 h2 dk[x]! dk[y]! W hW)
          have Sw := hidss_ (fun W (hW : SWK enc 2 w0 blk off dk W) => hW.swap HR.out.hk HR.out.hblk x y h1 h2)
          have Ia := hidss_ (show (Tryd.prog.info? 55).map (·.size) = some (enc dk[x]!).toArray.size by rw [infoSib, List.size_toArray, HR.out.hk])
          have Ib := hidss_ (show (Tryd.prog.info? 55).map (·.size) = some (enc dk[y]!).toArray.size by rw [infoSib, List.size_toArray, HR.out.hk])
          have CC := hidss_ (fun W (hW : SWK enc 2 w0 blk off dk W) => HC.out W dk hW hsk dk[x]! dk[y]!)
          rw [HLT.out] at h3 h4
          obtain ⟨cz, hcz⟩ : ∃ c, cf dk[x]! dk[y]! = c := ⟨_, rfl⟩
          rw [hcz] at h3 h4 CC
          obtain ⟨ca, hca⟩ : ∃ c, (enc dk[x]!).toArray = c := ⟨_, rfl⟩
          obtain ⟨cb, hcb⟩ : ∃ c, (enc dk[y]!).toArray = c := ⟨_, rfl⟩
          rw [hca] at Cx St2 Ia CC
          rw [hcb] at Cy St1 Ib CC
          rw [hdz] at h1 h2
          have wy : IntKind.i64.wrap ((x : Int) - 1) = (y : Int) := by rw [IntKind.wrap_i64]; omega
          have ta : (x : Int) < (z : Int) := by omega
          have tb2 : (y : Int) < (z : Int) := by omega
          have HXY := hidss_ (show y < x by omega)
          have HTW := hidss_ h3
          have HTF := hidss_ h4
          clear hsk hdz hca hcb hcz hy h3 h4 HII
          by_cases hc : cz < 0
          · have tc : decide (cz < 0) = true := decide_eq_true hc
            have HTR := hidss_ tc
            go_upto_region 4 with fail
            refine region_quiet_in (C := fun W => SWK enc 2 w0 blk off dk W) (by kernel_rfl) (by kernel_rfl) HSk.out.drew ?_
            repeat (first | go_big_quiet_skip | (go_big_quiet_want; (first
              | (refine BigFrame.quiet_move _ rfl ?_; go_simp)
              | (refine quiet_run (.int .i64 (y : Int)) ?_ ?_; (focus (intro W hW; go_simp; done)); go_simp)
              | (refine quiet_run (.pointer (some ⟨blk, off + x * 2, none⟩)) ?_ ?_; (focus (intro W hW; go_simp; done)); go_simp)
              | (refine quiet_run (.pointer (some ⟨blk, off + y * 2, none⟩)) ?_ ?_; (focus (intro W hW; go_simp; done)); go_simp)
              | (refine quiet_load_subS 55 (.tmp 25) rfl blk (off + x * 2) rfl ca _ Tryd.underlying55 rfl Ia.out Cx.out ?_; go_simp)
              | (refine quiet_load_subS 55 (.tmp 30) rfl blk (off + y * 2) rfl cb _ Tryd.underlying55 rfl Ib.out Cy.out ?_; go_simp)
              | (refine quiet_call (.int .i64 cz) 21 #[.agg ca, .agg cb] ?_ CC.out ?_; (focus (intro W; go_simp; done)); go_simp)
              | (refine quiet_run (.bool true) ?_ ?_; (focus (intro W hW; go_simp; done)); go_simp)
              | (refine quiet_run (.bool false) ?_ ?_; (focus (intro W hW; go_simp; done)); go_simp)); go_big_quiet_on))
            refine wpQuiet_nil ?_
            intro w4 hw4
            have HS4 := hidss_ hw4
            clear hw4
            go_upto_region 6 with fail
            rename_i K9 hK9
            refine region_byJF [37, 38, 39, 40, 41, 42, 43, 44, 45, 46, 47, 48, 49, 50, 51, 52] (fun _ => True) (fun _ _ => True) (ExR77_6 blk off z cap a b 0 x y ca cb) (fun D _ W => ExJ enc w0 blk off dk x y 9 13 15 17 D W) (by kernel_rfl) (by kernel_rfl) (by kernel_rfl) (by kernel_rfl) (fun j v w w' hT hr => hr.any) (fun j v w hlt hj _ => ?_) trivial ?_ ?_ ?_
            · rcases j with _ | _ | _ | _ | _ | _ | _ | _ | _ | _ | _ | _ | _ | _ | _ | _ | _ | _ | j
              all_goals first
                | (exfalso; simp [dstOf] at hj; done)
                | trivial
            · refine ⟨fun D a9 W hC hd hsz hf hv hJ hL hW K9 hK => ?_, fun D a9 W hC hd hsz hf hv hJ hL hW K9 hK => ?_, fun D a9 W hC hd hsz hf hv hJ hL hW K9 hK => ?_, fun D a9 W hC hd hsz hf hv hJ hL hW K9 hK => ?_, fun D a9 W hC hd hsz hf hv hJ hL hW K9 hK => ?_, fun D a9 W hC hd hsz hf hv hJ hL hW K9 hK => ?_, fun D a9 W hC hd hsz hf hv hJ hL hW K9 hK => ?_, fun D a9 W hC hd hsz hf hv hJ hL hW K9 hK => ?_, fun D a9 W hC hd hsz hf hv hJ hL hW K9 hK => ?_, fun D a9 W hC hd hsz hf hv hJ hL hW K9 hK => ?_, fun D a9 W hC hd hsz hf hv hJ hL hW K9 hK => ?_, fun D a9 W hC hd hsz hf hv hJ hL hW K9 hK => ?_, fun D a9 W hC hd hsz hf hv hJ hL hW K9 hK => ?_, fun D a9 W hC hd hsz hf hv hJ hL hW K9 hK => ?_, fun D a9 W hC hd hsz hf hv hJ hL hW K9 hK => ?_, fun D a9 W hC hd hsz hf hv hJ hL hW K9 hK => ?_, fun D a9 W hC hd hsz hf hv hJ hL hW K9 hK => ?_, fun D a9 W hC hd hsz hf hv hJ hL hW K9 hK => ?_, trivial⟩
              · clear hsz
                have e1 := slot_of (a := a9) (s := 0) (v := .slice (some ⟨blk, off, none⟩) z cap) (hf 0 (by kernel_rfl))
                refine step_run (wanted_none rfl) (v := .slice (some ⟨blk, off, none⟩) z cap) (w' := W) ?_ (hK _ _ trivial trivial rfl (hJ.same 0 (by decide) (by decide)))
                go_simp
              · clear hsz
                have e1 := slot_of (a := a9) (s := 9) (v := .int .i64 (x : Int)) (hf 9 (by kernel_rfl))
                refine step_run (wanted_none rfl) (v := .int .i64 (x : Int)) (w' := W) ?_ (hK _ _ trivial trivial rfl (hJ.same 1 (by decide) (by decide)))
                go_simp
              · clear hsz
                have e1 := slot_of (a := a9) (s := 0) (v := .slice (some ⟨blk, off, none⟩) z cap) (hf 0 (by kernel_rfl))
                refine step_run (wanted_none rfl) (v := .slice (some ⟨blk, off, none⟩) z cap) (w' := W) ?_ (hK _ _ trivial trivial rfl (hJ.same 2 (by decide) (by decide)))
                go_simp
              · clear hsz
                have e1 := slot_of (a := a9) (s := 9) (v := .int .i64 (x : Int)) (hf 9 (by kernel_rfl))
                refine step_run (wanted_none rfl) (v := .int .i64 (x : Int)) (w' := W) ?_ (hK _ _ trivial trivial rfl (hJ.same 3 (by decide) (by decide)))
                go_simp
              · clear hsz
                have e1 := slot_of (a := a9) (s := 40) (v := .int .i64 (x : Int)) (hv 3 (by kernel_rfl))
                refine step_run (wanted_none rfl) (v := .int .i64 (y : Int)) (w' := W) ?_ (hK _ _ trivial trivial rfl (hJ.same 4 (by decide) (by decide)))
                go_simp
              · clear hsz
                have e1 := slot_of (a := a9) (s := 0) (v := .slice (some ⟨blk, off, none⟩) z cap) (hf 0 (by kernel_rfl))
                refine step_run (wanted_none rfl) (v := .slice (some ⟨blk, off, none⟩) z cap) (w' := W) ?_ (hK _ _ trivial trivial rfl (hJ.same 5 (by decide) (by decide)))
                go_simp
              · clear hsz
                have e1 := slot_of (a := a9) (s := 9) (v := .int .i64 (x : Int)) (hf 9 (by kernel_rfl))
                refine step_run (wanted_none rfl) (v := .int .i64 (x : Int)) (w' := W) ?_ (hK _ _ trivial trivial rfl (hJ.same 6 (by decide) (by decide)))
                go_simp
              · clear hsz
                have e1 := slot_of (a := a9) (s := 43) (v := .int .i64 (x : Int)) (hv 6 (by kernel_rfl))
                refine step_run (wanted_none rfl) (v := .int .i64 (y : Int)) (w' := W) ?_ (hK _ _ trivial trivial rfl (hJ.same 7 (by decide) (by decide)))
                go_simp
              · clear hsz
                have e1 := slot_of (a := a9) (s := 42) (v := .slice (some ⟨blk, off, none⟩) z cap) (hv 5 (by kernel_rfl))
                have e2 := slot_of (a := a9) (s := 44) (v := .int .i64 (y : Int)) (hv 7 (by kernel_rfl))
                refine step_run (wanted_none rfl) (v := .pointer (some ⟨blk, off + y * 2, none⟩)) (w' := W) ?_ (hK _ _ trivial trivial rfl (hJ.same 8 (by decide) (by decide)))
                go_simp
              · obtain hS := hJ.early (.inl rfl) hL
                refine step_load_sub (wanted_none rfl) 55 (.tmp 45) rfl blk (off + y * 2) (eval_of (hv 8 (by kernel_rfl))) cb (Cy.out W hS) _ Tryd.underlying55 rfl Ib.out (hK _ _ trivial trivial rfl (hJ.same 9 (by decide) (by decide)))
              · clear hsz
                have e1 := slot_of (a := a9) (s := 0) (v := .slice (some ⟨blk, off, none⟩) z cap) (hf 0 (by kernel_rfl))
                refine step_run (wanted_none rfl) (v := .slice (some ⟨blk, off, none⟩) z cap) (w' := W) ?_ (hK _ _ trivial trivial rfl (hJ.same 10 (by decide) (by decide)))
                go_simp
              · clear hsz
                have e1 := slot_of (a := a9) (s := 9) (v := .int .i64 (x : Int)) (hf 9 (by kernel_rfl))
                refine step_run (wanted_none rfl) (v := .int .i64 (x : Int)) (w' := W) ?_ (hK _ _ trivial trivial rfl (hJ.same 11 (by decide) (by decide)))
                go_simp
              · clear hsz
                have e1 := slot_of (a := a9) (s := 47) (v := .slice (some ⟨blk, off, none⟩) z cap) (hv 10 (by kernel_rfl))
                have e2 := slot_of (a := a9) (s := 48) (v := .int .i64 (x : Int)) (hv 11 (by kernel_rfl))
                refine step_run (wanted_none rfl) (v := .pointer (some ⟨blk, off + x * 2, none⟩)) (w' := W) ?_ (hK _ _ trivial trivial rfl (hJ.same 12 (by decide) (by decide)))
                go_simp
              · obtain hS := hJ.early (.inr rfl) hL
                refine step_load_sub (wanted_none rfl) 55 (.tmp 49) rfl blk (off + x * 2) (eval_of (hv 12 (by kernel_rfl))) ca (Cx.out W hS) _ Tryd.underlying55 rfl Ia.out (hK _ _ trivial trivial rfl (hJ.same 13 (by decide) (by decide)))
              · clear hsz
                have e1 := slot_of (a := a9) (s := 37) (v := .slice (some ⟨blk, off, none⟩) z cap) (hv 0 (by kernel_rfl))
                have e2 := slot_of (a := a9) (s := 38) (v := .int .i64 (x : Int)) (hv 1 (by kernel_rfl))
                refine step_run (wanted_none rfl) (v := .pointer (some ⟨blk, off + x * 2, none⟩)) (w' := W) ?_ (hK _ _ trivial trivial rfl (hJ.same 14 (by decide) (by decide)))
                go_simp
              · obtain hS := hJ.at1 hL (hW 9 (by kernel_rfl)) (hW 13 (by kernel_rfl))
                refine step_store_cells (wanted_none rfl) 55 (.tmp 51) (.tmp 46) rfl blk (off + x * 2) (eval_of (hv 14 (by kernel_rfl))) cb (eval_of (hv 9 (by kernel_rfl))) Ib.out _ (St1.out W hS) (hK _ _ trivial trivial trivial (ExJ.one hS (hW 9 (by kernel_rfl)) (hW 13 (by kernel_rfl)) (by decide) (hJ.no2 hL)))
              · clear hsz
                have e1 := slot_of (a := a9) (s := 39) (v := .slice (some ⟨blk, off, none⟩) z cap) (hv 2 (by kernel_rfl))
                have e2 := slot_of (a := a9) (s := 41) (v := .int .i64 (y : Int)) (hv 4 (by kernel_rfl))
                refine step_run (wanted_none rfl) (v := .pointer (some ⟨blk, off + y * 2, none⟩)) (w' := W) ?_ (hK _ _ trivial trivial rfl (hJ.same 16 (by decide) (by decide)))
                go_simp
              · obtain ⟨W1, hS, rfl⟩ := hJ.at2 hL (hW 15 (by kernel_rfl))
                refine step_store_cells (wanted_none rfl) 55 (.tmp 52) (.tmp 50) rfl blk (off + y * 2) (eval_of (hv 16 (by kernel_rfl))) ca (eval_of (hv 13 (by kernel_rfl))) Ia.out _ (St2.out W1 hS) (hK _ _ trivial trivial trivial (hJ.two (Sw.out W1 hS) (hW 15 (by kernel_rfl)) (by decide)))
            · exact .inl ⟨rfl, rfl, HS4.out.drew⟩
            · intro f wa hCa hva Da hDa hJa
              obtain ⟨aa, hJe, _⟩ := hJa
              have KJ := hidss_ (hJe.end_ (hDa 17 (by decide)))
              simp only [framed, List.foldl_cons, List.foldl_nil, List.setIfInBounds_toArray, List.set_cons_succ, List.set_cons_zero]
              clear hva hDa hJe hCa
              refine hK9 _ _ ?_
              go_wp2
              go_roundw
              case rel => exact ⟨y, r, _, by go_num, HY, KJ, hidss_ (HTW.out HTR.out)⟩
              case measure => have := HXY.out; simp [intOf]; omega
          · have tc : decide (cz < 0) = false := decide_eq_false hc
            have HTR := hidss_ tc
            go_upto_region 4 with fail
            refine region_quiet_in (C := fun W => SWK enc 2 w0 blk off dk W) (by kernel_rfl) (by kernel_rfl) HSk.out.drew ?_
            repeat (first | go_big_quiet_skip | (go_big_quiet_want; (first
              | (refine BigFrame.quiet_move _ rfl ?_; go_simp)
              | (refine quiet_run (.int .i64 (y : Int)) ?_ ?_; (focus (intro W hW; go_simp; done)); go_simp)
              | (refine quiet_run (.pointer (some ⟨blk, off + x * 2, none⟩)) ?_ ?_; (focus (intro W hW; go_simp; done)); go_simp)
              | (refine quiet_run (.pointer (some ⟨blk, off + y * 2, none⟩)) ?_ ?_; (focus (intro W hW; go_simp; done)); go_simp)
              | (refine quiet_load_subS 55 (.tmp 25) rfl blk (off + x * 2) rfl ca _ Tryd.underlying55 rfl Ia.out Cx.out ?_; go_simp)
              | (refine quiet_load_subS 55 (.tmp 30) rfl blk (off + y * 2) rfl cb _ Tryd.underlying55 rfl Ib.out Cy.out ?_; go_simp)
              | (refine quiet_call (.int .i64 cz) 21 #[.agg ca, .agg cb] ?_ CC.out ?_; (focus (intro W; go_simp; done)); go_simp)
              | (refine quiet_run (.bool true) ?_ ?_; (focus (intro W hW; go_simp; done)); go_simp)
              | (refine quiet_run (.bool false) ?_ ?_; (focus (intro W hW; go_simp; done)); go_simp)); go_big_quiet_on))
            refine wpQuiet_nil ?_
            intro w4 hw4
            have HS4 := hidss_ hw4
            clear hw4
            go_wp2
            go_roundw
            case rel => exact ⟨ii + 1, t + 1, dk, by go_num, hidss_ (by have := HI.out; omega), HS4, hidss_ (HTF.out HTR.out)⟩
            case measure => simp [intOf]; omega
    · have tb : ¬ (ii : Int) < (b : Int) := by omega
      have HE := hidss_ (insO_end HOk.out (by have := HI.out; have := HA.out; have := HBB.out; omega))
      have HZk := hidss_ HOk.out.2
      go_wp2
      go_end0
      exact ⟨rfl, dk, HSk.out, HZk.out, by rw [HE.out]; simp⟩
end
end Go.Proofs.YtkhmghmilnfngaaDoor
