/-
  The reference's net: DocSend, DocCopy.
-/
import Derived.Test.YtdkemjipbkanoaaVk
namespace Go.Proofs.Ytdkemjipbkanoaa
open Go.RowKit
set_option linter.unusedVariables false
set_option linter.unusedSimpArgs false

section
variable {w W : World} {p q s n : Nat} {Z : List (List (List UInt8))} {F : List Nat}
theorem RowS.src {A : Option Addr} {m c : Nat} {ls : List (List UInt8)} (h : RowS w F (.slice A m c) ls) : SrcS w A ls := fun h0 => by
  obtain ⟨g, e, _⟩ := h.cell 0 h0
  subst e
  refine ⟨_, rfl, fun j hj => ?_⟩
  obtain ⟨g', e', hc, _⟩ := h.cell j hj
  injection e' with e'
  injection e' with e'
  subst e'
  have e : (⟨g, 0, none⟩ : Addr).add j = ⟨g, j, none⟩ := by
    unfold Addr.add
    split <;> simp_all
  rw [e]
  exact hc
theorem RowS.src_below {A : Option Addr} {m c : Nat} {ls : List (List UInt8)} (h : RowS w F (.slice A m c) ls) (hb : Below w.heap.size w W) : SrcS W A ls := h.src.below hb fun a h0 e => by
  obtain ⟨g, e', _, hlt⟩ := h.cell 0 h0
  rw [e] at e'
  injection e' with e'
  subst e'
  exact hlt
/-- A row of the call's own takes a row's place. -/
theorem put_own (h : RefF w p q s n Z F) (j : Nat) (hj : j < 2 * n) {v : Value} (hv : w.cell? (loc q s n j) = some v) (hb : Below w.heap.size w W) {A : Option Addr} {c : Nat} {l' : List (List UInt8)} (ho : OwnS W w.heap.size (.slice A l'.length c) l') :
    (RefF (W.setCell (loc q s n j) (.slice A l'.length c)) p q s n (Z.set j l') (since F w W) ∧ Untouched F w (W.setCell (loc q s n j) (.slice A l'.length c))) ∧ W.cell? (loc q s n j) = some v ∧ W.frozen? (loc q s n j) = false := by
  refine h.put j hj hv ⟨hb.os, hb.tape, hb.output, hb.size, fun i hi _ => hb.block i hi⟩ (fun k hk => mem_since.2 (.inl hk)) (since_lt h.hF hb.size) ⟨World.ownsRow.mono ho (Nat.zero_le _), fun g hg => mem_since.2 (.inr (World.ownsRow.lt ho g hg))⟩ ?_
  cases hv : (Value.slice A l'.length c).ownBlock with
  | none => exact .inl rfl
  | some g => exact .inr (.inr ⟨g, rfl, OwnS.block ho g hv⟩)
end
/-- An act of the reference that tells an error or none. -/
def RefP (w : World) (p q s n : Nat) (Z : List (List (List UInt8))) (F : List Nat) (z : Int) (e : Ending) (w' : World) : Prop :=
  e = .returned (.int .i64 z) ∧ ∃ F', RefF w' p q s n Z F' ∧ Grew w F F' ∧ Untouched F w w'
def sendZ (Z : List (List (List UInt8))) (k : Nat) (m : List UInt8) : List (List (List UInt8)) := if 64 ≤ (Z.getD k []).length then Z else Z.set k (Z.getD k [] ++ [m])
def sendE (Z : List (List (List UInt8))) (k : Nat) : Int := if 64 ≤ (Z.getD k []).length then 10 else 0
/-- What the operations of DocSend's last line leave. -/
def SdR (p q n k : Nat) (A : Option Addr) (c : Nat) (l : List (List UInt8)) (m : List UInt8) : Nat → Value → Prop
  | 0, v => v = .pointer (some ⟨p, 0, none⟩)
  | 1, v => v = .pointer (some ⟨p, 0, none⟩)
  | 2, v => v = .pointer (some ⟨p, 0, none⟩)
  | 3, v => v = .slice (some ⟨q, 0, none⟩) n n
  | 4, v => v = .int .i64 (k : Int)
  | 6, v => v = .pointer (some ⟨p, 0, none⟩)
  | 7, v => v = .pointer (some ⟨p, 0, none⟩)
  | 8, v => v = .pointer (some ⟨p, 0, none⟩)
  | 9, v => v = .slice (some ⟨q, 0, none⟩) n n
  | 10, v => v = .int .i64 (k : Int)
  | 11, v => v = .pointer (some ⟨q, k, none⟩)
  | 12, v => v = .slice A l.length c
  | 14, v => v = .string (strOf m)
  | 17, v => v = .pointer (some ⟨q, k, none⟩)
  | _, _ => True
set_option maxRecDepth 100000 in
set_option maxHeartbeats 8000000 in
theorem rsend_yes {w : World} {p q s n : Nat} {Z : List (List (List UInt8))} {F : List Nat} (h : RefF w p q s n Z F) (k : Nat) (hk : k < n) (m : List UInt8) :
    Calls Try.prog 16 #[.pointer (some ⟨p, 0, none⟩), .int .i64 (k : Int), .string (strOf m)] w (RefP w p q s n (sendZ Z k m) F (sendE Z k)) := by
  obtain ⟨A, c, hc, hr, hcl, hcm⟩ := h.lo k hk
  have hcL : w.cell? (loc q s n k) = some (.slice A (Z.getD k []).length c) := by rw [loc_lo hk]; exact hc
  have ci := rbox_yes h k hk
  have hn := h.hn
  have hp := h.bp.cell 0
  simp only [List.getElem?_toArray, List.getElem?_cons_zero] at hp
  have HR := hidv_ h
  have HK := hidv_ hk
  unfold sendZ sendE
  generalize (Z.getD k []) = l at *
  have HRW := hidv_ hr
  have HC := hidv_ hc
  have HCL := hidv_ hcL
  by_cases h64 : 64 ≤ l.length
  · have d1 : decide (64 ≤ (l.length : Int)) = true := decide_eq_true (by omega)
    have d2 : decide (64 ≤ l.length) = true := decide_eq_true (by omega)
    rw [if_pos h64, if_pos h64]
    clear h hr h64 hcL
    go_enter Try.func16, Try.ntmps16
    go_wp2_with (go_at_call 24; ((with_reducible refine ci.mono ?_); clear ci; rintro e w' ⟨rfl, rfl⟩))
    go_ret
    exact ⟨rfl, F, HR.out, Grew.refl _ _, Untouched.refl _ _⟩
  · have d1 : decide (64 ≤ (l.length : Int)) = false := decide_eq_false (by omega)
    have d2 : decide (64 ≤ l.length) = false := decide_eq_false (by omega)
    rw [if_neg h64, if_neg h64]
    clear h hr hcL
    go_enter Try.func16, Try.ntmps16
    go_upto_region 5 with (go_at_call 24; ((with_reducible refine ci.mono ?_); clear ci; rintro e w' ⟨rfl, rfl⟩))
    clear hc hp d1 d2
    refine region_byJF [20, 21, 22, 23, 24, 25, 26, 27, 28, 29, 30, 31, 32, 33, 34, 35, 36, 37] (fun _ => True) (fun _ _ => True) (fun jj v _ => SdR p q n k A c l m jj v) (fun D a W => ApJ w (fun W => ∃ F', RefF W p q s n (Z.set k (l ++ [m])) F' ∧ Grew w F F' ∧ Untouched F w W) (fun W => Bk W p 49 #[.slice (some ⟨q, 0, none⟩) n n, .slice (some ⟨s, 0, none⟩) n n]) 5 25 13 33 15 35 16 36 18 [12] [15] l (l ++ [m]) m D a W) (by kernel_rfl) (by kernel_rfl) (by kernel_rfl) (by kernel_rfl) (fun j v w w' hT hr => ?_) (fun j v w hlt hj _ => ?_) trivial ?_ (ApJ.start ((Below.refl _ _).drew) HR.out.bp) ?_
    · exact hr
    · rcases j with _ | _ | _ | _ | _ | _ | _ | _ | _ | _ | _ | _ | _ | _ | _ | _ | _ | _ | _ | j
      all_goals first
        | (exfalso; simp [dstOf] at hj; done)
        | trivial
    · refine ⟨fun D a W hC hd hsz hf hv hJ hL hW K hK => ?_, fun D a W hC hd hsz hf hv hJ hL hW K hK => ?_, fun D a W hC hd hsz hf hv hJ hL hW K hK => ?_, fun D a W hC hd hsz hf hv hJ hL hW K hK => ?_, fun D a W hC hd hsz hf hv hJ hL hW K hK => ?_, fun D a W hC hd hsz hf hv hJ hL hW K hK => ?_, fun D a W hC hd hsz hf hv hJ hL hW K hK => ?_, fun D a W hC hd hsz hf hv hJ hL hW K hK => ?_, fun D a W hC hd hsz hf hv hJ hL hW K hK => ?_, fun D a W hC hd hsz hf hv hJ hL hW K hK => ?_, fun D a W hC hd hsz hf hv hJ hL hW K hK => ?_, fun D a W hC hd hsz hf hv hJ hL hW K hK => ?_, fun D a W hC hd hsz hf hv hJ hL hW K hK => ?_, fun D a W hC hd hsz hf hv hJ hL hW K hK => ?_, fun D a W hC hd hsz hf hv hJ hL hW K hK => ?_, fun D a W hC hd hsz hf hv hJ hL hW K hK => ?_, fun D a W hC hd hsz hf hv hJ hL hW K hK => ?_, fun D a W hC hd hsz hf hv hJ hL hW K hK => ?_, fun D a W hC hd hsz hf hv hJ hL hW K hK => ?_, trivial⟩
      · clear hsz
        have e1 := slot_of (a := a) (s := 0) (v := .pointer (some ⟨p, 0, none⟩)) (hf 0 (by kernel_rfl))
        refine step_run (wanted_none rfl) (v := .pointer (some ⟨p, 0, none⟩)) (w' := W) ?_ (hK _ _ trivial trivial rfl (hJ.same 0 _ _ (by decide) (by decide)))
        go_simp
      · clear hsz
        have e1 := slot_of (a := a) (s := 20) (v := .pointer (some ⟨p, 0, none⟩)) (hv 0 (by kernel_rfl))
        refine step_run (wanted_none rfl) (v := .pointer (some ⟨p, 0, none⟩)) (w' := W) ?_ (hK _ _ trivial trivial rfl (hJ.same 1 _ _ (by decide) (by decide)))
        go_simp
      · clear hsz
        have e1 := slot_of (a := a) (s := 21) (v := .pointer (some ⟨p, 0, none⟩)) (hv 1 (by kernel_rfl))
        refine step_run (wanted_none rfl) (v := .pointer (some ⟨p, 0, none⟩)) (w' := W) ?_ (hK _ _ trivial trivial rfl (hJ.same 2 _ _ (by decide) (by decide)))
        go_simp
      · clear hsz
        have e1 := slot_of (a := a) (s := 22) (v := .pointer (some ⟨p, 0, none⟩)) (hv 2 (by kernel_rfl))
        have hcc := hJ.pr.cell 0
        simp only [List.getElem?_toArray, List.getElem?_cons_zero] at hcc
        refine step_run (wanted_none rfl) (v := .slice (some ⟨q, 0, none⟩) n n) (w' := W) ?_ (hK _ _ trivial trivial rfl (hJ.same 3 _ _ (by decide) (by decide)))
        go_simp
      · clear hsz
        have e1 := slot_of (a := a) (s := 1) (v := .int .i64 (k : Int)) (hf 1 (by kernel_rfl))
        refine step_run (wanted_none rfl) (v := .int .i64 (k : Int)) (w' := W) ?_ (hK _ _ trivial trivial rfl (hJ.same 4 _ _ (by decide) (by decide)))
        go_simp
      · refine step_run (wanted_none rfl) (v := .slice (some ⟨W.heap.size, 0, none⟩) 0 0) (w' := W.alloc (.cells #[] 9)) ?_ (hK _ _ trivial trivial trivial (hJ.nil hL (by rw [hsz]; simp) (by decide) (by decide) (fun W2 hb hp => hp.below hb hp.lt)))
        go_simp
      · clear hsz
        have e1 := slot_of (a := a) (s := 0) (v := .pointer (some ⟨p, 0, none⟩)) (hf 0 (by kernel_rfl))
        refine step_run (wanted_none rfl) (v := .pointer (some ⟨p, 0, none⟩)) (w' := W) ?_ (hK _ _ trivial trivial rfl (hJ.same 6 _ _ (by decide) (by decide)))
        go_simp
      · clear hsz
        have e1 := slot_of (a := a) (s := 26) (v := .pointer (some ⟨p, 0, none⟩)) (hv 6 (by kernel_rfl))
        refine step_run (wanted_none rfl) (v := .pointer (some ⟨p, 0, none⟩)) (w' := W) ?_ (hK _ _ trivial trivial rfl (hJ.same 7 _ _ (by decide) (by decide)))
        go_simp
      · clear hsz
        have e1 := slot_of (a := a) (s := 27) (v := .pointer (some ⟨p, 0, none⟩)) (hv 7 (by kernel_rfl))
        refine step_run (wanted_none rfl) (v := .pointer (some ⟨p, 0, none⟩)) (w' := W) ?_ (hK _ _ trivial trivial rfl (hJ.same 8 _ _ (by decide) (by decide)))
        go_simp
      · clear hsz
        have e1 := slot_of (a := a) (s := 28) (v := .pointer (some ⟨p, 0, none⟩)) (hv 8 (by kernel_rfl))
        have hcc := hJ.pr.cell 0
        simp only [List.getElem?_toArray, List.getElem?_cons_zero] at hcc
        refine step_run (wanted_none rfl) (v := .slice (some ⟨q, 0, none⟩) n n) (w' := W) ?_ (hK _ _ trivial trivial rfl (hJ.same 9 _ _ (by decide) (by decide)))
        go_simp
      · clear hsz
        have e1 := slot_of (a := a) (s := 1) (v := .int .i64 (k : Int)) (hf 1 (by kernel_rfl))
        refine step_run (wanted_none rfl) (v := .int .i64 (k : Int)) (w' := W) ?_ (hK _ _ trivial trivial rfl (hJ.same 10 _ _ (by decide) (by decide)))
        go_simp
      · clear hsz
        have e1 := slot_of (a := a) (s := 29) (v := .slice (some ⟨q, 0, none⟩) n n) (hv 9 (by kernel_rfl))
        have e2 := slot_of (a := a) (s := 30) (v := .int .i64 (k : Int)) (hv 10 (by kernel_rfl))
        have tk : decide ((k : Int) < (n : Int)) = true := decide_eq_true (by omega)
        refine step_run (wanted_none rfl) (v := .pointer (some ⟨q, k, none⟩)) (w' := W) ?_ (hK _ _ trivial trivial rfl (hJ.same 11 _ _ (by decide) (by decide)))
        go_simp
      · clear hsz
        have e1 := slot_of (a := a) (s := 31) (v := .pointer (some ⟨q, k, none⟩)) (hv 11 (by kernel_rfl))
        have hb := hJ.bel (hJ.openF (hJ.open2 (hJ.open1d 12 (by decide) hL)))
        have hcc := (hb.cell (p := ⟨q, k, none⟩) (HR.out.hF q HR.out.hq)).trans HC.out
        refine step_run (wanted_none rfl) (v := .slice A l.length c) (w' := W) ?_ (hK _ _ trivial trivial rfl (hJ.same 12 _ _ (by decide) (by decide)))
        go_simp
      · obtain ⟨g0, e1', o0⟩ := hJ.e0 (hW 5 (by kernel_rfl)) hL
        have e1 := eval_of e1'
        have e2 := eval_of (a := a) (s := 32) (v := .slice A l.length c) (hv 12 (by kernel_rfl))
        have hb := hJ.bel (hJ.openF (hJ.open2 hL))
        obtain ⟨A2, c2, W2, hrun, k1, k2⟩ := run_app0S g0 o0 (HRW.out.src_below hb) l.length c rfl (by omega) hb.size 46
        rw [if_pos (wanted_none rfl)]
        unfold Oper.wp execOp
        simp only [resolve, invoke, builtin, Sem.run_bind, Sem.run_pure, Result.andThen_ok, List.map_toArray, List.map_cons, List.map_nil, e1, e2, hrun]
        exact hK _ _ trivial trivial trivial (hJ.app1 hL (hW 5 (by kernel_rfl)) (fun j hj => by simp only [List.mem_cons, List.not_mem_nil, or_false] at hj; subst hj; exact hW 12 (by kernel_rfl)) (by rw [hsz]; simp) (by decide) (by decide) (fun W2 hb hp => hp.below hb hp.lt) A2 c2 k1 k2)
      · clear hsz
        have e1 := slot_of (a := a) (s := 2) (v := .string (strOf m)) (hf 2 (by kernel_rfl))
        refine step_run (wanted_none rfl) (v := .string (strOf m)) (w' := W) ?_ (hK _ _ trivial trivial rfl (hJ.same 14 _ _ (by decide) (by decide)))
        go_simp
      · have HLT : Hid (35 < a.tmps.size) := by rw [hsz]; exact hidv_ (by simp)
        clear hsz
        have e1 := slot_of (a := a) (s := 34) (v := .string (strOf m)) (hv 14 (by kernel_rfl))
        refine step_run (wanted_none rfl) (v := .slice (some ⟨W.heap.size, 0, none⟩) 1 1) (w' := W.alloc (.cells #[.string (strOf m)] 9)) ?_ (hK _ _ trivial trivial trivial (hJ.one hL (by decide) HLT.out (by decide) (by decide) (fun W2 hb hp => hp.below hb hp.lt)))
        go_simp
      · obtain ⟨A1, c1, e1', o1⟩ := hJ.e1 (hW 13 (by kernel_rfl)) hL
        obtain ⟨g, e2', x2, x3, x4⟩ := hJ.ex (hW 15 (by kernel_rfl)) hL
        have e1 := eval_of e1'
        have e2 := eval_of e2'
        have hb := hJ.bel (hJ.openF hL)
        obtain ⟨A2, c2, W2, hrun, k1, k2⟩ := run_appOS o1 (A := some ⟨g, 0, none⟩) (ms := [m]) (fun _ => ⟨_, rfl, fun j hj => by obtain rfl : j = 0 := (by simpa using hj); exact x4⟩) 1 1 rfl (by omega) hb.size 46 (l ++ [m]).length (by simp)
        rw [if_pos (wanted_none rfl)]
        unfold Oper.wp execOp
        simp only [resolve, invoke, builtin, Sem.run_bind, Sem.run_pure, Result.andThen_ok, List.map_toArray, List.map_cons, List.map_nil, e1, e2, hrun]
        exact hK _ _ trivial trivial trivial (hJ.app2 hL (hW 13 (by kernel_rfl)) (fun j hj => by simp only [List.mem_cons, List.not_mem_nil, or_false] at hj; subst hj; exact hW 15 (by kernel_rfl)) (by rw [hsz]; simp) (by decide) (by decide) (fun W2 hb2 hp => hp.below hb2 HR.out.bp.lt) A2 c2 _ o1 k1 k2)
      · clear hsz
        have e1 := slot_of (a := a) (s := 23) (v := .slice (some ⟨q, 0, none⟩) n n) (hv 3 (by kernel_rfl))
        have e2 := slot_of (a := a) (s := 24) (v := .int .i64 (k : Int)) (hv 4 (by kernel_rfl))
        have tk : decide ((k : Int) < (n : Int)) = true := decide_eq_true (by omega)
        refine step_run (wanted_none rfl) (v := .pointer (some ⟨q, k, none⟩)) (w' := W) ?_ (hK _ _ trivial trivial rfl (hJ.same 17 _ _ (by decide) (by decide)))
        go_simp
      · clear hsz
        have hF := hL
        obtain ⟨A2, c2, e2', o2⟩ := hJ.e2 (hW 16 (by kernel_rfl)) hL
        have e1 := slot_of (a := a) (s := 37) (v := .pointer (some ⟨q, k, none⟩)) (hv 17 (by kernel_rfl))
        have e2 := slot_of e2'
        have hb := hJ.bel hL
        obtain ⟨⟨f1, f2⟩, hcc, hfz⟩ := put_own HR.out k (by omega) (HCL.out) hb o2
        rw [loc_lo HK.out] at f1 f2 hcc hfz
        refine step_skip (wanted_none rfl) (w' := W.setCell ⟨q, k, none⟩ (.slice A2 (l ++ [m]).length c2)) ?_ (hK undef _ trivial trivial trivial (hJ.store (hW 16 (by kernel_rfl)) (by decide) (f1.bp) ⟨_, f1, grew_since F w W, f2⟩))
        go_simp
    · intro f wz hC hv L2 hL2 hJ2
      obtain ⟨aE, hJ, hfr⟩ := hJ2
      obtain ⟨F2, f1, f2, f3⟩ := hJ.fin (hL2 18 (by decide))
      have X1 := hidv_ f1
      have X2 := hidv_ f2
      have X3 := hidv_ f3
      simp only [framed, List.foldl_cons, List.foldl_nil, List.setIfInBounds_toArray, List.set_cons_succ, List.set_cons_zero]
      clear hv hC hJ hfr hL2 f1 f2 f3
      rename_i K hK
      refine hK _ _ ?_
      go_wp2
      go_ret
      exact ⟨rfl, F2, X1.out, X2.out, X3.out⟩
end Go.Proofs.Ytdkemjipbkanoaa
