/-
  Merged: Lgq Lgr Lgs.
-/
import Derived.Test.YtdlciehboimciaaLM
import Derived.Test.YtdlciehboimciaaLE
import Derived.Test.YtdlciehboimciaaDkn
namespace Go.Proofs.Ytdlciehboimciaa
set_option maxRecDepth 100000
open Go.RowKit
set_option linter.unusedVariables false
set_option linter.unusedSimpArgs false

section
variable {b0 : Nat} {w : World} {g p q n t a0 c0 : Nat} {down : Bool} {s : DkX}
set_option maxRecDepth 100000 in
set_option maxHeartbeats 4000000 in
theorem append_full (h : LgB w g p t a0 c0 down) (hd : DkJ b0 w p q n s) (h4 : 4 ≤ n) (h9 : n ≤ 8192) (ht : t < 9223372036854775807) (hc : c0 ≤ 1000000) (m : Nat) (B : Option Addr) (cb : Nat) (hm : m ≤ 1000000) (hno : ¬ c0 + (m + 8) ≤ roomN n) :
    Calls Try.prog 14 #[.pointer (some ⟨g, 0, none⟩), .slice B m cb] w fun e w' => e = .returned (.int .i64 8) ∧ Below w.heap.size w w' := by
  have cm := lmade_yes h
  have hlt : g < w.heap.size := Bk.lt h
  obtain ⟨m8, hm8⟩ : ∃ x, m + 8 = x := ⟨_, rfl⟩
  rw [hm8] at hno
  obtain ⟨cz, hcz⟩ : ∃ x, c0 + m8 = x := ⟨_, rfl⟩
  rw [hcz] at hno
  have hw : IntKind.i64.wrap ((c0 : Int) + (m8 : Int)) = (cz : Int) := by rw [IntWalk.i64_in _ (by omega)]; omega
  have Q3 := hidg_ (fun W (hW : Below w.heap.size w W) => (h.at_ (hW.block g hlt)).cells.2.2.2.1)
  have QZ := hidg_ (fun W (hW : Below w.heap.size w W) => (lsize_any B m cb hm W).mono fun e w' hh => (show e = .returned (.int .i64 (m8 : Int)) ∧ Below w.heap.size w w' from ⟨by rw [← hm8]; exact hh.1, hh.2 ▸ hW⟩))
  have QH := hidg_ (fun W (hW : Below w.heap.size w W) => (hasRoom_any (h.at_ (hW.block g hlt)) (DkI.below hd hW) h4 h9 ht cz).mono fun e w' hh => (show e = .returned (.bool false) ∧ Below w.heap.size w w' from ⟨by rw [decide_eq_false hno] at hh; exact hh.1, hh.2 ▸ hW⟩))
  clear h hd hm hno hm8 hcz ht hc
  go_enter Try.func14, Try.ntmps14
  go_upto_region 3 with (go_at_call 35; ((with_reducible refine cm.mono ?_); clear cm; rintro e w' ⟨rfl, rfl⟩))
  refine region_quiet_in (C := fun W => Below w.heap.size w W) (by kernel_rfl) (by kernel_rfl) ((Below.refl _ _).drew) ?_
  (go_big_quiet_want; (refine BigFrame.quiet_move _ rfl ?_; go_simp); go_big_quiet_on)
  (go_big_quiet_want; (refine BigFrame.quiet_move _ rfl ?_; go_simp); go_big_quiet_on)
  (go_big_quiet_want; (refine quiet_run (.pointer (some ⟨g, 0, none⟩)) ?_ ?_; (focus (intro W hW; go_simp; done)); go_simp); go_big_quiet_on)
  (go_big_quiet_want; (refine quiet_run (.pointer (some ⟨g, 1, none⟩)) ?_ ?_; (focus (intro W hW; go_simp; done)); go_simp); go_big_quiet_on)
  (go_big_quiet_want; (refine quiet_run (.pointer (some ⟨g, 3, none⟩)) ?_ ?_; (focus (intro W hW; go_simp; done)); go_simp); go_big_quiet_on)
  (go_big_quiet_want; (refine quiet_run (.int .i64 (c0 : Int)) ?_ ?_; (focus (intro W hW; have h := Q3.out W hW; go_simp; done)); go_simp); go_big_quiet_on)
  (go_big_quiet_want; (refine BigFrame.quiet_move _ rfl ?_; go_simp); go_big_quiet_on)
  (go_big_quiet_want; (refine quiet_call (.int .i64 (m8 : Int)) 33 #[.slice B m cb] ?_ QZ.out ?_; (focus (intro W; go_simp; done)); go_simp); go_big_quiet_on)
  (go_big_quiet_want; (refine quiet_run (.int .i64 (cz : Int)) ?_ ?_; (focus (intro W hW; go_simp; done)); go_simp); go_big_quiet_on)
  (go_big_quiet_want; (refine quiet_call (.bool false) 31 #[.pointer (some ⟨g, 0, none⟩), .int .i64 (cz : Int)] ?_ QH.out ?_; (focus (intro W; go_simp; done)); go_simp); go_big_quiet_on)
  (go_big_quiet_want; (refine quiet_run (.bool true) ?_ ?_; (focus (intro W hW; go_simp; done)); go_simp); go_big_quiet_on)
  refine wpQuiet_nil ?_
  intro w2 hw2
  have h2 : Below w.heap.size w w2 := hw2
  clear hw2 Q3 QZ QH
  go_wp2
  go_ret
  exact ⟨rfl, h2⟩
end
end Go.Proofs.Ytdlciehboimciaa

namespace Go.Proofs.Ytdlciehboimciaa
set_option maxRecDepth 100000
open Go.RowKit
set_option linter.unusedVariables false
set_option linter.unusedSimpArgs false

def dpsA : Nat → List Nat
  | 2 => [1]
  | 3 => [2]
  | 4 => [3]
  | 5 => [4]
  | 7 => [6]
  | 8 => [7]
  | 9 => [8]
  | 10 => [9]
  | 12 => [11]
  | 13 => [0, 5, 10, 12]
  | 14 => [13]
  | _ => []
def ApR (g a0 c0 m m8 base cb : Nat) (B : Option Addr) (r : List UInt8) (y : DkX) : Nat → Value → World → Prop
  | 0, v, _ => v = .pointer (some ⟨g, 0, none⟩)
  | 1, v, _ => v = .pointer (some ⟨g, 0, none⟩)
  | 2, v, _ => v = .pointer (some ⟨g, 0, none⟩)
  | 3, v, _ => v = .pointer (some ⟨g, 1, none⟩)
  | 4, v, _ => v = .pointer (some ⟨g, 2, none⟩)
  | 5, v, _ => v = .int .i64 (a0 : Int)
  | 6, v, _ => v = .pointer (some ⟨g, 0, none⟩)
  | 7, v, _ => v = .pointer (some ⟨g, 0, none⟩)
  | 8, v, _ => v = .pointer (some ⟨g, 1, none⟩)
  | 9, v, _ => v = .pointer (some ⟨g, 3, none⟩)
  | 10, v, _ => v = .int .i64 (c0 : Int)
  | 11, v, _ => v = .slice B m cb
  | 12, v, w => ∃ A2 c2, v = .slice A2 m8 c2 ∧ Own8 w base (.slice A2 m8 c2) (recB r)
  | 13, v, _ => v = .int .i64 (erX y)
  | 14, v, _ => v = .int .i64 (erX y)
  | _, _, _ => True
theorem ApR.keep {g a0 c0 m m8 base cb : Nat} {B : Option Addr} {r : List UInt8} {y : DkX} {j : Nat} {v : Value} {W W' : World} (hT : ∀ v, Own8 W base v (recB r) → Own8 W' base v (recB r)) (hh : ApR g a0 c0 m m8 base cb B r y j v W) : ApR g a0 c0 m m8 base cb B r y j v W' := by
  unfold ApR at hh ⊢
  split at hh <;> first
    | (obtain ⟨A2, c2, e, hF⟩ := hh; exact ⟨A2, c2, e, hT _ hF⟩)
    | exact hh
    | trivial
section
variable {b0 : Nat} {w : World} {g p q n t a0 c0 : Nat} {s : DkX}
set_option maxRecDepth 100000 in
set_option maxHeartbeats 8000000 in
theorem append_yes (h : LgB w g p t a0 c0 false) (hd : DkJ b0 w p q n s) (hb0 : b0 ≤ w.heap.size) (hgb : b0 ≤ g) (h4 : 4 ≤ n) (h9 : n ≤ 8192) (ht : t < 9223372036854775807) (ha : a0 ≤ 1) (r : List UInt8) (m : Nat) (B : Option Addr) (cb : Nat) (hrm : r.length = m) (hr : Rd w w.heap.size B r) (hyes : c0 + (m + 8) ≤ roomN n) (y0 : DkX) (hR : y0.R.length + 1 ≤ 1000000)
    (cf : ∀ W A c, Below w.heap.size w W → Own8 W w.heap.size (.slice A (m + 8) c) (recB r) → Calls Try.prog 56 #[.pointer (some ⟨g, 0, none⟩), .int .i64 (a0 : Int), .int .i64 (c0 : Int), .slice A (m + 8) c] W (FilP b0 W g p q n t a0 c0 y0)) :
    Calls Try.prog 14 #[.pointer (some ⟨g, 0, none⟩), .slice B m cb] w (WrtP b0 w g p q n t a0 c0 y0 a0 (c0 + (m + 8))) := by
  have cm := lmade_yes h
  have hlt : g < w.heap.size := Bk.lt h
  have hrb : roomN n ≤ 1000000 := by unfold roomN secsA; omega
  have hm : m ≤ 1000000 := by omega
  obtain ⟨m8, hm8⟩ : ∃ x, m + 8 = x := ⟨_, rfl⟩
  have HM8 := hidg_ hm8
  rw [hm8] at hyes cf ⊢
  obtain ⟨cz, hcz⟩ : ∃ x, c0 + m8 = x := ⟨_, rfl⟩
  have HCZ := hidg_ hcz
  have HC := hidg_ (show c0 + m8 ≤ 1000000 by omega)
  rw [hcz] at hyes
  have hw : IntKind.i64.wrap ((c0 : Int) + (m8 : Int)) = (cz : Int) := by rw [IntWalk.i64_in _ (by omega)]; omega
  have Q3 := hidg_ (fun W (hW : Below w.heap.size w W) => (h.at_ (hW.block g hlt)).cells.2.2.2.1)
  have QZ := hidg_ (fun W (hW : Below w.heap.size w W) => (lsize_any B m cb hm W).mono fun e w' hh => (show e = .returned (.int .i64 (m8 : Int)) ∧ Below w.heap.size w w' from ⟨by rw [← hm8]; exact hh.1, hh.2 ▸ hW⟩))
  have QH := hidg_ (fun W (hW : Below w.heap.size w W) => (hasRoom_any (h.at_ (hW.block g hlt)) (DkI.below hd hW) h4 h9 ht cz).mono fun e w' hh => (show e = .returned (.bool true) ∧ Below w.heap.size w w' from ⟨by rw [decide_eq_true hyes] at hh; exact hh.1, hh.2 ▸ hW⟩))
  have H := hidg_ h
  have HB0 := hidg_ hb0
  have HGB := hidg_ hgb
  have HT := hidg_ ht
  have HA := hidg_ ha
  have HR := hidg_ hR
  have HM := hidg_ hrm
  have HM6 := hidg_ hm
  have RD0 := hidg_ hr
  have HN2 := hidg_ (show 2 ≤ n by omega)
  have CF0 := hidg_ cf
  obtain ⟨y, hy⟩ : ∃ y, tellX y0 t a0 cz = y := ⟨_, rfl⟩
  have HY := hidg_ hy
  clear h hd hm hyes hm8 hcz ht hb0 hgb ha hR hrm hr cf hy hrb h4
  go_enter Try.func14, Try.ntmps14
  go_upto_region 3 with (go_at_call 35; ((with_reducible refine cm.mono ?_); clear cm; rintro e w' ⟨rfl, rfl⟩))
  refine region_quiet_in (C := fun W => Below w.heap.size w W) (by kernel_rfl) (by kernel_rfl) ((Below.refl _ _).drew) ?_
  (go_big_quiet_want; (refine BigFrame.quiet_move _ rfl ?_; go_simp); go_big_quiet_on)
  (go_big_quiet_want; (refine BigFrame.quiet_move _ rfl ?_; go_simp); go_big_quiet_on)
  (go_big_quiet_want; (refine quiet_run (.pointer (some ⟨g, 0, none⟩)) ?_ ?_; (focus (intro W hW; go_simp; done)); go_simp); go_big_quiet_on)
  (go_big_quiet_want; (refine quiet_run (.pointer (some ⟨g, 1, none⟩)) ?_ ?_; (focus (intro W hW; go_simp; done)); go_simp); go_big_quiet_on)
  (go_big_quiet_want; (refine quiet_run (.pointer (some ⟨g, 3, none⟩)) ?_ ?_; (focus (intro W hW; go_simp; done)); go_simp); go_big_quiet_on)
  (go_big_quiet_want; (refine quiet_run (.int .i64 (c0 : Int)) ?_ ?_; (focus (intro W hW; have h := Q3.out W hW; go_simp; done)); go_simp); go_big_quiet_on)
  (go_big_quiet_want; (refine BigFrame.quiet_move _ rfl ?_; go_simp); go_big_quiet_on)
  (go_big_quiet_want; (refine quiet_call (.int .i64 (m8 : Int)) 33 #[.slice B m cb] ?_ QZ.out ?_; (focus (intro W; go_simp; done)); go_simp); go_big_quiet_on)
  (go_big_quiet_want; (refine quiet_run (.int .i64 (cz : Int)) ?_ ?_; (focus (intro W hW; go_simp; done)); go_simp); go_big_quiet_on)
  (go_big_quiet_want; (refine quiet_call (.bool true) 31 #[.pointer (some ⟨g, 0, none⟩), .int .i64 (cz : Int)] ?_ QH.out ?_; (focus (intro W; go_simp; done)); go_simp); go_big_quiet_on)
  (go_big_quiet_want; (refine quiet_run (.bool false) ?_ ?_; (focus (intro W hW; go_simp; done)); go_simp); go_big_quiet_on)
  refine wpQuiet_nil ?_
  intro w2 hw2
  have X2 := hidg_ (show Below w.heap.size w w2 from hw2)
  clear hw2 Q3 QZ QH
  have L2 := hidg_ (H.out.below X2.out)
  have RD := hidg_ ((RD0.out.below X2.out).more X2.out.size)
  have HB2 := hidg_ (Nat.le_trans HB0.out X2.out.size)
  have CF := hidg_ (fun W A c (hW : Below w2.heap.size w2 W) (hO : Own8 W w2.heap.size (.slice A m8 c) (recB r)) => CF0.out W A c (X2.out.trans (hW.mono X2.out.size)) (World.ownsRow.mono hO X2.out.size))
  clear CF0 RD0 H
  go_upto_region 5 with fail
  rename_i K9 hK9
  refine region_byJF [19, 20, 21, 22, 23, 24, 25, 26, 27, 28, 29, 30, 31, 32, 4] (fun _ => True) (fun W W2 => ∀ v, Own8 W w2.heap.size v (recB r) → Own8 W2 w2.heap.size v (recB r)) (ApR g a0 c0 m m8 w2.heap.size cb B r y) (fun D a9 W => PhJ dpsA 13 (fun W => Below w2.heap.size w2 W) (fun W => DkJ b0 W p q n y ∧ (if y.off = true then LgB W g p t a0 c0 true else LgB W g p (t + 1) a0 cz false) ∧ Below b0 w2 W ∧ UnT lgT w2 W) D a9 W) (by kernel_rfl) (by kernel_rfl) (by kernel_rfl) (by kernel_rfl) (fun j v w w' hT hr => ?_) (fun j v w hlt hj _ => ?_) trivial ?_ (PhJ.start ((Below.refl _ _).drew)) ?_
  · exact ApR.keep hT hr
  · rcases j with _ | _ | _ | _ | _ | _ | _ | _ | _ | _ | _ | _ | _ | _ | _ | j
    all_goals first
      | (exfalso; simp [dstOf] at hj; done)
      | trivial
  · refine ⟨fun D a9 W hC hd hsz hf hv hJ hL hW K hK => ?_, fun D a9 W hC hd hsz hf hv hJ hL hW K hK => ?_, fun D a9 W hC hd hsz hf hv hJ hL hW K hK => ?_, fun D a9 W hC hd hsz hf hv hJ hL hW K hK => ?_, fun D a9 W hC hd hsz hf hv hJ hL hW K hK => ?_, fun D a9 W hC hd hsz hf hv hJ hL hW K hK => ?_, fun D a9 W hC hd hsz hf hv hJ hL hW K hK => ?_, fun D a9 W hC hd hsz hf hv hJ hL hW K hK => ?_, fun D a9 W hC hd hsz hf hv hJ hL hW K hK => ?_, fun D a9 W hC hd hsz hf hv hJ hL hW K hK => ?_, fun D a9 W hC hd hsz hf hv hJ hL hW K hK => ?_, fun D a9 W hC hd hsz hf hv hJ hL hW K hK => ?_, fun D a9 W hC hd hsz hf hv hJ hL hW K hK => ?_, fun D a9 W hC hd hsz hf hv hJ hL hW K hK => ?_, fun D a9 W hC hd hsz hf hv hJ hL hW K hK => ?_, trivial⟩
    · clear hsz
      have e1 := slot_of (a := a9) (s := 0) (v := .pointer (some ⟨g, 0, none⟩)) (hf 0 (by kernel_rfl))
      refine step_run (wanted_none rfl) (v := .pointer (some ⟨g, 0, none⟩)) (w' := W) ?_ (hK _ _ trivial (fun v hh => hh) rfl (hJ.same 0 (by decide) ls0))
      go_simp
    · clear hsz
      have e1 := slot_of (a := a9) (s := 0) (v := .pointer (some ⟨g, 0, none⟩)) (hf 0 (by kernel_rfl))
      refine step_run (wanted_none rfl) (v := .pointer (some ⟨g, 0, none⟩)) (w' := W) ?_ (hK _ _ trivial (fun v hh => hh) rfl (hJ.same 1 (by decide) ls0))
      go_simp
    · clear hsz
      have e1 := slot_of (a := a9) (s := 20) (v := .pointer (some ⟨g, 0, none⟩)) (hv 1 (by kernel_rfl))
      refine step_run (wanted_none rfl) (v := .pointer (some ⟨g, 0, none⟩)) (w' := W) ?_ (hK _ _ trivial (fun v hh => hh) rfl (hJ.same 2 (by decide) (ls1 (hW 1 (by kernel_rfl)))))
      go_simp
    · clear hsz
      have e1 := slot_of (a := a9) (s := 21) (v := .pointer (some ⟨g, 0, none⟩)) (hv 2 (by kernel_rfl))
      refine step_run (wanted_none rfl) (v := .pointer (some ⟨g, 1, none⟩)) (w' := W) ?_ (hK _ _ trivial (fun v hh => hh) rfl (hJ.same 3 (by decide) (ls1 (hW 2 (by kernel_rfl)))))
      go_simp
    · clear hsz
      have e1 := slot_of (a := a9) (s := 22) (v := .pointer (some ⟨g, 1, none⟩)) (hv 3 (by kernel_rfl))
      refine step_run (wanted_none rfl) (v := .pointer (some ⟨g, 2, none⟩)) (w' := W) ?_ (hK _ _ trivial (fun v hh => hh) rfl (hJ.same 4 (by decide) (ls1 (hW 3 (by kernel_rfl)))))
      go_simp
    · clear hsz
      have e1 := slot_of (a := a9) (s := 23) (v := .pointer (some ⟨g, 2, none⟩)) (hv 4 (by kernel_rfl))
      have hOld := hJ.get 5 [13] rfl rfl hL
      obtain ⟨_, _, k2, k3, _⟩ := (L2.out.below hOld).cells
      refine step_run (wanted_none rfl) (v := .int .i64 (a0 : Int)) (w' := W) ?_ (hK _ _ trivial (fun v hh => hh) rfl (hJ.same 5 (by decide) (ls1 (hW 4 (by kernel_rfl)))))
      go_simp
    · clear hsz
      have e1 := slot_of (a := a9) (s := 0) (v := .pointer (some ⟨g, 0, none⟩)) (hf 0 (by kernel_rfl))
      refine step_run (wanted_none rfl) (v := .pointer (some ⟨g, 0, none⟩)) (w' := W) ?_ (hK _ _ trivial (fun v hh => hh) rfl (hJ.same 6 (by decide) ls0))
      go_simp
    · clear hsz
      have e1 := slot_of (a := a9) (s := 25) (v := .pointer (some ⟨g, 0, none⟩)) (hv 6 (by kernel_rfl))
      refine step_run (wanted_none rfl) (v := .pointer (some ⟨g, 0, none⟩)) (w' := W) ?_ (hK _ _ trivial (fun v hh => hh) rfl (hJ.same 7 (by decide) (ls1 (hW 6 (by kernel_rfl)))))
      go_simp
    · clear hsz
      have e1 := slot_of (a := a9) (s := 26) (v := .pointer (some ⟨g, 0, none⟩)) (hv 7 (by kernel_rfl))
      refine step_run (wanted_none rfl) (v := .pointer (some ⟨g, 1, none⟩)) (w' := W) ?_ (hK _ _ trivial (fun v hh => hh) rfl (hJ.same 8 (by decide) (ls1 (hW 7 (by kernel_rfl)))))
      go_simp
    · clear hsz
      have e1 := slot_of (a := a9) (s := 27) (v := .pointer (some ⟨g, 1, none⟩)) (hv 8 (by kernel_rfl))
      refine step_run (wanted_none rfl) (v := .pointer (some ⟨g, 3, none⟩)) (w' := W) ?_ (hK _ _ trivial (fun v hh => hh) rfl (hJ.same 9 (by decide) (ls1 (hW 8 (by kernel_rfl)))))
      go_simp
    · clear hsz
      have e1 := slot_of (a := a9) (s := 28) (v := .pointer (some ⟨g, 3, none⟩)) (hv 9 (by kernel_rfl))
      have hOld := hJ.get 10 [13] rfl rfl hL
      obtain ⟨_, _, k2, k3, _⟩ := (L2.out.below hOld).cells
      refine step_run (wanted_none rfl) (v := .int .i64 (c0 : Int)) (w' := W) ?_ (hK _ _ trivial (fun v hh => hh) rfl (hJ.same 10 (by decide) (ls1 (hW 9 (by kernel_rfl)))))
      go_simp
    · clear hsz
      have e1 := slot_of (a := a9) (s := 1) (v := .slice B m cb) (hf 1 (by kernel_rfl))
      refine step_run (wanted_none rfl) (v := .slice B m cb) (w' := W) ?_ (hK _ _ trivial (fun v hh => hh) rfl (hJ.same 11 (by decide) ls0))
      go_simp
    · clear hsz
      have e1 := slot_of (a := a9) (s := 30) (v := .slice B m cb) (hv 11 (by kernel_rfl))
      have hOld := hJ.get 12 [13] rfl rfl hL
      have hF := way_down hJ.cl [13] 12 13 rfl rfl hL
      have cc := recBytes_any B m cb r W HM.out ((RD.out.below hOld).more hOld.size) HM6.out
      rw [HM8.out] at cc
      refine step_callx 37 #[.slice B m cb] (wanted_none rfl) (w' := W) ?_ (cc.mono fun e W2 hh => ?_)
      · go_simp
      · obtain ⟨A2, c2, rfl, hO2, hB2⟩ := hh
        exact ⟨_, rfl, hK _ _ trivial (fun v hh => hh.below hB2 (Nat.le_refl _)) ⟨A2, c2, rfl, World.ownsRow.mono hO2 hOld.size⟩ (hJ.turn 12 (by decide) (ls1 (hW 11 (by kernel_rfl))) hF (hOld.trans (hB2.mono hOld.size)))⟩
    · clear hsz
      obtain ⟨A2, c2, e0, hO⟩ := hv 12 (by kernel_rfl)
      have e1 := slot_of (a := a9) (s := 19) (v := .pointer (some ⟨g, 0, none⟩)) (hv 0 (by kernel_rfl))
      have e2 := slot_of (a := a9) (s := 24) (v := .int .i64 (a0 : Int)) (hv 5 (by kernel_rfl))
      have e3 := slot_of (a := a9) (s := 29) (v := .int .i64 (c0 : Int)) (hv 10 (by kernel_rfl))
      have e4 := slot_of (a := a9) (s := 31) (v := .slice A2 m8 c2) e0
      have hOld := hJ.old hL
      have cw := write_any (L2.out.below hOld) (Nat.le_trans HB2.out hOld.size) HGB.out HT.out HN2.out a0 c0 m8 A2 c2 HA.out HC.out y0 HR.out (CF.out W A2 c2 hOld hO)
      rw [HCZ.out] at cw
      unfold WrtP at cw
      rw [HY.out] at cw
      refine step_callx 38 #[.pointer (some ⟨g, 0, none⟩), .int .i64 (a0 : Int), .int .i64 (c0 : Int), .slice A2 m8 c2] (wanted_none rfl) (w' := W) ?_ (cw.mono fun e W2 hh => ?_)
      · go_simp
      · obtain ⟨rfl, hD, hL9, hB, hU⟩ := hh
        exact ⟨_, rfl, hK _ _ trivial (fun v hh => ownsRow_unt hh hU (by decide)) rfl (hJ.store (fun j hj => by simp only [dpsA, List.mem_cons, List.not_mem_nil, or_false] at hj; rcases hj with rfl | rfl | rfl | rfl; exact hW 0 (by kernel_rfl); exact hW 5 (by kernel_rfl); exact hW 10 (by kernel_rfl); exact hW 12 (by kernel_rfl)) ⟨hD, hL9, (hOld.mono HB2.out).trans hB, (UnT.of_below hOld).trans hU⟩)⟩
    · clear hsz
      have e1 := slot_of (a := a9) (s := 32) (v := .int .i64 (erX y)) (hv 13 (by kernel_rfl))
      refine step_run (wanted_none rfl) (v := .int .i64 (erX y)) (w' := W) ?_ (hK _ _ trivial (fun v hh => hh) rfl (hJ.same 14 (by decide) (ls1 (hW 13 (by kernel_rfl)))))
      go_simp
  · intro f w5 hC5 hv5 D5 hD5 hJ5
    obtain ⟨aE, hJ, _⟩ := hJ5
    obtain ⟨hD, hL9, hB, hU⟩ := hJ.fin (hD5 13 (by decide))
    have e4 : f 4 = .int .i64 (erX y) := hv5 14 (by decide)
    simp only [framed, List.foldl_cons, List.foldl_nil, List.setIfInBounds_toArray, List.set_cons_succ, List.set_cons_zero]
    rw [e4]
    have HDD := hidg_ hD
    have HLL := hidg_ hL9
    have HBB := hidg_ hB
    have HUU := hidg_ hU
    clear hv5 hD5 hJ hD hL9 hB hU e4
    refine hK9 _ _ ?_
    go_wp2
    go_ret
    unfold WrtP
    rw [HCZ.out, HY.out]
    exact ⟨rfl, HDD.out, HLL.out, (X2.out.mono HB0.out).trans HBB.out, (UnT.of_below X2.out).trans HUU.out⟩
end
end Go.Proofs.Ytdlciehboimciaa

namespace Go.Proofs.Ytdlciehboimciaa
set_option maxRecDepth 100000
open Go.RowKit
set_option linter.unusedVariables false
set_option linter.unusedSimpArgs false

section
variable {b0 : Nat} {w : World} {g p q n t a0 c0 : Nat} {s : DkX}
set_option maxRecDepth 100000 in
set_option maxHeartbeats 8000000 in
theorem replace_yes (h : LgB w g p t a0 c0 false) (hd : DkJ b0 w p q n s) (hb0 : b0 ≤ w.heap.size) (hgb : b0 ≤ g) (h4 : 4 ≤ n) (h9 : n ≤ 8192) (ht : t < 9223372036854775807) (a1 : Nat) (ha : a0 + a1 = 1) (L : List (List UInt8)) (k : Nat) (A : Option Addr) (c : Nat) (hk : L.length = k) (hP : PtA w A L) (N : Nat) (hN : (allB L).length = N) (hyes : N ≤ roomN n) (y0 : DkX) (hR : y0.R.length + 1 ≤ 1000000)
    (cf : ∀ W A' c', Below w.heap.size w W → Own8 W w.heap.size (.slice A' N c') (allB L) → Calls Try.prog 56 #[.pointer (some ⟨g, 0, none⟩), .int .i64 (a1 : Int), .int .i64 ((0 : Nat) : Int), .slice A' N c'] W (FilP b0 W g p q n t a0 c0 y0)) :
    Calls Try.prog 11 #[.pointer (some ⟨g, 0, none⟩), .slice A k c] w (WrtP b0 w g p q n t a0 c0 y0 a1 (0 + N)) := by
  have cm := lmade_yes h
  have hrb : roomN n ≤ 1000000 := by unfold roomN secsA; omega
  have cz := sizeOf_any w A k c L hk hP (by omega)
  rw [hN] at cz
  have ch := hasRoom_any h hd h4 h9 ht N
  rw [decide_eq_true hyes] at ch
  have hw : IntKind.i64.wrap (1 - (a0 : Int)) = (a1 : Int) := by rw [IntWalk.i64_in _ (by omega)]; omega
  have H := hidg_ h
  have HB0 := hidg_ hb0
  have HGB := hidg_ hgb
  have HT := hidg_ ht
  have HA := hidg_ (show a1 ≤ 1 by omega)
  have HR := hidg_ hR
  have HK := hidg_ hk
  have HP := hidg_ hP
  have HN := hidg_ hN
  have HN6 := hidg_ (show N ≤ 1000000 by omega)
  have HNN := hidg_ (show 2 ≤ n by omega)
  have HK6 := hidg_ (show k ≤ 1000000 by have := (allB_len L).1; omega)
  have CF := hidg_ cf
  clear h hd hb0 hgb h4 ht ha hk hP hN hyes hR cf hrb
  go_enter Try.func11, Try.ntmps11
  go_wp2_with (first
    | (go_at_call 35; ((with_reducible refine cm.mono ?_); clear cm; rintro e w' ⟨rfl, rfl⟩))
    | (go_at_call 36; ((with_reducible refine cz.mono ?_); clear cz; rintro e w' ⟨rfl, rfl⟩))
    | (go_at_call 31; ((with_reducible refine ch.mono ?_); clear ch; rintro e w' ⟨rfl, rfl⟩)))
  go_loopw [5, 18] (fun v i wr => ∃ (j nl : Nat) (A' : Option Addr) (c' : Nat), j ≤ k ∧ i = .int .i64 j ∧ v = .slice A' nl c' ∧ Hid ((allB (L.take j)).length = nl) ∧ Hid (Own8 wr w.heap.size (.slice A' nl c') (allB (L.take j))) ∧ Hid (Below w.heap.size w wr)) (fun _ i _ => k - (intOf i).toNat)
  case atStart => exact ⟨0, 0, none, 0, Nat.zero_le _, rfl, rfl, hidg_ (by simp [allB]), hidg_ (Own8.nil_ _ _), hidg_ (Below.refl _ _)⟩
  case round =>
    obtain ⟨j, nl, A', c', hj, rfl, rfl, HNL, HV, HBW⟩ := hrel
    by_cases hlt : j < k
    · have hjL : j < L.length := by rw [HK.out]; exact hlt
      obtain ⟨b, off, a, c2, rfl, hcell, hrd, hbl⟩ := (HP.out.below HBW.out) j hjL
      have ht := allB_take_ L j hjL
      have hle := allB_le L (j + 1)
      have HTK := hidg_ ht
      have htl := congrArg List.length ht
      rw [List.length_append, recB_len] at htl
      generalize hr : L.getD j [] = r at *
      obtain ⟨m, hm⟩ : ∃ m, r.length = m := ⟨_, rfl⟩
      rw [hm] at hcell htl
      have HM := hidg_ hm
      have HL2 := hidg_ (show nl + (m + 8) ≤ 1000000 ∧ (allB (L.take (j + 1))).length = nl + (m + 8) by have := HN.out; have := HN6.out; have := HNL.out; omega)
      have cb := recBytes_any a m c2 r wr hm hrd (by have := HL2.out.1; omega)
      have hk6 : k ≤ 1000000 := HK6.out
      have t0 : (0 : Int) ≤ (j : Int) := by omega
      have tn : (j : Int) < (k : Int) := by omega
      have d1 : decide ((j : Int) < (k : Int)) = true := decide_eq_true tn
      obtain ⟨m8, hm8⟩ : ∃ x, m + 8 = x := ⟨_, rfl⟩
      rw [hm8] at cb HL2
      have HM8 := hidg_ (show (recB r).length = m8 by rw [recB_len, HM.out, hm8])
      clear ht hle htl hrd hm hm8 hr hjL hbl
      go_wp2_with (first
        | (go_at_call 37; ((with_reducible refine cb.mono ?_); clear cb; rintro e w5 ⟨A5, c5, rfl, hO5, hB5⟩; have O5 := hidg_ hO5; have B5 := hidg_ hB5; clear hO5 hB5))
        | (at_builtin; go_loud (refine wpList_appN rfl (.tmp 22) (.tmp 24) rfl (HV.out.below B5.out (Nat.le_refl _)) rfl m8 c5 rfl O5.out.rd.1 HM8.out nl HNL.out (by have := HL2.out.1; omega) (Nat.le_trans HBW.out.size B5.out.size) ?_); intro A6 c6 w6 k1 k2; have K1 := hidg_ k1; have K2 := hidg_ ((HBW.out.trans (B5.out.mono HBW.out.size)).grown k2 (Nat.le_trans HBW.out.size B5.out.size) (fun g e => (HV.out.lt g e).1)); clear k1 k2))
      go_roundw
      case rel => exact ⟨j + 1, nl + m8, A6, c6, by omega, by go_num, rfl, hidg_ HL2.out.2, hidg_ (by rw [HTK.out]; exact K1.out), K2⟩
      case measure => simp [intOf]; omega
    · obtain rfl : j = k := by omega
      have d1 : decide ((j : Int) < (j : Int)) = false := decide_eq_false (by omega)
      have HTT := hidg_ (show L.take j = L from List.take_of_length_le (by rw [HK.out]; omega))
      rw [HTT.out] at HV HNL
      obtain rfl : nl = N := by rw [← HNL.out, HN.out]
      have hL := H.out.below HBW.out
      obtain ⟨_, _, k2, _, _⟩ := hL.cells
      have cw := write_any hL (Nat.le_trans HB0.out HBW.out.size) HGB.out HT.out HNN.out a1 0 nl A' c' HA.out (by have := HN6.out; omega) y0 HR.out (CF.out wr A' c' HBW.out HV.out)
      rw [show ((0 : Nat) : Int) = 0 from rfl, Nat.zero_add] at cw
      clear hL
      go_wp2_with (go_at_call 38; ((with_reducible refine cw.mono ?_); clear cw; rintro e w6 ⟨rfl, hD, hL9, hB, hU⟩; have HDD := hidg_ hD; have HLL := hidg_ hL9; have HBB := hidg_ hB; have HUU := hidg_ hU; clear hD hL9 hB hU))
      go_ret
      rw [Nat.zero_add]
      exact ⟨rfl, HDD.out, HLL.out, (HBW.out.mono HB0.out).trans HBB.out, (UnT.of_below HBW.out).trans HUU.out⟩
set_option maxRecDepth 100000 in
set_option maxHeartbeats 2000000 in
theorem replace_full {down : Bool} (h : LgB w g p t a0 c0 down) (hd : DkJ b0 w p q n s) (h4 : 4 ≤ n) (h9 : n ≤ 8192) (ht : t < 9223372036854775807) (L : List (List UInt8)) (k : Nat) (A : Option Addr) (c : Nat) (hk : L.length = k) (hP : PtA w A L) (hN : (allB L).length ≤ 1000000) (hno : ¬ (allB L).length ≤ roomN n) :
    Calls Try.prog 11 #[.pointer (some ⟨g, 0, none⟩), .slice A k c] w fun e w' => e = .returned (.int .i64 8) ∧ w = w' := by
  have cm := lmade_yes h
  have cz := sizeOf_any w A k c L hk hP hN
  have ch := hasRoom_any h hd h4 h9 ht (allB L).length
  rw [decide_eq_false hno] at ch
  generalize (allB L).length = N at cz ch
  clear h hd h4 ht hk hP hN hno
  go_enter Try.func11, Try.ntmps11
  go_wp2_with (first
    | (go_at_call 35; ((with_reducible refine cm.mono ?_); clear cm; rintro e w' ⟨rfl, rfl⟩))
    | (go_at_call 36; ((with_reducible refine cz.mono ?_); clear cz; rintro e w' ⟨rfl, rfl⟩))
    | (go_at_call 31; ((with_reducible refine ch.mono ?_); clear ch; rintro e w' ⟨rfl, rfl⟩)))
  go_ret
  exact ⟨rfl, rfl⟩
end
end Go.Proofs.Ytdlciehboimciaa
