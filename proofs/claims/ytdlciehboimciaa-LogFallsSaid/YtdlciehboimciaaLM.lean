/-
  Merged: Lgl Lgm Lgo Lgp.
-/
import Derived.Test.YtdlciehboimciaaLgi
import Derived.Test.YtdlciehboimciaaLA
import Derived.Test.YtdlciehboimciaaLgh
namespace Go.Proofs.Ytdlciehboimciaa
set_option maxRecDepth 100000
open Go.RowKit
set_option linter.unusedVariables false
set_option linter.unusedSimpArgs false

/-- A disk, by value: what was synced, what was written since, its fuse, whether it is off. -/
structure DkX where
  F : List (List UInt8)
  R : List WrV
  fu : Nat
  off : Bool
def DkJ (b0 : Nat) (w : World) (p q n : Nat) (s : DkX) : Prop := DkI b0 w p q n s.F s.R s.fu s.off
def wrX (s : DkX) (k : Nat) (D : List UInt8) : DkX := if s.off = true then s else ⟨s.F, s.R ++ [(k, D)], s.fu - 1, decide (s.fu = 1)⟩
def syX (s : DkX) : DkX := if s.off = true then s else if s.fu = 1 then ⟨s.F, s.R, 0, true⟩ else ⟨appl s.F s.R, [], s.fu - 1, false⟩
/-- What an act tells that leaves this. -/
def erX (s : DkX) : Int := if s.off = true then 9 else 0
def DkQ (b0 : Nat) (w : World) (p q n : Nat) (s : DkX) (e : Ending) (w' : World) : Prop := e = .returned (.int .i64 (erX s)) ∧ DkJ b0 w' p q n s ∧ Below b0 w w' ∧ UnT dkT w w'
section
variable {b0 : Nat} {w : World} {p q n : Nat} {s : DkX}
theorem dwrite_x (h : DkJ b0 w p q n s) (hb0 : b0 ≤ w.heap.size) (k : Nat) (hk : k < n) (D : List UInt8) (hD : D.length = 64) (hr6 : s.R.length + 1 ≤ 1000000) :
    Calls Try.prog 28 #[.pointer (some ⟨p, 0, none⟩), .int .i64 (k : Int), .agg (rowOf D)] w (DkQ b0 w p q n (wrX s k D)) := by
  obtain ⟨F, R, fu, off⟩ := s
  cases off with
  | true =>
    have hE : hasE n true (k : Int) = 9 := rfl
    have c := dwrite_no (h : DkI b0 w p q n F R fu true) (k : Int) D (by rw [hE]; decide)
    rw [hE] at c
    exact c.mono fun e w' hh => ⟨hh.1, DkI.below h hh.2, hh.2.mono hb0, UnT.of_below hh.2⟩
  | false =>
    have c := dwrite_yes (h : DkI b0 w p q n F R fu false) hb0 k hk D hD hr6
    refine c.mono fun e w' hh => ⟨?_, ?_, hh.2.2.1, hh.2.2.2⟩
    · rw [hh.1]
      by_cases hf : fu = 1 <;> simp [erX, wrX, burnE, hf]
    · have h2 := hh.2.1
      rw [show burnO fu false = decide (fu = 1) by simp [burnO]] at h2
      exact h2
theorem dsync_x (h : DkJ b0 w p q n s) : Calls Try.prog 51 #[.pointer (some ⟨p, 0, none⟩)] w (DkQ b0 w p q n (syX s)) := by
  obtain ⟨F, R, fu, off⟩ := s
  cases off with
  | true =>
    refine (dsync_off (h : DkI b0 w p q n F R fu true)).mono fun e w' hh => ?_
    obtain ⟨rfl, rfl⟩ := hh
    exact ⟨rfl, h, Below.refl _ _, UnT.refl _ _⟩
  | false =>
    by_cases hf : fu = 1
    · subst hf
      refine (dsync_burn (h : DkI b0 w p q n F R 1 false)).mono fun e w' hh => ⟨hh.1, hh.2.1, hh.2.2.1, hh.2.2.2⟩
    · have e : syX ⟨F, R, fu, false⟩ = ⟨appl F R, [], fu - 1, false⟩ := by simp [syX, hf]
      rw [e]
      exact (dsync_ok (h : DkI b0 w p q n F R fu false) hf).mono fun e w' hh => ⟨hh.1, hh.2.1, hh.2.2.1, hh.2.2.2⟩
end
/-! Records that are handed in. -/
def PtA (w : World) (A : Option Addr) (L : List (List UInt8)) : Prop := ∀ j, j < L.length → ∃ b off a c, A = some ⟨b, off, none⟩ ∧ w.cell? ⟨b, off + j, none⟩ = some (.slice a (L.getD j []).length c) ∧ Rd w w.heap.size a (L.getD j []) ∧ b < w.heap.size
theorem PtA.below {w w' : World} {A : Option Addr} {L : List (List UInt8)} (h : PtA w A L) (hb : Below w.heap.size w w') : PtA w' A L := fun j hj => by
  obtain ⟨b, off, a, c, e, hc, hr, hl⟩ := h j hj
  exact ⟨b, off, a, c, e, (hb.cell (p := ⟨b, off + j, none⟩) hl).trans hc, (hr.below hb).more hb.size, Nat.lt_of_lt_of_le hl hb.size⟩
theorem allB_take_ (L : List (List UInt8)) (j : Nat) (h : j < L.length) : allB (L.take (j + 1)) = allB (L.take j) ++ recB (L.getD j []) := by
  rw [List.take_succ_eq_append_getElem h, allB_append]
  simp [allB, List.getD, h]
theorem allB_take (L : List (List UInt8)) (j : Nat) (h : j < L.length) : (allB (L.take (j + 1))).length = (allB (L.take j)).length + ((L.getD j []).length + 8) := by
  rw [List.take_succ_eq_append_getElem h, allB_append, List.length_append]
  have e : allB [L[j]] = recB L[j] := by simp [allB]
  rw [e, recB_len]
  simp [List.getD, h]
theorem allB_le (L : List (List UInt8)) (j : Nat) : (allB (L.take j)).length ≤ (allB L).length := by
  have h := congrArg (fun l => (allB l).length) (List.take_append_drop j L)
  simp only [allB_append, List.length_append] at h
  omega
set_option maxRecDepth 100000 in
set_option maxHeartbeats 4000000 in
theorem sizeOf_any (w : World) (A : Option Addr) (n c : Nat) (L : List (List UInt8)) (hn : L.length = n) (hP : PtA w A L) (hm : (allB L).length ≤ 1000000) :
    Calls Try.prog 36 #[.slice A n c] w fun e w' => e = .returned (.int .i64 ((allB L).length : Int)) ∧ w = w' := by
  have HP := hidg_ hP
  have HN := hidg_ hn
  have HM := hidg_ hm
  have hnb := allB_len L
  have hn6 : n ≤ 1000000 := by omega
  clear hn hP hm hnb
  go_enter Try.func36, Try.ntmps36
  go_wp2
  go_loopw [3, 8] (fun v i wr => ∃ (j s : Nat), j ≤ n ∧ i = .int .i64 j ∧ v = .int .i64 s ∧ Hid ((allB (L.take j)).length = s) ∧ w = wr) (fun _ i _ => n - (intOf i).toNat)
  case atStart => exact ⟨0, 0, Nat.zero_le _, rfl, rfl, hidg_ (by simp [allB]), rfl⟩
  case round =>
    obtain ⟨j, s, hj, rfl, rfl, HS, rfl⟩ := hrel
    by_cases hlt : j < n
    · have hjL : j < L.length := by rw [HN.out]; exact hlt
      obtain ⟨b, off, a, c2, rfl, hcell, hrd⟩ := HP.out j hjL
      have ht := allB_take L j hjL
      have hle := allB_le L (j + 1)
      have hlb : (L.getD j []).length ≤ 1000000 := by have := HM.out; omega
      have hs6 : s + ((L.getD j []).length + 8) ≤ 1000000 := by have := HM.out; have := HS.out; omega
      have HT := hidg_ (show (allB (L.take (j + 1))).length = s + ((L.getD j []).length + 8) by rw [ht, HS.out])
      generalize (L.getD j []).length = m at hcell hlb hs6 HT
      have cz := lsize_any a m c2 hlb w
      have hw : IntKind.i64.wrap ((s : Int) + ((m + 8 : Nat) : Int)) = ((s + (m + 8) : Nat) : Int) := by rw [IntWalk.i64_in _ (by omega)]; omega
      obtain ⟨m8, hm8⟩ : ∃ x, m + 8 = x := ⟨_, rfl⟩
      rw [hm8] at cz hw HT
      obtain ⟨s8, hs8⟩ : ∃ x, s + m8 = x := ⟨_, rfl⟩
      rw [hs8] at hw HT
      have t0 : (0 : Int) ≤ (j : Int) := by omega
      have tn : (j : Int) < (n : Int) := by omega
      have d1 : decide ((j : Int) < (n : Int)) = true := decide_eq_true tn
      clear ht hle hrd hm8 hs8 hs6 hlb hjL
      go_wp2_with (go_at_call 33; ((with_reducible refine cz.mono ?_); clear cz; rintro e w' ⟨rfl, rfl⟩))
      go_roundw
      case rel => exact ⟨j + 1, s8, by omega, by go_num, rfl, hidg_ HT.out, trivial⟩
      case measure => simp [intOf]; omega
    · obtain rfl : j = n := by omega
      have d1 : decide ((j : Int) < (j : Int)) = false := decide_eq_false (by omega)
      have HT := hidg_ (show L.take j = L from List.take_of_length_le (by rw [HN.out]; omega))
      rw [HT.out] at HS
      go_wp2
      go_ret
      refine ⟨?_, rfl⟩
      rw [HS.out]
      rfl
end Go.Proofs.Ytdlciehboimciaa

namespace Go.Proofs.Ytdlciehboimciaa
set_option maxRecDepth 100000
open Go.RowKit
set_option linter.unusedVariables false
set_option linter.unusedSimpArgs false

def lgT : List TypeId := 72 :: dkT
theorem UnT.more {T T' : List TypeId} {w w' : World} (h : UnT T w w') (hs : ∀ t ∈ T, t ∈ T') : UnT T' w w' := ⟨h.1, fun k hk ht => h.2 k hk fun cs t fz e hm => ht cs t fz e (hs t hm)⟩
theorem LgB.unt {w w' : World} {g p t a c : Nat} {down : Bool} (h : LgB w g p t a c down) (hu : UnT dkT w w') : LgB w' g p t a c down := Bk.unt h hu (by decide)
theorem LgB.below {w w' : World} {g p t a c : Nat} {down : Bool} (h : LgB w g p t a c down) (hb : Below w.heap.size w w') : LgB w' g p t a c down := Bk.below h hb (Bk.lt h)
theorem wpList_store_mid {P : Program} {ops : Array Oper} {rest : List Oper} {o : Oper} {a : Act} {w : World} {Q : Exit → Act → World → Prop} (hgd : o.guard = none) (ty : TypeId) (x y : Operand) (ho : o.op = .store ty x y) (g off : Nat) (hx : a.eval x = .pointer (some ⟨g, off, none⟩)) (vs : Array Value) (hy : a.eval y = .agg vs)
    (t : TypeId) (cs : Array Value) (hb : Bk w g t cs) (hi : (P.info? ty).map (·.size) = some vs.size) (hl : off + vs.size ≤ cs.size) (h1 : ∀ v ∈ vs.toList, v.oneCell' = true)
    (hk : ∀ w', Bk w' g t (cs.toList.take off ++ vs.toList ++ cs.toList.drop (off + vs.toList.length)).toArray → w.grownBy w' (some g) → w'.heap.size = w.heap.size → wpList P ops Q rest (a.put o.dst undef) w') : wpList P ops Q (o :: rest) a w := by
  refine wpList_plain hgd fun K hKK => ?_
  have h := run_storeVar_mid hb ty off vs hi hl h1
  unfold Oper.wp execOp
  simp only [ho, hx, hy, Instr.storeAt, Instr.sureAddr, Sem.run_bind, Sem.run_pure, Result.andThen_ok, h]
  exact hKK _ _ (hk _ (hb.rowed _) (setRow_grown w g _) (by simp))
theorem built_head (t a c : Nat) : Try.prog.built 69 [(0, .int .i64 (t : Int)), (1, .int .i64 (a : Int)), (2, .int .i64 (c : Int))] = some (hdRow (t, a, c)) := by kernel_rfl
section
variable {b0 : Nat} {w : World} {g p q n t a0 c0 : Nat} {down : Bool} {s : DkX}
/-- What tell makes of a disk. -/
def tellX (s : DkX) (t a c : Nat) : DkX := syX (wrX s ((t + 1) % 2) (headB (t + 1) a c))
theorem syX_off {s : DkX} (h : s.off = true) : syX s = s := by simp [syX, h]
/-- What the Log is then. -/
def tellL (w : World) (g p t a0 c0 : Nat) (down : Bool) (a c : Nat) (s : DkX) : Prop := if s.off = true then LgB w g p t a0 c0 down else LgB w g p (t + 1) a c down
def TellP (b0 : Nat) (w : World) (g p q n t a0 c0 : Nat) (down : Bool) (s : DkX) (a c : Nat) (e : Ending) (w' : World) : Prop :=
  e = .returned (.int .i64 (erX (tellX s t a c))) ∧ DkJ b0 w' p q n (tellX s t a c) ∧ tellL w' g p t a0 c0 down a c (tellX s t a c) ∧ Below b0 w w' ∧ UnT lgT w w'
set_option maxRecDepth 100000 in
set_option maxHeartbeats 8000000 in
theorem tell_any (h : LgB w g p t a0 c0 down) (hd : DkJ b0 w p q n s) (hb0 : b0 ≤ w.heap.size) (hgb : b0 ≤ g) (ht : t < 9223372036854775807) (h2n : 2 ≤ n) (a c : Nat) (ha : a ≤ 1) (hc : c ≤ 1000000) (hR : s.R.length + 1 ≤ 1000000) :
    Calls Try.prog 32 #[.pointer (some ⟨g, 0, none⟩), .int .i64 (a : Int), .int .i64 (c : Int)] w (TellP b0 w g p q n t a0 c0 down s a c) := by
  obtain ⟨k0, k1, _, _, _⟩ := h.cells
  obtain ⟨t1, ht1⟩ : ∃ x, t + 1 = x := ⟨_, rfl⟩
  have hw : IntKind.i64.wrap ((t : Int) + 1) = (t1 : Int) := by rw [IntWalk.i64_in _ (by omega)]; omega
  obtain ⟨m2, hm2⟩ : ∃ m, t1 % 2 = m := ⟨_, rfl⟩
  have hrem : (t1 : Int).tmod 2 = (m2 : Int) := by rw [Int.tmod_eq_emod_of_nonneg (by omega)]; omega
  have hz := zeroHd
  have hbu := built_head t1 a c
  have ht1b : t1 ≤ 9223372036854775807 := by omega
  obtain ⟨g7, hg7⟩ : ∃ x, w.heap.size = x := ⟨_, rfl⟩
  obtain ⟨wa, hwa⟩ : ∃ W, w.alloc (.cells #[.int .i64 0, .int .i64 0, .int .i64 0] 69) = W := ⟨_, rfl⟩
  have BA := hidg_ (show Below w.heap.size w wa by rw [← hwa]; exact (Below.refl _ _).alloc (Nat.le_refl _) _)
  have KA := hidg_ (show Bk wa g7 69 #[.int .i64 0, .int .i64 0, .int .i64 0] by rw [← hwa, ← hg7]; exact Bk.new w _ _)
  have H := hidg_ h
  have HD := hidg_ hd
  have HB0 := hidg_ hb0
  have HGB := hidg_ hgb
  have HR := hidg_ hR
  have HA := hidg_ ha
  have HC := hidg_ hc
  have HT1 := hidg_ ht1b
  have HM2 := hidg_ (show m2 < n by omega)
  have HE := hidg_ (show tellX s t a c = syX (wrX s m2 (headB t1 a c)) by unfold tellX; rw [ht1, hm2])
  have HTT := hidg_ ht1
  have HG7 := hidg_ hg7
  clear h hd hb0 hgb hR ha hc ht1b hm2 ht1 h2n ht
  go_enter Try.func32, Try.ntmps32
  go_upto_region 2 with (first
    | (refine wpList_built rfl 69 #[(0, .tmp 15), (1, .tmp 16), (2, .tmp 17)] rfl (hdRow (t1, a, c)) hbu ?_)
    | (refine wpList_put_row rfl 69 (.tmp 7) (.tmp 18) rfl g7 (hdRow (t1, a, c)) rfl rfl 69 #[.int .i64 0, .int .i64 0, .int .i64 0] KA.out (iHd _) rfl (hdRow_one _) ?_; intro w1 k1' g1' s1'; have K1 := hidg_ k1'; have B1 := hidg_ (BA.out.grown g1' BA.out.size (fun k e => by injection e with e; have := HG7.out; omega)); clear k1' g1' s1'))
  first | rw [put_none] | skip
  have L1 := hidg_ (H.out.below B1.out)
  have D1 := hidg_ (DkI.below HD.out B1.out)
  have Q0 := hidg_ (fun W (hW : Below w1.heap.size w1 W) => (L1.out.below hW).cells.1)
  have QT := hidg_ (fun W (hW : Below w1.heap.size w1 W) => (hdRow_cells (K1.out.below hW K1.out.lt)).1)
  have Q7 := hidg_ (fun W (hW : Below w1.heap.size w1 W) => run_loadVar_row (P := Try.prog) W g7 69 69 (hdRow (t1, a, c)) (0, 0) _ (K1.out.below hW K1.out.lt) Try.underlying69 rfl (iHd _))
  have QS := hidg_ (fun W (hW : Below w1.heap.size w1 W) => (headSec_any W t1 a c HT1.out HA.out HC.out).mono fun e w' hh => (show e = .returned (.agg (rowOf (headB t1 a c))) ∧ Below w1.heap.size w1 w' from ⟨hh.1, hW.trans (hh.2.mono hW.size)⟩))
  clear k0 k1
  refine region_quiet_tail 9 (C := fun W => Below w1.heap.size w1 W) (by kernel_rfl) (by kernel_rfl) ((Below.refl _ _).drew) ?_
  simp only [List.take_succ_cons, List.take_zero]
  (go_big_quiet_want; (refine BigFrame.quiet_move _ rfl ?_; go_simp); go_big_quiet_on)
  (go_big_quiet_want; (refine quiet_run (.pointer (some ⟨g, 0, none⟩)) ?_ ?_; (focus (intro W hW; go_simp; done)); go_simp); go_big_quiet_on)
  (go_big_quiet_want; (refine quiet_run (.pointer (some ⟨g, 0, none⟩)) ?_ ?_; (focus (intro W hW; go_simp; done)); go_simp); go_big_quiet_on)
  (go_big_quiet_want; (refine quiet_run (.pointer (some ⟨p, 0, none⟩)) ?_ ?_; (focus (intro W hW; have h := Q0.out W hW; go_simp; done)); go_simp); go_big_quiet_on)
  (go_big_quiet_want; (refine quiet_run (.pointer (some ⟨g7, 0, none⟩)) ?_ ?_; (focus (intro W hW; go_simp; done)); go_simp); go_big_quiet_on)
  (go_big_quiet_want; (refine quiet_run (.int .i64 (t1 : Int)) ?_ ?_; (focus (intro W hW; have h := QT.out W hW; go_simp; done)); go_simp); go_big_quiet_on)
  (go_big_quiet_want; (refine quiet_run (.int .i64 (m2 : Int)) ?_ ?_; (focus (intro W hW; go_simp; done)); go_simp); go_big_quiet_on)
  (go_big_quiet_want; (refine quiet_loadv 69 (.tmp 7) rfl ⟨g7, 0, none⟩ rfl (.agg (hdRow (t1, a, c))) Q7.out ?_; go_simp); go_big_quiet_on)
  (go_big_quiet_want; (refine quiet_call (.agg (rowOf (headB t1 a c))) 50 #[.agg (hdRow (t1, a, c))] ?_ QS.out ?_; (focus (intro W; go_simp; done)); go_simp); go_big_quiet_on)
  refine wpQuiet_nil ?_
  intro w2 hw2
  have h2 : Below w1.heap.size w1 w2 := hw2
  clear hw2 Q0 QT Q7 QS
  simp only [List.drop_succ_cons, List.drop_zero]
  have X2 := hidg_ (B1.out.trans (h2.mono B1.out.size))
  have L2 := hidg_ (L1.out.below h2)
  have D2 := DkI.below D1.out h2
  have K2 := hidg_ (K1.out.below h2 K1.out.lt)
  have cw := dwrite_x D2 (Nat.le_trans HB0.out X2.out.size) m2 HM2.out (headB t1 a c) (headB_len _ _ _) HR.out
  obtain ⟨D9, hD9⟩ : ∃ D, headB t1 a c = D := ⟨_, rfl⟩
  rw [hD9] at cw HE ⊢
  generalize wrX s m2 D9 = s1 at cw HE
  clear h2 D2 hD9 HM2 HR HD D1 K1 L1 B1 BA KA H
  unfold DkQ at cw
  cases ho : s1.off with
  | true =>
    have e1 : erX s1 = 9 := by simp [erX, ho]
    rw [e1] at cw
    have HE2 := hidg_ (HE.out.trans (syX_off ho))
    go_wp2_with (go_at_call 28; ((with_reducible refine cw.mono ?_); clear cw; rintro e w3 ⟨rfl, hD3, hB3, hU3⟩; have D3 := hidg_ hD3; have B3 := hidg_ hB3; have U3 := hidg_ hU3; clear hD3 hB3 hU3))
    go_ret
    unfold TellP
    rw [HE2.out, e1]
    refine ⟨rfl, D3.out, ?_, (X2.out.mono HB0.out).trans B3.out, (UnT.of_below X2.out).trans (U3.out.more fun t ht => List.mem_cons_of_mem _ ht)⟩
    unfold tellL
    rw [if_pos ho]
    exact L2.out.unt U3.out
  | false =>
    have e1 : erX s1 = 0 := by simp [erX, ho]
    rw [e1] at cw
    have cs := fun W hW => dsync_x (b0 := b0) (w := W) (p := p) (q := q) (n := n) (s := s1) hW
    unfold DkQ at cs
    generalize syX s1 = s2 at cs HE
    cases ho2 : s2.off with
    | true =>
      have e2 : erX s2 = 9 := by simp [erX, ho2]
      rw [e2] at cs
      go_wp2_with (first
        | (go_at_call 28; ((with_reducible refine cw.mono ?_); clear cw; rintro e w3 ⟨rfl, hD3, hB3, hU3⟩; have D3 := hidg_ hD3; have B3 := hidg_ hB3; have U3 := hidg_ hU3; have k3 := (L2.out.unt hU3).cells.1; clear hD3 hB3 hU3))
        | (go_at_call 51; ((with_reducible refine (cs _ D3.out).mono ?_); clear cs; rintro e w4 ⟨rfl, hD4, hB4, hU4⟩; have D4 := hidg_ hD4; have B4 := hidg_ hB4; have U4 := hidg_ hU4; clear hD4 hB4 hU4)))
      go_ret
      have U34 := U3.out.trans U4.out
      unfold TellP
      rw [HE.out, e2]
      refine ⟨rfl, D4.out, ?_, ((X2.out.mono HB0.out).trans B3.out).trans B4.out, (UnT.of_below X2.out).trans (U34.more fun t ht => List.mem_cons_of_mem _ ht)⟩
      unfold tellL
      rw [if_pos ho2]
      exact L2.out.unt U34
    | false =>
      have e2 : erX s2 = 0 := by simp [erX, ho2]
      rw [e2] at cs
      go_wp2_with (first
        | (go_at_call 28; ((with_reducible refine cw.mono ?_); clear cw; rintro e w3 ⟨rfl, hD3, hB3, hU3⟩; have D3 := hidg_ hD3; have B3 := hidg_ hB3; have U3 := hidg_ hU3; have k3 := (L2.out.unt hU3).cells.1; clear hD3 hB3 hU3))
        | (go_at_call 51; ((with_reducible refine (cs _ D3.out).mono ?_); clear cs; rintro e w4 ⟨rfl, hD4, hB4, hU4⟩; have D4 := hidg_ hD4; have B4 := hidg_ hB4; have U4 := hidg_ hU4; have K4 := hidg_ (K2.out.unt (U3.out.trans hU4) (by decide)); have L4 := hidg_ (L2.out.unt (U3.out.trans hU4)); clear hD4 hB4 hU4))
        | (refine wpList_load_sub rfl 69 (.tmp 7) rfl g7 0 rfl (hdRow (t1, a, c)) (fun j hj => by rw [Nat.zero_add]; exact K4.out.cell j) _ Try.underlying69 rfl (iHd _) ?_)
        | (refine wpList_store_mid rfl 69 (.tmp 43) (.tmp 41) rfl g 1 rfl (hdRow (t1, a, c)) rfl 72 #[.pointer (some ⟨p, 0, none⟩), .int .i64 (t : Int), .int .i64 (a0 : Int), .int .i64 (c0 : Int), .bool down] L4.out (iHd _) (by simp [hdRow]) (by simp [hdRow, Value.oneCell']) ?_; intro w5 k5 g5 s5; have K5 := hidg_ k5; have G5 := hidg_ g5; have S5 := hidg_ s5; clear k5 g5 s5))
      go_ret
      have U34 := U3.out.trans U4.out
      have U5 : UnT [72] w4 w5 := UnT.of_grown G5.out fun k e => by
        injection e with e
        subst e
        exact ⟨_, _, _, L4.out, by simp⟩
      have B5 : Below b0 w4 w5 := (Below.refl b0 w4).grown G5.out (by have := (X2.out.mono HB0.out).size; have := B3.out.size; have := B4.out.size; have := HB0.out; omega) (fun k e => by injection e with e; have := HGB.out; omega)
      unfold TellP
      rw [HE.out, e2]
      refine ⟨rfl, DkI.unt D4.out U5 (by decide), ?_, (((X2.out.mono HB0.out).trans B3.out).trans B4.out).trans B5, ((UnT.of_below X2.out).trans (U34.more fun t ht => List.mem_cons_of_mem _ ht)).trans (U5.more fun t ht => by rw [List.mem_singleton.1 ht]; exact List.mem_cons_self ..)⟩
      unfold tellL
      rw [if_neg (by rw [ho2]; decide), HTT.out]
      exact K5.out
end
end Go.Proofs.Ytdlciehboimciaa

namespace Go.Proofs.Ytdlciehboimciaa
set_option maxRecDepth 100000
open Go.RowKit
set_option linter.unusedVariables false
set_option linter.unusedSimpArgs false

section
variable {b0 : Nat} {w : World} {p q n : Nat} {s : DkX}
/-- The last head that a disk tells. -/
def headX (n : Nat) (s : DkX) : Nat × Nat × Nat := lastK (roomN n) (appl s.F s.R) 2
def FmtP (b0 : Nat) (w : World) (p q n : Nat) (s : DkX) (e : Ending) (w' : World) : Prop :=
  (((tellX s (headX n s).1 0 0).off = true ∧ e = .returned (.tuple #[.pointer none, .int .i64 9])) ∨
    ((tellX s (headX n s).1 0 0).off = false ∧ ∃ g, b0 ≤ g ∧ e = .returned (.tuple #[.pointer (some ⟨g, 0, none⟩), .int .i64 0]) ∧ LgB w' g p ((headX n s).1 + 1) 0 0 false)) ∧
  DkJ b0 w' p q n (tellX s (headX n s).1 0 0) ∧ Below b0 w w' ∧ UnT lgT w w'
set_option maxRecDepth 100000 in
set_option maxHeartbeats 4000000 in
theorem format_any (hd : DkJ b0 w p q n s) (hb0 : b0 ≤ w.heap.size) (h4 : 4 ≤ n) (h9 : n ≤ 8192) (ht : (headX n s).1 < 9223372036854775807) (hR : s.R.length + 1 ≤ 1000000) :
    Calls Try.prog 8 #[.pointer (some ⟨p, 0, none⟩)] w (FmtP b0 w p q n s) := by
  have cs := dsize_yes hd
  have ci := dimage_any hd
  have hS64 : ∀ D ∈ appl s.F s.R, D.length = 64 := by
    obtain ⟨v, hv⟩ := hd
    exact hv.app64
  have hSn : (appl s.F s.R).length = n := by
    obtain ⟨v, hv⟩ := hd
    rw [appl_len]
    exact hv.hF
  have HD := hidg_ hd
  have HB0 := hidg_ hb0
  have HR := hidg_ hR
  have HS := hidg_ hS64
  have HSN := hidg_ hSn
  have HT := hidg_ ht
  have d1 : decide ((n : Int) < 4) = false := decide_eq_false (by omega)
  have hx : lastK (roomN n) (appl s.F s.R) 2 = headX n s := rfl
  clear hd hb0 hR hS64 hSn ht
  unfold FmtP
  generalize hxx : headX n s = x at *
  obtain ⟨N, hN⟩ : ∃ N, n * 64 = N := ⟨_, rfl⟩
  rw [hN] at ci
  have HN := hidg_ hN
  have H4 := hidg_ h4
  clear hN h4 hxx
  obtain ⟨y, hy⟩ : ∃ y, tellX s x.1 0 0 = y := ⟨_, rfl⟩
  have HY := hidg_ hy
  clear hy
  cases ho : y.off with
  | true =>
    have he : erX y = 9 := by simp [erX, ho]
    go_enter Try.func8, Try.ntmps8
    go_wp2_with (first
      | (go_at_call 29; ((with_reducible refine cs.mono ?_); clear cs; rintro e w' ⟨rfl, rfl⟩))
      | (go_at_call 16; ((with_reducible refine ci.mono ?_); clear ci; rintro e w1 ⟨A, c, rfl, hO1, hB1⟩; have O1 := hidg_ hO1; have B1 := hidg_ hB1; clear hO1 hB1))
      | (go_at_call 30; have cl := lastHead_any w1 w.heap.size N n c A (appl s.F s.R) HN.out.symm HSN.out HS.out H4.out h9 O1.out; rw [hx] at cl; ((with_reducible refine cl.mono ?_); clear cl; rintro e w2 ⟨he, hB2⟩; obtain rfl : e = .returned (.agg #[.int .i64 (x.1 : Int), .int .i64 (x.2.1 : Int), .int .i64 (x.2.2 : Int)]) := he; have X2 := hidg_ (B1.out.trans (hB2.mono B1.out.size)); clear hB2))
      | (go_at_call 31; have L3 := hidg_ (show LgB (w2.alloc (.cells #[.pointer (some ⟨p, 0, none⟩), .int .i64 (x.1 : Int), .int .i64 (x.2.1 : Int), .int .i64 (x.2.2 : Int), .bool false] 72)) w2.heap.size p x.1 x.2.1 x.2.2 false from Bk.new w2 _ _); have X3 := hidg_ (X2.out.trans ((Below.refl w2.heap.size w2).alloc (Nat.le_refl _) (.cells #[.pointer (some ⟨p, 0, none⟩), .int .i64 (x.1 : Int), .int .i64 (x.2.1 : Int), .int .i64 (x.2.2 : Int), .bool false] 72) |>.mono X2.out.size)); have D3 := hidg_ (DkI.below HD.out X3.out); have ch := hasRoom_any L3.out D3.out H4.out h9 HT.out 0; rw [decide_eq_true (Nat.zero_le _), show ((0 : Nat) : Int) = 0 from rfl] at ch; ((with_reducible refine ch.mono ?_); clear ch; rintro e w' ⟨rfl, rfl⟩))
      | (go_at_call 32; have ct := tell_any (s := s) (a0 := x.2.1) (c0 := x.2.2) (down := false) L3.out D3.out (Nat.le_trans HB0.out X3.out.size) (Nat.le_trans HB0.out X2.out.size) HT.out (by have := H4.out; omega) 0 0 (by omega) (by omega) HR.out; rw [show ((0 : Nat) : Int) = 0 from rfl] at ct; unfold TellP at ct; rw [HY.out, he] at ct; ((with_reducible refine ct.mono ?_); clear ct; rintro e w4 ⟨rfl, hD4, hL4, hB4, hU4⟩; have D4 := hidg_ hD4; have L4 := hidg_ hL4; have B4 := hidg_ hB4; have U4 := hidg_ hU4; clear hD4 hL4 hB4 hU4)))
    go_ret2
    rw [HY.out]
    refine ⟨.inl ⟨ho, rfl⟩, D4.out, (X3.out.mono HB0.out).trans B4.out, (UnT.of_below X3.out).trans U4.out⟩
  | false =>
    have he : erX y = 0 := by simp [erX, ho]
    go_enter Try.func8, Try.ntmps8
    go_wp2_with (first
      | (go_at_call 29; ((with_reducible refine cs.mono ?_); clear cs; rintro e w' ⟨rfl, rfl⟩))
      | (go_at_call 16; ((with_reducible refine ci.mono ?_); clear ci; rintro e w1 ⟨A, c, rfl, hO1, hB1⟩; have O1 := hidg_ hO1; have B1 := hidg_ hB1; clear hO1 hB1))
      | (go_at_call 30; have cl := lastHead_any w1 w.heap.size N n c A (appl s.F s.R) HN.out.symm HSN.out HS.out H4.out h9 O1.out; rw [hx] at cl; ((with_reducible refine cl.mono ?_); clear cl; rintro e w2 ⟨he, hB2⟩; obtain rfl : e = .returned (.agg #[.int .i64 (x.1 : Int), .int .i64 (x.2.1 : Int), .int .i64 (x.2.2 : Int)]) := he; have X2 := hidg_ (B1.out.trans (hB2.mono B1.out.size)); clear hB2))
      | (go_at_call 31; have L3 := hidg_ (show LgB (w2.alloc (.cells #[.pointer (some ⟨p, 0, none⟩), .int .i64 (x.1 : Int), .int .i64 (x.2.1 : Int), .int .i64 (x.2.2 : Int), .bool false] 72)) w2.heap.size p x.1 x.2.1 x.2.2 false from Bk.new w2 _ _); have X3 := hidg_ (X2.out.trans ((Below.refl w2.heap.size w2).alloc (Nat.le_refl _) (.cells #[.pointer (some ⟨p, 0, none⟩), .int .i64 (x.1 : Int), .int .i64 (x.2.1 : Int), .int .i64 (x.2.2 : Int), .bool false] 72) |>.mono X2.out.size)); have D3 := hidg_ (DkI.below HD.out X3.out); have ch := hasRoom_any L3.out D3.out H4.out h9 HT.out 0; rw [decide_eq_true (Nat.zero_le _), show ((0 : Nat) : Int) = 0 from rfl] at ch; ((with_reducible refine ch.mono ?_); clear ch; rintro e w' ⟨rfl, rfl⟩))
      | (go_at_call 32; have ct := tell_any (s := s) (a0 := x.2.1) (c0 := x.2.2) (down := false) L3.out D3.out (Nat.le_trans HB0.out X3.out.size) (Nat.le_trans HB0.out X2.out.size) HT.out (by have := H4.out; omega) 0 0 (by omega) (by omega) HR.out; rw [show ((0 : Nat) : Int) = 0 from rfl] at ct; unfold TellP at ct; rw [HY.out, he] at ct; ((with_reducible refine ct.mono ?_); clear ct; rintro e w4 ⟨rfl, hD4, hL4, hB4, hU4⟩; have D4 := hidg_ hD4; have L4 := hidg_ hL4; have B4 := hidg_ hB4; have U4 := hidg_ hU4; clear hD4 hL4 hB4 hU4)))
    go_ret2
    rw [HY.out]
    have hL := L4.out
    unfold tellL at hL
    rw [if_neg (by rw [ho]; decide)] at hL
    refine ⟨.inr ⟨ho, w2.heap.size, Nat.le_trans HB0.out X2.out.size, rfl, hL⟩, D4.out, (X3.out.mono HB0.out).trans B4.out, (UnT.of_below X3.out).trans U4.out⟩
end
end Go.Proofs.Ytdlciehboimciaa

namespace Go.Proofs.Ytdlciehboimciaa
set_option maxRecDepth 100000
open Go.RowKit
set_option linter.unusedVariables false
set_option linter.unusedSimpArgs false

theorem tellX_off {s : DkX} (h : s.off = true) (t a c : Nat) : tellX s t a c = s := by
  unfold tellX
  rw [show wrX s ((t + 1) % 2) (headB (t + 1) a c) = s by simp [wrX, h]]
  exact syX_off h
section
variable {b0 : Nat} {w : World} {g p q n t a0 c0 : Nat}
/-- What fill leaves. -/
def FilP (b0 : Nat) (w : World) (g p q n t a0 c0 : Nat) (s : DkX) (e : Ending) (w' : World) : Prop :=
  e = .returned (.int .i64 (erX s)) ∧ DkJ b0 w' p q n s ∧ LgB w' g p t a0 c0 false ∧ Below b0 w w' ∧ UnT dkT w w'
/-- What write leaves. -/
def WrtP (b0 : Nat) (w : World) (g p q n t a0 c0 : Nat) (s : DkX) (a c : Nat) (e : Ending) (w' : World) : Prop :=
  e = .returned (.int .i64 (erX (tellX s t a c))) ∧ DkJ b0 w' p q n (tellX s t a c) ∧ (if (tellX s t a c).off = true then LgB w' g p t a0 c0 true else LgB w' g p (t + 1) a c false) ∧ Below b0 w w' ∧ UnT lgT w w'
theorem LgB.putB {w : World} {g p t a c : Nat} {down : Bool} (h : LgB w g p t a c down) (d : Bool) : LgB (w.setCell ⟨g, 4, none⟩ (.bool d)) g p t a c d := Bk.set_ h 4 (.bool d)
theorem DkJ.putL {w : World} {g p q n : Nat} {s : DkX} {cs : Array Value} (h : DkJ b0 w p q n s) (hb : Bk w g 72 cs) (hg : b0 ≤ g) (u : Value) : DkJ b0 (w.setCell ⟨g, 4, none⟩ u) p q n s ∧ Below b0 w (w.setCell ⟨g, 4, none⟩ u) ∧ UnT lgT w (w.setCell ⟨g, 4, none⟩ u) := by
  obtain ⟨h1, h2⟩ := Bk.putD (T := [72]) hb hg (by simp) 4 u
  exact ⟨DkI.unt h h2 (by decide), h1, h2.more fun t ht => by rw [List.mem_singleton.1 ht]; exact List.mem_cons_self ..⟩
set_option maxRecDepth 100000 in
set_option maxHeartbeats 4000000 in
theorem write_any (h : LgB w g p t a0 c0 false) (hb0 : b0 ≤ w.heap.size) (hgb : b0 ≤ g) (ht : t < 9223372036854775807) (h2n : 2 ≤ n) (a f m : Nat) (B : Option Addr) (cb : Nat) (ha : a ≤ 1) (hc : f + m ≤ 1000000) (s : DkX) (hR : s.R.length + 1 ≤ 1000000)
    (cf : Calls Try.prog 56 #[.pointer (some ⟨g, 0, none⟩), .int .i64 (a : Int), .int .i64 (f : Int), .slice B m cb] w (FilP b0 w g p q n t a0 c0 s)) :
    Calls Try.prog 38 #[.pointer (some ⟨g, 0, none⟩), .int .i64 (a : Int), .int .i64 (f : Int), .slice B m cb] w (WrtP b0 w g p q n t a0 c0 s a (f + m)) := by
  obtain ⟨_, _, _, _, k4⟩ := h.cells
  obtain ⟨c, hfm⟩ : ∃ c, f + m = c := ⟨_, rfl⟩
  have hw : IntKind.i64.wrap ((f : Int) + (m : Int)) = (c : Int) := by rw [IntWalk.i64_in _ (by omega)]; omega
  rw [hfm]
  have HB0 := hidg_ hb0
  have HGB := hidg_ hgb
  have HT := hidg_ ht
  have HN := hidg_ h2n
  have HA := hidg_ ha
  have HC := hidg_ (show c ≤ 1000000 by omega)
  have HR := hidg_ hR
  clear h hb0 hgb ht h2n ha hc hfm hR
  unfold FilP at cf
  cases ho : s.off with
  | true =>
    have e1 : erX s = 9 := by simp [erX, ho]
    rw [e1] at cf
    have HE := hidg_ (tellX_off ho t a c)
    go_enter Try.func38, Try.ntmps38
    go_wp2_with (go_at_call 56; ((with_reducible refine cf.mono ?_); clear cf; rintro e w1 ⟨rfl, hD1, hL1, hB1, hU1⟩; have k5 := hL1.cells.2.2.2.2; have f5 := Bk.frozen hL1 4; have L5 := hidg_ (hL1.putB true); have D5 := hidg_ (DkJ.putL hD1 hL1 HGB.out (.bool true)); have B1 := hidg_ hB1; have U1 := hidg_ hU1; clear hD1 hL1 hB1 hU1))
    go_ret
    unfold WrtP
    rw [HE.out, e1, if_pos ho]
    exact ⟨rfl, D5.out.1, L5.out, B1.out.trans D5.out.2.1, (U1.out.more fun t ht => List.mem_cons_of_mem _ ht).trans D5.out.2.2⟩
  | false =>
    have e1 : erX s = 0 := by simp [erX, ho]
    rw [e1] at cf
    obtain ⟨y, hy⟩ : ∃ y, tellX s t a c = y := ⟨_, rfl⟩
    have HY := hidg_ hy
    clear hy
    cases ho2 : y.off with
    | true =>
      have e2 : erX y = 9 := by simp [erX, ho2]
      go_enter Try.func38, Try.ntmps38
      go_wp2_with (first
        | (go_at_call 56; ((with_reducible refine cf.mono ?_); clear cf; rintro e w1 ⟨rfl, hD1, hL1, hB1, hU1⟩; have D1 := hidg_ hD1; have L1 := hidg_ hL1; have B1 := hidg_ hB1; have U1 := hidg_ hU1; clear hD1 hL1 hB1 hU1))
        | (go_at_call 32; have ct := tell_any L1.out D1.out (Nat.le_trans HB0.out B1.out.size) HGB.out HT.out HN.out a c HA.out HC.out HR.out; unfold TellP at ct; rw [HY.out, e2] at ct; ((with_reducible refine ct.mono ?_); clear ct; rintro e w2 ⟨rfl, hD2, hL2, hB2, hU2⟩; unfold tellL at hL2; rw [if_pos ho2] at hL2; have k5 := hL2.cells.2.2.2.2; have f5 := Bk.frozen hL2 4; have L5 := hidg_ (hL2.putB true); have D5 := hidg_ (DkJ.putL hD2 hL2 HGB.out (.bool true)); have B2 := hidg_ hB2; have U2 := hidg_ hU2; clear hD2 hL2 hB2 hU2)))
      go_ret
      unfold WrtP
      rw [HY.out, e2, if_pos ho2]
      exact ⟨rfl, D5.out.1, L5.out, (B1.out.trans B2.out).trans D5.out.2.1, ((U1.out.more fun t ht => List.mem_cons_of_mem _ ht).trans U2.out).trans D5.out.2.2⟩
    | false =>
      have e2 : erX y = 0 := by simp [erX, ho2]
      go_enter Try.func38, Try.ntmps38
      go_wp2_with (first
        | (go_at_call 56; ((with_reducible refine cf.mono ?_); clear cf; rintro e w1 ⟨rfl, hD1, hL1, hB1, hU1⟩; have D1 := hidg_ hD1; have L1 := hidg_ hL1; have B1 := hidg_ hB1; have U1 := hidg_ hU1; clear hD1 hL1 hB1 hU1))
        | (go_at_call 32; have ct := tell_any L1.out D1.out (Nat.le_trans HB0.out B1.out.size) HGB.out HT.out HN.out a c HA.out HC.out HR.out; unfold TellP at ct; rw [HY.out, e2] at ct; ((with_reducible refine ct.mono ?_); clear ct; rintro e w2 ⟨rfl, hD2, hL2, hB2, hU2⟩; unfold tellL at hL2; rw [if_neg (by rw [ho2]; decide)] at hL2; have k5 := hL2.cells.2.2.2.2; have f5 := Bk.frozen hL2 4; have L5 := hidg_ (hL2.putB false); have D5 := hidg_ (DkJ.putL hD2 hL2 HGB.out (.bool false)); have B2 := hidg_ hB2; have U2 := hidg_ hU2; clear hD2 hL2 hB2 hU2)))
      go_ret
      unfold WrtP
      rw [HY.out, e2, if_neg (by rw [ho2]; decide)]
      exact ⟨rfl, D5.out.1, L5.out, (B1.out.trans B2.out).trans D5.out.2.1, ((U1.out.more fun t ht => List.mem_cons_of_mem _ ht).trans U2.out).trans D5.out.2.2⟩
end
end Go.Proofs.Ytdlciehboimciaa
