/-
  log: Append, Replace, Open, Format, told by the records that the disk holds.
-/
import Derived.Test.YtdlciehboimciaaLX
import Derived.Test.YtdlciehboimciaaLgy
import Derived.Test.YtdlciehboimciaaLR
import Derived.Test.YtdlciehboimciaaLJ
namespace Go.Proofs.Ytdlciehboimciaa
set_option maxRecDepth 100000
open Go.RowKit
set_option linter.unusedVariables false
set_option linter.unusedSimpArgs false

def opY (s : DkX) (n t a' f : Nat) (l : List UInt8) : DkX := tellX (filX s n a' f l) t a' (f + l.length)
theorem opY_fu {s : DkX} (ho : s.off = false) (hR : s.R = []) (hf : s.fu = 0) (n t a' f : Nat) (l : List UInt8) : (opY s n t a' f l).off = false ∧ (opY s n t a' f l).fu = 0 := op_nofuse ho hR hf n t a' f (f + l.length) l
theorem filX_len {s : DkX} (hR : s.R = []) (n a' f : Nat) (l : List UInt8) (hl : f + l.length ≤ 600000) : (filX s n a' f l).R.length + 1 ≤ 1000000 := by
  have h1 := wrLX_len s (wrC (firstS n a' + f / 64) (filL s n a' f l) (cntP (f % 64 + l.length)))
  rw [wrC_len, hR] at h1
  have h2 : ∀ y : DkX, (syX y).R.length ≤ y.R.length := fun y => by
    unfold syX
    split
    · exact Nat.le_refl _
    · split <;> simp
  have h3 := h2 (wrLX s (wrC (firstS n a' + f / 64) (filL s n a' f l) (cntP (f % 64 + l.length))))
  unfold filX
  have : cntP (f % 64 + l.length) ≤ 20000 := by unfold cntP; omega
  simp at h1
  omega
/-- A Log that is on: its disk holds the records, all of it synced. -/
structure LogV (b0 : Nat) (W : World) (g p q n t a : Nat) (R : List (List UInt8)) (s : DkX) : Prop where
  lg : LgB W g p t a (allB R).length false
  dk : DkJ b0 W p q n s
  on : s.off = false
  sR : s.R = []
  ho : HoldsL n t a R s.F
  gb : b0 ≤ g
section
variable {b0 : Nat} {w w' : World} {g p q n t a : Nat} {R : List (List UInt8)} {s : DkX}
theorem LogV.below (h : LogV b0 w g p q n t a R s) (hb : Below w.heap.size w w') : LogV b0 w' g p q n t a R s := ⟨h.lg.below hb, DkI.below h.dk hb, h.on, h.sR, h.ho, h.gb⟩
/-- What a call that writes leaves: a records' list more, or a disk that is off. -/
structure OpP (b0 : Nat) (w : World) (g p q n t a : Nat) (R' : List (List UInt8)) (y : DkX) (e : Ending) (w' : World) : Prop where
  en : e = .returned (.int .i64 (erX y))
  dk : DkJ b0 w' p q n y
  ok : y.off = false → LogV b0 w' g p q n (t + 1) a R' y
  be : Below b0 w w'
  un : UnT lgT w w'
theorem append_v (h : LogV b0 w g p q n t a R s) (hb0 : b0 ≤ w.heap.size) (h4 : 4 ≤ n) (h9 : n ≤ 8192) (ht : t + 1 ≤ 9223372036854775807) (r : List UInt8) (m : Nat) (B : Option Addr) (cb : Nat) (hrm : r.length = m) (hr : Rd w w.heap.size B r) (hyes : (allB R).length + (m + 8) ≤ roomN n) :
    Calls Try.prog 14 #[.pointer (some ⟨g, 0, none⟩), .slice B m cb] w (OpP b0 w g p q n t a (R ++ [r]) (opY s n t a (allB R).length (recB r))) := by
  have hrl : (recB r).length = m + 8 := by rw [recB_len, hrm]
  have hrb : roomN n ≤ 524288 := by unfold roomN secsA; omega
  have ha := h.ho.ha
  have c := append_yes h.lg h.dk hb0 h.gb h4 h9 (by omega) ha r m B cb hrm hr hyes (filX s n a (allB R).length (recB r)) (filX_len h.sR _ _ _ _ (by omega)) (fun W A c hW hO => by
    have hc := fill_any (h.lg.below hW) (DkI.below h.dk hW) (Nat.le_trans hb0 hW.size) h.gb h4 h9 a (allB R).length (m + 8) A c ha (by omega) hyes (recB r) hrl hO.rd.1 (by rw [h.sR]; simp)
    exact hc)
  have hh := op_holds h.on h.sR h.ho h4 h9 ht a (allB R).length ha (recB r) (R' := R ++ [r]) (by omega) (by omega) (by rw [allB_snoc, List.length_append]) (.inl ⟨rfl, rfl, allB_snoc _ _⟩)
  refine c.mono fun e w1 hp => ?_
  unfold WrtP at hp
  rw [← hrl] at hp
  obtain ⟨p1, p2, p3, p4, p5⟩ := hp
  refine ⟨p1, p2, fun ho => ?_, p4, p5⟩
  obtain ⟨q1, q2⟩ := hh.1 ho
  rw [if_neg (by show ¬ (opY s n t a (allB R).length (recB r)).off = true; rw [ho]; decide)] at p3
  exact ⟨by rw [allB_snoc, List.length_append]; exact p3, p2, ho, q1, q2, h.gb⟩
theorem replace_v (h : LogV b0 w g p q n t a R s) (hb0 : b0 ≤ w.heap.size) (h4 : 4 ≤ n) (h9 : n ≤ 8192) (ht : t + 1 ≤ 9223372036854775807) (L : List (List UInt8)) (k : Nat) (A : Option Addr) (c : Nat) (hk : L.length = k) (hP : PtA w A L) (hyes : (allB L).length ≤ roomN n) :
    Calls Try.prog 11 #[.pointer (some ⟨g, 0, none⟩), .slice A k c] w (OpP b0 w g p q n t (1 - a) L (opY s n t (1 - a) 0 (allB L))) := by
  have hrb : roomN n ≤ 524288 := by unfold roomN secsA; omega
  have hr0 : 0 < roomN n := by unfold roomN secsA; omega
  have ha := h.ho.ha
  have cc := replace_yes h.lg h.dk hb0 h.gb h4 h9 (by omega) (1 - a) (by omega) L k A c hk hP (allB L).length rfl hyes (filX s n (1 - a) 0 (allB L)) (filX_len h.sR _ _ _ _ (by omega)) (fun W A c hW hO => by
    have hc := fill_any (h.lg.below hW) (DkI.below h.dk hW) (Nat.le_trans hb0 hW.size) h.gb h4 h9 (1 - a) 0 (allB L).length A c (by omega) hr0 (by omega) (allB L) rfl hO.rd.1 (by rw [h.sR]; simp)
    exact hc)
  have hh := op_holds h.on h.sR h.ho h4 h9 ht (1 - a) 0 (by omega) (allB L) (R' := L) hr0 (by omega) (by omega) (.inr ⟨by omega, rfl, rfl⟩)
  refine cc.mono fun e w1 hp => ?_
  unfold WrtP at hp
  obtain ⟨p1, p2, p3, p4, p5⟩ := hp
  refine ⟨p1, p2, fun ho => ?_, p4, p5⟩
  obtain ⟨q1, q2⟩ := hh.1 ho
  rw [if_neg (by show ¬ (opY s n t (1 - a) 0 (allB L)).off = true; rw [ho]; decide), Nat.zero_add] at p3
  exact ⟨p3, p2, ho, q1, q2, h.gb⟩
/-- What a crash leaves behind an Append. -/
theorem append_crash (h : LogV b0 w g p q n t a R s) (h4 : 4 ≤ n) (h9 : n ≤ 8192) (ht : t + 1 ≤ 9223372036854775807) (r : List UInt8) (hyes : (allB R).length + (r.length + 8) ≤ roomN n) (ho : (opY s n t a (allB R).length (recB r)).off = true) (st : List Bool) :
    HoldsL n t a R (appl (opY s n t a (allB R).length (recB r)).F (kept (opY s n t a (allB R).length (recB r)).R st)) ∨ HoldsL n (t + 1) a (R ++ [r]) (appl (opY s n t a (allB R).length (recB r)).F (kept (opY s n t a (allB R).length (recB r)).R st)) :=
  (op_holds h.on h.sR h.ho h4 h9 ht a (allB R).length h.ho.ha (recB r) (R' := R ++ [r]) (by omega) (by rw [recB_len]; omega) (by rw [allB_snoc, List.length_append]) (.inl ⟨rfl, rfl, allB_snoc _ _⟩)).2 ho st
theorem replace_crash (h : LogV b0 w g p q n t a R s) (h4 : 4 ≤ n) (h9 : n ≤ 8192) (ht : t + 1 ≤ 9223372036854775807) (L : List (List UInt8)) (hyes : (allB L).length ≤ roomN n) (ho : (opY s n t (1 - a) 0 (allB L)).off = true) (st : List Bool) :
    HoldsL n t a R (appl (opY s n t (1 - a) 0 (allB L)).F (kept (opY s n t (1 - a) 0 (allB L)).R st)) ∨ HoldsL n (t + 1) (1 - a) L (appl (opY s n t (1 - a) 0 (allB L)).F (kept (opY s n t (1 - a) 0 (allB L)).R st)) :=
  (op_holds h.on h.sR h.ho h4 h9 ht (1 - a) 0 (by omega) (allB L) (R' := L) (by unfold roomN secsA; omega) (by omega) (by omega) (.inr ⟨by have := h.ho.ha; omega, rfl, rfl⟩)).2 ho st
/-- Open. -/
def OpnP (b0 : Nat) (w : World) (p q n t a : Nat) (R : List (List UInt8)) (s : DkX) (e : Ending) (w' : World) : Prop :=
  ∃ g A k c, e = .returned (.tuple #[.pointer (some ⟨g, 0, none⟩), .slice A k c, .int .i64 0]) ∧ R.length = k ∧ w.heap.size ≤ g ∧ RecR w' w.heap.size (.slice A k c) R ∧ LgB w' g p t a (allB R).length false ∧ Below w.heap.size w w'
theorem open_v (hd : DkJ b0 w p q n s) (hoff : s.off = false) (h4 : 4 ≤ n) (h9 : n ≤ 8192) (ht : t ≤ 9223372036854775807) (hh : HoldsL n t a R (appl s.F s.R)) :
    Calls Try.prog 21 #[.pointer (some ⟨p, 0, none⟩)] w (OpnP b0 w p q n t a R s) := by
  have hrb : roomN n ≤ 524288 := by unfold roomN secsA; omega
  have hx : headX n s = (t, a, (allB R).length) := hh.last h9 ht
  have hb : bytesX n s = allB R := by unfold bytesX; rw [hx]; exact hh.by_
  have hv : recsV (allB R) = R := recsV_all R (by have := hh.hc; omega)
  have t1 := hh.t1
  have hc := hh.hc
  have c := lopen_yes hd hoff h4 h9 (by rw [hx]; show t ≠ 0; omega) (by rw [hb, hv]; omega)
  rw [hb, hv, hx] at c
  exact c
/-- Format of a disk of noughts. -/
theorem holds_new (n : Nat) (h4 : 4 ≤ n) (h9 : n ≤ 8192) : HoldsL n 1 0 [] ((zsecs n).set 1 (headB 1 0 0)) := by
  have e64 : ∀ D ∈ (zsecs n).set 1 (headB 1 0 0), D.length = 64 := fun D hD => by
    rcases List.mem_or_eq_of_mem_set hD with h5 | h5
    · unfold zsecs at h5
      rw [List.eq_of_mem_replicate h5]
      exact zsec_len
    · rw [h5]; exact headB_len _ _ _
  have hl : (zsecs n).length = n := by simp [zsecs]
  refine ⟨by simp [hl], e64, Nat.le_refl _, Nat.zero_le _, by simp [allB], ?_, ?_, by simp [allB]⟩
  · rw [getD_setL, if_pos ⟨rfl, by omega⟩]
    rfl
  · rw [getD_setL, if_neg (by omega)]
    have : (zsecs n).getD ((1 + 1) % 2) [] = zsec := by
      have h0 : (1 + 1) % 2 < n := by omega
      simp [zsecs, List.getD, h0]
    rw [this, hdIs_zero]
    intro h
    cases h
theorem headX_new (n : Nat) (h4 : 4 ≤ n) : headX n ⟨zsecs n, [], 0, false⟩ = (0, 0, 0) := by
  have hz : ∀ k, k < n → (zsecs n).getD k [] = zsec := fun k hk => by simp [zsecs, List.getD, hk]
  unfold headX
  show lastK (roomN n) (zsecs n) (0 + 1 + 1) = _
  rw [lastK_succ, hz _ (by omega), hdIs_zero, if_neg (by decide), lastK_succ, hz _ (by omega), hdIs_zero, if_neg (by decide)]
  rfl
theorem tellX_new (n : Nat) : tellX ⟨zsecs n, [], 0, false⟩ 0 0 0 = ⟨(zsecs n).set 1 (headB 1 0 0), [], 0, false⟩ := by
  simp [tellX, wrX, syX, appl]
theorem format_v (hd : DkJ b0 w p q n ⟨zsecs n, [], 0, false⟩) (hb0 : b0 ≤ w.heap.size) (h4 : 4 ≤ n) (h9 : n ≤ 8192) :
    Calls Try.prog 8 #[.pointer (some ⟨p, 0, none⟩)] w fun e w' => ∃ g, e = .returned (.tuple #[.pointer (some ⟨g, 0, none⟩), .int .i64 0]) ∧ LogV b0 w' g p q n 1 0 [] ⟨(zsecs n).set 1 (headB 1 0 0), [], 0, false⟩ ∧ Below b0 w w' := by
  have c := format_any hd hb0 h4 h9 (by rw [headX_new n h4]; show 0 < 9223372036854775807; omega) (by simp)
  unfold FmtP at c
  rw [headX_new n h4, show (((0, 0, 0) : Nat × Nat × Nat).1) = 0 from rfl, tellX_new] at c
  refine c.mono fun e w1 hp => ?_
  obtain ⟨p1, p2, p3, p4⟩ := hp
  rcases p1 with ⟨p1, _⟩ | ⟨_, g, hg, p1, pl⟩
  · cases p1
  · exact ⟨g, p1, ⟨pl, p2, rfl, rfl, holds_new n h4 h9, hg⟩, p3⟩
end
end Go.Proofs.Ytdlciehboimciaa
