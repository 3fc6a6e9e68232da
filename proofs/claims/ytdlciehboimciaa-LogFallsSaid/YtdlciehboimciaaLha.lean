/-
  log's laws: the document's Room and Bytes; logs.
-/
import Derived.Test.YtdlciehboimciaaLgz
import Derived.Test.YtdlciehboimciaaGR
import Derived.Test.YtdlciehboimciaaC3
namespace Go.Proofs.Ytdlciehboimciaa
set_option maxRecDepth 100000
open Go.RowKit
set_option linter.unusedVariables false
set_option linter.unusedSimpArgs false

set_option maxRecDepth 100000 in
set_option maxHeartbeats 1000000 in
theorem refRoomL_any (n : Nat) (h4 : 4 ≤ n) (h9 : n ≤ 8192) (w : World) : Calls Try.prog 13 #[.int .i64 (n : Int)] w fun e w' => e = .returned (.int .i64 (roomN n : Int)) ∧ w = w' := by
  obtain ⟨n2, hn2⟩ : ∃ x, n - 2 = x := ⟨_, rfl⟩
  obtain ⟨q, hq⟩ : ∃ x, n2 / 2 = x := ⟨_, rfl⟩
  have hr : roomN n = q * 64 := by unfold roomN secsA; rw [hn2, hq]
  obtain ⟨z, hz⟩ : ∃ x, q * 64 = x := ⟨_, rfl⟩
  rw [hr, hz]
  have d1 : decide ((n : Int) < 4) = false := decide_eq_false (by omega)
  have e1 : (n : Int) - 2 = (n2 : Int) := by omega
  have e2 : (n2 : Int) / 2 = (q : Int) := by omega
  have e3 : (q : Int) * 64 = (z : Int) := by omega
  have e4 : IntKind.i64.wrap ((n2 : Int).tdiv 2) = (q : Int) := by rw [Int.tdiv_eq_ediv_of_nonneg (by omega), IntWalk.i64_in _ (by omega)]; omega
  have hb2 : n2 ≤ 8192 := by omega
  have hbq : q ≤ 8192 := by omega
  have hbz : z ≤ 1000000 := by omega
  clear hn2 hq hr hz
  go_enter Try.func13, Try.ntmps13
  go_wp2
  go_ret
  exact ⟨rfl, rfl⟩
set_option maxRecDepth 100000 in
set_option maxHeartbeats 1000000 in
theorem refRecL_any (w : World) (r : List UInt8) (n : Nat) (hn : r.length = n) (hm : n ≤ 1000000) : Calls Try.prog 15 #[.string (strOf r)] w fun e w' => e = .returned (.string (strOf (recB r))) ∧ Below w.heap.size w w' := by
  have c1 := refBytes_any w r n hn (by omega)
  have hl : (highB 4 n ++ r).length = n + 4 := by rw [List.length_append, highB_len, hn]; omega
  have hq : closeB (highB 4 n ++ r) = recB r := by rw [recB, hn]
  have HL := hidg_ hl
  have HQ := hidg_ hq
  clear hl hq hn
  go_enter Try.func15, Try.ntmps15
  go_wp2_with (first
    | (go_at_call 40; ((with_reducible refine c1.mono ?_); clear c1; rintro e w1 ⟨rfl, hB1⟩; have B1 := hidg_ hB1; clear hB1))
    | (go_at_call 39; have cp := refClose_any (highB 4 n ++ r) (n + 4) w1 HL.out (by omega); rw [HQ.out] at cp; ((with_reducible refine cp.mono ?_); clear cp; rintro e w2 ⟨rfl, hB2⟩; have B2 := hidg_ hB2; clear hB2)))
  go_ret
  exact ⟨rfl, B1.out.trans (B2.out.mono B1.out.size)⟩
def opn (s : DkX) : Prop := s.off = false ∧ s.fu = 0 ∧ s.R = []
/-- Append with no fuse. -/
theorem append_v0 {b0 : Nat} {w : World} {g p q n t a : Nat} {R : List (List UInt8)} {s : DkX} (h : LogV b0 w g p q n t a R s) (hf : s.fu = 0) (hb0 : b0 ≤ w.heap.size) (h4 : 4 ≤ n) (h9 : n ≤ 8192) (ht : t + 1 ≤ 9223372036854775807) (r : List UInt8) (m : Nat) (B : Option Addr) (cb : Nat) (hrm : r.length = m) (hr : Rd w w.heap.size B r) (hyes : (allB R).length + (m + 8) ≤ roomN n) :
    Calls Try.prog 14 #[.pointer (some ⟨g, 0, none⟩), .slice B m cb] w fun e w' => e = .returned (.int .i64 0) ∧ ∃ s', s'.fu = 0 ∧ LogV b0 w' g p q n (t + 1) a (R ++ [r]) s' ∧ Below b0 w w' ∧ UnT lgT w w' := by
  obtain ⟨f1, f2⟩ := opY_fu h.on h.sR hf n t a (allB R).length (recB r)
  refine (append_v h hb0 h4 h9 ht r m B cb hrm hr hyes).mono fun e w1 hp => ⟨?_, _, f2, hp.ok f1, hp.be, hp.un⟩
  rw [hp.en, erX, if_neg (by rw [f1]; decide)]
theorem replace_v0 {b0 : Nat} {w : World} {g p q n t a : Nat} {R : List (List UInt8)} {s : DkX} (h : LogV b0 w g p q n t a R s) (hf : s.fu = 0) (hb0 : b0 ≤ w.heap.size) (h4 : 4 ≤ n) (h9 : n ≤ 8192) (ht : t + 1 ≤ 9223372036854775807) (L : List (List UInt8)) (k : Nat) (A : Option Addr) (c : Nat) (hk : L.length = k) (hP : PtA w A L) (hyes : (allB L).length ≤ roomN n) :
    Calls Try.prog 11 #[.pointer (some ⟨g, 0, none⟩), .slice A k c] w fun e w' => e = .returned (.int .i64 0) ∧ ∃ s', s'.fu = 0 ∧ LogV b0 w' g p q n (t + 1) (1 - a) L s' ∧ Below b0 w w' ∧ UnT lgT w w' := by
  obtain ⟨f1, f2⟩ := opY_fu h.on h.sR hf n t (1 - a) 0 (allB L)
  refine (replace_v h hb0 h4 h9 ht L k A c hk hP hyes).mono fun e w1 hp => ⟨?_, _, f2, hp.ok f1, hp.be, hp.un⟩
  rw [hp.en, erX, if_neg (by rw [f1]; decide)]
theorem crash_v {b0 : Nat} {w : World} {p q n : Nat} {s : DkX} (h : DkJ b0 w p q n s) (hb0 : b0 ≤ w.heap.size) (hm : s.R.length ≤ 1000000) (A0 : Option Addr) (ns c0 : Nat) (S : List Bool) (hns : S.length = ns)
    (hst : ∀ W, Below b0 w W → UnT dkT w W → ∀ j, j < ns → ∃ blk o, A0 = some ⟨blk, o, none⟩ ∧ W.cell? ⟨blk, o + j, none⟩ = some (.bool (S.getD j false))) :
    Calls Try.prog 25 #[.pointer (some ⟨p, 0, none⟩), .slice A0 ns c0] w fun e w' => e = .returned (.tuple #[]) ∧ DkJ b0 w' p q n ⟨appl s.F (kept s.R S), [], 0, false⟩ ∧ Below b0 w w' ∧ UnT dkT w w' :=
  dcrash_any h hb0 hm A0 ns c0 S hns hst
set_option maxRecDepth 100000 in
set_option maxHeartbeats 4000000 in
theorem logs_any (w : World) : Calls Try.prog 9 #[] w fun e w' => e = .returned (.bool true) ∧ Below w.heap.size w w' := by
  have cn : Calls Try.prog 7 #[.int .i64 6] w _ := dnew_yes w 6 (by omega) (by omega)
  have cz : ∀ W, Calls Try.prog 33 #[.slice none 0 0] W fun e w' => e = .returned (.int .i64 8) ∧ W = w' := fun W => lsize_any none 0 0 (by omega) W
  have cr : ∀ W, Calls Try.prog 34 #[.int .i64 6] W fun e w' => e = .returned (.int .i64 128) ∧ W = w' := fun W => room_any 6 (by omega) (by omega) W
  have k1 := fun W => Lib.run_convert_bytes_const (P := Try.prog) W 39 5 #[.int .u8 97, .int .u8 98] 2 2 Try.underlying39 Try.underlying5
  go_enter Try.func9, Try.ntmps9
  go_wp2_with (first
    | (go_at_call 7; ((with_reducible refine cn.mono ?_); clear cn; rintro e w1 ⟨p, q, rfl, h1, hb⟩; have D1 := hidg_ (show DkJ w.heap.size w1 p q 6 ⟨zsecs 6, [], 0, false⟩ from h1); have B1 := hidg_ hb; clear h1 hb))
    | (go_at_call 8; have cp := format_v D1.out B1.out.size (by omega) (by omega); ((with_reducible refine cp.mono ?_); clear cp; rintro e w2 ⟨g, rfl, hL, hb⟩; have L2 := hidg_ hL; have B2 := hidg_ (B1.out.trans hb); clear hL hb))
    | (go_at_call 14; have BA := hidg_ (show Below w2.heap.size w2 (w2.alloc (.cells #[.int .u8 97, .int .u8 98] 5 (2, 3))) from (Below.refl _ _).alloc (Nat.le_refl _) _); have cp := append_v0 (L2.out.below BA.out) rfl (Nat.le_trans B2.out.size BA.out.size) (by omega) (by omega) (by omega) [97, 98] 2 (some ⟨w2.heap.size, 0, none⟩) 2 rfl ((rd_mark w2 [97, 98] (2, 3)).more (by simp)) (by decide); ((with_reducible refine cp.mono ?_); clear cp; rintro e w3 ⟨rfl, s3, hf3, hL, hb, _⟩; have L3 := hidg_ hL; have B3 := hidg_ ((B2.out.trans (BA.out.mono B2.out.size)).trans hb); clear hL hb hf3))
    | (go_at_call 25; have cp := crash_v L3.out.dk B3.out.size (by rw [L3.out.sR]; simp) none 0 0 [] rfl (fun W _ _ j hj => by omega); ((with_reducible refine cp.mono ?_); clear cp; rintro e w4 ⟨rfl, hd, hb, _⟩; have D4 := hidg_ hd; have B4 := hidg_ (B3.out.trans hb); clear hd hb))
    | (go_at_call 21; have cp := open_v D4.out rfl (by omega) (by omega) (by omega) (show HoldsL 6 2 0 [[97, 98]] (appl (appl s3.F (kept s3.R [])) []) by rw [L3.out.sR]; exact L3.out.ho); ((with_reducible refine cp.mono ?_); clear cp; rintro e w5 ⟨g5, A5, k5, c5, rfl, hk5, hg5, hR5, hl5, hb⟩; obtain rfl : 1 = k5 := hk5; obtain ⟨b5, o5, a5, d5, rfl, hc5, hr5, _⟩ := hR5.pta 0 (by show 0 < 1; omega); have hc6 : w5.cell? ⟨b5, o5, none⟩ = some (.slice a5 2 d5) := hc5; have cv : (convert 39 9 (.slice a5 2 d5)).run Try.prog w5 = .ok (.string { data := #[97, 98] }) w5 := conv_strn hr5 2 d5 rfl; have B5 := hidg_ (B4.out.trans (hb.mono B4.out.size)); clear hb hR5 hl5 hg5 hr5 hc5))
    | (go_at_call 33; ((with_reducible refine (cz _).mono ?_); rintro e w' ⟨rfl, rfl⟩))
    | (go_at_call 34; ((with_reducible refine (cr _).mono ?_); rintro e w' ⟨rfl, rfl⟩)))
  go_ret
  exact ⟨rfl, B5.out⟩
end Go.Proofs.Ytdlciehboimciaa
