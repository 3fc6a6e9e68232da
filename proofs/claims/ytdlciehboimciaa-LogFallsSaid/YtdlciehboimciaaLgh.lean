/-
  log: the last head that a disk's bytes tell.
-/
import Derived.Test.YtdlciehboimciaaLE
import Derived.Test.YtdlciehboimciaaLgd
import Derived.Test.YtdlciehboimciaaDkl
namespace Go.Proofs.Ytdlciehboimciaa
set_option maxRecDepth 100000
open Go.RowKit
set_option linter.unusedVariables false
set_option linter.unusedSimpArgs false

/-- Behind k sectors: the last head that they tell. -/
def lastK (room : Nat) (S : List (List UInt8)) : Nat → Nat × Nat × Nat
  | 0 => (0, 0, 0)
  | k + 1 => if hdIs room k (lastK room S k).1 (S.getD k []) = true then (hdT (S.getD k []), hdA (S.getD k []), hdC room (S.getD k [])) else lastK room S k
theorem lastK_range (room : Nat) (S : List (List UInt8)) : ∀ k, (lastK room S k).1 ≤ 9223372036854775807 ∧ (lastK room S k).2.1 ≤ 1 ∧ (lastK room S k).2.2 ≤ room
  | 0 => by simp [lastK]
  | k + 1 => by
    unfold lastK
    split
    · exact ⟨(hdT_eq _).2, (hdA_eq _).2, (hdC_eq _ _).2⟩
    · exact lastK_range room S k
theorem flat_at {S : List (List UInt8)} (hS : ∀ D ∈ S, D.length = 64) (k j : Nat) (hk : k < S.length) (hj : j < 64) : S.flatten.getD (k * 64 + j) 0 = (S.getD k []).getD j 0 := by
  have e1 := (flat_split hS k (by omega)).2
  have e2 : S.drop k = S.getD k [] :: S.drop (k + 1) := by
    rw [List.drop_eq_getElem_cons hk]
    simp [List.getD, hk]
  have hD : (S.getD k []).length = 64 := getD_mem64 hS k hk
  have e3 : S.flatten.getD (k * 64 + j) 0 = (S.flatten.drop (k * 64)).getD j 0 := by
    simp [List.getD, List.getElem?_drop]
  rw [e3, ← e1, e2, List.flatten_cons]
  generalize S.getD k [] = D at hD ⊢
  simp only [List.getD, List.getElem?_append_left (show j < D.length by omega)]
theorem lastK_succ (room : Nat) (S : List (List UInt8)) (k : Nat) : lastK room S (k + 1) = if hdIs room k (lastK room S k).1 (S.getD k []) = true then (hdT (S.getD k []), hdA (S.getD k []), hdC room (S.getD k [])) else lastK room S k := rfl
/-- What the loop keeps. -/
structure LhI (w W : World) (g2 g4 : Nat) (x : Nat × Nat × Nat) : Prop where
  b2 : Bk W g2 69 #[.int .i64 0, .int .i64 0, .int .i64 0]
  b4 : Bk W g4 69 (hdRow x)
  be : Below w.heap.size w W
  n2 : w.heap.size ≤ g2
  n4 : w.heap.size ≤ g4
  ne : g2 ≠ g4
theorem LhI.below {w W W' : World} {g2 g4 : Nat} {x : Nat × Nat × Nat} (h : LhI w W g2 g4 x) (hb : Below W.heap.size W W') : LhI w W' g2 g4 x :=
  ⟨h.b2.below hb h.b2.lt, h.b4.below hb h.b4.lt, h.be.trans (hb.mono h.be.size), h.n2, h.n4, h.ne⟩
theorem quiet_loadv {P : Program} {C : World → Prop} {o : Oper} {a : Act} {K : Act → Prop} (ty : TypeId) (x : Operand) (ho : o.op = .load ty x) (p : Addr) (hx : a.eval x = .pointer (some p)) (v : Value) (h : ∀ W, C W → (loadVar ty p).run P W = .ok v W) (hk : K (a.put o.dst v)) : o.quiet P a C K :=
  quiet_run v (fun W hW => by
    unfold execOp
    simp only [ho, hx, Instr.loadAt, Instr.sureAddr, Sem.run_bind, Sem.run_pure, Result.andThen_ok, h W hW]) hk
theorem LhI.put {w W W' : World} {g2 g4 : Nat} {x y : Nat × Nat × Nat} (h : LhI w W g2 g4 x) (hk : Bk W' g4 69 (hdRow y)) (hg : W.grownBy W' (some g4)) : LhI w W' g2 g4 y :=
  ⟨h.b2.grown hg (fun e => by injection e with e; exact h.ne e), hk, h.be.grown hg h.be.size (fun k e => by injection e with e; have := h.n4; omega), h.n2, h.n4, h.ne⟩
set_option maxRecDepth 100000 in
set_option maxHeartbeats 8000000 in
theorem lastHead_any (w : World) (b0 N n c : Nat) (A : Option Addr) (S : List (List UInt8)) (hN : N = n * 64) (hSn : S.length = n) (hS : ∀ D ∈ S, D.length = 64) (h4 : 4 ≤ n) (h9 : n ≤ 8192) (hO : Own8 w b0 (.slice A N c) S.flatten) :
    Calls Try.prog 30 #[.slice A N c] w fun e w' => e = .returned (.agg (hdRow (lastK (roomN n) S 2))) ∧ Below w.heap.size w w' := by
  obtain ⟨gI, rfl⟩ := hO.block_ (by omega)
  have hcap := hO.cap
  have hlt := (World.ownsRow.lt hO gI rfl).2
  have HCE := hidg_ (fun j (hj : j < N) => hO.cellz j hj)
  have hroom : roomN n ≤ 1000000 := by unfold roomN secsA; omega
  have cr := fun W => room_any n h4 h9 W
  have hq : (N : Int) / 64 = (n : Int) := by omega
  have hz := zeroHd
  have hzS := zeroSec
  have HS := hidg_ hS
  have HSN := hidg_ hSn
  have HN := hidg_ hN
  have HR := hidg_ hroom
  obtain ⟨g2, hg2⟩ : ∃ g, w.heap.size = g := ⟨_, rfl⟩
  obtain ⟨w1, hw1⟩ : ∃ W, w.alloc (.cells #[.int .i64 0, .int .i64 0, .int .i64 0] 69) = W := ⟨_, rfl⟩
  have B1 : Below w.heap.size w w1 := by rw [← hw1]; exact (Below.refl _ _).alloc (Nat.le_refl _) _
  have K1 : Bk w1 g2 69 #[.int .i64 0, .int .i64 0, .int .i64 0] := by rw [← hw1, ← hg2]; exact Bk.new w _ _
  obtain ⟨g4, hg4⟩ : ∃ g, w1.heap.size = g := ⟨_, rfl⟩
  obtain ⟨w2, hw2⟩ : ∃ W, w1.alloc (.cells #[.int .i64 0, .int .i64 0, .int .i64 0] 69) = W := ⟨_, rfl⟩
  have B2 : Below w1.heap.size w1 w2 := by rw [← hw2]; exact (Below.refl _ _).alloc (Nat.le_refl _) _
  have K2 : Bk w2 g4 69 (hdRow (lastK (roomN n) S 0)) := by rw [← hw2, ← hg4]; exact Bk.new w1 _ _
  have L2 := hidg_ (show LhI w w2 g2 g4 (lastK (roomN n) S 0) from ⟨K1.below B2 K1.lt, K2, B1.trans (B2.mono B1.size), by omega, by have := B1.size; omega, by have := K1.lt; omega⟩)
  obtain ⟨r, hr⟩ : ∃ r, roomN n = r := ⟨_, rfl⟩
  rw [hr] at cr L2 HR ⊢
  have H4 := hidg_ h4
  clear hO hroom B1 B2 K1 K2 hr h4 hS hN hSn
  go_enter Try.func30, Try.ntmps30
  go_wp2_with (go_at_call 34; ((with_reducible refine (cr _).mono ?_); clear cr; rintro e w' ⟨rfl, rfl⟩))
  go_loopw [12] (fun i wr => ∃ (k : Nat), k ≤ 2 ∧ i = .int .i64 k ∧ Hid (LhI w wr g2 g4 (lastK r S k))) (fun i _ => 2 - (intOf i).toNat)
  case atStart => exact ⟨0, Nat.zero_le _, rfl, L2⟩
  case round =>
    obtain ⟨k, hk, rfl, HL⟩ := hrel
    by_cases hk2 : k < 2
    · have hkS : k < S.length := by rw [HSN.out]; have := H4.out; omega
      have hD := getD_mem64 HS.out k hkS
      have HCS := hidg_ (show ∀ j, j < (rowOf (S.getD k [])).size → wr.cell? ⟨gI, k * 64 + j, none⟩ = (rowOf (S.getD k []))[j]? from fun j hj => by
        rw [rowOf_size, hD] at hj
        have h1 := HCE.out (k * 64 + j) (by have := HN.out; have := H4.out; omega)
        rw [flat_at HS.out k j hkS hj] at h1
        exact ((HL.out.be.cell (p := ⟨gI, k * 64 + j, none⟩) hlt).trans h1).trans (rowOf_at _ j (by rw [hD]; exact hj)).symm)
      have HLS := hidg_ (lastK_succ r S k)
      have hX := lastK_range r S k
      generalize lastK r S k = x at *
      generalize S.getD k [] = D at *
      obtain ⟨ET, hT⟩ := hdT_eq D
      obtain ⟨EA, hA⟩ := hdA_eq D
      obtain ⟨EC, hC⟩ := hdC_eq r D
      have ch := fun W => headOf_any W D hD r HR.out
      have hC2 := Nat.le_trans hC HR.out
      have cs := fun W => headSec_any W (hdT D) (hdA D) (hdC r D) hT hA hC2
      have heq := fun W => eqSec D (headB (hdT D) (hdA D) (hdC r D)) hD (headB_len _ _ _) W
      clear ET EA EC
      have hm : IntKind.i64.wrap ((k : Int) * 64) = ((k * 64 : Nat) : Int) := by rw [IntWalk.i64_in _ (by omega)]; omega
      have s2 := fun W => slice_from (some ⟨gI, 0, none⟩) N c (k * 64) (by have := HN.out; have := H4.out; omega) W
      have es : (if c = k * 64 then some ⟨gI, 0, none⟩ else (some (⟨gI, 0, none⟩ : Addr)).map (·.add (k * 64))) = some ⟨gI, k * 64, none⟩ := by
        rw [if_neg (by have := HN.out; have := H4.out; omega)]
        simp [Addr.add]
        intro h
        exact h.symm
      rw [es] at s2
      clear es
      obtain ⟨kk, hkk⟩ : ∃ kk, k * 64 = kk := ⟨_, rfl⟩
      have hat := fun W => run_arrayAt (P := Try.prog) W 58 5 64 (some ⟨gI, kk, none⟩) (N - kk) (c - kk) Try.underlying58 (by have := HN.out; have := H4.out; omega)
      rw [hkk] at HCS hm s2
      have d1 : decide ((k : Int) < 2) = true := decide_eq_true (by omega)
      have HD := hidg_ hD
      have HX := hidg_ hX
      have HSI := hidg_ (iSec D hD)
      have HT := hidg_ hT
      clear hD hX hk hkS hkk hA hC hC2 hT
      obtain ⟨g6, hg6⟩ : ∃ g, wr.heap.size = g := ⟨_, rfl⟩
      obtain ⟨wa, hwa⟩ : ∃ W, wr.alloc (.cells (rowOf zsec) 58) = W := ⟨_, rfl⟩
      have KA := hidg_ (show Bk wa g6 58 (rowOf zsec) by rw [← hwa, ← hg6]; exact Bk.new wr _ _)
      have BA := hidg_ (show Below g6 wr wa by rw [← hwa, ← hg6]; exact (Below.refl _ _).alloc (Nat.le_refl _) _)
      have LA := hidg_ (show LhI w wa g2 g4 x from HL.out.below (by rw [hg6]; exact BA.out))
      have HG6 := hidg_ (show w.heap.size ≤ g6 ∧ g2 < g6 ∧ g4 < g6 from ⟨by rw [← hg6]; exact HL.out.be.size, by rw [← hg6]; exact HL.out.b2.lt, by rw [← hg6]; exact HL.out.b4.lt⟩)
      go_upto_region 8 with (first
        | (refine wpList_load_sub rfl 58 (.tmp 19) rfl gI kk rfl (rowOf D) HCS.out _ Try.underlying58 rfl HSI.out ?_)
        | (refine wpList_put_row rfl 58 (.tmp 6) (.tmp 20) rfl g6 (rowOf D) rfl rfl 58 (rowOf zsec) KA.out HSI.out (by rw [rowOf_size, rowOf_size, HD.out]; rfl) (bytes_one _) ?_; intro w9 k9 g9 s9; have K9 := hidg_ k9; have G9 := hidg_ g9; clear k9 g9 s9)
        | (refine wpList_load_sub rfl 58 (.tmp 6) rfl g6 0 rfl (rowOf D) (fun j hj => by rw [Nat.zero_add]; exact K9.out.cell j) _ Try.underlying58 rfl HSI.out ?_)
        | (go_at_call 49; ((with_reducible refine (ch _).mono ?_); clear ch; rintro e w10 ⟨rfl, hB10⟩; have B10 := hidg_ hB10; clear hB10))
        | (refine wpList_put_row rfl 69 (.tmp 7) (.tmp 23) rfl w10.heap.size (hdRow (hdT D, hdA D, hdC r D)) rfl rfl 69 #[.int .i64 0, .int .i64 0, .int .i64 0] (Bk.new w10 _ _) (iHd _) rfl (hdRow_one _) ?_; intro w11 k11 g11 s11; have K11 := hidg_ k11; have G11 := hidg_ g11; clear k11 g11 s11))
      have YA : Below g6 wa w9 := (Below.refl g6 wa).grown G9.out (by have := KA.out.lt; omega) (fun k e => by injection e with e; omega)
      have Y10 : Below g6 wa w10 := YA.trans (B10.out.mono (by have := YA.size; have := KA.out.lt; omega))
      have Y11 : Below g6 wa w11 := (Y10.trans ((Below.refl w10.heap.size w10).alloc (Nat.le_refl _) (.cells #[.int .i64 0, .int .i64 0, .int .i64 0] 69) |>.mono (by have := Y10.size; have := KA.out.lt; omega))).grown G11.out (by have := Y10.size; have := KA.out.lt; simp; omega) (fun k e => by injection e with e; have := Y10.size; have := KA.out.lt; omega)
      have hs11 : wa.heap.size ≤ w11.heap.size := Y11.size
      have K6 : Bk w11 g6 58 (rowOf D) := ((K9.out.below B10.out K9.out.lt).alloc _).grown G11.out (fun e => by injection e with e; have := YA.size; have := B10.out.size; have := KA.out.lt; omega)
      have L11 := hidg_ (show LhI w w11 g2 g4 x from ⟨LA.out.b2.below Y11 HG6.out.2.1, LA.out.b4.below Y11 HG6.out.2.2, LA.out.be.trans (Y11.mono HG6.out.1), LA.out.n2, LA.out.n4, LA.out.ne⟩)
      have K7 := K11.out
      obtain ⟨g7, hg7⟩ : ∃ g, w10.heap.size = g := ⟨_, rfl⟩
      rw [hg7] at K7 ⊢
      have Q6 := hidg_ (fun W (hW : Below w11.heap.size w11 W) => run_loadVar_row (P := Try.prog) W g6 58 58 (rowOf D) (0, 0) _ (K6.below hW K6.lt) Try.underlying58 rfl HSI.out)
      have Q7 := hidg_ (fun W (hW : Below w11.heap.size w11 W) => run_loadVar_row (P := Try.prog) W g7 69 69 (hdRow (hdT D, hdA D, hdC r D)) (0, 0) _ (K7.below hW K7.lt) Try.underlying69 rfl (iHd _))
      have QT := hidg_ (fun W (hW : Below w11.heap.size w11 W) => (hdRow_cells (K7.below hW K7.lt)).1)
      have QX := hidg_ (fun W (hW : Below w11.heap.size w11 W) => (hdRow_cells (L11.out.b4.below hW L11.out.b4.lt)).1)
      have QS := hidg_ (fun W (hW : Below w11.heap.size w11 W) => (cs W).mono fun e w' hh => (show e = .returned (.agg (rowOf (headB (hdT D) (hdA D) (hdC r D)))) ∧ Below w11.heap.size w11 w' from ⟨hh.1, hW.trans (hh.2.mono hW.size)⟩))
      have HK7 := hidg_ K7
      clear YA Y10 Y11 K6 K7 cs K11 G11 hg7 hs11 LA B10 K9 G9 KA BA HL
      obtain ⟨b1, hb1⟩ : ∃ b, (D == headB (hdT D) (hdA D) (hdC r D)) = b := ⟨_, rfl⟩
      obtain ⟨b2, hb2⟩ : ∃ b, decide (hdT D % 2 = k) = b := ⟨_, rfl⟩
      obtain ⟨b3, hb3⟩ : ∃ b, decide (x.1 < hdT D) = b := ⟨_, rfl⟩
      have HIS := hidg_ (show hdIs r k x.1 D = (b1 && (b2 && b3)) by rw [← hb1, ← hb2, ← hb3]; rfl)
      rw [hb1] at heq
      obtain ⟨m2, hm2⟩ : ∃ m, hdT D % 2 = m := ⟨_, rfl⟩
      rw [hm2] at hb2
      have hrem : (hdT D : Int).tmod 2 = (m2 : Int) := by rw [Int.tmod_eq_emod_of_nonneg (by omega)]; omega
      have e2 : ((m2 : Int) == (k : Int)) = b2 := by rw [← hb2, Bool.eq_iff_iff, beq_iff_eq, decide_eq_true_iff]; omega
      have e3 : decide ((x.1 : Int) < (hdT D : Int)) = b3 := by rw [← hb3, decide_eq_decide]; omega
      clear hb1 hb2 hb3 hm2
      rw [put_none]
      cases b1
      · clear hrem e2 e3
        have HNO := hidg_ (show (if hdIs r k x.1 D = true then (hdT D, hdA D, hdC r D) else x) = x by rw [HIS.out]; rfl)
        refine region_quiet_in (C := fun W => Below w11.heap.size w11 W) (by kernel_rfl) (by kernel_rfl) ((Below.refl _ _).drew) ?_
        (repeat go_big_quiet_skip); (go_big_quiet_want; (refine quiet_loadv 58 (.tmp 6) rfl ⟨g6, 0, none⟩ rfl (.agg (rowOf D)) Q6.out ?_; go_simp); go_big_quiet_on)
        (repeat go_big_quiet_skip); (go_big_quiet_want; (refine quiet_loadv 69 (.tmp 7) rfl ⟨g7, 0, none⟩ rfl (.agg (hdRow (hdT D, hdA D, hdC r D))) Q7.out ?_; go_simp); go_big_quiet_on)
        (repeat go_big_quiet_skip); (go_big_quiet_want; (refine quiet_call (.agg (rowOf (headB (hdT D) (hdA D) (hdC r D)))) 50 #[.agg (hdRow (hdT D, hdA D, hdC r D))] ?_ QS.out ?_; (focus (intro W; go_simp; done)); go_simp); go_big_quiet_on)
        (repeat go_big_quiet_skip); (go_big_quiet_want; (refine quiet_run (.bool false) ?_ ?_; (focus (intro W hW; have h := heq W; go_simp; done)); go_simp); go_big_quiet_on)
        (repeat go_big_quiet_skip); (go_big_quiet_want; (refine BigFrame.quiet_move _ rfl ?_; go_simp); go_big_quiet_on)
        (repeat go_big_quiet_skip); (go_big_quiet_want; (refine quiet_run (.bool false) ?_ ?_; (focus (intro W hW; go_simp; done)); go_simp); go_big_quiet_on)
        (repeat go_big_quiet_skip); (go_big_quiet_want; (refine BigFrame.quiet_move _ rfl ?_; go_simp); go_big_quiet_on)
        (repeat go_big_quiet_skip); (go_big_quiet_want; (refine quiet_run (.bool false) ?_ ?_; (focus (intro W hW; go_simp; done)); go_simp); go_big_quiet_on)
        repeat go_big_quiet_skip
        refine wpQuiet_nil ?_
        intro w12 hw12
        have h12 : Below w11.heap.size w11 w12 := hw12
        have L12 := hidg_ (L11.out.below h12)
        have K12 := hidg_ (HK7.out.below h12 HK7.out.lt)
        have H12 := hidg_ h12
        clear hw12 h12 L11 HK7 Q6 Q7 QT QX QS
        go_wp2
        go_roundw
        case rel => exact ⟨k + 1, by omega, by go_num, hidg_ (by rw [HLS.out, HNO.out]; exact L12.out)⟩
        case measure => simp [intOf]; omega
      · cases b2
        · skip
          have HNO := hidg_ (show (if hdIs r k x.1 D = true then (hdT D, hdA D, hdC r D) else x) = x by rw [HIS.out]; rfl)
          refine region_quiet_in (C := fun W => Below w11.heap.size w11 W) (by kernel_rfl) (by kernel_rfl) ((Below.refl _ _).drew) ?_
          (repeat go_big_quiet_skip); (go_big_quiet_want; (refine quiet_loadv 58 (.tmp 6) rfl ⟨g6, 0, none⟩ rfl (.agg (rowOf D)) Q6.out ?_; go_simp); go_big_quiet_on)
          (repeat go_big_quiet_skip); (go_big_quiet_want; (refine quiet_loadv 69 (.tmp 7) rfl ⟨g7, 0, none⟩ rfl (.agg (hdRow (hdT D, hdA D, hdC r D))) Q7.out ?_; go_simp); go_big_quiet_on)
          (repeat go_big_quiet_skip); (go_big_quiet_want; (refine quiet_call (.agg (rowOf (headB (hdT D) (hdA D) (hdC r D)))) 50 #[.agg (hdRow (hdT D, hdA D, hdC r D))] ?_ QS.out ?_; (focus (intro W; go_simp; done)); go_simp); go_big_quiet_on)
          (repeat go_big_quiet_skip); (go_big_quiet_want; (refine quiet_run (.bool true) ?_ ?_; (focus (intro W hW; have h := heq W; go_simp; done)); go_simp); go_big_quiet_on)
          (repeat go_big_quiet_skip); (go_big_quiet_want; (refine BigFrame.quiet_move _ rfl ?_; go_simp); go_big_quiet_on)
          (repeat go_big_quiet_skip); (go_big_quiet_want; (refine quiet_run (.pointer (some ⟨g7, 0, none⟩)) ?_ ?_; (focus (intro W hW; go_simp; done)); go_simp); go_big_quiet_on)
          (repeat go_big_quiet_skip); (go_big_quiet_want; (refine quiet_run (.int .i64 (hdT D : Int)) ?_ ?_; (focus (intro W hW; have h := QT.out W hW; go_simp; done)); go_simp); go_big_quiet_on)
          (repeat go_big_quiet_skip); (go_big_quiet_want; (refine quiet_run (.int .i64 (m2 : Int)) ?_ ?_; (focus (intro W hW; go_simp; done)); go_simp); go_big_quiet_on)
          (repeat go_big_quiet_skip); (go_big_quiet_want; (refine BigFrame.quiet_move _ rfl ?_; go_simp); go_big_quiet_on)
          (repeat go_big_quiet_skip); (go_big_quiet_want; (refine quiet_run (.bool false) ?_ ?_; (focus (intro W hW; go_simp; done)); go_simp); go_big_quiet_on)
          (repeat go_big_quiet_skip); (go_big_quiet_want; (refine quiet_run (.bool false) ?_ ?_; (focus (intro W hW; go_simp; done)); go_simp); go_big_quiet_on)
          (repeat go_big_quiet_skip); (go_big_quiet_want; (refine BigFrame.quiet_move _ rfl ?_; go_simp); go_big_quiet_on)
          (repeat go_big_quiet_skip); (go_big_quiet_want; (refine quiet_run (.bool false) ?_ ?_; (focus (intro W hW; go_simp; done)); go_simp); go_big_quiet_on)
          repeat go_big_quiet_skip
          refine wpQuiet_nil ?_
          intro w12 hw12
          have h12 : Below w11.heap.size w11 w12 := hw12
          have L12 := hidg_ (L11.out.below h12)
          have K12 := hidg_ (HK7.out.below h12 HK7.out.lt)
          have H12 := hidg_ h12
          clear hw12 h12 L11 HK7 Q6 Q7 QT QX QS
          go_wp2
          go_roundw
          case rel => exact ⟨k + 1, by omega, by go_num, hidg_ (by rw [HLS.out, HNO.out]; exact L12.out)⟩
          case measure => simp [intOf]; omega
        · cases b3
          · have e4 : hdT D ≤ x.1 := by have := of_decide_eq_false e3; omega
            have HNO := hidg_ (show (if hdIs r k x.1 D = true then (hdT D, hdA D, hdC r D) else x) = x by rw [HIS.out]; rfl)
            refine region_quiet_in (C := fun W => Below w11.heap.size w11 W) (by kernel_rfl) (by kernel_rfl) ((Below.refl _ _).drew) ?_
            (repeat go_big_quiet_skip); (go_big_quiet_want; (refine quiet_loadv 58 (.tmp 6) rfl ⟨g6, 0, none⟩ rfl (.agg (rowOf D)) Q6.out ?_; go_simp); go_big_quiet_on)
            (repeat go_big_quiet_skip); (go_big_quiet_want; (refine quiet_loadv 69 (.tmp 7) rfl ⟨g7, 0, none⟩ rfl (.agg (hdRow (hdT D, hdA D, hdC r D))) Q7.out ?_; go_simp); go_big_quiet_on)
            (repeat go_big_quiet_skip); (go_big_quiet_want; (refine quiet_call (.agg (rowOf (headB (hdT D) (hdA D) (hdC r D)))) 50 #[.agg (hdRow (hdT D, hdA D, hdC r D))] ?_ QS.out ?_; (focus (intro W; go_simp; done)); go_simp); go_big_quiet_on)
            (repeat go_big_quiet_skip); (go_big_quiet_want; (refine quiet_run (.bool true) ?_ ?_; (focus (intro W hW; have h := heq W; go_simp; done)); go_simp); go_big_quiet_on)
            (repeat go_big_quiet_skip); (go_big_quiet_want; (refine BigFrame.quiet_move _ rfl ?_; go_simp); go_big_quiet_on)
            (repeat go_big_quiet_skip); (go_big_quiet_want; (refine quiet_run (.pointer (some ⟨g7, 0, none⟩)) ?_ ?_; (focus (intro W hW; go_simp; done)); go_simp); go_big_quiet_on)
            (repeat go_big_quiet_skip); (go_big_quiet_want; (refine quiet_run (.int .i64 (hdT D : Int)) ?_ ?_; (focus (intro W hW; have h := QT.out W hW; go_simp; done)); go_simp); go_big_quiet_on)
            (repeat go_big_quiet_skip); (go_big_quiet_want; (refine quiet_run (.int .i64 (m2 : Int)) ?_ ?_; (focus (intro W hW; go_simp; done)); go_simp); go_big_quiet_on)
            (repeat go_big_quiet_skip); (go_big_quiet_want; (refine BigFrame.quiet_move _ rfl ?_; go_simp); go_big_quiet_on)
            (repeat go_big_quiet_skip); (go_big_quiet_want; (refine quiet_run (.bool true) ?_ ?_; (focus (intro W hW; go_simp; done)); go_simp); go_big_quiet_on)
            (repeat go_big_quiet_skip); (go_big_quiet_want; (refine quiet_run (.bool true) ?_ ?_; (focus (intro W hW; go_simp; done)); go_simp); go_big_quiet_on)
            (repeat go_big_quiet_skip); (go_big_quiet_want; (refine BigFrame.quiet_move _ rfl ?_; go_simp); go_big_quiet_on)
            (repeat go_big_quiet_skip); (go_big_quiet_want; (refine quiet_run (.pointer (some ⟨g7, 0, none⟩)) ?_ ?_; (focus (intro W hW; go_simp; done)); go_simp); go_big_quiet_on)
            (repeat go_big_quiet_skip); (go_big_quiet_want; (refine quiet_run (.int .i64 (hdT D : Int)) ?_ ?_; (focus (intro W hW; have h := QT.out W hW; go_simp; done)); go_simp); go_big_quiet_on)
            (repeat go_big_quiet_skip); (go_big_quiet_want; (refine quiet_run (.pointer (some ⟨g4, 0, none⟩)) ?_ ?_; (focus (intro W hW; go_simp; done)); go_simp); go_big_quiet_on)
            (repeat go_big_quiet_skip); (go_big_quiet_want; (refine quiet_run (.int .i64 (x.1 : Int)) ?_ ?_; (focus (intro W hW; have h := QX.out W hW; go_simp; done)); go_simp); go_big_quiet_on)
            (repeat go_big_quiet_skip); (go_big_quiet_want; (refine quiet_run (.bool false) ?_ ?_; (focus (intro W hW; go_simp; done)); go_simp); go_big_quiet_on)
            (repeat go_big_quiet_skip); (go_big_quiet_want; (refine quiet_run (.bool false) ?_ ?_; (focus (intro W hW; go_simp; done)); go_simp); go_big_quiet_on)
            repeat go_big_quiet_skip
            refine wpQuiet_nil ?_
            intro w12 hw12
            have h12 : Below w11.heap.size w11 w12 := hw12
            have L12 := hidg_ (L11.out.below h12)
            have K12 := hidg_ (HK7.out.below h12 HK7.out.lt)
            have H12 := hidg_ h12
            clear hw12 h12 L11 HK7 Q6 Q7 QT QX QS
            go_wp2
            go_roundw
            case rel => exact ⟨k + 1, by omega, by go_num, hidg_ (by rw [HLS.out, HNO.out]; exact L12.out)⟩
            case measure => simp [intOf]; omega
          · have e4 : x.1 < hdT D := by have := of_decide_eq_true e3; omega
            have HNO := hidg_ (show (if hdIs r k x.1 D = true then (hdT D, hdA D, hdC r D) else x) = (hdT D, hdA D, hdC r D) by rw [HIS.out]; rfl)
            refine region_quiet_in (C := fun W => Below w11.heap.size w11 W) (by kernel_rfl) (by kernel_rfl) ((Below.refl _ _).drew) ?_
            (repeat go_big_quiet_skip); (go_big_quiet_want; (refine quiet_loadv 58 (.tmp 6) rfl ⟨g6, 0, none⟩ rfl (.agg (rowOf D)) Q6.out ?_; go_simp); go_big_quiet_on)
            (repeat go_big_quiet_skip); (go_big_quiet_want; (refine quiet_loadv 69 (.tmp 7) rfl ⟨g7, 0, none⟩ rfl (.agg (hdRow (hdT D, hdA D, hdC r D))) Q7.out ?_; go_simp); go_big_quiet_on)
            (repeat go_big_quiet_skip); (go_big_quiet_want; (refine quiet_call (.agg (rowOf (headB (hdT D) (hdA D) (hdC r D)))) 50 #[.agg (hdRow (hdT D, hdA D, hdC r D))] ?_ QS.out ?_; (focus (intro W; go_simp; done)); go_simp); go_big_quiet_on)
            (repeat go_big_quiet_skip); (go_big_quiet_want; (refine quiet_run (.bool true) ?_ ?_; (focus (intro W hW; have h := heq W; go_simp; done)); go_simp); go_big_quiet_on)
            (repeat go_big_quiet_skip); (go_big_quiet_want; (refine BigFrame.quiet_move _ rfl ?_; go_simp); go_big_quiet_on)
            (repeat go_big_quiet_skip); (go_big_quiet_want; (refine quiet_run (.pointer (some ⟨g7, 0, none⟩)) ?_ ?_; (focus (intro W hW; go_simp; done)); go_simp); go_big_quiet_on)
            (repeat go_big_quiet_skip); (go_big_quiet_want; (refine quiet_run (.int .i64 (hdT D : Int)) ?_ ?_; (focus (intro W hW; have h := QT.out W hW; go_simp; done)); go_simp); go_big_quiet_on)
            (repeat go_big_quiet_skip); (go_big_quiet_want; (refine quiet_run (.int .i64 (m2 : Int)) ?_ ?_; (focus (intro W hW; go_simp; done)); go_simp); go_big_quiet_on)
            (repeat go_big_quiet_skip); (go_big_quiet_want; (refine BigFrame.quiet_move _ rfl ?_; go_simp); go_big_quiet_on)
            (repeat go_big_quiet_skip); (go_big_quiet_want; (refine quiet_run (.bool true) ?_ ?_; (focus (intro W hW; go_simp; done)); go_simp); go_big_quiet_on)
            (repeat go_big_quiet_skip); (go_big_quiet_want; (refine quiet_run (.bool true) ?_ ?_; (focus (intro W hW; go_simp; done)); go_simp); go_big_quiet_on)
            (repeat go_big_quiet_skip); (go_big_quiet_want; (refine BigFrame.quiet_move _ rfl ?_; go_simp); go_big_quiet_on)
            (repeat go_big_quiet_skip); (go_big_quiet_want; (refine quiet_run (.pointer (some ⟨g7, 0, none⟩)) ?_ ?_; (focus (intro W hW; go_simp; done)); go_simp); go_big_quiet_on)
            (repeat go_big_quiet_skip); (go_big_quiet_want; (refine quiet_run (.int .i64 (hdT D : Int)) ?_ ?_; (focus (intro W hW; have h := QT.out W hW; go_simp; done)); go_simp); go_big_quiet_on)
            (repeat go_big_quiet_skip); (go_big_quiet_want; (refine quiet_run (.pointer (some ⟨g4, 0, none⟩)) ?_ ?_; (focus (intro W hW; go_simp; done)); go_simp); go_big_quiet_on)
            (repeat go_big_quiet_skip); (go_big_quiet_want; (refine quiet_run (.int .i64 (x.1 : Int)) ?_ ?_; (focus (intro W hW; have h := QX.out W hW; go_simp; done)); go_simp); go_big_quiet_on)
            (repeat go_big_quiet_skip); (go_big_quiet_want; (refine quiet_run (.bool true) ?_ ?_; (focus (intro W hW; go_simp; done)); go_simp); go_big_quiet_on)
            (repeat go_big_quiet_skip); (go_big_quiet_want; (refine quiet_run (.bool true) ?_ ?_; (focus (intro W hW; go_simp; done)); go_simp); go_big_quiet_on)
            repeat go_big_quiet_skip
            refine wpQuiet_nil ?_
            intro w12 hw12
            have h12 : Below w11.heap.size w11 w12 := hw12
            have L12 := hidg_ (L11.out.below h12)
            have K12 := hidg_ (HK7.out.below h12 HK7.out.lt)
            have H12 := hidg_ h12
            clear hw12 h12 L11 HK7 Q6 Q7 QT QX QS
            go_wp2_with (first
              | (refine wpList_load_sub rfl 69 (.tmp 7) rfl g7 0 rfl (hdRow (hdT D, hdA D, hdC r D)) (fun j hj => by rw [Nat.zero_add]; exact K12.out.cell j) _ Try.underlying69 rfl (iHd _) ?_)
              | (refine wpList_put_row rfl 69 (.tmp 4) (.tmp 42) rfl g4 (hdRow (hdT D, hdA D, hdC r D)) rfl rfl 69 (hdRow x) L12.out.b4 (iHd _) rfl (hdRow_one _) ?_; intro w13 k13 g13 s13; have L13 := hidg_ (L12.out.put k13 g13); clear k13 g13 s13))
            go_roundw
            case rel => exact ⟨k + 1, by omega, by go_num, hidg_ (by rw [HLS.out, HNO.out]; exact L13.out)⟩
            case measure => simp [intOf]; omega
    · obtain rfl : k = 2 := by omega
      have d1 : decide ((2 : Int) < 2) = false := by decide
      go_wp2_with (first
        | (refine wpList_load_sub rfl 69 (.tmp 4) rfl g4 0 rfl (hdRow (lastK r S 2)) (fun j hj => by rw [Nat.zero_add]; exact HL.out.b4.cell j) _ Try.underlying69 rfl (iHd _) ?_)
        | (refine wpList_put_row rfl 69 (.tmp 2) (.tmp 44) rfl g2 (hdRow (lastK r S 2)) rfl rfl 69 #[.int .i64 0, .int .i64 0, .int .i64 0] HL.out.b2 (iHd _) rfl (hdRow_one _) ?_; intro w13 k13 g13 s13; have K13 := hidg_ k13; have G13 := hidg_ g13; clear k13 g13 s13))
      exact bodyPost_ret (results_cellK Try.results30 _ _ g2 rfl (run_loadVar_row _ _ _ _ _ (0, 0) _ K13.out Try.underlying69 rfl (iHd _))) rfl ⟨rfl, HL.out.be.grown G13.out HL.out.be.size (fun k e => by injection e with e; have := HL.out.n2; omega)⟩
end Go.Proofs.Ytdlciehboimciaa
