/-
  Proved: for all bytes and numbers EnvelopeForged answers true: by an ideal vault nothing is opened but what was sealed, bound as it was. No condition.
-/
import Derived.Test.YtmfhgmbbgcefkaaDoorXX
namespace Go.Proofs.YtmfhgmbbgcefkaaDoor.envelopeForged
set_option maxRecDepth 100000
open Go.ChangeShapes Go.WideShapes Go.ChangeAt Go.RowKit
set_option linter.unusedVariables false
set_option linter.unusedSimpArgs false

theorem hid_ {p : Prop} (h : p) : Hid p := h
def RgV (b5 gs ls sc i nn : Nat) (z2 : Int) (U4 : Nat) (x y : UInt8) : Nat → Value → Prop
  | 0, v => v = .pointer (some ⟨b5, 37, none⟩)
  | 1, v => v = .slice (some ⟨gs, 0, none⟩) ls sc
  | 2, v => v = .int .i64 z2
  | 3, v => v = .int .u64 (U4 : Int)
  | 4, v => v = .pointer (some ⟨b5, 37, none⟩)
  | 5, v => v = .slice (some ⟨gs, 0, none⟩) ls sc
  | 6, v => v = .int .i64 (ls : Int)
  | 7, v => v = .int .u64 (ls : Int)
  | 8, v => v = .int .u64 (i : Int)
  | 9, v => v = .int .i64 (i : Int)
  | 10, v => v = .pointer (some ⟨gs, i, none⟩)
  | 11, v => v = .int .u8 ((x.toNat : Nat) : Int)
  | 12, v => v = .int .i64 (nn : Int)
  | 13, v => v = .int .u8 (nn : Int)
  | 14, v => v = .int .u8 ((y.toNat : Nat) : Int)
  | 15, v => v = .pointer (some ⟨gs, i, none⟩)
  | _, _ => True
def K4 : List UInt8 := 4 :: zbytes 31

set_option maxRecDepth 100000 in
set_option maxHeartbeats 16000000 in
theorem walk (w : World) (A0 : Option Addr) (l0 : List UInt8) (c0 : Nat) (hr : Rd w w.heap.size A0 l0) (hlc : l0.length ≤ c0) (hcm : c0 ≤ 9223372036854775807) (z1 z2 : Int) (ht : Tab w) (hg1 : 2 < w.heap.size) (hpt : PTab w) (hg2 : 0 < w.heap.size) :
    Calls Tryd.prog 3 #[.slice A0 l0.length c0, .int .i64 z1, .int .i64 z2] w fun e w' => e = .returned (.bool true) ∧ Below w.heap.size w w' := by
  obtain ⟨m, hm⟩ : ∃ m, m = min l0.length 300 := ⟨_, rfl⟩
  have hm1 := fun W => run_min2 l0.length 300 m hm W
  rw [show ((300 : Nat) : Int) = 300 from rfl] at hm1
  have hs1 := fun W => slice_to A0 l0.length c0 (m : Int) m rfl (by omega) W
  have HM0 : (l0.take 300).length = m := by rw [List.length_take, hm, Nat.min_comm]
  have HRT := hid_ (hr.take 300)
  have m300 : m ≤ 300 := by omega
  generalize l0.take 300 = t at *
  have HM := hid_ HM0
  have hzH := zeroH
  have hzE := zeroE
  have KL : K4.length = 32 := rfl
  have ci := ideal_new w K4 KL
  have HT := hid_ ht
  have HP := hid_ hpt
  have HKB := hid_ (show K4 = 4 :: zbytes 31 from rfl)
  generalize K4 = K at *
  clear ht hpt KL hr hm HM0
  go_enter Tryd.func3, Tryd.ntmps3
  go_upto_region 2 with (first
    | (refine wpList_built rfl 25 _ rfl (rowOf K) (by rw [HKB.out]; kernel_rfl) ?_)
    | (go_at_call 4; ((with_reducible refine ci.mono ?_); clear ci; rintro e w1 ⟨v, sp, nm, kn, F, rfl, hv, hF, hb⟩; have M1 := hid_ (show MineX w true v sp nm kn K [] [] F w1 from ⟨hv, hF, hb⟩); clear hv hF hb)))
  -- the name
  have k1 := Lib.run_convert_bytes_const (P := Tryd.prog) w1 22 5 #[.int .u8 110, .int .u8 97, .int .u8 109, .int .u8 101] 4 4 Tryd.underlying22 Tryd.underlying5
  obtain ⟨g2, w2, hg2', hw2, b2, R2, S2⟩ := mark_world w1 [110, 97, 109, 101] (4, 5)
  have T2 := hid_ (show OwnT w2 g2 (.slice (some ⟨g2, 0, none⟩) 4 4) [110, 97, 109, 101] by have h := ownT_mark w1 [110, 97, 109, 101] 4 rfl (by simp only [maxLen]; omega); rw [hw2, hg2'] at h; exact h)
  rw [show rowOf [110, 97, 109, 101] = #[.int .u8 110, .int .u8 97, .int .u8 109, .int .u8 101] from rfl] at hw2
  rw [hg2'] at k1
  have M2 := hid_ (M1.out.then_ (hg2' ▸ b2))
  have GF := hid_ (show g2 ∉ F from fun hm => by have := M1.out.lt _ hm; omega)
  have GW := hid_ (show w.heap.size ≤ g2 by rw [← hg2']; exact M1.out.below.size)
  go_upto_region 3 with fail
  clear k1 hw2 M1 b2
  -- what is sealed
  have k1 := Lib.run_convert_bytes_const (P := Tryd.prog) w2 22 5 #[.int .u8 112, .int .u8 97, .int .u8 115, .int .u8 116] 4 4 Tryd.underlying22 Tryd.underlying5
  obtain ⟨g3, w3, hg3', hw3, b3, R3, S3⟩ := mark_world w2 [112, 97, 115, 116] (4, 5)
  rw [show rowOf [112, 97, 115, 116] = #[.int .u8 112, .int .u8 97, .int .u8 115, .int .u8 116] from rfl] at hw3
  rw [hg3'] at k1
  have M3 := hid_ (M2.out.then_ (hg3' ▸ b3))
  have T3 := hid_ (T2.out.below (hg3' ▸ b3) (Nat.le_refl _))
  have R23 := (R2.below (B := w2.heap.size) (hg3' ▸ b3)).more (by have := b3.size; omega)
  have G23 := hid_ (show g2 < g3 ∧ g3 < w3.heap.size by omega)
  have RT3 := (HRT.out.below M3.out.below).more M3.out.below.size
  obtain ⟨Kk, hKk⟩ : ∃ x, bV true K [] [110, 97, 109, 101] = x := ⟨_, rfl⟩
  have KKL := hid_ (show Kk.length = 32 by rw [← hKk]; exact bV_len _ _ _ _)
  have HKK := hid_ hKk
  obtain ⟨X, hX⟩ : ∃ x, esX true K [] [110, 97, 109, 101] (hB g3) = x := ⟨_, rfl⟩
  obtain ⟨P, hP⟩ : ∃ x, esP false t = x := ⟨_, rfl⟩
  have PL := hid_ (show P.length ≤ 4096 by rw [← hP, esP_len false t (by have := HM.out; omega)]; exact clsS_le _)
  obtain ⟨S, hS⟩ : ∃ x, drawB K 1 1 (P.length + 8) = x := ⟨_, rfl⟩
  obtain ⟨ls, hls⟩ : ∃ n, P.length + 16 = n := ⟨_, rfl⟩
  have SL := hid_ (show S.length = ls by rw [← hS, drawB_len, ← hls]; omega)
  have LSB := hid_ (show 16 ≤ ls ∧ ls ≤ 4112 by have := PL.out; omega)
  have hsl : sL true K [] (hB g3).e (hB g3).c (hB g3).n X P = [⟨2, 4, 3, X, S, P⟩] := by rw [← hS]; exact (sealed_two K X P).1
  have hsb : sB true K [] (hB g3).e (hB g3).c (hB g3).n X P = S := by rw [← hS]; exact (sealed_two K X P).2
  have hbn : bN true [] [110, 97, 109, 101] = [[110, 97, 109, 101]] := by unfold bN; rw [if_neg (by unfold nmBad; simp), if_pos rfl]; rfl
  have cs := seal_own M3.out.vs (some ⟨g2, 0, none⟩) 4 4 [110, 97, 109, 101] rfl (by omega) (by omega) (Nat.le_refl _) (by omega) R23 (hB g3) (hB_ok g3) (rdf_of (F' := F) R3 (fun a e hm => by injection e with e; subst e; have h : g3 < w2.heap.size := M2.out.lt _ hm; omega)) A0 m c0 t HM.out (by omega) RT3 false (by simp) (by simp) (M3.out.tab HT.out hg1) (M3.out.glt hg1) (M3.out.ptab HP.out hg2) (M3.out.glt hg2) (M3.out.gF hg1) (by simp)
  unfold EsW at cs
  rw [hX, hP, hKk, hsl, hsb, SL.out, hbn, hB_row] at cs
  have HXX := hid_ (show X = boundB Kk (hB g3) by rw [← hX, ← hKk]; rfl)
  clear hX hP hS hsl hsb b3 R3 S3 R2 S2 R23 RT3 hbn hKk hls
  go_upto_region 4 with (first
    | (go_at_call 5; ((with_reducible refine cs.mono ?_); clear cs; rintro e w4 ⟨pa, pc, sa, sc, F4, rfl, hOp, hOs, hnp, hns, hne, hV, hG, hU⟩; obtain ⟨gp, rfl⟩ := Own8.block_ (n := 4) hOp (by omega); obtain ⟨gs, rfl⟩ := hOs.block_ (by have := LSB.out; omega); have M4 := hid_ (M3.out.next hV hG hU); have OP4 := hid_ (show Own8 w4 w3.heap.size (.slice (some ⟨gp, 0, none⟩) 4 pc) [112, 97, 115, 116] from hOp); have OS4 := hid_ hOs; have NP := hid_ (hnp _ rfl); have NS := hid_ (hns _ rfl); have NE := hid_ (show gp ≠ gs from hne _ _ rfl rfl); have G4 := hid_ (show g2 ∉ F4 from fun hm => (hG _ hm).elim GF.out (fun h => by have := G23.out; omega)); have T4 := hid_ (T3.out.atx (fun k hk => by injection hk with hk; subst hk; exact hU.block _ (by have := G23.out; show g2 < _; omega) GF.out)); have WB := hid_ (show w.heap.size ≤ w3.heap.size from M3.out.below.size); clear hV hG hU hOp hOs hnp hns hne))
    | (refine wpList_put_row rfl 32 (.tmp 9) (.tmp 32) rfl w4.heap.size (eRow Kk (⟨2, 3, 4, 5, some ⟨gp, 0, none⟩, [112, 97, 115, 116], pc⟩ : HeadV) (some ⟨gs, 0, none⟩) ls sc) rfl rfl 32 eRow0 (Bk.new w4 _ _) (iE _ KKL.out _ _ _ _) (by rw [eRow_size _ KKL.out]; exact eRow_z) (eRow_one _ _ _ _ _) ?_; intro w5 k5 g5 s5; have E5 := hid_ k5; have B5 := mark_put w4 w5 w4.heap.size 32 eRow0 _ g5; have M5 := hid_ (M4.out.then_ B5); have OP5 := hid_ (OP4.out.below B5 (Nat.le_refl _)); have OS5 := hid_ (OS4.out.below B5 (Nat.le_refl _)); have T5 := hid_ (T4.out.below B5 (Nat.le_refl _)); have NB := hid_ (show w4.heap.size ∉ F4 from fun hm => absurd (M4.out.lt _ hm) (Nat.lt_irrefl w4.heap.size)); have NBP := hid_ (show gp < w4.heap.size ∧ gs < w4.heap.size from ⟨(World.ownsRow.lt OP4.out gp rfl).2, (World.ownsRow.lt OS4.out gs rfl).2⟩); have NBW := hid_ (show w.heap.size ≤ w4.heap.size from M4.out.below.size); have GPS := hid_ (show w3.heap.size ≤ gp ∧ w3.heap.size ≤ gs from ⟨(World.ownsRow.lt OP4.out gp rfl).1, (World.ownsRow.lt OS4.out gs rfl).1⟩); have NBG := hid_ (show g2 < w3.heap.size ∧ g2 < w4.heap.size from ⟨by have := G23.out; omega, by have h1 := (World.ownsRow.lt OP4.out gp rfl); have := G23.out; omega⟩); clear k5 g5 s5 B5))
  clear k1 hw3 hg3' hg2' M2 M3 M4 T2 T3 T4 OP4 OS4 hzH hzE hm1 hs1 GF G23 HRT HM
  generalize w4.heap.size = b5 at *
  obtain ⟨Pp, hPp⟩ : ∃ l, ([112, 97, 115, 116] : List UInt8) = l := ⟨_, rfl⟩
  have PPL := hid_ (show Pp.length = 4 by rw [← hPp]; rfl)
  have HXP := hid_ (show X = boundB Kk (⟨2, 3, 4, 5, some ⟨gp, 0, none⟩, Pp, pc⟩ : HeadV) by rw [HXX.out, ← hPp]; rfl)
  rw [hPp] at E5 OP5
  clear hPp HXX
  have cl := seals_env w5 (M5.out.tab HT.out hg1) (M5.out.glt hg1) (M5.out.ptab HP.out hg2) (M5.out.glt hg2)
  have d1 : decide ((ls : Int) < 16) = false := decide_eq_false (by have := LSB.out; omega)
  have d2 : decide (ls < 16) = false := decide_eq_false (by have := LSB.out; omega)
  go_upto_region 6 with (go_at_call 6; ((with_reducible refine cl.mono ?_); clear cl; rintro e w6 ⟨rfl, hb⟩; have M6 := hid_ (M5.out.then_ hb); have E6 := hid_ (E5.out.below hb E5.out.lt); have OP6 := hid_ (OP5.out.below hb (Nat.le_refl _)); have OS6 := hid_ (OS5.out.below hb (Nat.le_refl _)); have T6 := hid_ (T5.out.below hb (Nat.le_refl _)); have k4 := (env_cells KKL.out E6.out).2.2.2.1; rw [show (⟨2, 3, 4, 5, some ⟨gp, 0, none⟩, Pp, pc⟩ : HeadV).pl.length = 4 from PPL.out] at k4; have k5 := (env_cells KKL.out E6.out).2.2.2.2; clear hb))
  clear d1 d2 k4 k5 M5 E5 OP5 OS5 T5
  obtain ⟨U4, hU4, hU4b⟩ := u64_natY z2
  obtain ⟨R4, t4', r4', wu4, wi4, lt4⟩ := restU U4 9 (by omega) (by omega)
  have t4 : (U4 : Int).tmod 9 = (R4 : Int) := t4'
  have r4 : (U4 : Int) % 9 = (R4 : Int) := r4'
  obtain ⟨nn, hnn⟩ : ∃ m : Nat, 1 + (R4 : Int) = (m : Int) := ⟨1 + R4, by omega⟩
  have NN := hid_ (show 1 ≤ nn ∧ nn ≤ 9 by omega)
  have wnn : IntKind.i64.wrap (nn : Int) = (nn : Int) := IntWalk.i64_in _ (by have := NN.out; omega)
  obtain ⟨U5, hU5, hU5b⟩ := u64_natY z1
  obtain ⟨k, t5', r5', wu5', wi5', lt5⟩ := restU U5 8 (by omega) (by omega)
  have HKE := hid_ (show Kk = bV true K [[110, 97, 109, 101]] [110, 97, 109, 101] by
    rw [← HKK.out]
    unfold bV bB
    rw [show ordN [[110, 97, 109, 101]] [110, 97, 109, 101] = ordN [] [110, 97, 109, 101] from rfl])
  have HBN := hid_ (show bN true [[110, 97, 109, 101]] [110, 97, 109, 101] = [[110, 97, 109, 101]] by unfold bN; rw [if_neg (by unfold nmBad; simp), if_pos rfl]; rfl)
  have HLB := hid_ (show ∀ t ∈ [(⟨2, 4, 3, X, S, P⟩ : SealV)], t.b.length ≤ 100000 from fun t ht => by rw [List.mem_singleton.1 ht]; exact Nat.le_trans PL.out (by omega))
  clear t4' r4' lt4 hU4b hU5b
  rcases (show k = 0 ∨ k = 1 ∨ k = 2 ∨ k = 3 ∨ k = 4 ∨ k = 5 ∨ k = 6 ∨ k = 7 by omega) with rfl | rfl | rfl | rfl | rfl | rfl | rfl | rfl
  · have t5 : (U5 : Int).tmod 8 = 0 := t5'
    have r5 : (U5 : Int) % 8 = 0 := r5'
    clear t5' r5' wu5' wi5' lt5
    obtain ⟨ub, hub⟩ := u8_byteY z2
    obtain ⟨w7, hw7⟩ : ∃ W, w6.alloc (.cells #[.int .u8 ((ub.toNat : Nat) : Int)] 5) = W := ⟨_, rfl⟩
    have b7 : Below w6.heap.size w6 w7 := by rw [← hw7]; exact (Below.refl _ _).alloc (Nat.le_refl _) _
    have r7 : Rd w7 w7.heap.size (some ⟨w6.heap.size, 0, none⟩) [ub] := by
      have h := (Blk8.new w6 [ub]).rd (Blk8.new w6 [ub]).lt
      rw [show rowOf [ub] = #[Value.int .u8 ((ub.toNat : Nat) : Int)] from rfl, hw7] at h
      exact h
    have T7 := T6.out.below b7 (Nat.le_refl _)
    have M7 := hid_ (M6.out.then_ b7)
    have E7 := hid_ (E6.out.below b7 E6.out.lt)
    have OP7 := hid_ (OP6.out.below b7 (Nat.le_refl _))
    have OS7 := hid_ (OS6.out.below b7 (Nat.le_refl _))
    have hsz : g2 ≤ w7.heap.size := by have := M7.out.below.size; have := T7.lt g2 rfl; omega
    go_upto_region 23 with (at_builtin; refine wpList_appT rfl (.tmp 73) (.tmp 76) rfl T7 rfl 1 1 rfl r7 rfl (by omega) (by decide) hsz ?_; (intro A8 c8 w8 h1 h2; have T8 := hid_ h1; have M8 := hid_ (set_minex M7.out (Untouched.of_grown (F := [g2]) h2 (fun k hk => own_sing hk)) G4.out GW.out); have E8 := hid_ (E7.out.untouched (Untouched.of_grown (F := [g2]) h2 (fun k hk => own_sing hk)) (fun hm => by have := List.mem_singleton.1 hm; have := NBG.out; omega)); have OP8 := hid_ (OP7.out.untouched (Untouched.of_grown (F := [g2]) h2 (fun k hk => own_sing hk)) (fun k hm => by rw [List.mem_singleton.1 hm]; exact NBG.out.1)); have OS8 := hid_ (OS7.out.untouched (Untouched.of_grown (F := [g2]) h2 (fun k hk => own_sing hk)) (fun k hm => by rw [List.mem_singleton.1 hm]; exact NBG.out.1)); clear h1 h2))
    clear hw7 b7 r7 T7 hsz M7 E7 OP7 OS7
    have hok : EnvOk (⟨2, 3, 4, 5, some ⟨gp, 0, none⟩, Pp, pc⟩ : HeadV) ls := ⟨by unfold HeadV.Ok; refine ⟨⟨?_, ?_⟩, ⟨?_, ?_⟩, ⟨?_, ?_⟩, ⟨?_, ?_⟩, ?_⟩ <;> (have := NN.out; have := PPL.out; (try simp only []); omega), LSB.out.1, by have := LSB.out; omega⟩
    have hne : Kk ≠ bV true K [[110, 97, 109, 101]] ([110, 97, 109, 101] ++ [ub]) := by
      rw [← HKK.out, bV_yes K [] [110, 97, 109, 101] (by unfold nmBad; simp), bV_yes K [[110, 97, 109, 101]] ([110, 97, 109, 101] ++ [ub]) (by unfold nmBad; simp), ordN_new (N := [[110, 97, 109, 101]]) (s := [110, 97, 109, 101] ++ [ub]) (by simp), show ordN [] [110, 97, 109, 101] = 1 from rfl]
      intro e
      have := drawB_inj (by omega) (by simp) e
      simp at this
    have co := open_key M8.out.vs A8 5 c8 ([110, 97, 109, 101] ++ [ub]) rfl (by omega) (by omega) T8.out.rd.2.2.1 (by have h := T8.out.rd.2.2.2; unfold maxLen at h; omega) T8.out.rd.1 Kk KKL.out (⟨2, 3, 4, 5, some ⟨gp, 0, none⟩, Pp, pc⟩ : HeadV) (some ⟨gs, 0, none⟩) ls sc S SL.out hok (rdf_of OP8.out.rd.1 (fun a e => by injection e with e; subst e; exact NP.out)) (rdf_of OS8.out.rd.1 (fun a e => by injection e with e; subst e; exact NS.out)) OS8.out.cap.1 OS8.out.cap.2 (by simp) HLB.out (M8.out.tab HT.out hg1) (M8.out.glt hg1) (M8.out.gF hg1) (M8.out.ptab HP.out hg2) (M8.out.glt hg2) (M8.out.gF hg2) hne
    go_wp2_with (first
      | (refine wpList_load_row rfl 32 (.tmp 9) rfl b5 rfl 32 (eRow Kk (⟨2, 3, 4, 5, some ⟨gp, 0, none⟩, Pp, pc⟩ : HeadV) (some ⟨gs, 0, none⟩) ls sc) (0, 0) _ E8.out Tryd.underlying32 rfl (iE _ KKL.out _ _ _ _) ?_)
      | (go_at_call 7; ((with_reducible refine co.mono ?_); clear co; rintro e w9 ⟨rfl, F9, hV, hG, hU⟩; have M9 := hid_ (M8.out.next hV hG hU); clear hV hG hU)))
    go_ret
    exact ⟨rfl, M9.out.below⟩
  · have t5 : (U5 : Int).tmod 8 = 1 := t5'
    have r5 : (U5 : Int) % 8 = 1 := r5'
    clear t5' r5' wu5' wi5' lt5
    obtain ⟨e2, he2⟩ : ∃ m : Nat, (2 : Int) + (nn : Int) = (m : Int) := ⟨2 + nn, by omega⟩
    have E2 := hid_ (show 2 < e2 ∧ e2 ≤ 14 by have := NN.out; omega)
    have we2 : IntKind.i64.wrap (e2 : Int) = (e2 : Int) := IntWalk.i64_in _ (by have := E2.out; omega)
    have k1 : w6.cell? ⟨b5, 32, none⟩ = some (.int .i64 2) := (env_cells KKL.out E6.out).1
    have kf := E6.out.frozen 32
    obtain ⟨w7, hw7⟩ : ∃ W, w6.setCell ⟨b5, 32, none⟩ (.int .i64 (e2 : Int)) = W := ⟨_, rfl⟩
    have UU : Untouched [b5] w6 w7 := by rw [← hw7]; exact Untouched.set b5 32 (by simp) _
    have hE7 : Bk w7 b5 32 ((eRow Kk (⟨2, 3, 4, 5, some ⟨gp, 0, none⟩, Pp, pc⟩ : HeadV) (some ⟨gs, 0, none⟩) ls sc).setIfInBounds 32 (.int .i64 (e2 : Int))) := by rw [← hw7]; exact E6.out.set_ 32 _
    rw [eRow_e Kk KKL.out] at hE7
    have E7 := hid_ (show Bk w7 b5 32 (eRow Kk (⟨(e2 : Int), 3, 4, 5, some ⟨gp, 0, none⟩, Pp, pc⟩ : HeadV) (some ⟨gs, 0, none⟩) ls sc) from hE7)
    have M7 := hid_ (set_minex M6.out UU NB.out NBW.out)
    have hnb : ∀ v : Nat, v ≠ b5 → w7.heap[v]? = w6.heap[v]? := fun v hv => by rw [← hw7]; exact Below.heap_setCell w6 ⟨b5, 32, none⟩ _ v hv
    have OP7 := hid_ (OP6.out.at_ (fun k hk => by injection hk with hk; subst hk; exact hnb _ (by have := NBP.out; show gp ≠ b5; omega)))
    have OS7 := hid_ (OS6.out.at_ (fun k hk => by injection hk with hk; subst hk; exact hnb _ (by have := NBP.out; show gs ≠ b5; omega)))
    have T7 := hid_ (T6.out.atx (fun k hk => by injection hk with hk; subst hk; exact hnb _ (by have := NBG.out; show g2 ≠ b5; omega)))
    clear hE7 UU hnb
    go_upto_region 23 with fail
    clear k1 kf hw7 he2 we2 M6 E6 OP6 OS6 T6
    have hok : EnvOk (⟨(e2 : Int), 3, 4, 5, some ⟨gp, 0, none⟩, Pp, pc⟩ : HeadV) ls := ⟨by unfold HeadV.Ok; refine ⟨⟨?_, ?_⟩, ⟨?_, ?_⟩, ⟨?_, ?_⟩, ⟨?_, ?_⟩, ?_⟩ <;> (have := E2.out; have := PPL.out; (try simp only []); omega), LSB.out.1, by have := LSB.out; omega⟩
    have hot : oT true K [(⟨2, 4, 3, X, S, P⟩ : SealV)] ((⟨(e2 : Int), 3, 4, 5, some ⟨gp, 0, none⟩, Pp, pc⟩ : HeadV)).e.toNat ((⟨(e2 : Int), 3, 4, 5, some ⟨gp, 0, none⟩, Pp, pc⟩ : HeadV)).c.toNat ((⟨(e2 : Int), 3, 4, 5, some ⟨gp, 0, none⟩, Pp, pc⟩ : HeadV)).n.toNat (boundB Kk (⟨(e2 : Int), 3, 4, 5, some ⟨gp, 0, none⟩, Pp, pc⟩ : HeadV)) S = none := oT_one K _ _ _ _ _ _ (fun h => by have h1 : 2 = e2 := h.1; have := E2.out; omega)
    have co := open_vno M7.out.vs (some ⟨g2, 0, none⟩) 4 4 [110, 97, 109, 101] rfl (by omega) (by omega) (Nat.le_refl _) (by omega) T7.out.rd.1 Kk KKL.out (⟨(e2 : Int), 3, 4, 5, some ⟨gp, 0, none⟩, Pp, pc⟩ : HeadV) (some ⟨gs, 0, none⟩) ls sc S SL.out hok (rdf_of OP7.out.rd.1 (fun a e => by injection e with e; subst e; exact NP.out)) (rdf_of OS7.out.rd.1 (fun a e => by injection e with e; subst e; exact NS.out)) OS7.out.cap.1 OS7.out.cap.2 (by simp) HLB.out (M7.out.tab HT.out hg1) (M7.out.glt hg1) (M7.out.gF hg1) (M7.out.ptab HP.out hg2) (M7.out.glt hg2) (M7.out.gF hg2) HKE.out hot
    go_wp2_with (first
      | (refine wpList_load_row rfl 32 (.tmp 9) rfl b5 rfl 32 (eRow Kk (⟨(e2 : Int), 3, 4, 5, some ⟨gp, 0, none⟩, Pp, pc⟩ : HeadV) (some ⟨gs, 0, none⟩) ls sc) (0, 0) _ E7.out Tryd.underlying32 rfl (iE _ KKL.out _ _ _ _) ?_)
      | (go_at_call 7; ((with_reducible refine co.mono ?_); clear co; rintro e w9 ⟨rfl, F9, hV, hG, hU⟩; have M9 := hid_ (M7.out.next hV hG hU); clear hV hG hU)))
    go_ret
    exact ⟨rfl, M9.out.below⟩
  · have t5 : (U5 : Int).tmod 8 = 2 := t5'
    have r5 : (U5 : Int) % 8 = 2 := r5'
    clear t5' r5' wu5' wi5' lt5
    obtain ⟨e2, he2⟩ : ∃ m : Nat, (3 : Int) + (nn : Int) = (m : Int) := ⟨3 + nn, by omega⟩
    have E2 := hid_ (show 3 < e2 ∧ e2 ≤ 14 by have := NN.out; omega)
    have we2 : IntKind.i64.wrap (e2 : Int) = (e2 : Int) := IntWalk.i64_in _ (by have := E2.out; omega)
    have k1 : w6.cell? ⟨b5, 33, none⟩ = some (.int .i64 3) := (env_cells KKL.out E6.out).2.1
    have kf := E6.out.frozen 33
    obtain ⟨w7, hw7⟩ : ∃ W, w6.setCell ⟨b5, 33, none⟩ (.int .i64 (e2 : Int)) = W := ⟨_, rfl⟩
    have UU : Untouched [b5] w6 w7 := by rw [← hw7]; exact Untouched.set b5 33 (by simp) _
    have hE7 : Bk w7 b5 32 ((eRow Kk (⟨2, 3, 4, 5, some ⟨gp, 0, none⟩, Pp, pc⟩ : HeadV) (some ⟨gs, 0, none⟩) ls sc).setIfInBounds 33 (.int .i64 (e2 : Int))) := by rw [← hw7]; exact E6.out.set_ 33 _
    rw [eRow_n Kk KKL.out] at hE7
    have E7 := hid_ (show Bk w7 b5 32 (eRow Kk (⟨2, (e2 : Int), 4, 5, some ⟨gp, 0, none⟩, Pp, pc⟩ : HeadV) (some ⟨gs, 0, none⟩) ls sc) from hE7)
    have M7 := hid_ (set_minex M6.out UU NB.out NBW.out)
    have hnb : ∀ v : Nat, v ≠ b5 → w7.heap[v]? = w6.heap[v]? := fun v hv => by rw [← hw7]; exact Below.heap_setCell w6 ⟨b5, 33, none⟩ _ v hv
    have OP7 := hid_ (OP6.out.at_ (fun k hk => by injection hk with hk; subst hk; exact hnb _ (by have := NBP.out; show gp ≠ b5; omega)))
    have OS7 := hid_ (OS6.out.at_ (fun k hk => by injection hk with hk; subst hk; exact hnb _ (by have := NBP.out; show gs ≠ b5; omega)))
    have T7 := hid_ (T6.out.atx (fun k hk => by injection hk with hk; subst hk; exact hnb _ (by have := NBG.out; show g2 ≠ b5; omega)))
    clear hE7 UU hnb
    go_upto_region 23 with fail
    clear k1 kf hw7 he2 we2 M6 E6 OP6 OS6 T6
    have hok : EnvOk (⟨2, (e2 : Int), 4, 5, some ⟨gp, 0, none⟩, Pp, pc⟩ : HeadV) ls := ⟨by unfold HeadV.Ok; refine ⟨⟨?_, ?_⟩, ⟨?_, ?_⟩, ⟨?_, ?_⟩, ⟨?_, ?_⟩, ?_⟩ <;> (have := E2.out; have := PPL.out; (try simp only []); omega), LSB.out.1, by have := LSB.out; omega⟩
    have hot : oT true K [(⟨2, 4, 3, X, S, P⟩ : SealV)] ((⟨2, (e2 : Int), 4, 5, some ⟨gp, 0, none⟩, Pp, pc⟩ : HeadV)).e.toNat ((⟨2, (e2 : Int), 4, 5, some ⟨gp, 0, none⟩, Pp, pc⟩ : HeadV)).c.toNat ((⟨2, (e2 : Int), 4, 5, some ⟨gp, 0, none⟩, Pp, pc⟩ : HeadV)).n.toNat (boundB Kk (⟨2, (e2 : Int), 4, 5, some ⟨gp, 0, none⟩, Pp, pc⟩ : HeadV)) S = none := oT_one K _ _ _ _ _ _ (fun h => by have h1 : 3 = e2 := h.2.2.1; have := E2.out; omega)
    have co := open_vno M7.out.vs (some ⟨g2, 0, none⟩) 4 4 [110, 97, 109, 101] rfl (by omega) (by omega) (Nat.le_refl _) (by omega) T7.out.rd.1 Kk KKL.out (⟨2, (e2 : Int), 4, 5, some ⟨gp, 0, none⟩, Pp, pc⟩ : HeadV) (some ⟨gs, 0, none⟩) ls sc S SL.out hok (rdf_of OP7.out.rd.1 (fun a e => by injection e with e; subst e; exact NP.out)) (rdf_of OS7.out.rd.1 (fun a e => by injection e with e; subst e; exact NS.out)) OS7.out.cap.1 OS7.out.cap.2 (by simp) HLB.out (M7.out.tab HT.out hg1) (M7.out.glt hg1) (M7.out.gF hg1) (M7.out.ptab HP.out hg2) (M7.out.glt hg2) (M7.out.gF hg2) HKE.out hot
    go_wp2_with (first
      | (refine wpList_load_row rfl 32 (.tmp 9) rfl b5 rfl 32 (eRow Kk (⟨2, (e2 : Int), 4, 5, some ⟨gp, 0, none⟩, Pp, pc⟩ : HeadV) (some ⟨gs, 0, none⟩) ls sc) (0, 0) _ E7.out Tryd.underlying32 rfl (iE _ KKL.out _ _ _ _) ?_)
      | (go_at_call 7; ((with_reducible refine co.mono ?_); clear co; rintro e w9 ⟨rfl, F9, hV, hG, hU⟩; have M9 := hid_ (M7.out.next hV hG hU); clear hV hG hU)))
    go_ret
    exact ⟨rfl, M9.out.below⟩
  · have t5 : (U5 : Int).tmod 8 = 3 := t5'
    have r5 : (U5 : Int) % 8 = 3 := r5'
    clear t5' r5' wu5' wi5' lt5
    obtain ⟨e2, he2⟩ : ∃ m : Nat, (4 : Int) + (nn : Int) = (m : Int) := ⟨4 + nn, by omega⟩
    have E2 := hid_ (show 4 < e2 ∧ e2 ≤ 14 by have := NN.out; omega)
    have we2 : IntKind.i64.wrap (e2 : Int) = (e2 : Int) := IntWalk.i64_in _ (by have := E2.out; omega)
    have k1 : w6.cell? ⟨b5, 34, none⟩ = some (.int .i64 4) := (env_cells KKL.out E6.out).2.2.1
    have kf := E6.out.frozen 34
    obtain ⟨w7, hw7⟩ : ∃ W, w6.setCell ⟨b5, 34, none⟩ (.int .i64 (e2 : Int)) = W := ⟨_, rfl⟩
    have UU : Untouched [b5] w6 w7 := by rw [← hw7]; exact Untouched.set b5 34 (by simp) _
    have hE7 : Bk w7 b5 32 ((eRow Kk (⟨2, 3, 4, 5, some ⟨gp, 0, none⟩, Pp, pc⟩ : HeadV) (some ⟨gs, 0, none⟩) ls sc).setIfInBounds 34 (.int .i64 (e2 : Int))) := by rw [← hw7]; exact E6.out.set_ 34 _
    rw [eRow_c Kk KKL.out] at hE7
    have E7 := hid_ (show Bk w7 b5 32 (eRow Kk (⟨2, 3, (e2 : Int), 5, some ⟨gp, 0, none⟩, Pp, pc⟩ : HeadV) (some ⟨gs, 0, none⟩) ls sc) from hE7)
    have M7 := hid_ (set_minex M6.out UU NB.out NBW.out)
    have hnb : ∀ v : Nat, v ≠ b5 → w7.heap[v]? = w6.heap[v]? := fun v hv => by rw [← hw7]; exact Below.heap_setCell w6 ⟨b5, 34, none⟩ _ v hv
    have OP7 := hid_ (OP6.out.at_ (fun k hk => by injection hk with hk; subst hk; exact hnb _ (by have := NBP.out; show gp ≠ b5; omega)))
    have OS7 := hid_ (OS6.out.at_ (fun k hk => by injection hk with hk; subst hk; exact hnb _ (by have := NBP.out; show gs ≠ b5; omega)))
    have T7 := hid_ (T6.out.atx (fun k hk => by injection hk with hk; subst hk; exact hnb _ (by have := NBG.out; show g2 ≠ b5; omega)))
    clear hE7 UU hnb
    go_upto_region 23 with fail
    clear k1 kf hw7 he2 we2 M6 E6 OP6 OS6 T6
    have hok : EnvOk (⟨2, 3, (e2 : Int), 5, some ⟨gp, 0, none⟩, Pp, pc⟩ : HeadV) ls := ⟨by unfold HeadV.Ok; refine ⟨⟨?_, ?_⟩, ⟨?_, ?_⟩, ⟨?_, ?_⟩, ⟨?_, ?_⟩, ?_⟩ <;> (have := E2.out; have := PPL.out; (try simp only []); omega), LSB.out.1, by have := LSB.out; omega⟩
    have hot : oT true K [(⟨2, 4, 3, X, S, P⟩ : SealV)] ((⟨2, 3, (e2 : Int), 5, some ⟨gp, 0, none⟩, Pp, pc⟩ : HeadV)).e.toNat ((⟨2, 3, (e2 : Int), 5, some ⟨gp, 0, none⟩, Pp, pc⟩ : HeadV)).c.toNat ((⟨2, 3, (e2 : Int), 5, some ⟨gp, 0, none⟩, Pp, pc⟩ : HeadV)).n.toNat (boundB Kk (⟨2, 3, (e2 : Int), 5, some ⟨gp, 0, none⟩, Pp, pc⟩ : HeadV)) S = none := oT_one K _ _ _ _ _ _ (fun h => by have h1 : 4 = e2 := h.2.1; have := E2.out; omega)
    have co := open_vno M7.out.vs (some ⟨g2, 0, none⟩) 4 4 [110, 97, 109, 101] rfl (by omega) (by omega) (Nat.le_refl _) (by omega) T7.out.rd.1 Kk KKL.out (⟨2, 3, (e2 : Int), 5, some ⟨gp, 0, none⟩, Pp, pc⟩ : HeadV) (some ⟨gs, 0, none⟩) ls sc S SL.out hok (rdf_of OP7.out.rd.1 (fun a e => by injection e with e; subst e; exact NP.out)) (rdf_of OS7.out.rd.1 (fun a e => by injection e with e; subst e; exact NS.out)) OS7.out.cap.1 OS7.out.cap.2 (by simp) HLB.out (M7.out.tab HT.out hg1) (M7.out.glt hg1) (M7.out.gF hg1) (M7.out.ptab HP.out hg2) (M7.out.glt hg2) (M7.out.gF hg2) HKE.out hot
    go_wp2_with (first
      | (refine wpList_load_row rfl 32 (.tmp 9) rfl b5 rfl 32 (eRow Kk (⟨2, 3, (e2 : Int), 5, some ⟨gp, 0, none⟩, Pp, pc⟩ : HeadV) (some ⟨gs, 0, none⟩) ls sc) (0, 0) _ E7.out Tryd.underlying32 rfl (iE _ KKL.out _ _ _ _) ?_)
      | (go_at_call 7; ((with_reducible refine co.mono ?_); clear co; rintro e w9 ⟨rfl, F9, hV, hG, hU⟩; have M9 := hid_ (M7.out.next hV hG hU); clear hV hG hU)))
    go_ret
    exact ⟨rfl, M9.out.below⟩
  · have t5 : (U5 : Int).tmod 8 = 4 := t5'
    have r5 : (U5 : Int) % 8 = 4 := r5'
    clear t5' r5' wu5' wi5' lt5
    obtain ⟨e2, he2⟩ : ∃ m : Nat, (5 : Int) + (nn : Int) = (m : Int) := ⟨5 + nn, by omega⟩
    have E2 := hid_ (show 5 < e2 ∧ e2 ≤ 14 by have := NN.out; omega)
    have we2 : IntKind.i64.wrap (e2 : Int) = (e2 : Int) := IntWalk.i64_in _ (by have := E2.out; omega)
    have k1 : w6.cell? ⟨b5, 35, none⟩ = some (.int .i64 5) := env_d KKL.out E6.out
    have kf := E6.out.frozen 35
    obtain ⟨w7, hw7⟩ : ∃ W, w6.setCell ⟨b5, 35, none⟩ (.int .i64 (e2 : Int)) = W := ⟨_, rfl⟩
    have UU : Untouched [b5] w6 w7 := by rw [← hw7]; exact Untouched.set b5 35 (by simp) _
    have hE7 : Bk w7 b5 32 ((eRow Kk (⟨2, 3, 4, 5, some ⟨gp, 0, none⟩, Pp, pc⟩ : HeadV) (some ⟨gs, 0, none⟩) ls sc).setIfInBounds 35 (.int .i64 (e2 : Int))) := by rw [← hw7]; exact E6.out.set_ 35 _
    rw [eRow_d Kk KKL.out] at hE7
    have E7 := hid_ (show Bk w7 b5 32 (eRow Kk (⟨2, 3, 4, (e2 : Int), some ⟨gp, 0, none⟩, Pp, pc⟩ : HeadV) (some ⟨gs, 0, none⟩) ls sc) from hE7)
    have M7 := hid_ (set_minex M6.out UU NB.out NBW.out)
    have hnb : ∀ v : Nat, v ≠ b5 → w7.heap[v]? = w6.heap[v]? := fun v hv => by rw [← hw7]; exact Below.heap_setCell w6 ⟨b5, 35, none⟩ _ v hv
    have OP7 := hid_ (OP6.out.at_ (fun k hk => by injection hk with hk; subst hk; exact hnb _ (by have := NBP.out; show gp ≠ b5; omega)))
    have OS7 := hid_ (OS6.out.at_ (fun k hk => by injection hk with hk; subst hk; exact hnb _ (by have := NBP.out; show gs ≠ b5; omega)))
    have T7 := hid_ (T6.out.atx (fun k hk => by injection hk with hk; subst hk; exact hnb _ (by have := NBG.out; show g2 ≠ b5; omega)))
    clear hE7 UU hnb
    go_upto_region 23 with fail
    clear k1 kf hw7 he2 we2 M6 E6 OP6 OS6 T6
    have hok : EnvOk (⟨2, 3, 4, (e2 : Int), some ⟨gp, 0, none⟩, Pp, pc⟩ : HeadV) ls := ⟨by unfold HeadV.Ok; refine ⟨⟨?_, ?_⟩, ⟨?_, ?_⟩, ⟨?_, ?_⟩, ⟨?_, ?_⟩, ?_⟩ <;> (have := E2.out; have := PPL.out; (try simp only []); omega), LSB.out.1, by have := LSB.out; omega⟩
    have hot : oT true K [(⟨2, 4, 3, X, S, P⟩ : SealV)] ((⟨2, 3, 4, (e2 : Int), some ⟨gp, 0, none⟩, Pp, pc⟩ : HeadV)).e.toNat ((⟨2, 3, 4, (e2 : Int), some ⟨gp, 0, none⟩, Pp, pc⟩ : HeadV)).c.toNat ((⟨2, 3, 4, (e2 : Int), some ⟨gp, 0, none⟩, Pp, pc⟩ : HeadV)).n.toNat (boundB Kk (⟨2, 3, 4, (e2 : Int), some ⟨gp, 0, none⟩, Pp, pc⟩ : HeadV)) S = none := oT_one K _ _ _ _ _ _ (fun h => absurd h.2.2.2.1 (by rw [HXP.out]; exact boundB_d Kk (⟨2, 3, 4, 5, some ⟨gp, 0, none⟩, Pp, pc⟩ : HeadV) (e2 : Int) (show 5 < 256 ^ 8 by decide) (by have := E2.out; show e2 < 256 ^ 8; omega) (by have := E2.out; show 5 ≠ e2; omega)))
    have co := open_vno M7.out.vs (some ⟨g2, 0, none⟩) 4 4 [110, 97, 109, 101] rfl (by omega) (by omega) (Nat.le_refl _) (by omega) T7.out.rd.1 Kk KKL.out (⟨2, 3, 4, (e2 : Int), some ⟨gp, 0, none⟩, Pp, pc⟩ : HeadV) (some ⟨gs, 0, none⟩) ls sc S SL.out hok (rdf_of OP7.out.rd.1 (fun a e => by injection e with e; subst e; exact NP.out)) (rdf_of OS7.out.rd.1 (fun a e => by injection e with e; subst e; exact NS.out)) OS7.out.cap.1 OS7.out.cap.2 (by simp) HLB.out (M7.out.tab HT.out hg1) (M7.out.glt hg1) (M7.out.gF hg1) (M7.out.ptab HP.out hg2) (M7.out.glt hg2) (M7.out.gF hg2) HKE.out hot
    go_wp2_with (first
      | (refine wpList_load_row rfl 32 (.tmp 9) rfl b5 rfl 32 (eRow Kk (⟨2, 3, 4, (e2 : Int), some ⟨gp, 0, none⟩, Pp, pc⟩ : HeadV) (some ⟨gs, 0, none⟩) ls sc) (0, 0) _ E7.out Tryd.underlying32 rfl (iE _ KKL.out _ _ _ _) ?_)
      | (go_at_call 7; ((with_reducible refine co.mono ?_); clear co; rintro e w9 ⟨rfl, F9, hV, hG, hU⟩; have M9 := hid_ (M7.out.next hV hG hU); clear hV hG hU)))
    go_ret
    exact ⟨rfl, M9.out.below⟩
  · have t5 : (U5 : Int).tmod 8 = 5 := t5'
    have r5 : (U5 : Int) % 8 = 5 := r5'
    clear t5' r5' wu5' wi5' lt5
    obtain ⟨r, tr', rr', -, wir, ltr⟩ := restU nn 4 (by omega) (by omega)
    have tr : (nn : Int).tmod 4 = (r : Int) := tr'
    have rr : (nn : Int) % 4 = (r : Int) := rr'
    clear tr' rr'
    have hil : r < 4 := ltr
    have hil2 : (r : Int) < 4 := by omega
    obtain ⟨x, hx⟩ : ∃ x, Pp.getD r 0 = x := ⟨_, rfl⟩
    have hc := OP6.out.cellz r hil
    have hf := OP6.out.frozenz r
    have k4 := (env_cells KKL.out E6.out).2.2.2.1
    rw [show (⟨2, 3, 4, 5, some ⟨gp, 0, none⟩, Pp, pc⟩ : HeadV).pl.length = 4 from PPL.out] at k4
    rw [hx] at hc
    have hxb := x.toNat_lt
    obtain ⟨nb8, hnb8⟩ : ∃ u : UInt8, u.toNat = nn := ⟨UInt8.ofNat nn, by have := NN.out; simp; omega⟩
    have wn8 : IntKind.u8.wrap (nn : Int) = (nn : Int) := by have := NN.out; simp [IntKind.wrap, IntKind.signed, IntKind.bits]; omega
    obtain ⟨y, hy⟩ : ∃ y, x ^^^ nb8 = y := ⟨_, rfl⟩
    have HX8 : bits .xor .u8 ((x.toNat : Nat) : Int) (nn : Int) = ((y.toNat : Nat) : Int) := by rw [← hnb8, xor8, hy]
    have YN := hid_ (show y ≠ x by rw [← hy]; exact xor_neY x nb8 (fun e0 => by have := NN.out; rw [e0] at hnb8; simp at hnb8; omega))
    have XH := hid_ hx
    obtain ⟨w7, hw7⟩ : ∃ W, w6.setCell ⟨gp, r, none⟩ (.int .u8 ((y.toNat : Nat) : Int)) = W := ⟨_, rfl⟩
    have UU : Untouched [gp] w6 w7 := by rw [← hw7]; exact Untouched.set gp r (by simp) _
    have hnb : ∀ v : Nat, v ≠ gp → w7.heap[v]? = w6.heap[v]? := fun v hv => by rw [← hw7]; exact Below.heap_setCell w6 ⟨gp, r, none⟩ _ v hv
    have T7 := hid_ (T6.out.atx (fun k hk => by injection hk with hk; subst hk; exact hnb _ (by have := NBG.out; have := GPS.out; show g2 ≠ gp; omega)))
    have OP7 := hid_ (show Own8 w7 w3.heap.size (.slice (some ⟨gp, 0, none⟩) 4 pc) (Pp.set r y) by rw [← hw7]; exact (OP6.out.put_ r y).1)
    have OS7 := hid_ (OS6.out.at_ (fun k hk => by injection hk with hk; subst hk; exact hnb _ (by have := NE.out; show gs ≠ gp; omega)))
    have M7 := hid_ (set_minex M6.out UU NP.out (by have := WB.out; have := GPS.out; omega))
    have E7 := hid_ (E6.out.untouched UU (fun hm => by have := List.mem_singleton.1 hm; have := NBP.out; omega))
    have PL7 := hid_ (show (Pp.set r y).length = 4 by rw [List.length_set]; exact PPL.out)
    have SN := hid_ (show Pp ≠ Pp.set r y from fun e => set_neY Pp r y (by rw [PPL.out]; exact hil) (by rw [XH.out]; exact YN.out) e.symm)
    have E8 := hid_ (show Bk w7 b5 32 (eRow Kk (⟨2, 3, 4, 5, some ⟨gp, 0, none⟩, Pp.set r y, pc⟩ : HeadV) (some ⟨gs, 0, none⟩) ls sc) by have h := E7.out; unfold eRow at h ⊢; rw [show (⟨2, 3, 4, 5, some ⟨gp, 0, none⟩, Pp.set r y, pc⟩ : HeadV).pl.length = (⟨2, 3, 4, 5, some ⟨gp, 0, none⟩, Pp, pc⟩ : HeadV).pl.length from List.length_set ..]; exact h)
    clear UU hnb
    go_upto_region 23 with fail
    clear hc hf HX8 hw7 hy hx hnb8 wn8 M6 E6 OP6 OS6 T6
    clear hil2
    have hok : EnvOk (⟨2, 3, 4, 5, some ⟨gp, 0, none⟩, Pp.set r y, pc⟩ : HeadV) ls := ⟨by unfold HeadV.Ok; refine ⟨⟨?_, ?_⟩, ⟨?_, ?_⟩, ⟨?_, ?_⟩, ⟨?_, ?_⟩, ?_⟩ <;> (have := NN.out; have := PL7.out; (try simp only []); omega), LSB.out.1, by have := LSB.out; omega⟩
    have hot : oT true K [(⟨2, 4, 3, X, S, P⟩ : SealV)] ((⟨2, 3, 4, 5, some ⟨gp, 0, none⟩, Pp.set r y, pc⟩ : HeadV)).e.toNat ((⟨2, 3, 4, 5, some ⟨gp, 0, none⟩, Pp.set r y, pc⟩ : HeadV)).c.toNat ((⟨2, 3, 4, 5, some ⟨gp, 0, none⟩, Pp.set r y, pc⟩ : HeadV)).n.toNat (boundB Kk (⟨2, 3, 4, 5, some ⟨gp, 0, none⟩, Pp.set r y, pc⟩ : HeadV)) S = none := oT_one K _ _ _ _ _ _ (fun h => absurd h.2.2.2.1 (by rw [HXP.out]; exact boundB_p Kk (⟨2, 3, 4, 5, some ⟨gp, 0, none⟩, Pp, pc⟩ : HeadV) (Pp.set r y) (List.length_set ..) SN.out))
    have co := open_vno M7.out.vs (some ⟨g2, 0, none⟩) 4 4 [110, 97, 109, 101] rfl (by omega) (by omega) (Nat.le_refl _) (by omega) T7.out.rd.1 Kk KKL.out (⟨2, 3, 4, 5, some ⟨gp, 0, none⟩, Pp.set r y, pc⟩ : HeadV) (some ⟨gs, 0, none⟩) ls sc S SL.out hok (rdf_of OP7.out.rd.1 (fun a e => by injection e with e; subst e; exact NP.out)) (rdf_of OS7.out.rd.1 (fun a e => by injection e with e; subst e; exact NS.out)) OS7.out.cap.1 OS7.out.cap.2 (by simp) HLB.out (M7.out.tab HT.out hg1) (M7.out.glt hg1) (M7.out.gF hg1) (M7.out.ptab HP.out hg2) (M7.out.glt hg2) (M7.out.gF hg2) HKE.out hot
    go_wp2_with (first
      | (refine wpList_load_row rfl 32 (.tmp 9) rfl b5 rfl 32 (eRow Kk (⟨2, 3, 4, 5, some ⟨gp, 0, none⟩, Pp.set r y, pc⟩ : HeadV) (some ⟨gs, 0, none⟩) ls sc) (0, 0) _ E8.out Tryd.underlying32 rfl (iE _ KKL.out _ _ _ _) ?_)
      | (go_at_call 7; ((with_reducible refine co.mono ?_); clear co; rintro e w9 ⟨rfl, F9, hV, hG, hU⟩; have M9 := hid_ (M7.out.next hV hG hU); clear hV hG hU)))
    go_ret
    exact ⟨rfl, M9.out.below⟩
  · have t5 : (U5 : Int).tmod 8 = 6 := t5'
    have r5 : (U5 : Int) % 8 = 6 := r5'
    clear t5' r5' wu5' wi5' lt5
    obtain ⟨i, ti, ri, wui, wii, hil⟩ := restU U4 ls (by have := LSB.out; omega) (by have := LSB.out; omega)
    have hlsu : IntKind.u64.wrap (ls : Int) = (ls : Int) := IntWalk.u64_in _ (by have := LSB.out; omega)
    have hl0 : decide ((ls : Int) = 0) = false := decide_eq_false (by have := LSB.out; omega)
    have hl0n : decide (ls = 0) = false := decide_eq_false (by have := LSB.out; omega)
    have hl0z : (ls : Int) ≠ 0 := by have := LSB.out; omega
    have hl0y : ¬ ls = 0 := by have := LSB.out; omega
    have hil2 : (i : Int) < (ls : Int) := by omega
    have hc := OS6.out.cellz i hil
    have hf := OS6.out.frozenz i
    obtain ⟨x, hx⟩ : ∃ x, S.getD i 0 = x := ⟨_, rfl⟩
    have k5 := (env_cells KKL.out E6.out).2.2.2.2
    rw [hx] at hc
    have hxb := x.toNat_lt
    obtain ⟨nb8, hnb8⟩ : ∃ u : UInt8, u.toNat = nn := ⟨UInt8.ofNat nn, by have := NN.out; simp; omega⟩
    have wn8 : IntKind.u8.wrap (nn : Int) = (nn : Int) := by have := NN.out; simp [IntKind.wrap, IntKind.signed, IntKind.bits]; omega
    obtain ⟨y, hy⟩ : ∃ y, x ^^^ nb8 = y := ⟨_, rfl⟩
    have HX8 : bits .xor .u8 ((x.toNat : Nat) : Int) (nn : Int) = ((y.toNat : Nat) : Int) := by rw [← hnb8, xor8, hy]
    have YN := hid_ (show y ≠ x by rw [← hy]; exact xor_neY x nb8 (fun e0 => by have := NN.out; rw [e0] at hnb8; simp at hnb8; omega))
    have XH := hid_ hx
    obtain ⟨w7, hw7⟩ : ∃ W, w6.drew.setCell ⟨gs, i, none⟩ (.int .u8 ((y.toNat : Nat) : Int)) = W := ⟨_, rfl⟩
    have UU : Untouched [gs] w6 w7 := by rw [← hw7]; exact (have h : Untouched [gs] w6.drew (w6.drew.setCell ⟨gs, i, none⟩ (.int .u8 ((y.toNat : Nat) : Int))) := Untouched.set gs i (by simp) _; ⟨h.os, h.tape, h.output, h.size, h.block⟩)
    have hnb : ∀ v : Nat, v ≠ gs → w7.heap[v]? = w6.heap[v]? := fun v hv => by rw [← hw7]; exact Below.heap_setCell w6.drew ⟨gs, i, none⟩ _ v hv
    have T7 := hid_ (T6.out.atx (fun k hk => by injection hk with hk; subst hk; exact hnb _ (by have := NBG.out; have := GPS.out; show g2 ≠ gs; omega)))
    have OS7 := hid_ (show Own8 w7 w3.heap.size (.slice (some ⟨gs, 0, none⟩) ls sc) (S.set i y) by rw [← hw7]; exact (OS6.out.drew.put_ i y).1)
    have OP7 := hid_ (OP6.out.at_ (fun k hk => by injection hk with hk; subst hk; exact hnb _ NE.out))
    have M7 := hid_ (set_minex M6.out UU NS.out (by have := WB.out; have := GPS.out; omega))
    have E8 := hid_ (E6.out.untouched UU (fun hm => by have := List.mem_singleton.1 hm; have := NBP.out; omega))
    have SL7 := hid_ (show (S.set i y).length = ls by rw [List.length_set]; exact SL.out)
    have SN := hid_ (show S ≠ S.set i y from fun e => set_neY S i y (by rw [SL.out]; exact hil) (by rw [XH.out]; exact YN.out) e.symm)
    clear UU hnb
    have KC := hid_ (show ∀ W, W = w6.drew ∨ W = w7 → W.cell? ⟨b5, 37, none⟩ = some (.slice (some ⟨gs, 0, none⟩) ls sc) from fun W hW => by
      rcases hW with rfl | rfl
      · exact (env_cells KKL.out E6.out.drew).2.2.2.2
      · exact (env_cells KKL.out E8.out).2.2.2.2)
    have HC2 := hid_ (show w6.drew.cell? ⟨gs, i, none⟩ = some (.int .u8 ((x.toNat : Nat) : Int)) from hc)
    have HF2 := hid_ (show w6.drew.frozen? ⟨gs, i, none⟩ = false from hf)
    have HW7 := hid_ hw7
    clear hw7 hc hf k5
    go_upto_region 22 with fail
    rename_i K9 hK9
    refine region_byJF [133, 134, 135, 136, 137, 138, 139, 140, 141, 142, 143, 144, 145, 146, 147, 148] (fun _ => True) (fun _ _ => True) (fun j v _ => RgV b5 gs ls sc i nn z2 U4 x y j v) (fun D _ W => StJ w6.drew w7 11 16 D W) (by kernel_rfl) (by kernel_rfl) (by kernel_rfl) (by kernel_rfl) (fun j v w w' hT hr => ?_) (fun j v w hlt hj _ => ?_) trivial ?_ (.inl ⟨rfl, rfl⟩) ?_
    · exact hr
    · rcases j with _ | _ | _ | _ | _ | _ | _ | _ | _ | _ | _ | _ | _ | _ | _ | _ | _ | j
      all_goals first
        | (exfalso; simp [dstOf] at hj; done)
        | trivial
    · refine ⟨fun D a W hC hd hsz hf hv hJ hL hW K hK => ?_, fun D a W hC hd hsz hf hv hJ hL hW K hK => ?_, fun D a W hC hd hsz hf hv hJ hL hW K hK => ?_, fun D a W hC hd hsz hf hv hJ hL hW K hK => ?_, fun D a W hC hd hsz hf hv hJ hL hW K hK => ?_, fun D a W hC hd hsz hf hv hJ hL hW K hK => ?_, fun D a W hC hd hsz hf hv hJ hL hW K hK => ?_, fun D a W hC hd hsz hf hv hJ hL hW K hK => ?_, fun D a W hC hd hsz hf hv hJ hL hW K hK => ?_, fun D a W hC hd hsz hf hv hJ hL hW K hK => ?_, fun D a W hC hd hsz hf hv hJ hL hW K hK => ?_, fun D a W hC hd hsz hf hv hJ hL hW K hK => ?_, fun D a W hC hd hsz hf hv hJ hL hW K hK => ?_, fun D a W hC hd hsz hf hv hJ hL hW K hK => ?_, fun D a W hC hd hsz hf hv hJ hL hW K hK => ?_, fun D a W hC hd hsz hf hv hJ hL hW K hK => ?_, fun D a W hC hd hsz hf hv hJ hL hW K hK => ?_, trivial⟩
      · clear hsz
        have e1 := slot_of (a := a) (s := 9) (v := .pointer (some ⟨b5, 0, none⟩)) (hf 9 (by kernel_rfl))
        refine step_run (wanted_none rfl) (v := .pointer (some ⟨b5, 37, none⟩)) (w' := W) ?_ (hK _ _ trivial trivial rfl (hJ.same 0 (by decide)))
        go_simp
      · clear hsz
        have e1 := slot_of (a := a) (s := 133) (v := .pointer (some ⟨b5, 37, none⟩)) (hv 0 (by kernel_rfl))
        have k5 := KC.out W hJ.two
        refine step_run (wanted_none rfl) (v := .slice (some ⟨gs, 0, none⟩) ls sc) (w' := W) ?_ (hK _ _ trivial trivial rfl (hJ.same 1 (by decide)))
        go_simp
      · clear hsz
        have e1 := slot_of (a := a) (s := 2) (v := .int .i64 z2) (hf 2 (by kernel_rfl))
        refine step_run (wanted_none rfl) (v := .int .i64 z2) (w' := W) ?_ (hK _ _ trivial trivial rfl (hJ.same 2 (by decide)))
        go_simp
      · clear hsz
        have e1 := slot_of (a := a) (s := 135) (v := .int .i64 z2) (hv 2 (by kernel_rfl))
        refine step_run (wanted_none rfl) (v := .int .u64 (U4 : Int)) (w' := W) ?_ (hK _ _ trivial trivial rfl (hJ.same 3 (by decide)))
        go_simp
      · clear hsz
        have e1 := slot_of (a := a) (s := 9) (v := .pointer (some ⟨b5, 0, none⟩)) (hf 9 (by kernel_rfl))
        refine step_run (wanted_none rfl) (v := .pointer (some ⟨b5, 37, none⟩)) (w' := W) ?_ (hK _ _ trivial trivial rfl (hJ.same 4 (by decide)))
        go_simp
      · clear hsz
        have e1 := slot_of (a := a) (s := 137) (v := .pointer (some ⟨b5, 37, none⟩)) (hv 4 (by kernel_rfl))
        have k5 := KC.out W hJ.two
        refine step_run (wanted_none rfl) (v := .slice (some ⟨gs, 0, none⟩) ls sc) (w' := W) ?_ (hK _ _ trivial trivial rfl (hJ.same 5 (by decide)))
        go_simp
      · clear hsz
        have e1 := slot_of (a := a) (s := 138) (v := .slice (some ⟨gs, 0, none⟩) ls sc) (hv 5 (by kernel_rfl))
        refine step_run (wanted_none rfl) (v := .int .i64 (ls : Int)) (w' := W) ?_ (hK _ _ trivial trivial rfl (hJ.same 6 (by decide)))
        go_simp
      · clear hsz
        have e1 := slot_of (a := a) (s := 139) (v := .int .i64 (ls : Int)) (hv 6 (by kernel_rfl))
        refine step_run (wanted_none rfl) (v := .int .u64 (ls : Int)) (w' := W) ?_ (hK _ _ trivial trivial rfl (hJ.same 7 (by decide)))
        go_simp
      · clear hsz
        have e1 := slot_of (a := a) (s := 136) (v := .int .u64 (U4 : Int)) (hv 3 (by kernel_rfl))
        have e2 := slot_of (a := a) (s := 140) (v := .int .u64 (ls : Int)) (hv 7 (by kernel_rfl))
        refine step_run (wanted_none rfl) (v := .int .u64 (i : Int)) (w' := W) ?_ (hK _ _ trivial trivial rfl (hJ.same 8 (by decide)))
        go_simp
      · clear hsz
        have e1 := slot_of (a := a) (s := 141) (v := .int .u64 (i : Int)) (hv 8 (by kernel_rfl))
        refine step_run (wanted_none rfl) (v := .int .i64 (i : Int)) (w' := W) ?_ (hK _ _ trivial trivial rfl (hJ.same 9 (by decide)))
        go_simp
      · clear hsz
        have e1 := slot_of (a := a) (s := 134) (v := .slice (some ⟨gs, 0, none⟩) ls sc) (hv 1 (by kernel_rfl))
        have e2 := slot_of (a := a) (s := 142) (v := .int .i64 (i : Int)) (hv 9 (by kernel_rfl))
        refine step_run (wanted_none rfl) (v := .pointer (some ⟨gs, i, none⟩)) (w' := W) ?_ (hK _ _ trivial trivial rfl (hJ.same 10 (by decide)))
        go_simp
      · clear hsz
        have e1 := slot_of (a := a) (s := 143) (v := .pointer (some ⟨gs, i, none⟩)) (hv 10 (by kernel_rfl))
        have hc2 := HC2.out
        rw [← hJ.old hL] at hc2
        refine step_run (wanted_none rfl) (v := .int .u8 ((x.toNat : Nat) : Int)) (w' := W) ?_ (hK _ _ trivial trivial rfl (hJ.same 11 (by decide)))
        go_simp
      · clear hsz
        have e1 := slot_of (a := a) (s := 11) (v := .int .i64 (nn : Int)) (hf 11 (by kernel_rfl))
        refine step_run (wanted_none rfl) (v := .int .i64 (nn : Int)) (w' := W) ?_ (hK _ _ trivial trivial rfl (hJ.same 12 (by decide)))
        go_simp
      · clear hsz
        have e1 := slot_of (a := a) (s := 145) (v := .int .i64 (nn : Int)) (hv 12 (by kernel_rfl))
        refine step_run (wanted_none rfl) (v := .int .u8 (nn : Int)) (w' := W) ?_ (hK _ _ trivial trivial rfl (hJ.same 13 (by decide)))
        go_simp
      · clear hsz
        have e1 := slot_of (a := a) (s := 144) (v := .int .u8 ((x.toNat : Nat) : Int)) (hv 11 (by kernel_rfl))
        have e2 := slot_of (a := a) (s := 146) (v := .int .u8 (nn : Int)) (hv 13 (by kernel_rfl))
        refine step_run (wanted_none rfl) (v := .int .u8 ((y.toNat : Nat) : Int)) (w' := W) ?_ (hK _ _ trivial trivial rfl (hJ.same 14 (by decide)))
        go_simp
      · clear hsz
        have e1 := slot_of (a := a) (s := 134) (v := .slice (some ⟨gs, 0, none⟩) ls sc) (hv 1 (by kernel_rfl))
        have e2 := slot_of (a := a) (s := 142) (v := .int .i64 (i : Int)) (hv 9 (by kernel_rfl))
        refine step_run (wanted_none rfl) (v := .pointer (some ⟨gs, i, none⟩)) (w' := W) ?_ (hK _ _ trivial trivial rfl (hJ.same 15 (by decide)))
        go_simp
      · clear hsz
        have e1 := slot_of (a := a) (s := 148) (v := .pointer (some ⟨gs, i, none⟩)) (hv 15 (by kernel_rfl))
        have e2 := slot_of (a := a) (s := 147) (v := .int .u8 ((y.toNat : Nat) : Int)) (hv 14 (by kernel_rfl))
        have hc2 := HC2.out
        have hf2 := HF2.out
        have hw2 := HW7.out
        rw [← hJ.ahead hL] at hc2 hf2 hw2
        refine step_skip (wanted_none rfl) (w' := w7) ?_ (hK undef _ trivial trivial trivial (StJ.store (hW 11 (by kernel_rfl))))
        rw [← hw2]
        go_simp
    · intro f wa hCa hva Da hDa hJa
      obtain ⟨aa, hJe, _⟩ := hJa
      obtain rfl := hJe.last (hDa 16 (by decide))
      simp only [framed, List.foldl_cons, List.foldl_nil, List.setIfInBounds_toArray, List.set_cons_succ, List.set_cons_zero]
      clear hva hDa hJe hCa
      refine hK9 _ _ ?_
      clear hK9 K9 KC HC2 HF2
      clear HX8 hy hx hnb8 wn8 M6 E6 OP6 OS6 T6
      clear hil2
      have hok : EnvOk (⟨2, 3, 4, 5, some ⟨gp, 0, none⟩, Pp, pc⟩ : HeadV) ls := ⟨by unfold HeadV.Ok; refine ⟨⟨?_, ?_⟩, ⟨?_, ?_⟩, ⟨?_, ?_⟩, ⟨?_, ?_⟩, ?_⟩ <;> (have := NN.out; have := PPL.out; (try simp only []); omega), LSB.out.1, by have := LSB.out; omega⟩
      have hot : oT true K [(⟨2, 4, 3, X, S, P⟩ : SealV)] ((⟨2, 3, 4, 5, some ⟨gp, 0, none⟩, Pp, pc⟩ : HeadV)).e.toNat ((⟨2, 3, 4, 5, some ⟨gp, 0, none⟩, Pp, pc⟩ : HeadV)).c.toNat ((⟨2, 3, 4, 5, some ⟨gp, 0, none⟩, Pp, pc⟩ : HeadV)).n.toNat (boundB Kk (⟨2, 3, 4, 5, some ⟨gp, 0, none⟩, Pp, pc⟩ : HeadV)) (S.set i y) = none := oT_one K _ _ _ _ _ _ (fun h => SN.out h.2.2.2.2)
      have co := open_vno M7.out.vs (some ⟨g2, 0, none⟩) 4 4 [110, 97, 109, 101] rfl (by omega) (by omega) (Nat.le_refl _) (by omega) T7.out.rd.1 Kk KKL.out (⟨2, 3, 4, 5, some ⟨gp, 0, none⟩, Pp, pc⟩ : HeadV) (some ⟨gs, 0, none⟩) ls sc (S.set i y) SL7.out hok (rdf_of OP7.out.rd.1 (fun a e => by injection e with e; subst e; exact NP.out)) (rdf_of OS7.out.rd.1 (fun a e => by injection e with e; subst e; exact NS.out)) OS7.out.cap.1 OS7.out.cap.2 (by simp) HLB.out (M7.out.tab HT.out hg1) (M7.out.glt hg1) (M7.out.gF hg1) (M7.out.ptab HP.out hg2) (M7.out.glt hg2) (M7.out.gF hg2) HKE.out hot
      go_wp2_with (first
        | (refine wpList_load_row rfl 32 (.tmp 9) rfl b5 rfl 32 (eRow Kk (⟨2, 3, 4, 5, some ⟨gp, 0, none⟩, Pp, pc⟩ : HeadV) (some ⟨gs, 0, none⟩) ls sc) (0, 0) _ E8.out Tryd.underlying32 rfl (iE _ KKL.out _ _ _ _) ?_)
        | (go_at_call 7; ((with_reducible refine co.mono ?_); clear co; rintro e w9 ⟨rfl, F9, hV, hG, hU⟩; have M9 := hid_ (M7.out.next hV hG hU); clear hV hG hU)))
      go_ret
      exact ⟨rfl, M9.out.below⟩
  · have t5 : (U5 : Int).tmod 8 = 7 := t5'
    have r5 : (U5 : Int) % 8 = 7 := r5'
    clear t5' r5' wu5' wi5' lt5
    obtain ⟨x, hx⟩ : ∃ x, Kk.getD nn 0 = x := ⟨_, rfl⟩
    have hil2 : (nn : Int) < 32 := by have := NN.out; omega
    have hil3 : nn < 32 := by have := NN.out; omega
    have hc := env_k KKL.out E6.out nn (by have := NN.out; omega)
    have hf := E6.out.frozen nn
    rw [hx] at hc
    have hxb := x.toNat_lt
    obtain ⟨nb8, hnb8⟩ : ∃ u : UInt8, u.toNat = nn := ⟨UInt8.ofNat nn, by have := NN.out; simp; omega⟩
    have wn8 : IntKind.u8.wrap (nn : Int) = (nn : Int) := by have := NN.out; simp [IntKind.wrap, IntKind.signed, IntKind.bits]; omega
    obtain ⟨y, hy⟩ : ∃ y, x ^^^ nb8 = y := ⟨_, rfl⟩
    have HX8 : bits .xor .u8 ((x.toNat : Nat) : Int) (nn : Int) = ((y.toNat : Nat) : Int) := by rw [← hnb8, xor8, hy]
    have YN := hid_ (show y ≠ x by rw [← hy]; exact xor_neY x nb8 (fun e0 => by have := NN.out; rw [e0] at hnb8; simp at hnb8; omega))
    have XH := hid_ hx
    obtain ⟨w7, hw7⟩ : ∃ W, w6.setCell ⟨b5, nn, none⟩ (.int .u8 ((y.toNat : Nat) : Int)) = W := ⟨_, rfl⟩
    have UU : Untouched [b5] w6 w7 := by rw [← hw7]; exact Untouched.set b5 nn (by simp) _
    have hnb : ∀ v : Nat, v ≠ b5 → w7.heap[v]? = w6.heap[v]? := fun v hv => by rw [← hw7]; exact Below.heap_setCell w6 ⟨b5, nn, none⟩ _ v hv
    have T7 := hid_ (T6.out.atx (fun k hk => by injection hk with hk; subst hk; exact hnb _ (by have := NBG.out; have := GPS.out; show g2 ≠ b5; omega)))
    have hE7 : Bk w7 b5 32 ((eRow Kk (⟨2, 3, 4, 5, some ⟨gp, 0, none⟩, Pp, pc⟩ : HeadV) (some ⟨gs, 0, none⟩) ls sc).setIfInBounds nn (.int .u8 ((y.toNat : Nat) : Int))) := by rw [← hw7]; exact E6.out.set_ nn _
    rw [eRow_k Kk KKL.out _ _ _ _ nn (by have := NN.out; omega)] at hE7
    have E8 := hid_ hE7
    clear hE7
    have M7 := hid_ (set_minex M6.out UU NB.out NBW.out)
    have OP7 := hid_ (OP6.out.at_ (fun k hk => by injection hk with hk; subst hk; exact hnb _ (by have := NBP.out; show gp ≠ b5; omega)))
    have OS7 := hid_ (OS6.out.at_ (fun k hk => by injection hk with hk; subst hk; exact hnb _ (by have := NBP.out; show gs ≠ b5; omega)))
    have KL7 := hid_ (show (Kk.set nn y).length = 32 by rw [List.length_set]; exact KKL.out)
    have SN := hid_ (show Kk.set nn y ≠ Kk from set_neY Kk nn y (by rw [KKL.out]; have := NN.out; omega) (by rw [XH.out]; exact YN.out))
    clear UU hnb
    go_upto_region 23 with fail
    clear hc hf HX8 hw7 hy hx hnb8 wn8 M6 E6 OP6 OS6 T6
    clear hil2
    have hok : EnvOk (⟨2, 3, 4, 5, some ⟨gp, 0, none⟩, Pp, pc⟩ : HeadV) ls := ⟨by unfold HeadV.Ok; refine ⟨⟨?_, ?_⟩, ⟨?_, ?_⟩, ⟨?_, ?_⟩, ⟨?_, ?_⟩, ?_⟩ <;> (have := NN.out; have := PPL.out; (try simp only []); omega), LSB.out.1, by have := LSB.out; omega⟩
    have co := open_key M7.out.vs (some ⟨g2, 0, none⟩) 4 4 [110, 97, 109, 101] rfl (by omega) (by omega) (Nat.le_refl _) (by omega) T7.out.rd.1 (Kk.set nn y) KL7.out (⟨2, 3, 4, 5, some ⟨gp, 0, none⟩, Pp, pc⟩ : HeadV) (some ⟨gs, 0, none⟩) ls sc S SL.out hok (rdf_of OP7.out.rd.1 (fun a e => by injection e with e; subst e; exact NP.out)) (rdf_of OS7.out.rd.1 (fun a e => by injection e with e; subst e; exact NS.out)) OS7.out.cap.1 OS7.out.cap.2 (by simp) HLB.out (M7.out.tab HT.out hg1) (M7.out.glt hg1) (M7.out.gF hg1) (M7.out.ptab HP.out hg2) (M7.out.glt hg2) (M7.out.gF hg2) (by rw [← HKE.out]; exact SN.out)
    go_wp2_with (first
      | (refine wpList_load_row rfl 32 (.tmp 9) rfl b5 rfl 32 (eRow (Kk.set nn y) (⟨2, 3, 4, 5, some ⟨gp, 0, none⟩, Pp, pc⟩ : HeadV) (some ⟨gs, 0, none⟩) ls sc) (0, 0) _ E8.out Tryd.underlying32 rfl (iE _ KL7.out _ _ _ _) ?_)
      | (go_at_call 7; ((with_reducible refine co.mono ?_); clear co; rintro e w9 ⟨rfl, F9, hV, hG, hU⟩; have M9 := hid_ (M7.out.next hV hG hU); clear hV hG hU)))
    go_ret
    exact ⟨rfl, M9.out.below⟩

theorem laid_metE (os : Os) : laidMet Tryd.prog [("casket/pad.sizes", Rows.laid_casket_pad_sizes), ("casket/sha2.roundWords", Rows.laid_casket_sha2_roundWords)] ((laidWorldE os).forCall (fun _ _ => 0) ⟨#[], #[.slice none 0 0, .int .i64 0, .int .i64 0], []⟩).memory :=
  laidMet_of_run' 8 (by kernel_rfl) (by kernel_rfl)

/-- What the walk gives, for every argument and every world in which the constants lie. -/
theorem contract (H : Type) (enc : TypeId × Value → H) (W : World) (base : Nat) (args : Array Value) (ds gs : List (DataW H)) (before : List MemPlace)
    (hval : ∀ (j : Nat) t v, Tryd.f3.params[j]? = some t → args[j]? = some v → Value.okWide Tryd.prog W .any base t v)
    (hW : DataW.Whole enc Tryd.prog Tryd.f3.params.toList Rows.envelopeForgedSpec.vars false W args.toList ds gs before) (hL : laidMetH Tryd.prog Rows.envelopeForgedRow.laid W) :
    Calls Tryd.prog 3 args W fun e W' => ∃ v, e = .returned v ∧ Rows.envelopeForgedSpec.post enc Tryd.prog Tryd.f3 false true false false W args v W' := by
  obtain ⟨⟨hpt, hg2⟩, ht, hg1⟩ := two_of hL
  have hW' := hW
  obtain ⟨p, q, hA0, hV, rfl, hfz, hnd⟩ := hW
  have hA : DataW.TrodAll enc Tryd.prog W 0 (fun _ => true) true Tryd.f3.params.toList args.toList ds p := hA0
  rw [Tryd.params3] at hA hval
  obtain ⟨v0, vs0, d0, ds0, p0, q0, hargs, rfl, rfl, h0, r0⟩ := trodAll_cons hA
  obtain ⟨v1, vs1, d1, ds1, p1, q1, rfl, rfl, rfl, h1, r1⟩ := trodAll_cons r0
  obtain ⟨v2, vs2, d2, ds2, p2, q2, rfl, rfl, rfl, h2, r2⟩ := trodAll_cons r1
  obtain ⟨rfl, rfl, rfl⟩ := trodAll_nil r2
  obtain rfl : args = #[v0, v1, v2] := by cases args; simp_all
  obtain ⟨rfl, rfl⟩ := trodVars_none hV
  obtain ⟨A0, l0, c0, rfl, hr0, hlc0, hcm0⟩ := open_bytes Tryd.underlying22 Tryd.underlying5 (by kernel_rfl) (hval 0 22 v0 rfl rfl) h0
  obtain ⟨a1, rfl, rfl, rfl, w1⟩ := open_int Tryd.underlying3 (hval 1 3 v1 rfl rfl) h1
  obtain ⟨a2, rfl, rfl, rfl, w2⟩ := open_int Tryd.underlying3 (hval 2 3 v2 rfl rfl) h2
  refine (walk W A0 l0 c0 hr0 hlc0 (by unfold maxLen at hcm0; omega) a1 a2 ht hg1 hpt hg2).mono fun e W' ⟨he, hg⟩ => ⟨_, he, ?_⟩
  exact law_post laidOut_ (of_decide_eq_true (by kernel_rfl)) rfl rfl Tryd.underlying4 rfl hW' hg

theorem reads (os : Os) {H : Type} (enc : TypeId × Value → H) : ∃ places, DataW.whole enc Tryd.prog ((laidWorldE os).forCall (fun _ _ => 0) ⟨#[], #[.slice none 0 0, .int .i64 0, .int .i64 0], []⟩).memory Tryd.f3.params.toList Rows.envelopeForgedSpec.vars false (#[.slice none 0 0, .int .i64 0, .int .i64 0] : Array Value).toList 8 = some ([.nil, .lit (.int .i64 0), .lit (.int .i64 0)], [], places) :=
  ⟨[], by kernel_rfl⟩

set_option maxRecDepth 100000 in
theorem lifted (os : Os) (started : os.Started) (H : Type) (enc : TypeId × Value → H) (F : Stop.Interp) :
    ReturnsInHanded {} Tryd.checked os 3 .any ((OpenSpec.ofChange Rows.envelopeForgedSpec).preRow enc Tryd.prog Tryd.f3 Rows.envelopeForgedRow.domain false Rows.envelopeForgedRow.laid) (((OpenSpec.ofChange Rows.envelopeForgedSpec).at F).post enc Tryd.prog Tryd.f3 false true false false) := by
  obtain ⟨places, hx⟩ := reads os enc
  refine returnsInHanded_of_row (C := Tryd.checked) (s := OpenSpec.ofChange Rows.envelopeForgedSpec) own_ started (by kernel_rfl) Tryd.func3
    (witness_row_at (enc := enc) (C := Tryd.checked) false (laidWorldE os) #[.slice none 0 0, .int .i64 0, .int .i64 0] rfl (by kernel_rfl) (by kernel_rfl) (by kernel_rfl)
      (OpenSpec.preRow_of_cond 8 hx (by kernel_rfl) (fun k hk => by cases hk) (by kernel_rfl) (laid_metE os))) ?_
  intro W base args ds gs before hval hW _ _ _ hL _ _
  exact contract H enc W base args ds gs before hval hW hL

theorem said : Rows.EnvelopeForgedSaid :=
  OpenClaim.holds_of_cond 3 Tryd.f3 rfl rfl rfl rfl rfl rfl rfl ⟨rfl, rfl, rfl, rfl, rfl⟩ rfl rfl rfl rfl rfl (by kernel_rfl) Tryd.func3 (by kernel_rfl)
    (of_decide_eq_true (by kernel_rfl)) (by unfold Func.isWrapper; first | (rw [if_pos (by decide +kernel)]; kernel_rfl) | (rw [if_neg (by decide +kernel)]; exact ⟨rfl, rfl⟩))
    (fun os started H enc _ F => by rw [OpenClaim.pre_eq_preRow]; exact lifted os started H enc F)

/-- No parameter wants a stand-in; the program's own looks are off: what the card asks. -/
theorem plain (f : FuncId) (fn : Func) (hf : Tryd.pinned.checked.prog.funcNamed "casket/casketlaw13.EnvelopeForged" = some f) (hfn : Tryd.pinned.checked.prog.funcs[f]? = some fn) :
    false = Tryd.pinned.checked.prog.looks [] ∧ ∀ (j : Nat) t, fn.params[j]? = some t → Tryd.pinned.checked.prog.wantsStandIn t = false := by
  obtain rfl : f = 3 := Option.some.inj ((show Tryd.prog.funcNamed "casket/casketlaw13.EnvelopeForged" = some 3 by kernel_rfl).symm.trans hf) |>.symm
  obtain rfl : fn = Tryd.f3 := (Option.some.inj (Tryd.func3.symm.trans hfn)).symm
  refine ⟨by kernel_rfl, fun j t ht => ?_⟩
  rw [Tryd.params3] at ht
  have hm := Array.mem_of_getElem? ht
  simp only [List.mem_toArray, List.mem_cons, List.not_mem_nil, or_false] at hm
  rcases hm with rfl | rfl | rfl
  · exact (show Tryd.prog.wantsStandIn 22 = false by kernel_rfl)
  · exact (show Tryd.prog.wantsStandIn 3 = false by kernel_rfl)
  · exact (show Tryd.prog.wantsStandIn 3 = false by kernel_rfl)

/-- The card. -/
theorem proved : Rows.EnvelopeForgedCardSaid :=
  Claim7.holds_tied_plain_at .later [] _ _ _ _ said (fun _ h => by cases h) (by kernel_rfl) (fun _ h => by cases h) envelopeForged_row_tie rfl ⟨rfl, rfl⟩ (by kernel_rfl) rfl plain (by kernel_rfl)
#print axioms proved
end Go.Proofs.YtmfhgmbbgcefkaaDoor.envelopeForged
