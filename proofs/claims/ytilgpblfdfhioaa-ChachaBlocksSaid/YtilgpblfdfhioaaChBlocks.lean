/-
  Proved: for every key, counter and nonce ChachaBlocks answers true: of all keys, counters and nonces the block is told. No condition.
-/
import Derived.Test.YtilgpblfdfhioaaK9
import Derived.Test.YtilgpblfdfhioaaOa
namespace Go.Proofs.Ytilgpblfdfhioaa.chachaBlocks
open Go.ChangeShapes Go.WideShapes Go.ChangeAt Go.RowKit
set_option linter.unusedVariables false
set_option linter.unusedSimpArgs false

theorem hid_ {p : Prop} (h : p) : Hid p := h

set_option maxRecDepth 100000 in
set_option maxHeartbeats 4000000 in
theorem walk (key nonce : List UInt8) (counter : Int) (w : World) (hk : key.length = 32) (hn : nonce.length = 12) (hc : ok32 counter) :
    Calls Try.prog 4 #[.agg (rowOf key), .int .u32 counter, .agg (rowOf nonce)] w fun e w' => e = .returned (.bool true) ∧ Below w.heap.size w w' := by
  have hzb := zb64
  obtain ⟨g, hg⟩ : ∃ g, Hid (w.heap.size = g) := ⟨_, rfl⟩
  have hgl : g ≤ w.heap.size := by rw [hg.out]; exact Nat.le_refl _
  obtain ⟨w0, hw0⟩ : ∃ W, Hid ((w.alloc (.cells (rowOf key) 27)).alloc (.cells (rowOf nonce) 29) = W) := ⟨_, rfl⟩
  have HK : Hid (Bk w0 g 27 (rowOf key)) := hid_ (by rw [← hw0.out, ← hg.out]; exact (Bk.new w _ _).alloc _)
  have HN : Hid (Bk w0 (g + 1) 29 (rowOf nonce)) := hid_ (by
    have h := Bk.new (w.alloc (.cells (rowOf key) 27)) 29 (rowOf nonce)
    rw [← hw0.out, ← hg.out]
    simpa using h)
  have HR : Hid (Below g w w0) := hid_ (by rw [← hw0.out, ← hg.out]; exact ((Below.refl _ _).alloc (Nat.le_refl _) _).alloc (by simp) _)
  have I32 := hid_ (ib32 key hk)
  have I12 := hid_ (ib12 nonce hn)
  have HKL := hid_ hk
  have HNL := hid_ hn
  have cb := block_any key nonce counter w0 hk hn hc
  have cr := fun W => refBlock_any key nonce counter W hk hn hc
  have LB := hid_ (blockB_len key counter nonce)
  obtain ⟨b, hb⟩ : ∃ x, Hid (blockB key counter nonce = x) := ⟨_, rfl⟩
  rw [hb.out] at cb cr LB
  have EB := hid_ (ib64 b LB.out)
  have SB : Hid ((rowOf (zbytes 64)).size = (rowOf b).size) := hid_ (by rw [rowOf_size, rowOf_size, LB.out, zbytes_len])
  clear hk hn
  go_enter Try.func4, Try.ntmps4
  go_upto_region 1 with fail
  rw [hg.out, hw0.out]
  go_upto_region 2 with (first
    | (refine wpList_load_row rfl 27 (.tmp 3) rfl g rfl 27 (rowOf key) (0, 0) _ HK.out Try.underlying27 rfl I32.out ?_)
    | (refine wpList_load_row rfl 29 (.tmp 5) rfl (g + 1) rfl 29 (rowOf nonce) (0, 0) _ HN.out Try.underlying29 rfl I12.out ?_)
    | (go_at_call 27; ((with_reducible refine cb.mono ?_); rintro e w1 ⟨rfl, g1⟩; have HB1 := hid_ g1; clear g1))
    | (refine wpList_put_row rfl 30 (.tmp 7) (.tmp 11) rfl w1.heap.size (rowOf b) rfl rfl 30 (rowOf (zbytes 64)) (Bk.new w1 _ _) EB.out SB.out (bytes_one _) ?_; intro w2 k2 g2 s2))
  rw [put_none]
  have K1 := HK.out.below HB1.out HK.out.lt
  have N1 := HN.out.below HB1.out HN.out.lt
  have Y1 := HR.out.trans (HB1.out.mono (by have := HR.out.size; omega))
  have l1 := N1.lt
  have K2 := hid_ ((K1.alloc (.cells (rowOf (zbytes 64)) 30)).grown g2 (by intro e; injection e with e; omega))
  have N2 := hid_ ((N1.alloc (.cells (rowOf (zbytes 64)) 30)).grown g2 (by intro e; injection e with e; omega))
  have Y2 := hid_ ((Y1.alloc (by have := Y1.size; omega) (.cells (rowOf (zbytes 64)) 30)).grown g2 (by have := Y1.size; simp; omega) (fun i hi => by injection hi with hi; have := Y1.size; omega))
  have B2 := hid_ k2
  obtain ⟨gb, hgb⟩ : ∃ x, Hid (w1.heap.size = x) := ⟨_, rfl⟩
  rw [hgb.out] at B2 ⊢
  have V1 : Hid (∀ W : World, Below w2.heap.size w2 W → (convert 22 9 (.slice (some ⟨gb, 0, none⟩) 64 64)).run Try.prog W = .ok (.string (strOf b)) W) := hid_ (fun W h => conv_strn (B2.out.below h B2.out.lt |>.rd (B := W.heap.size) (by have := B2.out.lt; have := h.size; omega)) 64 64 LB.out)
  have V2 : Hid (∀ W : World, Below w2.heap.size w2 W → (convert 22 9 (.slice (some ⟨g, 0, none⟩) 32 32)).run Try.prog W = .ok (.string (strOf key)) W) := hid_ (fun W h => conv_strn (K2.out.below h K2.out.lt |>.rd (B := W.heap.size) (by have := K2.out.lt; have := h.size; omega)) 32 32 HKL.out)
  have V3 : Hid (∀ W : World, Below w2.heap.size w2 W → (convert 22 9 (.slice (some ⟨g + 1, 0, none⟩) 12 12)).run Try.prog W = .ok (.string (strOf nonce)) W) := hid_ (fun W h => conv_strn (N2.out.below h N2.out.lt |>.rd (B := W.heap.size) (by have := N2.out.lt; have := h.size; omega)) 12 12 HNL.out)
  have P1 : Hid (∀ W : World, Below w2.heap.size w2 W → Calls Try.prog 28 #[] W fun e w' => e = .returned (.bool true) ∧ Below w2.heap.size w2 w') := hid_ (fun W h => (streams_any W).mono fun e w' hh => ⟨hh.1, h.trans (hh.2.mono h.size)⟩)
  have P2 : Hid (∀ W : World, Below w2.heap.size w2 W → Calls Try.prog 29 #[.string (strOf key), .int .u32 counter, .string (strOf nonce)] W fun e w' => e = .returned (.string (strOf b)) ∧ Below w2.heap.size w2 w') := hid_ (fun W h => (cr W).mono fun e w' hh => ⟨hh.1, h.trans (hh.2.mono h.size)⟩)
  have q1 := fun W => sl_all64 gb W
  have q2 := fun W => sl_key g W
  have q3 := fun W => sl_nonce (g + 1) W
  clear k2 g2 s2 K1 N1 Y1 l1 cb cr hzb HK HN HR HB1
  refine region_quiet_in (C := fun W => Below w2.heap.size w2 W) (by kernel_rfl) (by kernel_rfl) ((Below.refl _ _).drew) ?_
  repeat (go_big_quiet_want; (first
    | (refine BigFrame.quiet_move _ rfl ?_; go_simp)
    | (refine BigFrame.quiet_assign _ rfl ?_; go_simp)
    | (refine quiet_call (.bool true) 28 #[] ?_ P1.out ?_; (focus (intro W; go_simp; done)); go_simp)
    | (refine quiet_run (.slice (some ⟨gb, 0, none⟩) 64 64) ?_ ?_; (focus (intro W hW; go_simp; done)); go_simp)
    | (refine quiet_run (.slice (some ⟨g, 0, none⟩) 32 32) ?_ ?_; (focus (intro W hW; go_simp; done)); go_simp)
    | (refine quiet_run (.slice (some ⟨g + 1, 0, none⟩) 12 12) ?_ ?_; (focus (intro W hW; go_simp; done)); go_simp)
    | (refine quiet_call (.string (strOf b)) 29 #[.string (strOf key), .int .u32 counter, .string (strOf nonce)] ?_ P2.out ?_; (focus (intro W; go_simp; done)); go_simp)
    | (refine quiet_run (.bool true) ?_ ?_; (focus (intro W hW; go_simp; done)); go_simp)
    | (refine quiet_run (.string (strOf b)) ?_ ?_; (focus (intro W hW; have h := V1.out W hW; go_simp; done)); go_simp)
    | (refine quiet_run (.string (strOf key)) ?_ ?_; (focus (intro W hW; have h := V2.out W hW; go_simp; done)); go_simp)
    | (refine quiet_run (.string (strOf nonce)) ?_ ?_; (focus (intro W hW; have h := V3.out W hW; go_simp; done)); go_simp)); go_big_quiet_on)
  refine wpQuiet_nil ?_
  intro W hW
  have hWb := Y2.out.trans (hW.mono (by have := Y2.out.size; omega))
  rw [← hg.out] at hWb
  have HW := hid_ hWb
  clear hW hWb
  go_wp2
  go_ret
  exact ⟨rfl, HW.out⟩

set_option maxRecDepth 100000 in
theorem lifted (os : Os) (started : os.Started) (H : Type) (enc : TypeId × Value → H) :
    ReturnsInHanded {} Try.checked os 4 .any (Rows.chachaBlocksSpec.pre6 enc Try.prog Try.f4 Rows.chachaBlocksRow.domain false) (Rows.chachaBlocksSpec.post enc Try.prog Try.f4 false true false false) := by
  refine returnsInHanded_of_change (C := Try.checked) own_ started (by kernel_rfl) Try.func4
    (ChangeSpec.witness6 (enc := enc) (C := Try.checked) false ⟨#[], #[.agg #[.int .u8 0, .int .u8 0, .int .u8 0, .int .u8 0, .int .u8 0, .int .u8 0, .int .u8 0, .int .u8 0, .int .u8 0, .int .u8 0, .int .u8 0, .int .u8 0, .int .u8 0, .int .u8 0, .int .u8 0, .int .u8 0, .int .u8 0, .int .u8 0, .int .u8 0, .int .u8 0, .int .u8 0, .int .u8 0, .int .u8 0, .int .u8 0, .int .u8 0, .int .u8 0, .int .u8 0, .int .u8 0, .int .u8 0, .int .u8 0, .int .u8 0, .int .u8 0], .int .u32 0, .agg #[.int .u8 0, .int .u8 0, .int .u8 0, .int .u8 0, .int .u8 0, .int .u8 0, .int .u8 0, .int .u8 0, .int .u8 0, .int .u8 0, .int .u8 0, .int .u8 0]], []⟩ 8 (by kernel_rfl) (by kernel_rfl) (by kernel_rfl) (by kernel_rfl)) ?_
  intro W base args ds gs before hval0 hW hcnd _
  have hval : ∀ (j : Nat) t v, Try.f4.params[j]? = some t → args[j]? = some v → Value.okWide Try.prog W .any base t v := hval0
  have hW' := hW
  obtain ⟨p, q, hA0, hV, rfl, hfz, hnd⟩ := hW
  have hA : DataW.TrodAll enc Try.prog W 0 (fun _ => true) true Try.f4.params.toList args.toList ds p := hA0
  rw [Try.params4] at hA hval
  obtain ⟨v0, vs0, d0, ds0, p0, q0, hargs, rfl, rfl, h0, r0⟩ := trodAll_cons hA
  obtain ⟨v1, vs1, d1, ds1, p1, q1, rfl, rfl, rfl, h1, r1⟩ := trodAll_cons r0
  obtain ⟨v2, vs2, d2, ds2, p2, q2, rfl, rfl, rfl, h2, r2⟩ := trodAll_cons r1
  obtain ⟨rfl, rfl, rfl⟩ := trodAll_nil r2
  obtain rfl : args = #[v0, v1, v2] := by cases args; simp_all
  obtain ⟨rfl, rfl⟩ := trodVars_none hV
  obtain ⟨l0, rfl, hl0⟩ := open_arr8 Try.underlying27 Try.underlying5 (by kernel_rfl) (by kernel_rfl) (hval 0 27 v0 rfl rfl) h0
  obtain ⟨a1, rfl, rfl, rfl, w1⟩ := open_int Try.underlying28 (hval 1 28 v1 rfl rfl) h1
  obtain ⟨b1, e1⟩ := bounds_u32 w1
  obtain ⟨l2, rfl, hl2⟩ := open_arr8 Try.underlying29 Try.underlying5 (by kernel_rfl) (by kernel_rfl) (hval 2 29 v2 rfl rfl) h2
  refine (walk l0 l2 a1 W hl0 hl2 ⟨b1, e1⟩).mono fun e W' ⟨he, hg⟩ => ⟨_, he, ?_⟩
  exact law_post laidOut_ (of_decide_eq_true (by kernel_rfl)) rfl rfl Try.underlying4 rfl hW' hg

theorem over : Rows.chachaBlocksRow.holds Try.pinned (OpenSpec.ofChange Rows.chachaBlocksSpec) :=
  OpenClaim.holds_of_wide 4 Try.f4 rfl rfl rfl rfl rfl rfl rfl ⟨rfl, rfl, rfl, rfl, rfl⟩ rfl rfl rfl rfl rfl (by kernel_rfl) Try.func4 (by kernel_rfl)
    (of_decide_eq_true (by kernel_rfl)) (by unfold Func.isWrapper; first | (rw [if_pos (by decide +kernel)]; kernel_rfl) | (rw [if_neg (by decide +kernel)]; exact ⟨rfl, rfl⟩))
    (fun os started H enc _ => lifted os started H enc)

theorem proved : Rows.ChachaBlocksSaid := over
#print axioms proved
end Go.Proofs.Ytilgpblfdfhioaa.chachaBlocks
