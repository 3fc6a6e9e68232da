/-
  Contracts: aead's fillerOf, countOf, tagOf.
-/
import Derived.Test.YtengjagahhfjoaaDoorKK
import Derived.Test.YtengjagahhfjoaaDoorPP
import Derived.Test.YtengjagahhfjoaaDoorBs
import Derived.Test.YtengjagahhfjoaaDoorSt
namespace Go.Proofs.YtengjagahhfjoaaDoor
open Go.RowKit
set_option linter.unusedVariables false
set_option linter.unusedSimpArgs false

theorem hide_ {p : Prop} (h : p) : Hid p := h
/-- How many noughts fill up. -/
def fillN (n : Nat) : Nat := (16 - n % 16) % 16
/-- What the tag is of. -/
def msgB (wi hi : List UInt8) : List UInt8 := wi ++ (zbytes (fillN wi.length) ++ (hi ++ (zbytes (fillN hi.length) ++ (lowB 8 wi.length ++ lowB 8 hi.length))))
def tagB (key nonce wi hi : List UInt8) : List UInt8 := polyTag ((blockB key 0 nonce).take 32) (msgB wi hi)
theorem tagB_len (key nonce wi hi : List UInt8) : (tagB key nonce wi hi).length = 16 := polyTag_len _ _
theorem msgB_len (wi hi : List UInt8) : (msgB wi hi).length = wi.length + fillN wi.length + hi.length + fillN hi.length + 16 := by
  simp [msgB, zbytes_len, lowB_len]; omega

set_option maxHeartbeats 1000000 in
theorem filler_any (A : Option Addr) (n c : Nat) (w : World) (hm : n ≤ 9223372036854775807) :
    Calls Tryd.prog 34 #[.slice A n c] w fun e w' => e = .returned (.slice (some ⟨w.heap.size, 0, none⟩) (fillN n) (fillN n)) ∧ w.alloc (.cells (rowOf (zbytes (fillN n))) 5) = w' := by
  obtain ⟨f, hf⟩ : ∃ f, Hid (fillN n = f) := ⟨_, rfl⟩
  have hfi : (16 - (n : Int) % 16) % 16 = (f : Int) := by
    have h : (16 - n % 16) % 16 = f := hf.out
    omega
  have hf16 : f < 16 := by have h : (16 - n % 16) % 16 = f := hf.out; omega
  have hmk := fun W => mk8 f (by omega) W
  rw [hf.out]
  go_enter Tryd.func34, Tryd.ntmps34
  go_wp2
  go_ret
  exact ⟨rfl, rfl⟩
set_option maxHeartbeats 1000000 in
theorem count_any (A : Option Addr) (n c : Nat) (w : World) (hm : n ≤ 9223372036854775807) :
    Calls Tryd.prog 35 #[.slice A n c] w fun e w' => e = .returned (.slice (some ⟨w.heap.size, 0, none⟩) 8 8) ∧ w.alloc (.cells (rowOf (lowB 8 n)) 5) = w' := by
  have c2 := putLow_any n 8 8 (by omega) (by omega) (by omega) (by omega) w
  go_enter Tryd.func35, Tryd.ntmps35
  go_wp2_with (go_at_call 10; ((with_reducible refine c2.mono ?_); rintro e w' ⟨rfl, rfl⟩))
  go_ret
  exact ⟨rfl, rfl⟩

theorem RdN.rd {w : World} {g : Nat} {A : Option Addr} {l : List UInt8} (h : RdN w g A l) : Rd w w.heap.size A l := fun hn => by
  obtain ⟨b, off, e, _, hb, hc⟩ := h hn
  exact ⟨b, off, e, hb, hc⟩
/-- What each operation of tagOf's last line leaves. -/
def TgR (g8 g9 : Nat) (kb : List UInt8) (Aw : Option Addr) (nw cw : Nat) (Ah : Option Addr) (nh ch : Nat) (N : Nat) (msg T : List UInt8) : Nat → Value → World → Prop
  | 0, v, _ => v = .slice (some ⟨g9, 0, none⟩) 32 64
  | 1, v, _ => v = .pointer (some ⟨g9, 0, none⟩)
  | 2, v, _ => v = .agg (rowOf kb)
  | 3, v, _ => v = .slice Aw nw cw
  | 4, v, _ => v = .slice Aw nw cw
  | 5, v, w => ∃ q, v = .slice (some ⟨q, 0, none⟩) (fillN nw) (fillN nw) ∧ g8 < q ∧ Bk w q 5 (rowOf (zbytes (fillN nw)))
  | 6, v, _ => v = .slice Ah nh ch
  | 7, v, _ => v = .slice Ah nh ch
  | 8, v, w => ∃ q, v = .slice (some ⟨q, 0, none⟩) (fillN nh) (fillN nh) ∧ g8 < q ∧ Bk w q 5 (rowOf (zbytes (fillN nh)))
  | 9, v, _ => v = .slice Aw nw cw
  | 10, v, w => ∃ q, v = .slice (some ⟨q, 0, none⟩) 8 8 ∧ g8 < q ∧ Bk w q 5 (rowOf (lowB 8 nw))
  | 11, v, _ => v = .slice Ah nh ch
  | 12, v, w => ∃ q, v = .slice (some ⟨q, 0, none⟩) 8 8 ∧ g8 < q ∧ Bk w q 5 (rowOf (lowB 8 nh))
  | 13, v, w => ∃ q q1 q2 q3 q4, v = .slice (some ⟨q, 0, none⟩) 6 6 ∧ g8 < q ∧ Bk w q 22 #[.slice Aw nw cw, .slice (some ⟨q1, 0, none⟩) (fillN nw) (fillN nw), .slice Ah nh ch, .slice (some ⟨q2, 0, none⟩) (fillN nh) (fillN nh), .slice (some ⟨q3, 0, none⟩) 8 8, .slice (some ⟨q4, 0, none⟩) 8 8] ∧
      (g8 < q1 ∧ Bk w q1 5 (rowOf (zbytes (fillN nw)))) ∧ (g8 < q2 ∧ Bk w q2 5 (rowOf (zbytes (fillN nh)))) ∧ (g8 < q3 ∧ Bk w q3 5 (rowOf (lowB 8 nw))) ∧ (g8 < q4 ∧ Bk w q4 5 (rowOf (lowB 8 nh)))
  | 14, v, w => ∃ A c, v = .slice A N c ∧ Own8 w (g8 + 1) (.slice A N c) msg
  | 15, v, _ => v = .agg (rowOf T)
  | 16, _, w => Bk w g8 37 (rowOf T)
  | _, _, _ => True
/-- From one world to a later one: only block g8 may turn, and not from T. -/
def TgT (g8 : Nat) (T : List UInt8) (w w' : World) : Prop := w.grownBy w' (some g8) ∧ (Bk w g8 37 (rowOf T) → Bk w' g8 37 (rowOf T))
theorem TgT.refl (g8 : Nat) (T : List UInt8) (w : World) : TgT g8 T w w := ⟨World.grownBy.refl w _, id⟩
theorem TgT.of_below {g8 : Nat} {T : List UInt8} {w w' : World} (hb : Below w.heap.size w w') : TgT g8 T w w' := ⟨grown_of_below (World.grownBy.refl w _) hb, fun h => h.below hb h.lt⟩
def TgC (g8 g9 B : Nat) (bl : List UInt8) (Aw : Option Addr) (wi : List UInt8) (Ah : Option Addr) (hi : List UInt8) (w0 w : World) : Prop :=
  (∃ cs, Bk w g8 37 cs ∧ cs.size = 16) ∧ Bk w g9 33 (rowOf bl) ∧ RdN w g8 Aw wi ∧ RdN w g8 Ah hi ∧ Below B w0 w
section
variable {g8 g9 : Nat} {w w' : World}
theorem TgC.below {B : Nat} {bl : List UInt8} {Aw : Option Addr} {wi : List UInt8} {Ah : Option Addr} {hi : List UInt8} {w0 : World} (h : TgC g8 g9 B bl Aw wi Ah hi w0 w) (hb : Below w.heap.size w w') (hB : B ≤ g8) : TgC g8 g9 B bl Aw wi Ah hi w0 w' := by
  obtain ⟨⟨cs, h1, h2⟩, h3, h4, h5, h6⟩ := h
  exact ⟨⟨cs, h1.below hb h1.lt, h2⟩, h3.below hb h3.lt, h4.grown (grown_of_below (World.grownBy.refl w _) hb), h5.grown (grown_of_below (World.grownBy.refl w _) hb), h6.trans (hb.mono (by have := h1.lt; omega))⟩
theorem TgR.keep {kb : List UInt8} {Aw : Option Addr} {nw cw : Nat} {Ah : Option Addr} {nh ch N : Nat} {msg T : List UInt8} (j : Nat) (v : Value) (w w' : World) (hT : TgT g8 T w w') (h : TgR g8 g9 kb Aw nw cw Ah nh ch N msg T j v w) : TgR g8 g9 kb Aw nw cw Ah nh ch N msg T j v w' := by
  have hk : ∀ {q : Nat} {t : TypeId} {cs : Array Value}, g8 < q → Bk w q t cs → Bk w' q t cs := fun hq hb => hb.grown hT.1 (fun e => by injection e with e; omega)
  rcases j with _ | _ | _ | _ | _ | _ | _ | _ | _ | _ | _ | _ | _ | _ | _ | _ | _ | j
  all_goals first
    | exact h
    | (obtain ⟨q, e, hq, hg⟩ := h; exact ⟨q, e, hq, hk hq hg⟩)
    | (obtain ⟨q, q1, q2, q3, q4, e, hq, hg, h1, h2, h3, h4⟩ := h; exact ⟨q, q1, q2, q3, q4, e, hq, hk hq hg, ⟨h1.1, hk h1.1 h1.2⟩, ⟨h2.1, hk h2.1 h2.2⟩, ⟨h3.1, hk h3.1 h3.2⟩, ⟨h4.1, hk h4.1 h4.2⟩⟩)
    | (obtain ⟨A, c, e, ho⟩ := h; exact ⟨A, c, e, ho.kept hT.1 (by
        cases hv : (Value.slice A N c).ownBlock with
        | none => exact .inl rfl
        | some q => exact .inr (by have := (ho.lt q hv).1; intro e; injection e with e; omega))⟩)
    | exact hT.2 h
end
theorem sl64_32 (g : Nat) (W : World) :
    (Instr.sliceAt 33 (.pointer (some ⟨g, 0, none⟩)) none (some (.int .i64 32)) none).run Tryd.prog W = .ok (.slice (some ⟨g, 0, none⟩) 32 64) W := by
  have he : Tryd.prog.elem 33 = 5 := by kernel_rfl
  have hn : Tryd.prog.arrayLen 33 = 64 := by kernel_rfl
  have ht : Tryd.prog.underlying 33 = some (.array (Tryd.prog.arrayLen 33) (Tryd.prog.elem 33)) := by rw [he, hn]; exact Tryd.underlying33
  rw [run_sliceAt_array_h W 33 ⟨g, 0, none⟩ ht .i64 32 (by omega) (by rw [hn]; omega), he, size8w, hn]
  rfl
theorem arr32_at (g : Nat) (W : World) : (Instr.arrayAt 28 (.slice (some ⟨g, 0, none⟩) 32 64)).run Tryd.prog W = .ok (.pointer (some ⟨g, 0, none⟩)) W :=
  run_arrayAt W 28 5 32 _ 32 64 Tryd.underlying28 (by omega)

set_option maxRecDepth 100000 in
set_option maxHeartbeats 4000000 in
theorem tagOf_any (key nonce : List UInt8) (Aw : Option Addr) (nw cw : Nat) (wi : List UInt8) (Ah : Option Addr) (nh ch : Nat) (hi : List UInt8) (w : World) (hk : key.length = 32) (hn : nonce.length = 12)
    (hw : wi.length = nw) (hh : hi.length = nh) (hrw : Rd w w.heap.size Aw wi) (hrh : Rd w w.heap.size Ah hi) (hmw : nw ≤ 1000000) (hmh : nh ≤ 1000000) :
    Calls Tryd.prog 15 #[.agg (rowOf key), .agg (rowOf nonce), .slice Aw nw cw, .slice Ah nh ch] w fun e w' => e = .returned (.agg (rowOf (tagB key nonce wi hi))) ∧ Below w.heap.size w w' := by
  have hz16 := z16
  have hzb := zb64
  have HK := hide_ hk
  have HN := hide_ hn
  have HW := hide_ hw
  have HH := hide_ hh
  obtain ⟨g, hg⟩ : ∃ g, Hid (w.heap.size = g) := ⟨_, rfl⟩
  obtain ⟨w0, hw0⟩ : ∃ W, Hid (((w.alloc (.cells (rowOf key) 28)).alloc (.cells (rowOf nonce) 29)).alloc (.cells (rowOf (zbytes 16)) 37) = W) := ⟨_, rfl⟩
  have B0 : Hid (Bk w0 g 28 (rowOf key)) := hide_ (by rw [← hw0.out, ← hg.out]; exact ((Bk.new w _ _).alloc _).alloc _)
  have B1 : Hid (Bk w0 (g + 1) 29 (rowOf nonce)) := hide_ (by
    have h := (Bk.new (w.alloc (.cells (rowOf key) 28)) 29 (rowOf nonce)).alloc (.cells (rowOf (zbytes 16)) 37)
    rw [← hw0.out, ← hg.out]
    simpa using h)
  have B2 : Hid (Bk w0 (g + 1 + 1) 37 (rowOf (zbytes 16))) := hide_ (by
    have h := Bk.new ((w.alloc (.cells (rowOf key) 28)).alloc (.cells (rowOf nonce) 29)) 37 (rowOf (zbytes 16))
    rw [← hw0.out, ← hg.out]
    simpa using h)
  have X0 : Hid (Below g w w0) := hide_ (by rw [← hw0.out, ← hg.out]; exact (((Below.refl _ _).alloc (Nat.le_refl _) _).alloc (by simp) _).alloc (by simp; omega) _)
  have RW : Hid (Rd w0 g Aw wi) := hide_ (by have h := hrw.below (B := w.heap.size) (w' := w0) (by rw [hg.out]; exact X0.out); rwa [hg.out] at h)
  have RH : Hid (Rd w0 g Ah hi) := hide_ (by have h := hrh.below (B := w.heap.size) (w' := w0) (by rw [hg.out]; exact X0.out); rwa [hg.out] at h)
  have cb := fun W => block_anyq key nonce 0 W hk hn ok32_zeroq
  have LB := hide_ (blockB_len key 0 nonce)
  obtain ⟨bl, hbl⟩ : ∃ bl, Hid (blockB key 0 nonce = bl) := ⟨_, rfl⟩
  have hT0 : Hid (tagB key nonce wi hi = polyTag (bl.take 32) (msgB wi hi)) := hide_ (by rw [← hbl.out]; rfl)
  rw [hbl.out] at cb LB
  obtain ⟨T, hT⟩ : ∃ T, Hid (tagB key nonce wi hi = T) := ⟨_, rfl⟩
  have TL : Hid (T.length = 16) := hide_ (by rw [← hT.out]; exact tagB_len _ _ _ _)
  rw [hT.out] at hT0 ⊢
  have I32 := hide_ (ib32 key hk)
  have I12 := hide_ (ib12 nonce hn)
  have I64 := hide_ (ib64 bl LB.out)
  have IT : Hid ((Tryd.prog.info? 37).map (·.size) = some (rowOf T).size) := hide_ (by rw [rowOf_size, TL.out]; exact i16_)
  have S64 : Hid ((rowOf (zbytes 64)).size = (rowOf bl).size) := hide_ (by rw [rowOf_size, rowOf_size, LB.out, zbytes_len])
  have hs1 : (w.alloc (.cells (rowOf key) 28)).heap.size = g + 1 := by rw [← hg.out]; simp
  have hs2 : ((w.alloc (.cells (rowOf key) 28)).alloc (.cells (rowOf nonce) 29)).heap.size = g + 1 + 1 := by rw [← hg.out]; simp
  clear hk hn hw hh hrw hrh
  go_enter Tryd.func15, Tryd.ntmps15
  go_upto_region 1 with fail
  first | rw [hs1] | skip
  first | rw [hs2] | skip
  rw [hg.out, hw0.out]
  clear hs1 hs2
  have K0 := B0.out
  have K1 := B1.out
  go_upto_region 2 with (first
    | (refine wpList_load_row rfl 28 (.tmp 4) rfl g rfl 28 (rowOf key) (0, 0) _ K0 Tryd.underlying28 rfl I32.out ?_)
    | (refine wpList_load_row rfl 29 (.tmp 5) rfl (g + 1) rfl 29 (rowOf nonce) (0, 0) _ K1 Tryd.underlying29 rfl I12.out ?_)
    | (go_at_call 9; ((with_reducible refine (cb _).mono ?_); rintro e w1 ⟨rfl, hb1⟩; have HB1 := hide_ hb1; clear hb1))
    | (refine wpList_put_row rfl 33 (.tmp 9) (.tmp 12) rfl w1.heap.size (rowOf bl) rfl rfl 33 (rowOf (zbytes 64)) (Bk.new w1 _ _) I64.out S64.out (bytes_one _) ?_; intro w2 k2 g2 s2))
  rw [put_none]
  have hl1 := HB1.out.size
  have hl0 := B2.out.lt
  have Y2 : Below w0.heap.size w0 w2 := (HB1.out.alloc hl1 (.cells (rowOf (zbytes 64)) 33)).grown g2 (by simp; omega) (fun i hi => by injection hi with hi; omega)
  have C2 := hide_ (B2.out.below Y2 B2.out.lt)
  have CX := hide_ (X0.out.trans (Y2.mono (by omega)))
  have CW := hide_ ((RW.out.below (Y2.mono (by omega))).rdn (g := g + 1 + 1) (by omega) (by have := C2.out.lt; omega))
  have CH := hide_ ((RH.out.below (Y2.mono (by omega))).rdn (g := g + 1 + 1) (by omega) (by have := C2.out.lt; omega))
  have C9 := hide_ k2
  obtain ⟨g9, hg9⟩ : ∃ g9, Hid (w1.heap.size = g9) := ⟨_, rfl⟩
  obtain ⟨g8, hg8⟩ : ∃ g8, Hid (g + 1 + 1 = g8) := ⟨_, rfl⟩
  have h89 : g8 < g9 := by rw [← hg9.out, ← hg8.out]; omega
  have hgg8 : g ≤ g8 := by rw [← hg8.out]; omega
  rw [hg9.out] at C9 ⊢
  rw [hg8.out] at C2 CW CH ⊢
  obtain ⟨N, hN⟩ : ∃ N, Hid ((msgB wi hi).length = N) := ⟨_, rfl⟩
  have hN2 : N ≤ 3000000 := by
    have h := msgB_len wi hi
    have f1 : fillN wi.length < 16 := by unfold fillN; omega
    have f2 : fillN hi.length < 16 := by unfold fillN; omega
    rw [HW.out, HH.out] at h
    rw [HW.out] at f1
    rw [HH.out] at f2
    have := hN.out
    omega
  have kbl : Hid ((bl.take 32).length = 32) := hide_ (by rw [List.length_take, LB.out]; rfl)
  have ikb := hide_ (ib32 (bl.take 32) kbl.out)
  have hfn : Hid (zbytes (fillN wi.length) = zbytes (fillN nw) ∧ zbytes (fillN hi.length) = zbytes (fillN nh) ∧ lowB 8 wi.length = lowB 8 nw ∧ lowB 8 hi.length = lowB 8 nh) := hide_ (by rw [HW.out, HH.out]; exact ⟨rfl, rfl, rfl, rfl⟩)
  clear k2 g2 s2 hl1 hl0 Y2 B0 B1 B2 X0 RW RH K0 K1 cb hzb hz16 I64 S64
  refine region_by (TgC g8 g9 g bl Aw wi Ah hi w) (TgT g8 T) (TgR g8 g9 (bl.take 32) Aw nw cw Ah nh ch N (msgB wi hi) T) (by kernel_rfl) (by kernel_rfl) (by kernel_rfl) (fun j v w w' hT h => h.keep j v w w' hT) (fun j v w hlt hj h => by
    rcases j with _ | _ | _ | _ | _ | _ | _ | _ | _ | _ | _ | _ | _ | _ | _ | _ | _ | j
    all_goals first
      | exact h
      | (exfalso; simp [dstOf] at hj; done)
      | (exfalso; simp at hlt; omega)) ⟨⟨_, C2.out.drew, by rw [rowOf_size, zbytes_len]⟩, C9.out.drew, CW.out, CH.out, CX.out.drew⟩ ?_ ?_
  · refine ⟨fun a w hC hd hf hv K hK => ?_, fun a w hC hd hf hv K hK => ?_, fun a w hC hd hf hv K hK => ?_, fun a w hC hd hf hv K hK => ?_, fun a w hC hd hf hv K hK => ?_, fun a w hC hd hf hv K hK => ?_, fun a w hC hd hf hv K hK => ?_, fun a w hC hd hf hv K hK => ?_, fun a w hC hd hf hv K hK => ?_, fun a w hC hd hf hv K hK => ?_, fun a w hC hd hf hv K hK => ?_, fun a w hC hd hf hv K hK => ?_, fun a w hC hd hf hv K hK => ?_, fun a w hC hd hf hv K hK => ?_, fun a w hC hd hf hv K hK => ?_, fun a w hC hd hf hv K hK => ?_, fun a w hC hd hf hv K hK => ?_, trivial⟩
    · -- 0: block[:32]
      have e1 := slot_of (a := a) (s := 9) (v := .pointer (some ⟨g9, 0, none⟩)) (hf 9 (by kernel_rfl))
      have q := sl64_32 g9 w
      refine step_run (wanted_none rfl) (v := .slice (some ⟨g9, 0, none⟩) 32 64) (w' := w) ?_ (hK _ _ hC (TgT.refl _ _ _) rfl)
      go_simp
    · have e1 := slot_of (a := a) (s := 13) (v := .slice (some ⟨g9, 0, none⟩) 32 64) (hv 0 (by kernel_rfl))
      have q := arr32_at g9 w
      refine step_run (wanted_none rfl) (v := .pointer (some ⟨g9, 0, none⟩)) (w' := w) ?_ (hK _ _ hC (TgT.refl _ _ _) rfl)
      go_simp
    · have e1 := eval_of (a := a) (s := 14) (v := .pointer (some ⟨g9, 0, none⟩)) (hv 1 (by kernel_rfl))
      refine step_load_sub (wanted_none rfl) 28 (.tmp 14) rfl g9 0 e1 (rowOf (bl.take 32)) (fun j hj => ?_) _ Tryd.underlying28 rfl ikb.out (hK _ _ hC (TgT.refl _ _ _) rfl)
      rw [rowOf_size, kbl.out] at hj
      rw [hC.2.1.cell, Nat.zero_add, rowOf_get, rowOf_get, List.getElem?_take_of_lt hj]
    · have e1 := slot_of (a := a) (s := 2) (v := .slice Aw nw cw) (hf 2 (by kernel_rfl))
      refine step_run (wanted_none rfl) (v := .slice Aw nw cw) (w' := w) ?_ (hK _ _ hC (TgT.refl _ _ _) rfl)
      go_simp
    · have e1 := slot_of (a := a) (s := 2) (v := .slice Aw nw cw) (hf 2 (by kernel_rfl))
      refine step_run (wanted_none rfl) (v := .slice Aw nw cw) (w' := w) ?_ (hK _ _ hC (TgT.refl _ _ _) rfl)
      go_simp
    · have e1 := slot_of (a := a) (s := 17) (v := .slice Aw nw cw) (hv 4 (by kernel_rfl))
      have hbn := (Below.refl w.heap.size w).alloc (Nat.le_refl _) (.cells (rowOf (zbytes (fillN nw))) 5)
      refine step_call 34 #[.slice Aw nw cw] (.slice (some ⟨w.heap.size, 0, none⟩) (fillN nw) (fillN nw)) (wanted_none rfl) (w' := w) ?_ ((filler_any Aw nw cw w (by omega)).mono fun e w2 hh => ⟨hh.1, ?_⟩)
      · go_simp
      · rw [← hh.2]
        exact hK _ _ (hC.below hbn hgg8) (TgT.of_below hbn) ⟨_, rfl, by obtain ⟨cs, h1, _⟩ := hC.1; exact h1.lt, Bk.new w _ _⟩
    · have e1 := slot_of (a := a) (s := 3) (v := .slice Ah nh ch) (hf 3 (by kernel_rfl))
      refine step_run (wanted_none rfl) (v := .slice Ah nh ch) (w' := w) ?_ (hK _ _ hC (TgT.refl _ _ _) rfl)
      go_simp
    · have e1 := slot_of (a := a) (s := 3) (v := .slice Ah nh ch) (hf 3 (by kernel_rfl))
      refine step_run (wanted_none rfl) (v := .slice Ah nh ch) (w' := w) ?_ (hK _ _ hC (TgT.refl _ _ _) rfl)
      go_simp
    · have e1 := slot_of (a := a) (s := 20) (v := .slice Ah nh ch) (hv 7 (by kernel_rfl))
      have hbn := (Below.refl w.heap.size w).alloc (Nat.le_refl _) (.cells (rowOf (zbytes (fillN nh))) 5)
      refine step_call 34 #[.slice Ah nh ch] (.slice (some ⟨w.heap.size, 0, none⟩) (fillN nh) (fillN nh)) (wanted_none rfl) (w' := w) ?_ ((filler_any Ah nh ch w (by omega)).mono fun e w2 hh => ⟨hh.1, ?_⟩)
      · go_simp
      · rw [← hh.2]
        exact hK _ _ (hC.below hbn hgg8) (TgT.of_below hbn) ⟨_, rfl, by obtain ⟨cs, h1, _⟩ := hC.1; exact h1.lt, Bk.new w _ _⟩
    · have e1 := slot_of (a := a) (s := 2) (v := .slice Aw nw cw) (hf 2 (by kernel_rfl))
      refine step_run (wanted_none rfl) (v := .slice Aw nw cw) (w' := w) ?_ (hK _ _ hC (TgT.refl _ _ _) rfl)
      go_simp
    · have e1 := slot_of (a := a) (s := 22) (v := .slice Aw nw cw) (hv 9 (by kernel_rfl))
      have hbn := (Below.refl w.heap.size w).alloc (Nat.le_refl _) (.cells (rowOf (lowB 8 nw)) 5)
      refine step_call 35 #[.slice Aw nw cw] (.slice (some ⟨w.heap.size, 0, none⟩) 8 8) (wanted_none rfl) (w' := w) ?_ ((count_any Aw nw cw w (by omega)).mono fun e w2 hh => ⟨hh.1, ?_⟩)
      · go_simp
      · rw [← hh.2]
        exact hK _ _ (hC.below hbn hgg8) (TgT.of_below hbn) ⟨_, rfl, by obtain ⟨cs, h1, _⟩ := hC.1; exact h1.lt, Bk.new w _ _⟩
    · have e1 := slot_of (a := a) (s := 3) (v := .slice Ah nh ch) (hf 3 (by kernel_rfl))
      refine step_run (wanted_none rfl) (v := .slice Ah nh ch) (w' := w) ?_ (hK _ _ hC (TgT.refl _ _ _) rfl)
      go_simp
    · have e1 := slot_of (a := a) (s := 24) (v := .slice Ah nh ch) (hv 11 (by kernel_rfl))
      have hbn := (Below.refl w.heap.size w).alloc (Nat.le_refl _) (.cells (rowOf (lowB 8 nh)) 5)
      refine step_call 35 #[.slice Ah nh ch] (.slice (some ⟨w.heap.size, 0, none⟩) 8 8) (wanted_none rfl) (w' := w) ?_ ((count_any Ah nh ch w (by omega)).mono fun e w2 hh => ⟨hh.1, ?_⟩)
      · go_simp
      · rw [← hh.2]
        exact hK _ _ (hC.below hbn hgg8) (TgT.of_below hbn) ⟨_, rfl, by obtain ⟨cs, h1, _⟩ := hC.1; exact h1.lt, Bk.new w _ _⟩
    · -- 13: the row of parts
      have e1 := slot_of (a := a) (s := 16) (v := .slice Aw nw cw) (hv 3 (by kernel_rfl))
      obtain ⟨q1, e2', hq1, hb1⟩ : ∃ q, a.tmps.getD 18 undef = .slice (some ⟨q, 0, none⟩) (fillN nw) (fillN nw) ∧ g8 < q ∧ Bk w q 5 (rowOf (zbytes (fillN nw))) := hv 5 (by kernel_rfl)
      have e3 := slot_of (a := a) (s := 19) (v := .slice Ah nh ch) (hv 6 (by kernel_rfl))
      obtain ⟨q2, e4', hq2, hb2⟩ : ∃ q, a.tmps.getD 21 undef = .slice (some ⟨q, 0, none⟩) (fillN nh) (fillN nh) ∧ g8 < q ∧ Bk w q 5 (rowOf (zbytes (fillN nh))) := hv 8 (by kernel_rfl)
      obtain ⟨q3, e5', hq3, hb3⟩ : ∃ q, a.tmps.getD 23 undef = .slice (some ⟨q, 0, none⟩) 8 8 ∧ g8 < q ∧ Bk w q 5 (rowOf (lowB 8 nw)) := hv 10 (by kernel_rfl)
      obtain ⟨q4, e6', hq4, hb4⟩ : ∃ q, a.tmps.getD 25 undef = .slice (some ⟨q, 0, none⟩) 8 8 ∧ g8 < q ∧ Bk w q 5 (rowOf (lowB 8 nh)) := hv 12 (by kernel_rfl)
      have e2 := slot_of e2'
      have e4 := slot_of e4'
      have e5 := slot_of e5'
      have e6 := slot_of e6'
      have hbn := (Below.refl w.heap.size w).alloc (Nat.le_refl _) (.cells #[.slice Aw nw cw, .slice (some ⟨q1, 0, none⟩) (fillN nw) (fillN nw), .slice Ah nh ch, .slice (some ⟨q2, 0, none⟩) (fillN nh) (fillN nh), .slice (some ⟨q3, 0, none⟩) 8 8, .slice (some ⟨q4, 0, none⟩) 8 8] 22)
      refine step_run (wanted_none rfl) (v := .slice (some ⟨w.heap.size, 0, none⟩) 6 6) (w' := w.alloc (.cells #[.slice Aw nw cw, .slice (some ⟨q1, 0, none⟩) (fillN nw) (fillN nw), .slice Ah nh ch, .slice (some ⟨q2, 0, none⟩) (fillN nh) (fillN nh), .slice (some ⟨q3, 0, none⟩) 8 8, .slice (some ⟨q4, 0, none⟩) 8 8] 22)) ?_ (hK _ _ (hC.below hbn hgg8) (TgT.of_below hbn) ⟨_, q1, q2, q3, q4, rfl, by obtain ⟨cs, h1, _⟩ := hC.1; exact h1.lt, Bk.new w _ _, ⟨hq1, hb1.alloc _⟩, ⟨hq2, hb2.alloc _⟩, ⟨hq3, hb3.alloc _⟩, ⟨hq4, hb4.alloc _⟩⟩)
      clear hv hK hf hb1 hb2 hb3 hb4 e2' e4' e5' e6' hbn
      go_simp
    · -- 14: all of them
      obtain ⟨q, q1, q2, q3, q4, e1', hq, hb, h1, h2, h3, h4⟩ : ∃ q q1 q2 q3 q4, a.tmps.getD 26 undef = .slice (some ⟨q, 0, none⟩) 6 6 ∧ g8 < q ∧ Bk w q 22 #[.slice Aw nw cw, .slice (some ⟨q1, 0, none⟩) (fillN nw) (fillN nw), .slice Ah nh ch, .slice (some ⟨q2, 0, none⟩) (fillN nh) (fillN nh), .slice (some ⟨q3, 0, none⟩) 8 8, .slice (some ⟨q4, 0, none⟩) 8 8] ∧
        (g8 < q1 ∧ Bk w q1 5 (rowOf (zbytes (fillN nw)))) ∧ (g8 < q2 ∧ Bk w q2 5 (rowOf (zbytes (fillN nh)))) ∧ (g8 < q3 ∧ Bk w q3 5 (rowOf (lowB 8 nw))) ∧ (g8 < q4 ∧ Bk w q4 5 (rowOf (lowB 8 nh))) := hv 13 (by kernel_rfl)
      have e1 := slot_of e1'
      have hpa : CatAt w w.heap.size q [(Aw, cw, wi), (some ⟨q1, 0, none⟩, fillN nw, zbytes (fillN nw)), (Ah, ch, hi), (some ⟨q2, 0, none⟩, fillN nh, zbytes (fillN nh)), (some ⟨q3, 0, none⟩, 8, lowB 8 nw), (some ⟨q4, 0, none⟩, 8, lowB 8 nh)] := by
        refine ⟨hb.lt, fun i hi => ?_⟩
        have hcell := hb.cell i
        have hlt : i < 6 := hi
        rcases i with _ | _ | _ | _ | _ | _ | i
        · exact ⟨hcell.trans (by simp [HW.out]), hC.2.2.1.rd⟩
        · exact ⟨hcell.trans (by simp [zbytes_len]), h1.2.rd h1.2.lt⟩
        · exact ⟨hcell.trans (by simp [HH.out]), hC.2.2.2.1.rd⟩
        · exact ⟨hcell.trans (by simp [zbytes_len]), h2.2.rd h2.2.lt⟩
        · exact ⟨hcell.trans (by simp [lowB_len]), h3.2.rd h3.2.lt⟩
        · exact ⟨hcell.trans (by simp [lowB_len]), h4.2.rd h4.2.lt⟩
        · omega
      have hfl : flat [(Aw, cw, wi), (some ⟨q1, 0, none⟩, fillN nw, zbytes (fillN nw)), (Ah, ch, hi), (some ⟨q2, 0, none⟩, fillN nh, zbytes (fillN nh)), (some ⟨q3, 0, none⟩, 8, lowB 8 nw), (some ⟨q4, 0, none⟩, 8, lowB 8 nh)] = msgB wi hi := by
        simp [flat, msgB, HW.out, HH.out]
      have cc := concat_any q 6 6 N _ w rfl (by rw [hfl]; exact hN.out) hpa (by omega) (by omega)
      rw [hfl] at cc
      clear hfl hpa h1 h2 h3 h4 hb e1'
      refine step_callx 33 #[.slice (some ⟨q, 0, none⟩) 6 6] (wanted_none rfl) (w' := w) ?_ (cc.mono fun e w2 hh => ?_)
      · go_simp
      · obtain ⟨A, c, he, ho, hb2⟩ := hh
        exact ⟨_, he, hK _ _ (hC.below hb2 hgg8) (TgT.of_below hb2) ⟨A, c, rfl, ho.lower (by obtain ⟨cs, h1, _⟩ := hC.1; exact h1.lt)⟩⟩
    · -- 15: the tag
      have e1 := slot_of (a := a) (s := 15) (v := .agg (rowOf (bl.take 32))) (hv 2 (by kernel_rfl))
      obtain ⟨A, c, e2', ho⟩ : ∃ A c, a.tmps.getD 27 undef = .slice A N c ∧ Own8 w (g8 + 1) (.slice A N c) (msgB wi hi) := hv 14 (by kernel_rfl)
      have e2 := slot_of e2'
      have hcap := ho.cap
      have ct := tag_any (bl.take 32) A N c (msgB wi hi) w kbl.out hN.out hcap.1 hcap.2 ho.rd.1
      rw [← hT0.out] at ct
      clear e2' hcap ho
      refine step_call 11 #[.agg (rowOf (bl.take 32)), .slice A N c] (.agg (rowOf T)) (wanted_none rfl) (w' := w) ?_ (ct.mono fun e w2 hh => ⟨hh.1, hK _ _ (hC.below hh.2 hgg8) (TgT.of_below hh.2) rfl⟩)
      go_simp
    · -- 16: it is laid
      have e1 := eval_of (a := a) (s := 8) (v := .pointer (some ⟨g8, 0, none⟩)) (hf 8 (by kernel_rfl))
      have e2 := eval_of (a := a) (s := 28) (v := .agg (rowOf T)) (hv 15 (by kernel_rfl))
      obtain ⟨⟨cs, h1, h2⟩, h3, h4, h5, h6⟩ := hC
      refine step_put_row rfl 37 (.tmp 8) (.tmp 28) rfl g8 (rowOf T) e1 e2 37 cs h1 IT.out (by rw [h2, rowOf_size, TL.out]) (bytes_one _) fun w2 k2 g2 s2 => ?_
      exact hK _ _ ⟨⟨_, k2, by rw [rowOf_size, TL.out]⟩, h3.grown g2 (fun e => by injection e with e; omega), h4.grown g2, h5.grown g2, h6.grown g2 (by have := h1.lt; omega) (fun i hi => by injection hi with hi; omega)⟩ ⟨g2, fun _ => k2⟩ k2
  · intro a W hC hd hsz hf hv
    have e0 := eval_of (a := a) (s := 8) (v := .pointer (some ⟨g8, 0, none⟩)) (hf 8 (by kernel_rfl))
    have HR : Bk W g8 37 (rowOf T) := hv 16 (by decide)
    have HX := hide_ hC.2.2.2.2
    clear hC hf hv
    rename_i K hK
    refine hK _ _ ?_
    obtain ⟨tm, df⟩ := a
    obtain rfl : df = [] := hd
    go_wp2
    exact bodyPost_ret (results_cell_row Tryd.results15 _ _ g8 37 _ (0, 0) _ e0 HR Tryd.underlying37 rfl IT.out) rfl ⟨rfl, by rw [hg.out]; exact HX.out⟩
end Go.Proofs.YtengjagahhfjoaaDoor
