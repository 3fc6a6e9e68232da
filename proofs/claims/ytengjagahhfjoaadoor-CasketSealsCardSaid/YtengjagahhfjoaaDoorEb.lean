/-
  Contracts: aead.Seal, aead.Open.
-/
import Derived.Test.YtengjagahhfjoaaDoorEa
namespace Go.Proofs.YtengjagahhfjoaaDoor
open Go.RowKit
set_option linter.unusedVariables false
set_option linter.unusedSimpArgs false

/-- What is hidden, and its tag. -/
def sealB (key nonce wi b : List UInt8) : List UInt8 := streamB key nonce 1 b ++ tagB key nonce wi (streamB key nonce 1 b)
theorem sealB_len (key nonce wi b : List UInt8) : (sealB key nonce wi b).length = b.length + 16 := by
  rw [sealB, List.length_append, streamB_len, tagB_len]
theorem ok32_one : ok32q 1 := ⟨by decide, by decide⟩
theorem sl16_all (g : Nat) (W : World) :
    (Instr.sliceAt 37 (.pointer (some ⟨g, 0, none⟩)) none none none).run Tryd.prog W = .ok (.slice (some ⟨g, 0, none⟩) 16 16) W := slice_all16 g W

set_option maxRecDepth 100000 in
set_option maxHeartbeats 2000000 in
theorem seal_any (key nonce : List UInt8) (Aw : Option Addr) (nw cw : Nat) (wi : List UInt8) (Ab : Option Addr) (nb cb : Nat) (b : List UInt8) (w : World) (hk : key.length = 32) (hn : nonce.length = 12)
    (hw : wi.length = nw) (hb : b.length = nb) (hrw : Rd w w.heap.size Aw wi) (hrb : Rd w w.heap.size Ab b) (hcb : nb ≤ cb) (hcm : cb ≤ 9223372036854775807) (hmw : nw ≤ 1000000) (hmb : nb ≤ 1000000) :
    Calls Tryd.prog 7 #[.agg (rowOf key), .agg (rowOf nonce), .slice Aw nw cw, .slice Ab nb cb] w (NewP w (nb + 16) (sealB key nonce wi b)) := by
  have hz16 := z16
  obtain ⟨g, hg⟩ : ∃ g, Hid (w.heap.size = g) := ⟨_, rfl⟩
  obtain ⟨w0, hw0⟩ : ∃ W, Hid ((w.alloc (.cells (rowOf key) 28)).alloc (.cells (rowOf nonce) 29) = W) := ⟨_, rfl⟩
  have B0 : Hid (Bk w0 g 28 (rowOf key)) := hide_ (by rw [← hw0.out, ← hg.out]; exact (Bk.new w _ _).alloc _)
  have B1 : Hid (Bk w0 (g + 1) 29 (rowOf nonce)) := hide_ (by
    have h := Bk.new (w.alloc (.cells (rowOf key) 28)) 29 (rowOf nonce)
    rw [← hw0.out, ← hg.out]
    simpa using h)
  have X0 : Hid (Below g w w0) := hide_ (by rw [← hw0.out, ← hg.out]; exact ((Below.refl _ _).alloc (Nat.le_refl _) _).alloc (by simp) _)
  have hsz : Hid (w0.heap.size = g + 2) := hide_ (by rw [← hw0.out, ← hg.out]; simp)
  have RW : Hid (Rd w0 w0.heap.size Aw wi) := hide_ (by have h := hrw.below (B := w.heap.size) (w' := w0) (by rw [hg.out]; exact X0.out); exact h.more (by rw [hsz.out, hg.out]; omega))
  have RB : Rd w0 w0.heap.size Ab b := by have h := hrb.below (B := w.heap.size) (w' := w0) (by rw [hg.out]; exact X0.out); exact h.more (by rw [hsz.out, hg.out]; omega)
  have cs := stream_any key nonce 1 Ab nb cb b w0 hk hn ok32_one hb RB hcb hcm (by omega)
  have hsl := streamB_len key nonce 1 b
  rw [hb] at hsl
  have HSl := hide_ hsl
  have HD : Hid (sealB key nonce wi b = streamB key nonce 1 b ++ tagB key nonce wi (streamB key nonce 1 b)) := hide_ rfl
  obtain ⟨hid, hhid⟩ : ∃ hid, Hid (streamB key nonce 1 b = hid) := ⟨_, rfl⟩
  rw [hhid.out] at cs HSl HD
  have HK := hide_ hk
  have HN := hide_ hn
  have HW := hide_ hw
  have I32 := hide_ (ib32 key hk)
  have I12 := hide_ (ib12 nonce hn)
  obtain ⟨T, hT⟩ : ∃ T, Hid (tagB key nonce wi hid = T) := ⟨_, rfl⟩
  have TL : Hid (T.length = 16) := hide_ (by rw [← hT.out]; exact tagB_len _ _ _ _)
  have IT : Hid ((Tryd.prog.info? 37).map (·.size) = some (rowOf T).size) := hide_ (by rw [rowOf_size, TL.out]; exact i16_)
  rw [hT.out] at HD
  have K0 := B0.out
  have K1 := B1.out
  clear hk hn hw hb hrw hrb RB hsl
  go_enter Tryd.func7, Tryd.ntmps7
  go_upto_region 1 with fail
  rw [hg.out, hw0.out]
  go_upto_region 2 with (first
    | (refine wpList_load_row rfl 28 (.tmp 4) rfl g rfl 28 (rowOf key) (0, 0) _ K0 Tryd.underlying28 rfl I32.out ?_)
    | (refine wpList_load_row rfl 29 (.tmp 5) rfl (g + 1) rfl 29 (rowOf nonce) (0, 0) _ K1 Tryd.underlying29 rfl I12.out ?_)
    | (go_at_call 8; ((with_reducible refine cs.mono ?_); rintro e w1 ⟨A1, c1, rfl, ho1, hb1⟩; have HO1 := hide_ ho1; have HB1 := hide_ hb1; clear ho1 hb1)))
  clear cs K0 K1
  have C0 := hide_ (B0.out.below HB1.out B0.out.lt)
  have C1 := hide_ (B1.out.below HB1.out B1.out.lt)
  have CX := hide_ (X0.out.trans (HB1.out.mono (by rw [hsz.out]; omega)))
  have RW1 := (RW.out.below HB1.out).more HB1.out.size
  have ct := tagOf_any key nonce Aw nw cw wi A1 nb c1 hid w1 HK.out HN.out HW.out HSl.out RW1 HO1.out.rd.1 hmw hmb
  rw [hT.out] at ct
  have K0 := C0.out
  have K1 := C1.out
  clear RW1
  go_upto_region 3 with (first
    | (refine wpList_load_row rfl 28 (.tmp 4) rfl g rfl 28 (rowOf key) (0, 0) _ K0 Tryd.underlying28 rfl I32.out ?_)
    | (refine wpList_load_row rfl 29 (.tmp 5) rfl (g + 1) rfl 29 (rowOf nonce) (0, 0) _ K1 Tryd.underlying29 rfl I12.out ?_)
    | (go_at_call 15; ((with_reducible refine ct.mono ?_); rintro e w2 ⟨rfl, hb2⟩; have HB2 := hide_ hb2; clear hb2))
    | (refine wpList_put_row rfl 37 (.tmp 10) (.tmp 19) rfl w2.heap.size (rowOf T) rfl rfl 37 (rowOf (zbytes 16)) (Bk.new w2 _ _) IT.out (by rw [rowOf_size, rowOf_size, TL.out, zbytes_len]) (bytes_one _) ?_; intro w3 k3 g3 s3))
  rw [put_none]
  have hl2 := HB2.out.size
  have Y3 : Below w1.heap.size w1 w3 := (HB2.out.alloc hl2 (.cells (rowOf (zbytes 16)) 37)).grown g3 (by simp; omega) (fun i hi => by injection hi with hi; omega)
  have HO3 := HO1.out.below Y3 (Nat.le_refl _)
  have C3 := hide_ (CX.out.trans (Y3.mono (by have := C1.out.lt; omega)))
  have RT := rd_of_bk k3 (Nat.lt_succ_self _)
  have hbs : w0.heap.size ≤ w3.heap.size := Nat.le_trans HB1.out.size Y3.size
  have hlt3 := HO3.lt
  have HL3 := hide_ hlt3
  have s1 := sl16_all w2.heap.size
  clear k3 g3 s3 Y3 ct K0 K1 hl2 hlt3
  go_wp2_with (at_builtin; refine wpList_app rfl (.tmp 20) (.tmp 21) rfl HO3 rfl 16 16 rfl RT TL.out ?_ ?_ ?_; (rw [HSl.out]; omega); (exact hbs); (intro A' c' w4 k1 k2 k3; rw [HSl.out] at k1 ⊢))
  have E1 := hide_ (k1.lower (b' := g) (by rw [hsz.out]; omega))
  have E2 := hide_ (C3.out.grown k2 (by rw [hsz.out] at hbs; omega) (fun t ht => by have := (HL3.out t ht).1; rw [hsz.out] at this; omega))
  clear k1 k2 k3 HO3 RT
  go_wp2
  go_ret
  exact ⟨A', c', rfl, by rw [HD.out, hg.out]; exact E1.out, by rw [hg.out]; exact E2.out⟩

def OpenedP (w : World) (n : Nat) (l : List UInt8) (e : Ending) (w' : World) : Prop :=
  ∃ A c, e = .returned (.tuple #[.slice A n c, .int .i64 0]) ∧ Own8 w' w.heap.size (.slice A n c) l ∧ Below w.heap.size w w'
def FailedP (w : World) (z : Int) (e : Ending) (w' : World) : Prop := e = .returned (.tuple #[.slice none 0 0, .int .i64 z]) ∧ Below w.heap.size w w'

set_option maxRecDepth 100000 in
set_option maxHeartbeats 1000000 in
theorem aopen_short (key nonce : List UInt8) (Aw : Option Addr) (nw cw : Nat) (As : Option Addr) (ns cs : Nat) (w : World) (h : ns < 16) :
    Calls Tryd.prog 12 #[.agg (rowOf key), .agg (rowOf nonce), .slice Aw nw cw, .slice As ns cs] w (FailedP w 2) := by
  go_enter Tryd.func12, Tryd.ntmps12
  go_wp2
  go_ret2
  exact ⟨rfl, ((Below.refl _ _).alloc (Nat.le_refl _) _).alloc (by simp) _⟩

set_option maxRecDepth 100000 in
set_option maxHeartbeats 2000000 in
theorem aopen_no (key nonce : List UInt8) (Aw : Option Addr) (nw cw : Nat) (wi : List UInt8) (As : Option Addr) (m cs : Nat) (s : List UInt8) (w : World) (hk : key.length = 32) (hn : nonce.length = 12)
    (hw : wi.length = nw) (hs : s.length = m + 16) (hrw : Rd w w.heap.size Aw wi) (hrs : Rd w w.heap.size As s) (hcs : m + 16 ≤ cs) (hcm : cs ≤ 9223372036854775807) (hmw : nw ≤ 1000000) (hmm : m ≤ 1000000)
    (ho : tagB key nonce wi (s.take m) ≠ s.drop m) :
    Calls Tryd.prog 12 #[.agg (rowOf key), .agg (rowOf nonce), .slice Aw nw cw, .slice As (m + 16 : Nat) cs] w (FailedP w 6) := by
  have hz16 := z16
  obtain ⟨g, hg⟩ : ∃ g, Hid (w.heap.size = g) := ⟨_, rfl⟩
  obtain ⟨w0, hw0⟩ : ∃ W, Hid ((w.alloc (.cells (rowOf key) 28)).alloc (.cells (rowOf nonce) 29) = W) := ⟨_, rfl⟩
  have B0 : Hid (Bk w0 g 28 (rowOf key)) := hide_ (by rw [← hw0.out, ← hg.out]; exact (Bk.new w _ _).alloc _)
  have B1 : Hid (Bk w0 (g + 1) 29 (rowOf nonce)) := hide_ (by
    have h := Bk.new (w.alloc (.cells (rowOf key) 28)) 29 (rowOf nonce)
    rw [← hw0.out, ← hg.out]
    simpa using h)
  have X0 : Hid (Below g w w0) := hide_ (by rw [← hw0.out, ← hg.out]; exact ((Below.refl _ _).alloc (Nat.le_refl _) _).alloc (by simp) _)
  have hsz : Hid (w0.heap.size = g + 2) := hide_ (by rw [← hw0.out, ← hg.out]; simp)
  have RW : Hid (Rd w0 w0.heap.size Aw wi) := hide_ (by have h := hrw.below (B := w.heap.size) (w' := w0) (by rw [hg.out]; exact X0.out); exact h.more (by rw [hsz.out, hg.out]; omega))
  have RS : Rd w0 w0.heap.size As s := by have h := hrs.below (B := w.heap.size) (w' := w0) (by rw [hg.out]; exact X0.out); exact h.more (by rw [hsz.out, hg.out]; omega)
  have R1 := hide_ (RS.take m)
  have R2 := hide_ (rd_from RS cs m (by omega) (by omega))
  have L1 : Hid ((s.take m).length = m) := hide_ (by rw [List.length_take]; omega)
  have L2 : Hid ((s.drop m).length = 16) := hide_ (by rw [List.length_drop]; omega)
  have s1 := fun W => slice_to As (m + 16) cs (m : Int) m rfl (by omega) W
  have s2 := fun W => slice_from As (m + 16) cs m (by omega) W
  rw [show m + 16 - m = 16 by omega] at s2
  generalize (if cs = m then As else As.map (·.add m)) = At at *
  generalize s.take m = hid at *
  generalize s.drop m = told at *
  have HK := hide_ hk
  have HN := hide_ hn
  have HW := hide_ hw
  have I32 := hide_ (ib32 key hk)
  have I12 := hide_ (ib12 nonce hn)
  obtain ⟨T, hT⟩ : ∃ T, Hid (tagB key nonce wi hid = T) := ⟨_, rfl⟩
  have TL : Hid (T.length = 16) := hide_ (by rw [← hT.out]; exact tagB_len _ _ _ _)
  have IT : Hid ((Tryd.prog.info? 37).map (·.size) = some (rowOf T).size) := hide_ (by rw [rowOf_size, TL.out]; exact i16_)
  rw [hT.out] at ho
  have hbe : Hid ((T == told) = false) := hide_ (by exact beq_false_of_ne ho)
  clear hk hn hw hs hrw hrs RS ho
  go_enter Tryd.func12, Tryd.ntmps12
  go_upto_region 1 with fail
  rw [hg.out, hw0.out]
  have d0 : decide ((m : Int) + 16 < 16) = false := decide_eq_false (by omega)
  go_upto_region 3 with fail
  have q1 : IntKind.i64.wrap ((m : Int) + 16 - 16) = (m : Int) := by
    have : (m : Int) + 16 - 16 = (m : Int) := by omega
    rw [this]; exact IntWalk.i64_in _ (by omega)
  have q2 : (m : Int) + 16 - 16 = (m : Int) := by omega
  go_quiet (fail)
  obtain ⟨wd, hwd⟩ : ∃ wd, w0.drewN nq = wd := ⟨_, rfl⟩
  have D0 : Hid (Bk wd g 28 (rowOf key)) := hide_ (by rw [← hwd]; exact B0.out.drewN nq)
  have D1 : Hid (Bk wd (g + 1) 29 (rowOf nonce)) := hide_ (by rw [← hwd]; exact B1.out.drewN nq)
  have DX : Hid (Below g w wd) := hide_ (by rw [← hwd]; exact below_drewN X0.out nq)
  have DW : Hid (Rd wd wd.heap.size Aw wi) := hide_ (by rw [← hwd]; exact RW.out.drewN nq)
  have DR1 : Hid (Rd wd wd.heap.size As hid) := hide_ (by rw [← hwd]; exact R1.out.drewN nq)
  have DR2 : Hid (Rd wd wd.heap.size At told) := hide_ (by rw [← hwd]; exact R2.out.drewN nq)
  have hszd : Hid (wd.heap.size = g + 2) := hide_ (by rw [← hwd]; exact hsz.out)
  rw [hwd]
  clear hwd s1 s2 q1 q2 B0 B1 X0 RW R1 R2 hw0 hsz
  have ct := tagOf_any key nonce Aw nw cw wi As m cs hid wd HK.out HN.out HW.out L1.out DW.out DR1.out hmw hmm
  rw [hT.out] at ct
  have K0 := D0.out
  have K1 := D1.out
  go_upto_region 5 with (first
    | (refine wpList_load_row rfl 28 (.tmp 4) rfl g rfl 28 (rowOf key) (0, 0) _ K0 Tryd.underlying28 rfl I32.out ?_)
    | (refine wpList_load_row rfl 29 (.tmp 5) rfl (g + 1) rfl 29 (rowOf nonce) (0, 0) _ K1 Tryd.underlying29 rfl I12.out ?_)
    | (go_at_call 15; ((with_reducible refine ct.mono ?_); rintro e w2 ⟨rfl, hb2⟩; have HB2 := hide_ hb2; clear hb2))
    | (refine wpList_put_row rfl 37 (.tmp 12) (.tmp 30) rfl w2.heap.size (rowOf T) rfl rfl 37 (rowOf (zbytes 16)) (Bk.new w2 _ _) IT.out (by rw [rowOf_size, rowOf_size, TL.out, zbytes_len]) (bytes_one _) ?_; intro w3 k3 g3 s3))
  rw [put_none]
  have hl2 := HB2.out.size
  have Y3 : Below wd.heap.size wd w3 := (HB2.out.alloc hl2 (.cells (rowOf (zbytes 16)) 37)).grown g3 (by simp; omega) (fun i hi => by injection hi with hi; omega)
  have E0 := hide_ (D0.out.below Y3 D0.out.lt)
  have E1 := hide_ (D1.out.below Y3 D1.out.lt)
  have EX := hide_ (DX.out.trans (Y3.mono (by rw [hszd.out]; omega)))
  have ER1 := hide_ ((DR1.out.below Y3).more Y3.size)
  have ER2 := hide_ ((DR2.out.below Y3).more Y3.size)
  have hsz3 : g + 2 ≤ w3.heap.size := by have := Y3.size; rw [hszd.out] at this; exact this
  have HT := hide_ (rd_of_bk k3 (Nat.lt_succ_self _))
  have hTl3 := k3.lt
  have RT : Rd w3 w3.heap.size (some ⟨w2.heap.size, 0, none⟩) T := HT.out.more (by omega)
  have cq := same_any (some ⟨w2.heap.size, 0, none⟩) At 16 (cs - m) T told 16 16 w3 TL.out L2.out RT ER2.out (by omega) (by omega)
  rw [hbe.out] at cq
  have s1 := sl16_all w2.heap.size
  clear k3 g3 s3 Y3 ct K0 K1 hl2 HT RT hTl3 D0 D1 DX DW DR1 DR2 HB2
  go_wp2_with (go_at_call 26; ((with_reducible refine cq.mono ?_); rintro e w4 ⟨rfl, hb4⟩; have HB4 := hide_ hb4; clear hb4))
  go_ret2
  exact ⟨rfl, by rw [hg.out]; exact EX.out.trans (HB4.out.mono (by omega))⟩

set_option maxRecDepth 100000 in
set_option maxHeartbeats 2000000 in
theorem aopen_yes (key nonce : List UInt8) (Aw : Option Addr) (nw cw : Nat) (wi : List UInt8) (As : Option Addr) (m cs : Nat) (s : List UInt8) (w : World) (hk : key.length = 32) (hn : nonce.length = 12)
    (hw : wi.length = nw) (hs : s.length = m + 16) (hrw : Rd w w.heap.size Aw wi) (hrs : Rd w w.heap.size As s) (hcs : m + 16 ≤ cs) (hcm : cs ≤ 9223372036854775807) (hmw : nw ≤ 1000000) (hmm : m ≤ 1000000)
    (ho : tagB key nonce wi (s.take m) = s.drop m) :
    Calls Tryd.prog 12 #[.agg (rowOf key), .agg (rowOf nonce), .slice Aw nw cw, .slice As (m + 16 : Nat) cs] w (OpenedP w m (streamB key nonce 1 (s.take m))) := by
  have hz16 := z16
  obtain ⟨g, hg⟩ : ∃ g, Hid (w.heap.size = g) := ⟨_, rfl⟩
  obtain ⟨w0, hw0⟩ : ∃ W, Hid ((w.alloc (.cells (rowOf key) 28)).alloc (.cells (rowOf nonce) 29) = W) := ⟨_, rfl⟩
  have B0 : Hid (Bk w0 g 28 (rowOf key)) := hide_ (by rw [← hw0.out, ← hg.out]; exact (Bk.new w _ _).alloc _)
  have B1 : Hid (Bk w0 (g + 1) 29 (rowOf nonce)) := hide_ (by
    have h := Bk.new (w.alloc (.cells (rowOf key) 28)) 29 (rowOf nonce)
    rw [← hw0.out, ← hg.out]
    simpa using h)
  have X0 : Hid (Below g w w0) := hide_ (by rw [← hw0.out, ← hg.out]; exact ((Below.refl _ _).alloc (Nat.le_refl _) _).alloc (by simp) _)
  have hsz : Hid (w0.heap.size = g + 2) := hide_ (by rw [← hw0.out, ← hg.out]; simp)
  have RW : Hid (Rd w0 w0.heap.size Aw wi) := hide_ (by have h := hrw.below (B := w.heap.size) (w' := w0) (by rw [hg.out]; exact X0.out); exact h.more (by rw [hsz.out, hg.out]; omega))
  have RS : Rd w0 w0.heap.size As s := by have h := hrs.below (B := w.heap.size) (w' := w0) (by rw [hg.out]; exact X0.out); exact h.more (by rw [hsz.out, hg.out]; omega)
  have R1 := hide_ (RS.take m)
  have R2 := hide_ (rd_from RS cs m (by omega) (by omega))
  have L1 : Hid ((s.take m).length = m) := hide_ (by rw [List.length_take]; omega)
  have L2 : Hid ((s.drop m).length = 16) := hide_ (by rw [List.length_drop]; omega)
  have s1 := fun W => slice_to As (m + 16) cs (m : Int) m rfl (by omega) W
  have s2 := fun W => slice_from As (m + 16) cs m (by omega) W
  rw [show m + 16 - m = 16 by omega] at s2
  generalize (if cs = m then As else As.map (·.add m)) = At at *
  generalize s.take m = hid at *
  generalize s.drop m = told at *
  have HK := hide_ hk
  have HN := hide_ hn
  have HW := hide_ hw
  have I32 := hide_ (ib32 key hk)
  have I12 := hide_ (ib12 nonce hn)
  obtain ⟨T, hT⟩ : ∃ T, Hid (tagB key nonce wi hid = T) := ⟨_, rfl⟩
  have TL : Hid (T.length = 16) := hide_ (by rw [← hT.out]; exact tagB_len _ _ _ _)
  have IT : Hid ((Tryd.prog.info? 37).map (·.size) = some (rowOf T).size) := hide_ (by rw [rowOf_size, TL.out]; exact i16_)
  rw [hT.out] at ho
  have hbe : Hid ((T == told) = true) := hide_ (by rw [ho]; exact beq_self_eq_true _)
  clear hk hn hw hs hrw hrs RS ho
  go_enter Tryd.func12, Tryd.ntmps12
  go_upto_region 1 with fail
  rw [hg.out, hw0.out]
  have d0 : decide ((m : Int) + 16 < 16) = false := decide_eq_false (by omega)
  go_upto_region 3 with fail
  have q1 : IntKind.i64.wrap ((m : Int) + 16 - 16) = (m : Int) := by
    have : (m : Int) + 16 - 16 = (m : Int) := by omega
    rw [this]; exact IntWalk.i64_in _ (by omega)
  have q2 : (m : Int) + 16 - 16 = (m : Int) := by omega
  go_quiet (fail)
  obtain ⟨wd, hwd⟩ : ∃ wd, w0.drewN nq = wd := ⟨_, rfl⟩
  have D0 : Hid (Bk wd g 28 (rowOf key)) := hide_ (by rw [← hwd]; exact B0.out.drewN nq)
  have D1 : Hid (Bk wd (g + 1) 29 (rowOf nonce)) := hide_ (by rw [← hwd]; exact B1.out.drewN nq)
  have DX : Hid (Below g w wd) := hide_ (by rw [← hwd]; exact below_drewN X0.out nq)
  have DW : Hid (Rd wd wd.heap.size Aw wi) := hide_ (by rw [← hwd]; exact RW.out.drewN nq)
  have DR1 : Hid (Rd wd wd.heap.size As hid) := hide_ (by rw [← hwd]; exact R1.out.drewN nq)
  have DR2 : Hid (Rd wd wd.heap.size At told) := hide_ (by rw [← hwd]; exact R2.out.drewN nq)
  have hszd : Hid (wd.heap.size = g + 2) := hide_ (by rw [← hwd]; exact hsz.out)
  rw [hwd]
  clear hwd s1 s2 q1 q2 B0 B1 X0 RW R1 R2 hw0 hsz
  have ct := tagOf_any key nonce Aw nw cw wi As m cs hid wd HK.out HN.out HW.out L1.out DW.out DR1.out hmw hmm
  rw [hT.out] at ct
  have K0 := D0.out
  have K1 := D1.out
  go_upto_region 5 with (first
    | (refine wpList_load_row rfl 28 (.tmp 4) rfl g rfl 28 (rowOf key) (0, 0) _ K0 Tryd.underlying28 rfl I32.out ?_)
    | (refine wpList_load_row rfl 29 (.tmp 5) rfl (g + 1) rfl 29 (rowOf nonce) (0, 0) _ K1 Tryd.underlying29 rfl I12.out ?_)
    | (go_at_call 15; ((with_reducible refine ct.mono ?_); rintro e w2 ⟨rfl, hb2⟩; have HB2 := hide_ hb2; clear hb2))
    | (refine wpList_put_row rfl 37 (.tmp 12) (.tmp 30) rfl w2.heap.size (rowOf T) rfl rfl 37 (rowOf (zbytes 16)) (Bk.new w2 _ _) IT.out (by rw [rowOf_size, rowOf_size, TL.out, zbytes_len]) (bytes_one _) ?_; intro w3 k3 g3 s3))
  rw [put_none]
  have hl2 := HB2.out.size
  have Y3 : Below wd.heap.size wd w3 := (HB2.out.alloc hl2 (.cells (rowOf (zbytes 16)) 37)).grown g3 (by simp; omega) (fun i hi => by injection hi with hi; omega)
  have E0 := hide_ (D0.out.below Y3 D0.out.lt)
  have E1 := hide_ (D1.out.below Y3 D1.out.lt)
  have EX := hide_ (DX.out.trans (Y3.mono (by rw [hszd.out]; omega)))
  have ER1 := hide_ ((DR1.out.below Y3).more Y3.size)
  have ER2 := hide_ ((DR2.out.below Y3).more Y3.size)
  have hsz3 : g + 2 ≤ w3.heap.size := by have := Y3.size; rw [hszd.out] at this; exact this
  have HT := hide_ (rd_of_bk k3 (Nat.lt_succ_self _))
  have hTl3 := k3.lt
  have RT : Rd w3 w3.heap.size (some ⟨w2.heap.size, 0, none⟩) T := HT.out.more (by omega)
  have cq := same_any (some ⟨w2.heap.size, 0, none⟩) At 16 (cs - m) T told 16 16 w3 TL.out L2.out RT ER2.out (by omega) (by omega)
  rw [hbe.out] at cq
  have s1 := sl16_all w2.heap.size
  clear k3 g3 s3 Y3 ct K0 K1 hl2 HT RT hTl3 D0 D1 DX DW DR1 DR2 HB2
  go_upto_region 7 with (go_at_call 26; ((with_reducible refine cq.mono ?_); rintro e w4 ⟨rfl, hb4⟩; have HB4 := hide_ hb4; clear hb4))
  have F0 := hide_ (E0.out.below HB4.out E0.out.lt)
  have F1 := hide_ (E1.out.below HB4.out E1.out.lt)
  have FX := hide_ (EX.out.trans (HB4.out.mono (by omega)))
  have FR := (ER1.out.below HB4.out).more HB4.out.size
  have css := stream_any key nonce 1 As m cs hid w4 HK.out HN.out ok32_one L1.out FR (by omega) hcm (by omega)
  have K0 := F0.out
  have K1 := F1.out
  have hsz4 : g + 2 ≤ w4.heap.size := Nat.le_trans hsz3 HB4.out.size
  clear FR cq s1
  go_wp2_with (first
    | (refine wpList_load_row rfl 28 (.tmp 4) rfl g rfl 28 (rowOf key) (0, 0) _ K0 Tryd.underlying28 rfl I32.out ?_)
    | (refine wpList_load_row rfl 29 (.tmp 5) rfl (g + 1) rfl 29 (rowOf nonce) (0, 0) _ K1 Tryd.underlying29 rfl I12.out ?_)
    | (go_at_call 8; ((with_reducible refine css.mono ?_); rintro e w5 ⟨A5, c5, rfl, ho5, hb5⟩; have HO5 := hide_ ho5; have HB5 := hide_ hb5; clear ho5 hb5)))
  go_ret2
  exact ⟨A5, c5, rfl, by rw [hg.out]; exact HO5.out.lower (by omega), by rw [hg.out]; exact FX.out.trans (HB5.out.mono (by omega))⟩
end Go.Proofs.YtengjagahhfjoaaDoor
