/-
  Contract: chacha.Stream.
-/
import Derived.Test.YtopmngjaieobnaaK5
import Derived.Test.YtopmngjaieobnaaGn
import Derived.Test.YtopmngjaieobnaaBx
import Derived.Laws.MakeOwn
namespace Go.Proofs.Ytopmngjaieobnaa
open Go.RowKit
set_option linter.unusedVariables false
set_option linter.unusedSimpArgs false

/-- The counter of block k. -/
def ctrN (c : Int) (k : Nat) : Int := (c + k) % 4294967296
theorem ctrN_ok (c : Int) (k : Nat) : ok32 (ctrN c k) := ok32_mod _
theorem ctrN_next (c : Int) (k : Nat) : (ctrN c k + 1) % 4294967296 = ctrN c (k + 1) := by unfold ctrN; omega
theorem ctrN_zero {c : Int} (h : ok32 c) : ctrN c 0 = c := by
  obtain ⟨h0, h1⟩ := h
  unfold ctrN
  omega
/-- The first k blocks' worth of a stream. -/
def soFar (key nonce : List UInt8) (c : Int) (b : List UInt8) : Nat → List UInt8
  | 0 => []
  | k + 1 => soFar key nonce c b k ++ mixB (b.drop (64 * k)) (blockB key (ctrN c k) nonce)
theorem soFar_len (key nonce : List UInt8) (c : Int) (b : List UInt8) (k : Nat) : (soFar key nonce c b k).length = min (64 * k) b.length := by
  induction k with
  | zero => simp [soFar]
  | succ k ih =>
    rw [soFar, List.length_append, ih, mixB_len, List.length_drop, blockB_len]
    omega
/-- Bytes, each by exclusive or with one of the stream. -/
def streamB (key nonce : List UInt8) (c : Int) (b : List UInt8) : List UInt8 := soFar key nonce c b ((b.length + 63) / 64)
theorem streamB_len (key nonce : List UInt8) (c : Int) (b : List UInt8) : (streamB key nonce c b).length = b.length := by
  rw [streamB, soFar_len]; omega

theorem mk8c (n : Nat) (hn : n ≤ 281474976710656) (w : World) :
    (Instr.makeSlice 23 (.int .i64 0) (.int .i64 (n : Int))).run Try.prog w = .ok (.slice (some ⟨w.heap.size, 0, none⟩) 0 n) (w.alloc (.cells (rowOf (List.replicate n 0)) 5)) := by
  obtain ⟨i, hi, hz, hsize, hby⟩ := info_parts info8
  have h := run_make w 23 5 i (.int .u8 0) Try.underlying23 hi hz .i64 .i64 0 (n : Int) (by omega) (by omega) (by rw [hby]; omega) (by omega)
  rw [hsize, Int.toNat_natCast, Nat.mul_one] at h
  rw [h, ← rowOf_made]
  rfl
theorem own_made (w : World) (base n : Nat) (hb : base ≤ w.heap.size) (hm : n ≤ maxLen) : Own8 (w.alloc (.cells (rowOf (List.replicate n 0)) 5)) base (.slice (some ⟨w.heap.size, 0, none⟩) 0 n) [] := by
  refine ⟨rfl, .inr ⟨w.heap.size, n, _, rfl, hb, heap_alloc_new w _, Nat.zero_le _, hm, ?_, rfl⟩⟩
  simp [rowOf]
theorem Bk.far_own {w w' : World} {g base : Nat} {t : TypeId} {cs : Array Value} {v : Value} (h : Bk w g t cs) (hg : w.grownBy w' v.ownBlock) (hne : ∀ i, v.ownBlock = some i → base ≤ i) (hlt : g < base) : Bk w' g t cs :=
  h.grown hg (by
    cases hv : v.ownBlock with
    | none => exact fun e => by cases e
    | some i => exact fun e => by injection e with e; have := hne i hv; omega)

set_option maxRecDepth 100000 in
set_option maxHeartbeats 4000000 in
theorem stream_any (key nonce : List UInt8) (counter : Int) (A : Option Addr) (n cap : Nat) (b : List UInt8) (w : World) (hk : key.length = 32) (hn : nonce.length = 12) (hc : ok32 counter) (hbl : b.length = n) (hr : Rd w w.heap.size A b) (hcap : n ≤ cap) (hcm : cap ≤ 9223372036854775807) (hm : n ≤ 70368744177664) :
    Calls Try.prog 51 #[.agg (rowOf key), .int .u32 counter, .agg (rowOf nonce), .slice A n cap] w (NewP w n (streamB key nonce counter b)) := by
  have hzb := zb64
  obtain ⟨g, hg⟩ : ∃ g, Hid (w.heap.size = g) := ⟨_, rfl⟩
  have hgl : g ≤ w.heap.size := by rw [hg.out]; exact Nat.le_refl _
  obtain ⟨w0, hw0⟩ : ∃ W, Hid ((w.alloc (.cells (rowOf key) 22)).alloc (.cells (rowOf nonce) 32) = W) := ⟨_, rfl⟩
  have HK : Hid (Bk w0 g 22 (rowOf key)) := hidq_ (by rw [← hw0.out, ← hg.out]; exact (Bk.new w _ _).alloc _)
  have HN : Hid (Bk w0 (g + 1) 32 (rowOf nonce)) := hidq_ (by
    have h := Bk.new (w.alloc (.cells (rowOf key) 22)) 32 (rowOf nonce)
    rw [← hw0.out, ← hg.out]
    simpa using h)
  have HR : Hid (Below g w w0) := hidq_ (by rw [← hw0.out, ← hg.out]; exact ((Below.refl _ _).alloc (Nat.le_refl _) _).alloc (by simp) _)
  have HS0 : Hid (w0.heap.size = g + 1 + 1) := hidq_ (by rw [← hw0.out, ← hg.out]; simp)
  have I32 := hidq_ (ib32 key hk)
  have I12 := hidq_ (ib12 nonce hn)
  have cb := fun k W => block_any key nonce (ctrN counter k) W hk hn (ctrN_ok counter k)
  have HBL := hidq_ hbl
  have HRD : Hid (Rd w g A b) := hidq_ (by rw [← hg.out]; exact hr)
  have HC0 := hidq_ (ctrN_zero hc)
  have hmk := mk8c n (by omega) w0
  have O0 := hidq_ (own_made w0 (g + 1 + 1) n (by rw [HS0.out]; exact Nat.le_refl _) (by unfold maxLen; omega))
  have A0 := hidq_ (HK.out.alloc (.cells (rowOf (List.replicate n 0)) 5))
  have B0 := hidq_ (HN.out.alloc (.cells (rowOf (List.replicate n 0)) 5))
  have R0 := hidq_ (HR.out.alloc (by have := HR.out.size; omega) (.cells (rowOf (List.replicate n 0)) 5))
  clear hk hn hc hbl hr HK HN HR
  go_enter Try.func51, Try.ntmps51
  go_upto_region 1 with fail
  rw [hg.out, hw0.out]
  go_wp2
  obtain ⟨w1, hw1⟩ : ∃ W, Hid (w0.alloc (.cells (rowOf (List.replicate n 0)) 5) = W) := ⟨_, rfl⟩
  rw [hw1.out] at O0 A0 B0 R0 ⊢
  clear hmk
  go_loopw [1, 9] (fun cx v wr => ∃ k : Nat, (k = 0 ∨ 64 * (k - 1) < n) ∧ cx = .int .u32 (ctrN counter k) ∧ Own8 wr (g + 1 + 1) v (soFar key nonce counter b k) ∧ Bk wr g 22 (rowOf key) ∧ Bk wr (g + 1) 32 (rowOf nonce) ∧ Below g w wr) (fun _ v _ => n - lenOf v)
  case atStart => exact ⟨0, .inl rfl, by rw [HC0.out], O0.out, A0.out, B0.out, R0.out⟩
  case round =>
    obtain ⟨k, hk, rfl, h1, h2, h3, h4⟩ := hrel
    obtain ⟨Av, cv, rfl, _⟩ := h1.form
    have hlt0 := h1.lt
    have HV := hidq_ h1
    have HK := hidq_ h2
    have HN := hidq_ h3
    have HR := hidq_ h4
    have HLT := hidq_ hlt0
    have hln := soFar_len key nonce counter b k
    rw [HBL.out] at hln
    have HLN := hidq_ hln
    clear h1 h2 h3 h4 hlt0 O0 A0 B0 R0
    by_cases hlt : 64 * k < n
    · have hq : Hid ((soFar key nonce counter b k).length = 64 * k) := hidq_ (by omega)
      rw [hq.out] at HV HLT ⊢
      have hd : decide (((64 * k : Nat) : Int) < (n : Int)) = true := decide_eq_true (by omega)
      have cb1 := cb k wr
      have LB := hidq_ (blockB_len key (ctrN counter k) nonce)
      have HSN : Hid (soFar key nonce counter b (k + 1) = soFar key nonce counter b k ++ mixB (b.drop (64 * k)) (blockB key (ctrN counter k) nonce)) := hidq_ rfl
      have CN := hidq_ (ctrN_next counter k)
      have CO := ctrN_ok counter k
      obtain ⟨bk, hbk⟩ : ∃ x, Hid (blockB key (ctrN counter k) nonce = x) := ⟨_, rfl⟩
      rw [hbk.out] at cb1 LB HSN
      obtain ⟨cx, hcx⟩ : ∃ x, Hid (ctrN counter k = x) := ⟨_, rfl⟩
      rw [hcx.out] at cb1 CN CO ⊢
      obtain ⟨CO0, CO1⟩ := CO
      have EB := hidq_ (ib64 bk LB.out)
      have SB : Hid ((rowOf (zbytes 64)).size = (rowOf bk).size) := hidq_ (by rw [rowOf_size, rowOf_size, LB.out, zbytes_len])
      have sl1 : ∀ W : World, (Instr.slice 23 (.slice A n cap) (some (.int .i64 (64 * (k : Int)))) none none).run Try.prog W = .ok (.slice (if cap = 64 * k then A else A.map (·.add (64 * k))) (n - 64 * k) (cap - 64 * k)) W := fun W => by
        have h := slice_from A n cap (64 * k) (by omega) W
        rwa [show ((64 * k : Nat) : Int) = 64 * (k : Int) by omega] at h
      have rd1 := rd_from HRD.out cap (64 * k) (by rw [HBL.out]; omega) (by rw [HBL.out]; exact hcap)
      obtain ⟨A2, hA2⟩ : ∃ x, Hid ((if cap = 64 * k then A else A.map (·.add (64 * k))) = x) := ⟨_, rfl⟩
      rw [hA2.out] at sl1 rd1
      have RD1 := hidq_ rd1
      clear rd1
      clear hln
      go_upto_region 4 with (first
        | (refine wpList_load_row rfl 22 (.tmp 4) rfl g rfl 22 (rowOf key) (0, 0) _ HK.out Try.underlying22 rfl I32.out ?_)
        | (refine wpList_load_row rfl 32 (.tmp 6) rfl (g + 1) rfl 32 (rowOf nonce) (0, 0) _ HN.out Try.underlying32 rfl I12.out ?_)
        | (go_at_call 76; ((with_reducible refine cb1.mono ?_); rintro e w2 ⟨rfl, g1⟩; have HB1 := hidq_ g1; clear g1))
        | (refine wpList_put_row rfl 106 (.tmp 10) (.tmp 22) rfl w2.heap.size (rowOf bk) rfl rfl 106 (rowOf (zbytes 64)) (Bk.new w2 _ _) EB.out SB.out (bytes_one _) ?_; intro w3 k3 g3 s3))
      rw [put_none]
      have Y1 := HR.out.trans (HB1.out.mono (by have := HR.out.size; omega))
      have hs1 := HR.out.size
      have hs2 := HB1.out.size
      have lN := HN.out.lt
      have K3 := hidq_ (((HK.out.below HB1.out HK.out.lt).alloc (.cells (rowOf (zbytes 64)) 106)).grown g3 (by intro e; injection e with e; omega))
      have N3 := hidq_ (((HN.out.below HB1.out HN.out.lt).alloc (.cells (rowOf (zbytes 64)) 106)).grown g3 (by intro e; injection e with e; omega))
      have Y3 := hidq_ ((Y1.alloc (by omega) (.cells (rowOf (zbytes 64)) 106)).grown g3 (by simp; omega) (fun i hi => by injection hi with hi; omega))
      have V3 := hidq_ ((((HV.out.below HB1.out (Nat.le_refl _)).alloc (.cells (rowOf (zbytes 64)) 106))).kept g3 (by
        cases hq2 : (Value.slice Av (64 * k) cv).ownBlock with
        | none => exact .inl rfl
        | some i => exact .inr (fun e => by injection e with e; have := (HLT.out i hq2).2; omega)))
      have B3 := hidq_ k3
      have S3 : w3.heap.size = w2.heap.size + 1 := by rw [s3]; simp
      obtain ⟨gb, hgb⟩ : ∃ x, Hid (w2.heap.size = x) := ⟨_, rfl⟩
      rw [hgb.out] at B3 S3 ⊢
      have hs3 : g + 1 + 1 ≤ w3.heap.size := by rw [hgb.out] at hs2; omega
      clear S3
      obtain ⟨gm, hgm⟩ : ∃ x, Hid (w3.heap.size = x) := ⟨_, rfl⟩
      have hs4 : w.heap.size ≤ w3.heap.size := Y3.out.size
      clear k3 g3 s3 HK HN HR HV HLT HB1 Y1 lN hs1 hs2
      have q5 := fun W => sl_all64 gb W
      refine wp_region_any (by kernel_rfl) ?_
      change wpAny _ _ _ _ _ _ _ (World.drew _)
      refine wpAny_take (i := 0) (v := .slice Av (64 * k) cv) rfl (by kernel_rfl) (by kernel_rfl) (by kernel_rfl) (fun _ _ _ h => h) (Or.inl ⟨by rfl, by intro W; go_simp⟩) ?_
      simp only [Act.put, List.getElem_toArray, List.getElem_cons_succ, List.getElem_cons_zero, List.setIfInBounds_toArray, List.set_cons_succ, List.set_cons_zero]
      refine wpAny_take (i := 1) (v := .slice A n cap) rfl (by kernel_rfl) (by kernel_rfl) (by kernel_rfl) (fun _ _ _ h => h) (Or.inl ⟨by rfl, by intro W; go_simp⟩) ?_
      simp only [Act.put, List.getElem_toArray, List.getElem_cons_succ, List.getElem_cons_zero, List.setIfInBounds_toArray, List.set_cons_succ, List.set_cons_zero]
      refine wpAny_take (i := 2) (v := .slice Av (64 * k) cv) rfl (by kernel_rfl) (by kernel_rfl) (by kernel_rfl) (fun _ _ _ h => h) (Or.inl ⟨by rfl, by intro W; go_simp⟩) ?_
      simp only [Act.put, List.getElem_toArray, List.getElem_cons_succ, List.getElem_cons_zero, List.setIfInBounds_toArray, List.set_cons_succ, List.set_cons_zero]
      refine wpAny_take (i := 3) (v := .int .i64 (64 * (k : Int))) rfl (by kernel_rfl) (by kernel_rfl) (by kernel_rfl) (fun _ _ _ h => h) (Or.inl ⟨by rfl, by intro W; go_simp⟩) ?_
      simp only [Act.put, List.getElem_toArray, List.getElem_cons_succ, List.getElem_cons_zero, List.setIfInBounds_toArray, List.set_cons_succ, List.set_cons_zero]
      refine wpAny_take (i := 4) (v := .slice A2 (n - 64 * k) (cap - 64 * k)) rfl (by kernel_rfl) (by kernel_rfl) (by kernel_rfl) (fun _ _ _ h => h) (Or.inl ⟨by rfl, by intro W; go_simp⟩) ?_
      simp only [Act.put, List.getElem_toArray, List.getElem_cons_succ, List.getElem_cons_zero, List.setIfInBounds_toArray, List.set_cons_succ, List.set_cons_zero]
      refine wpAny_take (i := 5) (v := .slice (some ⟨gb, 0, none⟩) 64 64) rfl (by kernel_rfl) (by kernel_rfl) (by kernel_rfl) (fun _ _ _ h => h) (Or.inl ⟨by rfl, by intro W; go_simp⟩) ?_
      simp only [Act.put, List.getElem_toArray, List.getElem_cons_succ, List.getElem_cons_zero, List.setIfInBounds_toArray, List.set_cons_succ, List.set_cons_zero]
      refine wpAny_rest 6 3 (by kernel_rfl) (by kernel_rfl) ?_
      simp only [List.drop_zero, List.drop_succ_cons]
      clear sl1 q5
      obtain ⟨u, hu⟩ : ∃ u, Hid (u = min (n - 64 * k) 64) := ⟨_, rfl⟩
      have cm0 := mix8_any A2 (some ⟨gb, 0, none⟩) (cap - 64 * k) 64 (b.drop (64 * k)) bk u (n - 64 * k) 64 w3.drew (by rw [List.length_drop, HBL.out]) LB.out hu.out (((RD1.out.below Y3.out).drew).more (by show g ≤ w3.heap.size; omega)) ((B3.out.drew.rd B3.out.drew.lt)) (by have := hu.out; omega) (by omega) (by omega)
      have cm : Calls Try.prog 77 #[.slice A2 (n - 64 * k) (cap - 64 * k), .slice (some ⟨gb, 0, none⟩) 64 64] w3.drew fun e w' => e = .returned (.slice (some ⟨gm, 0, none⟩) u u) ∧ Below w3.heap.size w3.drew w' ∧ Blk8 w' gm (mixB (b.drop (64 * k)) bk) := by rw [← hgm.out]; exact cm0
      clear cm0
      have hmx : Hid ((mixB (b.drop (64 * k)) bk).length = u) := hidq_ (by rw [mixB_len, List.length_drop, HBL.out, LB.out, hu.out])
      have hu64 : u ≤ 64 := by have := hu.out; omega
      have hw3 : w3.drew.heap.size = w3.heap.size := rfl
      go_wp2_with (first
        | (go_at_call 77; ((with_reducible refine cm.mono ?_); rintro e w4 ⟨rfl, g4, m4⟩; have G4 := hidq_ g4; have M4 := hidq_ m4; have V4 := hidq_ (V3.out.drew.below G4.out (Nat.le_refl _)); clear g4 m4))
        | (at_builtin; refine wpList_app rfl (.tmp 23) (.tmp 29) rfl V4.out rfl u u rfl (M4.out.rd M4.out.lt) hmx.out ?_ ?_ ?_; (rw [hq.out]; omega); (have := G4.out.size; rw [hw3] at this; omega); (intro A5 c5 w5 k1 k2 k3; rw [hq.out] at *)))
      have K5 := ((K3.out.drew.below G4.out K3.out.drew.lt).far_own k2 (fun i hi => (V4.out.lt i hi).1) (by omega))
      have N5 := ((N3.out.drew.below G4.out N3.out.drew.lt).far_own k2 (fun i hi => (V4.out.lt i hi).1) (by omega))
      have Y4 := Y3.out.drew.trans (G4.out.mono (by omega))
      have Y5 := Y4.grown k2 (by have := Y4.size; omega) (fun i hi => by have := (V4.out.lt i hi).1; omega)
      have hu0 := hu.out
      refine ⟨⟨k + 1, .inr (by omega), by rw [CN.out], by rw [HSN.out]; exact k1, K5, N5, Y5⟩, ?_⟩
      show n - (64 * k + u) < n - 64 * k
      omega
    · have hq : Hid ((soFar key nonce counter b k).length = n) := hidq_ (by omega)
      have hst : streamB key nonce counter b = soFar key nonce counter b k := by
        rw [streamB, HBL.out, show (n + 63) / 64 = k by omega]
      rw [hq.out] at HV HLT ⊢
      have HV9 := hidq_ HV.out
      have HST := hidq_ hst
      have hd : decide ((n : Int) < (n : Int)) = false := decide_eq_false (by omega)
      clear hst hln
      go_wp2
      go_ret
      exact ⟨Av, cv, rfl, by rw [HST.out]; exact HV9.out.lower (by rw [hg.out]; omega), by rw [hg.out]; exact HR.out⟩
end Go.Proofs.Ytopmngjaieobnaa
