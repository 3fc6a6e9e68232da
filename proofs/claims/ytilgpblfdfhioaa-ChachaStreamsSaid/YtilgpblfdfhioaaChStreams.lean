/-
  Proved: for every key, counter, nonce and slice of bytes ChachaStreams answers true: of all bytes the stream is told; streamed twice they are what they were; a part from a block on is streamed alone as with what is ahead. No condition.
-/
import Derived.Test.YtilgpblfdfhioaaKa
namespace Go.Proofs.Ytilgpblfdfhioaa.chachaStreams
open Go.ChangeShapes Go.WideShapes Go.ChangeAt Go.RowKit
set_option linter.unusedVariables false
set_option linter.unusedSimpArgs false

theorem hid_ {p : Prop} (h : p) : Hid p := h
theorem run_load_at {P : Program} {w : World} (ty : TypeId) (g off : Nat) (cs : Array Value) (hc : ∀ j, j < cs.size → w.cell? ⟨g, off + j, none⟩ = cs[j]?) (d : TypeDesc)
    (hu : P.underlying ty = some d) (hd : (match d with | .struct _ | .array _ _ => true | _ => false) = true) (hi : (P.info? ty).map (·.size) = some cs.size) : (loadVar ty ⟨g, off, none⟩).run P w = .ok (.agg cs) w := by
  have hl : (loadCells ⟨g, off, none⟩ cs.toList.length).run P w = .ok cs.toList.toArray w :=
    run_loadCells_list (P := P) w ⟨g, off, none⟩ cs.toList (fun j v hv => by
      have hadd : (⟨g, off, none⟩ : Addr).add j = ⟨g, off + j, none⟩ := by unfold Addr.add; split <;> simp_all
      have hj : j < cs.size := by
        have := (List.getElem?_eq_some_iff.1 hv).1
        simpa using this
      rw [hadd, hc j hj]
      simpa using hv)
  cases hq : P.info? ty with
  | none => simp [hq] at hi
  | some i =>
    have hs : i.size = cs.size := by simpa [hq] using hi
    have hagg : (isAgg ty).run P w = .ok true w := by
      unfold isAgg
      rw [Sem.run_bind, run_underlying hu w]
      cases d <;> simp_all
    simp only [Array.length_toList, Array.toArray_toList] at hl
    simp [loadVar, Sem.run_bind, hagg, sizeOf, typeInfo, hq, hs, hl]
theorem quiet_load_at {P : Program} {C : World → Prop} {o : Oper} {a : Act} {K : Act → Prop} (v : Value) (ty : TypeId) (x : Operand) (g off : Nat) (ho : o.op = .load ty x) (hx : a.eval x = .pointer (some ⟨g, off, none⟩))
    (h : ∀ W, C W → (loadVar ty ⟨g, off, none⟩).run P W = .ok v W) (hk : K (a.put o.dst v)) : o.quiet P a C K :=
  quiet_run v (fun W hW => by
    unfold execOp
    simp only [ho, hx, Instr.loadAt, Instr.sureAddr, Sem.run_bind, Sem.run_pure, Result.andThen_ok, h W hW]) hk
/-- A key, a counter and a nonce, where they lie. -/
def KcN (g : Nat) (key nonce : List UInt8) (c : Int) (w : World) : Prop := Bk w g 27 (rowOf key) ∧ Bk w (g + 1) 35 (atRow c nonce)
theorem KcN.below {g : Nat} {key nonce : List UInt8} {c : Int} {w w' : World} (h : KcN g key nonce c w) (hb : Below w.heap.size w w') : KcN g key nonce c w' := ⟨h.1.below hb h.1.lt, h.2.below hb h.2.lt⟩

set_option maxRecDepth 100000 in
set_option maxHeartbeats 8000000 in
theorem walk (key nonce : List UInt8) (c : Int) (A : Option Addr) (l : List UInt8) (cap : Nat) (w : World) (hk : key.length = 32) (hn : nonce.length = 12) (hc : ok32 c) (h0 : Rd w w.heap.size A l) (hcl : l.length ≤ cap) (hcm : cap ≤ 9223372036854775807) :
    Calls Try.prog 5 #[.agg (rowOf key), .agg (atRow c nonce), .slice A l.length cap] w fun e w' => e = .returned (.bool true) ∧ Below w.heap.size w w' := by
  obtain ⟨g, hg⟩ : ∃ g, Hid (w.heap.size = g) := ⟨_, rfl⟩
  have hgl : g ≤ w.heap.size := by rw [hg.out]; exact Nat.le_refl _
  obtain ⟨w0, hw0⟩ : ∃ W, Hid ((w.alloc (.cells (rowOf key) 27)).alloc (.cells (atRow c nonce) 35) = W) := ⟨_, rfl⟩
  have HK : Hid (KcN g key nonce c w0) := hid_ (by
    refine ⟨?_, ?_⟩
    · rw [← hw0.out, ← hg.out]; exact (Bk.new w _ _).alloc _
    · have h := Bk.new (w.alloc (.cells (rowOf key) 27)) 35 (atRow c nonce)
      rw [← hw0.out, ← hg.out]
      simpa using h)
  have HR : Hid (Below g w w0) := hid_ (by rw [← hw0.out, ← hg.out]; exact ((Below.refl _ _).alloc (Nat.le_refl _) _).alloc (by simp) _)
  have HS0 : Hid (w0.heap.size = g + 1 + 1) := hid_ (by rw [← hw0.out, ← hg.out]; simp)
  have I32 := hid_ (ib32 key hk)
  have I12 := hid_ (ib12 nonce hn)
  have HKL := hid_ hk
  have HNL := hid_ hn
  obtain ⟨k, hkk⟩ : ∃ n, n = min l.length 300 := ⟨_, rfl⟩
  have hmn := fun W ts t => run_min2 l.length 300 k hkk W ts t
  have hz : ((300 : Nat) : Int) = 300 := rfl
  rw [hz] at hmn
  have hs1 := fun W => slice_to A l.length cap (k : Int) k rfl (by omega) W
  have hlk : (l.take k).length = k := by rw [List.length_take]; omega
  have hr : Rd w g A (l.take k) := by rw [← hg.out]; exact h0.take k
  have hk3 : k ≤ 300 := by omega
  clear hkk hz h0 hcl
  generalize l.take k = m at *
  generalize l.length = q0 at *
  have ML := hid_ hlk
  have hown := Own8.lit w0 (g + 1 + 1) [] (by rw [HS0.out]; exact Nat.le_refl _) (Nat.zero_le _)
  have hrd := (hr.below HR.out).alloc (by have := HR.out.size; omega) (.cells (rowOf []) 5)
  have HOWN := hid_ hown
  have HRD := hid_ hrd
  clear hlk hr hown hrd hk hn
  go_enter Try.func5, Try.ntmps5
  go_upto_region 1 with fail
  rw [hg.out, hw0.out]
  go_upto_region 2 with (at_builtin; refine wpList_app rfl (.tmp 11) (.tmp 16) rfl HOWN.out rfl k cap rfl HRD.out ML.out ?_ ?_ ?_; (simp; omega); (have := HS0.out; simp; omega); (intro A1 c1 w1 k1 k2 k3))
  have q1 := k1.cap
  have V1 := hid_ k1.rd.1
  have K1 : Hid (KcN g key nonce c w1) := hid_ (by
    have hz : w0.heap.size = g + 1 + 1 := HS0.out
    have h1 := (HK.out.1.alloc (.cells (rowOf []) 5)).grown k2 (by simp [Value.ownBlock]; omega)
    have h2 := (HK.out.2.alloc (.cells (rowOf []) 5)).grown k2 (by simp [Value.ownBlock]; omega)
    exact ⟨h1, h2⟩)
  have Y1 : Hid (Below g w w1) := hid_ (by
    have hz : w0.heap.size = g + 1 + 1 := HS0.out
    have hs := HR.out.size
    exact (HR.out.alloc (by omega) (.cells (rowOf []) 5)).grown k2 (by simp; omega) (fun i hi => by simp [Value.ownBlock] at hi; omega))
  simp only [List.length_nil, Nat.zero_add, List.nil_append] at V1 q1 ⊢
  obtain ⟨q1a, q1b⟩ := q1
  clear k1 k2 k3 HOWN HRD HK HR HS0 hmn hs1
  have hs1 := Y1.out.size
  have cvm := conv_strn V1.out k c1 ML.out
  go_upto_region 3 with fail
  have cs1 := stream_any key nonce c A1 k c1 m w1 HKL.out HNL.out hc ML.out V1.out q1a q1b (by omega)
  have XL := hid_ (streamB_len key nonce c m)
  have TW := hid_ (stream_twice key nonce c m)
  have TT := hid_ (fun h => stream_tail key nonce c m h)
  rw [ML.out] at XL
  obtain ⟨x, hx⟩ : ∃ x, Hid (streamB key nonce c m = x) := ⟨_, rfl⟩
  rw [hx.out] at cs1 XL TW TT
  have cc0 := K1.out.2.cell 0
  rw [atRow0] at cc0
  have CS : Hid (∀ j, j < (rowOf nonce).size → w1.cell? ⟨g + 1, 1 + j, none⟩ = (rowOf nonce)[j]?) := hid_ (fun j _ => (K1.out.2.cell (1 + j)).trans (atRow1 c nonce j))
  clear cvm
  go_upto_region 4 with (first
    | (refine wpList_load_row rfl 27 (.tmp 3) rfl g rfl 27 (rowOf key) (0, 0) _ K1.out.1 Try.underlying27 rfl I32.out ?_)
    | (refine wpList_load_sub rfl 29 (.tmp 23) rfl (g + 1) 1 rfl (rowOf nonce) CS.out _ Try.underlying29 rfl I12.out ?_)
    | (go_at_call 30; ((with_reducible refine cs1.mono ?_); rintro e w2 ⟨A2, c2, rfl, g1, g2⟩)))
  have q2 := g1.cap
  obtain ⟨q2a, q2b⟩ := q2
  have X2 := hid_ g1.rd.1
  have B2 := hid_ g2
  have K2 := hid_ (K1.out.below g2)
  have Y2 := hid_ (Y1.out.trans (g2.mono (by omega)))
  have V2 := hid_ ((V1.out.below g2).more g2.size)
  clear g1 g2 cc0 CS cs1 K1 Y1 V1 B2 hs1
  have hs2 := Y2.out.size
  have cs2 := stream_any key nonce c A2 k c2 x w2 HKL.out HNL.out hc XL.out X2.out q2a q2b (by omega)
  rw [TW.out] at cs2
  have cc0 := K2.out.2.cell 0
  rw [atRow0] at cc0
  have CS : Hid (∀ j, j < (rowOf nonce).size → w2.cell? ⟨g + 1, 1 + j, none⟩ = (rowOf nonce)[j]?) := hid_ (fun j _ => (K2.out.2.cell (1 + j)).trans (atRow1 c nonce j))
  go_upto_region 5 with (first
    | (refine wpList_load_row rfl 27 (.tmp 3) rfl g rfl 27 (rowOf key) (0, 0) _ K2.out.1 Try.underlying27 rfl I32.out ?_)
    | (refine wpList_load_sub rfl 29 (.tmp 30) rfl (g + 1) 1 rfl (rowOf nonce) CS.out _ Try.underlying29 rfl I12.out ?_)
    | (go_at_call 30; ((with_reducible refine cs2.mono ?_); rintro e w3 ⟨A3, c3, rfl, g1, g2⟩)))
  have Y3r := hid_ g1.rd.1
  have K3 := hid_ (K2.out.below g2)
  have Y3 := hid_ (Y2.out.trans (g2.mono (by omega)))
  have V3 := hid_ ((V2.out.below g2).more g2.size)
  have X3 := hid_ ((X2.out.below g2).more g2.size)
  clear g1 g2 cc0 CS cs2 K2 Y2 V2 X2 hs2
  have hs3 := Y3.out.size
  have W1 : Hid (∀ W : World, Below w3.heap.size w3 W → (convert 22 9 (.slice A2 k c2)).run Try.prog W = .ok (.string (strOf x)) W) := hid_ (fun W h => conv_strn (X3.out.below h) k c2 XL.out)
  have W2 : Hid (∀ W : World, Below w3.heap.size w3 W → (convert 22 9 (.slice (some ⟨g, 0, none⟩) 32 32)).run Try.prog W = .ok (.string (strOf key)) W) := hid_ (fun W h => conv_strn ((K3.out.1.below h K3.out.1.lt).rd (B := W.heap.size) (by have := K3.out.1.lt; have := h.size; omega)) 32 32 HKL.out)
  have W3 : Hid (∀ W : World, Below w3.heap.size w3 W → (convert 22 9 (.slice (some ⟨g + 1, 1, none⟩) 12 12)).run Try.prog W = .ok (.string (strOf nonce)) W) := hid_ (fun W h => conv_strn (at_rd (B := W.heap.size) (K3.out.2.below h K3.out.2.lt) (by have := K3.out.2.lt; have := h.size; omega)) 12 12 HNL.out)
  have W4 : Hid (∀ W : World, Below w3.heap.size w3 W → (convert 22 9 (.slice A3 k c3)).run Try.prog W = .ok (.string (strOf m)) W) := hid_ (fun W h => conv_strn (Y3r.out.below h) k c3 ML.out)
  have W5 : Hid (∀ W : World, Below w3.heap.size w3 W → (convert 22 9 (.slice A1 k c1)).run Try.prog W = .ok (.string (strOf m)) W) := hid_ (fun W h => conv_strn (V3.out.below h) k c1 ML.out)
  have W6 : Hid (∀ W : World, Below w3.heap.size w3 W → W.cell? ⟨g + 1, 0, none⟩ = some (.int .u32 c)) := hid_ (fun W h => by rw [(K3.out.2.below h K3.out.2.lt).cell 0, atRow0])
  have P1 : Hid (∀ W : World, Below w3.heap.size w3 W → Calls Try.prog 28 #[] W fun e w' => e = .returned (.bool true) ∧ Below w3.heap.size w3 w') := hid_ (fun W h => (streams_any W).mono fun e w' hh => ⟨hh.1, h.trans (hh.2.mono h.size)⟩)
  have P2 : Hid (∀ W : World, Below w3.heap.size w3 W → Calls Try.prog 31 #[.string (strOf key), .int .u32 c, .string (strOf nonce), .string (strOf m)] W fun e w' => e = .returned (.string (strOf x)) ∧ Below w3.heap.size w3 w') := hid_ (fun W h => (refStream_any key nonce c k m W HKL.out HNL.out hc ML.out (by omega)).mono fun e w' hh => ⟨by rw [hh.1, hx.out], h.trans (hh.2.mono h.size)⟩)
  have z1 := fun W => sl_key g W
  have z2 := fun W => sl_nonce1 (g + 1) W
  rename_i KA hKA KB hKB
  refine region_quiet_in (C := fun W => Below w3.heap.size w3 W) (by kernel_rfl) (by kernel_rfl) ((Below.refl _ _).drew) ?_
  repeat (go_big_quiet_want; (first
    | (refine BigFrame.quiet_move _ rfl ?_; go_simp)
    | (refine BigFrame.quiet_assign _ rfl ?_; go_simp)
    | (refine quiet_call (.bool true) 28 #[] ?_ P1.out ?_; (focus (intro W; go_simp; done)); go_simp)
    | (refine quiet_run (.bool false) ?_ ?_; (focus (intro W hW; go_simp; done)); go_simp)
    | (refine quiet_run (.slice (some ⟨g, 0, none⟩) 32 32) ?_ ?_; (focus (intro W hW; go_simp; done)); go_simp)
    | (refine quiet_run (.slice (some ⟨g + 1, 1, none⟩) 12 12) ?_ ?_; (focus (intro W hW; go_simp; done)); go_simp)
    | (refine quiet_run (.pointer (some ⟨g + 1, 0, none⟩)) ?_ ?_; (focus (intro W hW; go_simp; done)); go_simp)
    | (refine quiet_run (.pointer (some ⟨g + 1, 1, none⟩)) ?_ ?_; (focus (intro W hW; go_simp; done)); go_simp)
    | (refine quiet_run (.int .u32 c) ?_ ?_; (focus (intro W hW; have h := W6.out W hW; go_simp; done)); go_simp)
    | (refine quiet_call (.string (strOf x)) 31 #[.string (strOf key), .int .u32 c, .string (strOf nonce), .string (strOf m)] ?_ P2.out ?_; (focus (intro W; go_simp; done)); go_simp)
    | (refine quiet_run (.string (strOf x)) ?_ ?_; (focus (intro W hW; have h := W1.out W hW; go_simp; done)); go_simp)
    | (refine quiet_run (.string (strOf key)) ?_ ?_; (focus (intro W hW; have h := W2.out W hW; go_simp; done)); go_simp)
    | (refine quiet_run (.string (strOf nonce)) ?_ ?_; (focus (intro W hW; have h := W3.out W hW; go_simp; done)); go_simp)
    | (refine quiet_run (.string (strOf m)) ?_ ?_; (focus (intro W hW; have h := W4.out W hW; go_simp; done)); go_simp)
    | (refine quiet_run (.string (strOf m)) ?_ ?_; (focus (intro W hW; have h := W5.out W hW; go_simp; done)); go_simp)); go_big_quiet_on)
  refine wpQuiet_nil ?_
  intro w4 hw4
  have h34 : Below w3.heap.size w3 w4 := hw4
  have K4 := hid_ (K3.out.below h34)
  have Y4 := hid_ (Y3.out.trans (h34.mono (by omega)))
  have V4 := hid_ ((V3.out.below h34).more h34.size)
  have X4 := hid_ ((X3.out.below h34).more h34.size)
  clear hw4 h34 W1 W2 W3 W4 W5 W6 P1 P2 z1 z2 K3 Y3 V3 X3 Y3r hs3
  have hs4 := Y4.out.size
  by_cases h64 : k ≤ 64
  · have hd : decide ((k : Int) ≤ 64) = true := decide_eq_true (by omega)
    go_wp2
    go_ret
    exact ⟨rfl, by rw [hg.out]; exact Y4.out⟩
  · have hd : decide ((k : Int) ≤ 64) = false := decide_eq_false (by omega)
    refine hKB _ _ ?_
    go_upto_region 9 with fail
    have L1 : Hid (∀ W : World, Below w4.heap.size w4 W → (loadVar 27 ⟨g, 0, none⟩).run Try.prog W = .ok (.agg (rowOf key)) W) := hid_ (fun W h => run_load_at 27 g 0 (rowOf key) (fun j _ => by rw [Nat.zero_add]; exact (K4.out.1.below h K4.out.1.lt).cell j) _ Try.underlying27 rfl I32.out)
    have L2 : Hid (∀ W : World, Below w4.heap.size w4 W → (loadVar 29 ⟨g + 1, 1, none⟩).run Try.prog W = .ok (.agg (rowOf nonce)) W) := hid_ (fun W h => run_load_at 29 (g + 1) 1 (rowOf nonce) (fun j _ => ((K4.out.2.below h K4.out.2.lt).cell (1 + j)).trans (atRow1 c nonce j)) _ Try.underlying29 rfl I12.out)
    have W6 : Hid (∀ W : World, Below w4.heap.size w4 W → W.cell? ⟨g + 1, 0, none⟩ = some (.int .u32 c)) := hid_ (fun W h => by rw [(K4.out.2.below h K4.out.2.lt).cell 0, atRow0])
    have s1 : ∀ W : World, (Instr.slice 22 (.slice A1 k c1) (some (.int .i64 64)) none none).run Try.prog W = .ok (.slice (if c1 = 64 then A1 else A1.map (·.add 64)) (k - 64) (c1 - 64)) W := fun W => slice_from A1 k c1 64 (by omega) W
    have r1 := rd_from V4.out c1 64 (by rw [ML.out]; omega) (by rw [ML.out]; exact q1a)
    obtain ⟨A5, hA5⟩ : ∃ x, Hid ((if c1 = 64 then A1 else A1.map (·.add 64)) = x) := ⟨_, rfl⟩
    rw [hA5.out] at s1 r1
    have D5 := hid_ r1
    have hcn : IntKind.u32.wrap (c + 1) = (c + 1) % 4294967296 := by rw [IntKind.wrap_u32]
    have CN : ok32 ((c + 1) % 4294967296) := ok32_mod _
    have TT2 := hid_ (TT.out (by rw [ML.out]; omega))
    clear r1
    refine region_quiet_tail (C := fun W => Below w4.heap.size w4 W) 8 (by kernel_rfl) (by kernel_rfl) ((Below.refl _ _).drew) ?_
    simp only [List.take_succ_cons, List.take_zero]
    repeat (go_big_quiet_want; (first
      | (refine BigFrame.quiet_move _ rfl ?_; go_simp)
      | (refine quiet_load_at (.agg (rowOf key)) 27 (.tmp 3) g 0 rfl rfl L1.out ?_; go_simp)
      | (refine quiet_load_at (.agg (rowOf nonce)) 29 (.tmp 69) (g + 1) 1 rfl rfl L2.out ?_; go_simp)
      | (refine quiet_run (.pointer (some ⟨g + 1, 0, none⟩)) ?_ ?_; (focus (intro W hW; go_simp; done)); go_simp)
      | (refine quiet_run (.pointer (some ⟨g + 1, 1, none⟩)) ?_ ?_; (focus (intro W hW; go_simp; done)); go_simp)
      | (refine quiet_run (.int .u32 c) ?_ ?_; (focus (intro W hW; have h := W6.out W hW; go_simp; done)); go_simp)
      | (refine quiet_run (.int .u32 ((c + 1) % 4294967296)) ?_ ?_; (focus (intro W hW; go_simp; done)); go_simp)
      | (refine quiet_run (.slice A5 (k - 64) (c1 - 64)) ?_ ?_; (focus (intro W hW; go_simp; done)); go_simp)); go_big_quiet_on)
    refine wpQuiet_nil ?_
    intro w5 hw5
    have h45 : Below w4.heap.size w4 w5 := hw5
    simp only [List.drop_succ_cons, List.drop_zero]
    have DL : Hid ((m.drop 64).length = k - 64) := hid_ (by rw [List.length_drop, ML.out])
    have cs3 := stream_any key nonce ((c + 1) % 4294967296) A5 (k - 64) (c1 - 64) (m.drop 64) w5 HKL.out HNL.out CN DL.out ((D5.out.below h45).more h45.size) (by omega) (by omega) (by omega)
    have Y5 := hid_ (Y4.out.trans (h45.mono (by omega)))
    have X5 := hid_ ((X4.out.below h45).more h45.size)
    have ZL := hid_ (streamB_len key nonce ((c + 1) % 4294967296) (m.drop 64))
    rw [DL.out] at ZL
    rw [← TT2.out] at cs3 ZL
    clear hw5 h45 L1 L2 W6 s1 hcn X4 V4 K4 Y4 hs4
    have hs5 := Y5.out.size
    go_wp2_with (go_at_call 30; ((with_reducible refine cs3.mono ?_); rintro e w6 ⟨A6, c6, rfl, g1, g2⟩; have G1 := hid_ g1.rd.1; have G2 := hid_ g2; clear g1 g2))
    go_upto_region 10 with fail
    have s1 : ∀ W : World, (Instr.slice 22 (.slice A2 k c2) (some (.int .i64 64)) none none).run Try.prog W = .ok (.slice (if c2 = 64 then A2 else A2.map (·.add 64)) (k - 64) (c2 - 64)) W := fun W => slice_from A2 k c2 64 (by omega) W
    have r1 := rd_from X5.out c2 64 (by rw [XL.out]; omega) (by rw [XL.out]; exact q2a)
    obtain ⟨A7, hA7⟩ : ∃ x, Hid ((if c2 = 64 then A2 else A2.map (·.add 64)) = x) := ⟨_, rfl⟩
    rw [hA7.out] at s1 r1
    have r2 := (r1.below G2.out).more G2.out.size
    have XD : (x.drop 64).length = k - 64 := by rw [List.length_drop, XL.out]
    have W1 : Hid (∀ W : World, Below w6.heap.size w6 W → (convert 22 9 (.slice A7 (k - 64) (c2 - 64))).run Try.prog W = .ok (.string (strOf (x.drop 64))) W) := hid_ (fun W h => conv_strn (r2.below h) (k - 64) (c2 - 64) XD)
    have W2 : Hid (∀ W : World, Below w6.heap.size w6 W → (convert 22 9 (.slice A6 (k - 64) c6)).run Try.prog W = .ok (.string (strOf (x.drop 64))) W) := hid_ (fun W h => conv_strn (G1.out.below h) (k - 64) c6 ZL.out)
    have Y6 := hid_ (Y5.out.trans (G2.out.mono (by omega)))
    clear r1 r2
    refine region_quiet_in (C := fun W => Below w6.heap.size w6 W) (by kernel_rfl) (by kernel_rfl) ((Below.refl _ _).drew) ?_
    repeat (go_big_quiet_want; (first
      | (refine BigFrame.quiet_move _ rfl ?_; go_simp)
      | (refine BigFrame.quiet_assign _ rfl ?_; go_simp)
      | (refine quiet_run (.slice A7 (k - 64) (c2 - 64)) ?_ ?_; (focus (intro W hW; go_simp; done)); go_simp)
      | (refine quiet_run (.string (strOf (x.drop 64))) ?_ ?_; (focus (intro W hW; have h := W1.out W hW; go_simp; done)); go_simp)
      | (refine quiet_run (.string (strOf (x.drop 64))) ?_ ?_; (focus (intro W hW; have h := W2.out W hW; go_simp; done)); go_simp)
      | (refine quiet_run (.bool true) ?_ ?_; (focus (intro W hW; go_simp; done)); go_simp)); go_big_quiet_on)
    refine wpQuiet_nil ?_
    intro w7 hw7
    have h67 : Below w6.heap.size w6 w7 := hw7
    have s6 := G2.out.size
    have HW : Hid (Below g w w7) := hid_ (Y6.out.trans (h67.mono (by omega)))
    clear hw7 h67 W1 W2 s1
    go_wp2
    go_ret
    exact ⟨rfl, by rw [hg.out]; exact HW.out⟩

set_option maxRecDepth 100000 in
theorem lifted (os : Os) (started : os.Started) (H : Type) (enc : TypeId × Value → H) :
    ReturnsInHanded {} Try.checked os 5 .any (Rows.chachaStreamsSpec.pre6 enc Try.prog Try.f5 Rows.chachaStreamsRow.domain false) (Rows.chachaStreamsSpec.post enc Try.prog Try.f5 false true false false) := by
  refine returnsInHanded_of_change (C := Try.checked) own_ started (by kernel_rfl) Try.func5
    (ChangeSpec.witness6 (enc := enc) (C := Try.checked) false ⟨#[], #[.agg #[.int .u8 0, .int .u8 0, .int .u8 0, .int .u8 0, .int .u8 0, .int .u8 0, .int .u8 0, .int .u8 0, .int .u8 0, .int .u8 0, .int .u8 0, .int .u8 0, .int .u8 0, .int .u8 0, .int .u8 0, .int .u8 0, .int .u8 0, .int .u8 0, .int .u8 0, .int .u8 0, .int .u8 0, .int .u8 0, .int .u8 0, .int .u8 0, .int .u8 0, .int .u8 0, .int .u8 0, .int .u8 0, .int .u8 0, .int .u8 0, .int .u8 0, .int .u8 0], .agg #[.int .u32 0, .int .u8 0, .int .u8 0, .int .u8 0, .int .u8 0, .int .u8 0, .int .u8 0, .int .u8 0, .int .u8 0, .int .u8 0, .int .u8 0, .int .u8 0, .int .u8 0], .slice none 0 0], []⟩ 8 (by kernel_rfl) (by kernel_rfl) (by kernel_rfl) (by kernel_rfl)) ?_
  intro W base args ds gs before hval0 hW hcnd _
  have hval : ∀ (j : Nat) t v, Try.f5.params[j]? = some t → args[j]? = some v → Value.okWide Try.prog W .any base t v := hval0
  have hW' := hW
  obtain ⟨p, q, hA0, hV, rfl, hfz, hnd⟩ := hW
  have hA : DataW.TrodAll enc Try.prog W 0 (fun _ => true) true Try.f5.params.toList args.toList ds p := hA0
  rw [Try.params5] at hA hval
  obtain ⟨v0, vs0, d0, ds0, p0, q0, hargs, rfl, rfl, h0, r0⟩ := trodAll_cons hA
  obtain ⟨v1, vs1, d1, ds1, p1, q1, rfl, rfl, rfl, h1, r1⟩ := trodAll_cons r0
  obtain ⟨v2, vs2, d2, ds2, p2, q2, rfl, rfl, rfl, h2, r2⟩ := trodAll_cons r1
  obtain ⟨rfl, rfl, rfl⟩ := trodAll_nil r2
  obtain rfl : args = #[v0, v1, v2] := by cases args; simp_all
  obtain ⟨rfl, rfl⟩ := trodVars_none hV
  obtain ⟨l0, rfl, hl0⟩ := open_arr8 Try.underlying27 Try.underlying5 (by kernel_rfl) (by kernel_rfl) (hval 0 27 v0 rfl rfl) h0
  obtain ⟨c1, l1, rfl, hl1, hc1⟩ := open_at Try.underlying35 ⟨rfl, rfl⟩ ⟨rfl, rfl⟩ Try.underlying28 (by kernel_rfl) Try.underlying29 Try.underlying5 (by kernel_rfl) (by kernel_rfl) (by kernel_rfl) (hval 1 35 v1 rfl rfl) h1
  obtain ⟨A2, l2, c2, rfl, hr2, hlc2, hcm2⟩ := open_bytes Try.underlying22 Try.underlying5 (by kernel_rfl) (hval 2 22 v2 rfl rfl) h2
  refine (walk l0 l1 c1 A2 l2 c2 W hl0 hl1 hc1 hr2 hlc2 (by unfold maxLen at hcm2; omega)).mono fun e W' ⟨he, hg⟩ => ⟨_, he, ?_⟩
  exact law_post laidOut_ (of_decide_eq_true (by kernel_rfl)) rfl rfl Try.underlying4 rfl hW' hg

theorem over : Rows.chachaStreamsRow.holds Try.pinned (OpenSpec.ofChange Rows.chachaStreamsSpec) :=
  OpenClaim.holds_of_wide 5 Try.f5 rfl rfl rfl rfl rfl rfl rfl ⟨rfl, rfl, rfl, rfl, rfl⟩ rfl rfl rfl rfl rfl (by kernel_rfl) Try.func5 (by kernel_rfl)
    (of_decide_eq_true (by kernel_rfl)) (by unfold Func.isWrapper; first | (rw [if_pos (by decide +kernel)]; kernel_rfl) | (rw [if_neg (by decide +kernel)]; exact ⟨rfl, rfl⟩))
    (fun os started H enc _ => lifted os started H enc)

theorem proved : Rows.ChachaStreamsSaid := over
#print axioms proved
end Go.Proofs.Ytilgpblfdfhioaa.chachaStreams
