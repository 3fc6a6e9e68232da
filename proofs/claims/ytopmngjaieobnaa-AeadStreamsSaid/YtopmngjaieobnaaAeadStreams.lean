/-
  Proved: for all inputs AeadStreams answers true: what is hidden is as long as what was sealed, and 16 bytes more; its beginning hangs on the bytes at its places alone. No condition.
-/
import Derived.Test.YtopmngjaieobnaaEg
import Derived.Test.YtopmngjaieobnaaFr
import Derived.Test.YtopmngjaieobnaaLp
namespace Go.Proofs.Ytopmngjaieobnaa.aeadStreams
open Go.ChangeShapes Go.WideShapes Go.ChangeAt Go.RowKit
set_option linter.unusedVariables false
set_option linter.unusedSimpArgs false

theorem hid_ {p : Prop} (h : p) : Hid p := h
theorem cells_bytes {H : Type} {enc : TypeId × Value → H} {P : Program} {t e : TypeId} {w : World} {fuel : Nat} {sp : Nat → Bool} {held : Bool} {cs : List Value} {d : DataW H × List MemPlace}
    (ht : P.underlying t = some (.slice e)) (he : P.underlying e = some (.int .u8)) (hc : P.cellsOf e = 1)
    (hf : DataW.trod enc P w 0 sp held fuel t cs = some d) :
    ∃ A l c, cs = [.slice A (l : List UInt8).length c] ∧ Rd w w.heap.size A l ∧ l.length ≤ c ∧ c ≤ maxLen := by
  rcases open_ints ht he hc hf with ⟨hcs, hx⟩ | ⟨a, len, cap, zs, hcs, _, hl, hm, hz, hx, hcell, hwz⟩
  · exact ⟨none, [], 0, hcs, Rd.nil, Nat.le_refl _, Nat.zero_le _⟩
  · have hzl : len ≤ zs.length := by
      rw [hz]; split <;> omega
    have hlen : ((zs.take len).map fun n => UInt8.ofNat n.toNat).length = len := by
      rw [List.length_map, List.length_take]; omega
    refine ⟨some a, (zs.take len).map fun n => UInt8.ofNat n.toNat, cap, by rw [hlen]; exact hcs, fun h0 => ?_, by rw [hlen]; exact hl, hm⟩
    rw [hlen] at h0
    obtain ⟨b, off, spot⟩ := a
    have hc0 := hcell 0 (by omega)
    have hspot : spot = none := by simpa [Addr.add] using World.cell?_spot hc0
    subst hspot
    have hplain : ∀ j, (⟨b, off, none⟩ : Addr).add j = ⟨b, off + j, none⟩ := fun j => by unfold Addr.add; split <;> simp_all
    refine ⟨b, off, rfl, World.block_lt_of_cell? w _ hc0, fun j hj => ?_⟩
    rw [hlen] at hj
    rw [← hplain, hcell j (by omega)]
    have hb := bounds_u8 (hwz (zs.getD j 0) (by simp [List.getD, show j < zs.length by omega]))
    have e1 : ((zs.take len).map fun n => UInt8.ofNat n.toNat).getD j 0 = UInt8.ofNat (zs.getD j 0).toNat := by
      simp [List.getD, hj, show j < zs.length by omega]
    rw [e1]
    generalize zs.getD j 0 = z at hb
    congr 2
    simp
    omega
/-- An array of two slices of bytes, taken by value. -/
theorem open_two {H : Type} {enc : TypeId × Value → H} {P : Program} {t e q : TypeId} {w : World} {b0 : Nat} {sp : Nat → Bool} {held : Bool} {r : Reach} {v : Value} {d : DataW H} {p : List MemPlace}
    (ht : P.underlying t = some (.array 2 e)) (he : P.underlying e = some (.slice q)) (hq : P.underlying q = some (.int .u8)) (hcq : P.cellsOf q = 1) (hce : P.cellsOf e = 1) (hct : P.cellsOf t = 2)
    (hv : Value.okWide P w r b0 t v) (h : DataW.Trod enc P w 0 sp held t v d p) :
    ∃ A1 l1 c1 A2 l2 c2, v = .agg #[.slice A1 (l1 : List UInt8).length c1, .slice A2 (l2 : List UInt8).length c2] ∧ Rd w w.heap.size A1 l1 ∧ l1.length ≤ c1 ∧ c1 ≤ maxLen ∧ Rd w w.heap.size A2 l2 ∧ l2.length ≤ c2 ∧ c2 ≤ maxLen := by
  obtain ⟨cs, rfl, hsz, _⟩ : ∃ cs, v = .agg cs ∧ cs.size = P.cellsOf t ∧ Row.okWide P w r b0 t cs := by simpa [Value.okWide, ht] using hv
  rw [hct] at hsz
  obtain ⟨l⟩ := cs
  match l, hsz with
  | [k0, k1], _ =>
    obtain ⟨fuel, hf⟩ := h
    obtain ⟨xs, m, _, _, _, hl, hel⟩ := DataW.trod_array ht hf
    have h0 := hel 0 (by omega)
    have h1 := hel 1 (by omega)
    rw [hce] at h0 h1
    rw [List.getElem?_eq_getElem (by omega)] at h0 h1
    obtain ⟨A1, l1, c1, e1, r1, g1, m1⟩ := cells_bytes he hq hcq h0
    obtain ⟨A2, l2, c2, e2, r2, g2, m2⟩ := cells_bytes he hq hcq h1
    simp [Value.cells] at e1 e2
    exact ⟨A1, l1, c1, A2, l2, c2, by rw [e1, e2], r1, g1, m1, r2, g2, m2⟩
theorem mix_cat (key nonce : List UInt8) (c : Int) (b : List UInt8) (k : Nat) : ∀ K, k ≤ K → b.length ≤ 64 * k → mixB b (catS key nonce c K) = mixB b (catS key nonce c k)
  | 0, h, hl => by
    have : k = 0 := by omega
    rw [this]
  | K + 1, h, hl => by
    by_cases hk : k = K + 1
    · rw [hk]
    · rw [catS, mixB_app, catS_len, List.drop_eq_nil_of_le (by omega), mix_cat key nonce c b k K (by omega) hl]
      simp [mixB]
theorem stream_take (key nonce : List UInt8) (c : Int) (b : List UInt8) (m : Nat) (h : m ≤ b.length) : streamB key nonce c (b.take m) = (streamB key nonce c b).take m := by
  have hl : (b.take m).length = m := by rw [List.length_take]; omega
  rw [streamB, soFar_cat, streamB, soFar_cat, hl]
  have e := mix_cat key nonce c (b.take m) ((m + 63) / 64) ((b.length + 63) / 64) (by omega) (by rw [hl]; omega)
  rw [← e]
  unfold mixB
  rw [List.take_zipWith]
  generalize catS key nonce c ((b.length + 63) / 64) = X
  have h2 : ∀ (l : List UInt8) (Y : List UInt8), List.zipWith (· ^^^ ·) (l.take m) Y = List.zipWith (· ^^^ ·) (l.take m) (Y.take m) := by
    intro l Y
    have := List.take_zipWith (f := fun (a b : UInt8) => a ^^^ b) (l := l.take m) (l' := Y) (i := m)
    rw [List.take_take, Nat.min_self] at this
    rw [← this]
    exact (List.take_of_length_le (by simp; omega)).symm
  exact h2 b X

/-- What each operation of the third line leaves. -/
def StR (g : Nat) (key nonce : List UInt8) (A1 : Option Addr) (n1 c1 : Nat) (S1 : List UInt8) (A2 : Option Addr) (n2 c2 : Nat) (S2 : List UInt8) (A3 : Option Addr) (n3 c3 : Nat) : Nat → Value → World → Prop
  | 0, v, _ => v = .pointer (some ⟨g, 0, none⟩)
  | 1, v, _ => v = .agg (rowOf key)
  | 2, v, _ => v = .pointer (some ⟨g, 32, none⟩)
  | 3, v, _ => v = .agg (rowOf nonce)
  | 4, v, _ => v = .slice A1 n1 c1
  | 5, v, _ => v = .slice A3 n3 c3
  | 6, v, w => ∃ A c, v = .slice A (n3 + 16) c ∧ Rd w w.heap.size A S1 ∧ n3 + 16 ≤ c
  | 7, v, _ => v = .pointer (some ⟨g, 0, none⟩)
  | 8, v, _ => v = .agg (rowOf key)
  | 9, v, _ => v = .pointer (some ⟨g, 32, none⟩)
  | 10, v, _ => v = .agg (rowOf nonce)
  | 11, v, _ => v = .slice A2 n2 c2
  | 12, v, _ => v = .slice A3 n3 c3
  | 13, v, w => ∃ A c, v = .slice A (n3 + 16) c ∧ Rd w w.heap.size A S2 ∧ n3 + 16 ≤ c
  | 14, v, w => ∃ A c, v = .slice A (n3 + 16) c ∧ Rd w w.heap.size A S1 ∧ n3 + 16 ≤ c
  | 15, v, w => ∃ A c, v = .slice A (n3 + 16) c ∧ Rd w w.heap.size A S2 ∧ n3 + 16 ≤ c
  | _, _, _ => True
theorem StR.keep {g : Nat} {key nonce : List UInt8} {A1 : Option Addr} {n1 c1 : Nat} {S1 : List UInt8} {A2 : Option Addr} {n2 c2 : Nat} {S2 : List UInt8} {A3 : Option Addr} {n3 c3 : Nat} (j : Nat) (v : Value) (w w' : World) (hb : Below w.heap.size w w') (h : StR g key nonce A1 n1 c1 S1 A2 n2 c2 S2 A3 n3 c3 j v w) : StR g key nonce A1 n1 c1 S1 A2 n2 c2 S2 A3 n3 c3 j v w' := by
  rcases j with _ | _ | _ | _ | _ | _ | _ | _ | _ | _ | _ | _ | _ | _ | _ | _ | j
  all_goals first
    | exact h
    | (obtain ⟨A, c, e, hr, h1⟩ := h; exact ⟨A, c, e, (hr.below hb).more hb.size, h1⟩)
def StC (g B : Nat) (kn : List UInt8) (A1 : Option Addr) (x : List UInt8) (A2 : Option Addr) (y : List UInt8) (A3 : Option Addr) (b : List UInt8) (w0 w : World) : Prop :=
  Bk w g 34 (rowOf kn) ∧ Rd w w.heap.size A1 x ∧ Rd w w.heap.size A2 y ∧ Rd w w.heap.size A3 b ∧ Below B w0 w ∧ B ≤ w.heap.size
theorem StC.keep {g B : Nat} {kn : List UInt8} {A1 : Option Addr} {x : List UInt8} {A2 : Option Addr} {y : List UInt8} {A3 : Option Addr} {b : List UInt8} {w0 w w' : World} (h : StC g B kn A1 x A2 y A3 b w0 w) (hb : Below w.heap.size w w') : StC g B kn A1 x A2 y A3 b w0 w' :=
  ⟨h.1.below hb h.1.lt, (h.2.1.below hb).more hb.size, (h.2.2.1.below hb).more hb.size, (h.2.2.2.1.below hb).more hb.size, h.2.2.2.2.1.trans (hb.mono h.2.2.2.2.2), Nat.le_trans h.2.2.2.2.2 hb.size⟩
theorem quiet_load_sub {P : Program} {C : World → Prop} {o : Oper} {a : Act} {K : Act → Prop} (ty : TypeId) (x : Operand) (ho : o.op = .load ty x) (g off : Nat) (hx : a.eval x = .pointer (some ⟨g, off, none⟩)) (cs : Array Value) (d : TypeDesc)
    (hu : P.underlying ty = some d) (hd : (match d with | .struct _ | .array _ _ => true | _ => false) = true) (hi : (P.info? ty).map (·.size) = some cs.size)
    (hC : ∀ W, C W → ∀ j, j < cs.size → W.cell? ⟨g, off + j, none⟩ = cs[j]?) (hk : K (a.put o.dst (.agg cs))) : o.quiet P a C K :=
  quiet_run (.agg cs) (fun W hW => by
    have hl : (loadCells ⟨g, off, none⟩ cs.toList.length).run P W = .ok cs.toList.toArray W :=
      run_loadCells_list (P := P) W ⟨g, off, none⟩ cs.toList (fun j v hv => by
        have hadd : (⟨g, off, none⟩ : Addr).add j = ⟨g, off + j, none⟩ := by unfold Addr.add; split <;> simp_all
        have hj : j < cs.size := by
          have := (List.getElem?_eq_some_iff.1 hv).1
          simpa using this
        rw [hadd, hC W hW j hj]
        simpa using hv)
    have hrun : (loadVar ty ⟨g, off, none⟩).run P W = .ok (.agg cs) W := by
      cases hq : P.info? ty with
      | none => simp [hq] at hi
      | some i =>
        have hs : i.size = cs.size := by simpa [hq] using hi
        have hagg : (isAgg ty).run P W = .ok true W := by
          unfold isAgg
          rw [Sem.run_bind, run_underlying hu W]
          cases d <;> simp_all
        simp only [Array.length_toList, Array.toArray_toList] at hl
        simp [loadVar, Sem.run_bind, hagg, sizeOf, typeInfo, hq, hs, hl]
    unfold execOp
    simp only [ho, hx, Instr.loadAt, Instr.sureAddr, Sem.run_bind, Sem.run_pure, Result.andThen_ok, hrun]) hk
/-- The worlds of a line: behind w, all stands. -/
def AoC (w : World) (W : World) : Prop := Below w.heap.size w W

set_option maxRecDepth 100000 in
set_option maxHeartbeats 4000000 in
theorem walk (w : World) (key nonce : List UInt8) (hk : key.length = 32) (hn : nonce.length = 12) (A1 : Option Addr) (l1 : List UInt8) (c1 : Nat) (h1 : Rd w w.heap.size A1 l1) (hc1 : l1.length ≤ c1) (hcm1 : c1 ≤ 9223372036854775807)
    (A2 : Option Addr) (l2 : List UInt8) (c2 : Nat) (h2 : Rd w w.heap.size A2 l2) (hc2 : l2.length ≤ c2) (hcm2 : c2 ≤ 9223372036854775807) (A3 : Option Addr) (l3 : List UInt8) (c3 : Nat) (h3 : Rd w w.heap.size A3 l3) (hc3 : l3.length ≤ c3) (hcm3 : c3 ≤ 9223372036854775807) :
    Calls Try.prog 9 #[.agg (rowOf (key ++ nonce)), .agg #[.slice A1 l1.length c1, .slice A2 l2.length c2], .slice A3 l3.length c3] w fun e w' => e = .returned (.bool true) ∧ Below w.heap.size w w' := by
  obtain ⟨n1, hn1⟩ : ∃ n, n = min l1.length 60 := ⟨_, rfl⟩
  obtain ⟨n2, hn2⟩ : ∃ n, n = min l2.length 60 := ⟨_, rfl⟩
  obtain ⟨n3, hn3⟩ : ∃ n, n = min l3.length 150 := ⟨_, rfl⟩
  have hm1 := fun W => run_min2 l1.length 60 n1 hn1 W
  have hm2 := fun W => run_min2 l2.length 60 n2 hn2 W
  have hm3 := fun W => run_min2 l3.length 150 n3 hn3 W
  rw [show ((60 : Nat) : Int) = 60 from rfl] at hm1 hm2
  rw [show ((150 : Nat) : Int) = 150 from rfl] at hm3
  have hs1 := fun W => slice_to A1 l1.length c1 (n1 : Int) n1 rfl (by omega) W
  have hs2 := fun W => slice_to A2 l2.length c2 (n2 : Int) n2 rfl (by omega) W
  have hs3 := fun W => slice_to A3 l3.length c3 (n3 : Int) n3 rfl (by omega) W
  have LX : Hid ((l1.take 60).length = n1) := hid_ (by rw [List.length_take, hn1, Nat.min_comm])
  have LY : Hid ((l2.take 60).length = n2) := hid_ (by rw [List.length_take, hn2, Nat.min_comm])
  have LB : Hid ((l3.take 150).length = n3) := hid_ (by rw [List.length_take, hn3, Nat.min_comm])
  have b1 : n1 ≤ 60 := by omega
  have b2 : n2 ≤ 60 := by omega
  have b3 : n3 ≤ 150 := by omega
  have d3 : n3 ≤ c3 := by omega
  obtain ⟨g, hg⟩ : ∃ g, Hid (w.heap.size = g) := ⟨_, rfl⟩
  obtain ⟨w0, hw0⟩ : ∃ W, Hid ((w.alloc (.cells (rowOf (key ++ nonce)) 34)).alloc (.cells #[.slice A1 l1.length c1, .slice A2 l2.length c2] 45) = W) := ⟨_, rfl⟩
  have hsz0 : w0.heap.size = g + 2 := by rw [← hw0.out, ← hg.out]; simp
  have B0 : Bk w0 g 34 (rowOf (key ++ nonce)) := by rw [← hw0.out, ← hg.out]; exact (Bk.new w _ _).alloc _
  have T0 : Hid (Bk w0 (g + 1) 45 #[.slice A1 l1.length c1, .slice A2 l2.length c2]) := hid_ (by
    have h := Bk.new (w.alloc (.cells (rowOf (key ++ nonce)) 34)) 45 #[.slice A1 l1.length c1, .slice A2 l2.length c2]
    rw [← hw0.out, ← hg.out]
    simpa using h)
  have X0 : Below g w w0 := by rw [← hw0.out, ← hg.out]; exact ((Below.refl _ _).alloc (Nat.le_refl _) _).alloc (by simp) _
  have rr : ∀ {A : Option Addr} {l : List UInt8}, Rd w w.heap.size A l → Rd w0 w0.heap.size A l := fun h => by
    have h2 := h.below (B := w.heap.size) (w' := w0) (by rw [hg.out]; exact X0)
    exact h2.more (by rw [hsz0, hg.out]; omega)
  have C0 := hid_ (show StC g g (key ++ nonce) A1 (l1.take 60) A2 (l2.take 60) A3 (l3.take 150) w w0 from ⟨B0, rr (h1.take 60), rr (h2.take 60), rr (h3.take 150), X0, by omega⟩)
  have HK := hid_ hk
  have HN := hid_ hn
  have I32 := hid_ (ib32 key hk)
  have I12 := hid_ (ib12 nonce hn)
  clear h1 h2 h3 hc1 hc2 hc3 hk hn hn1 hn2 hn3 B0 X0 rr hsz0
  generalize l1.take 60 = x at *
  generalize l2.take 60 = y at *
  generalize l3.take 150 = b at *
  generalize l1.length = p1 at *
  generalize l2.length = p2 at *
  generalize l3.length = p3 at *
  have hs0 : (w.alloc (.cells (rowOf (key ++ nonce)) 34)).heap.size = g + 1 := by rw [← hg.out]; simp
  go_enter Try.func9, Try.ntmps9
  go_upto_region 1 with fail
  first | rw [hs0] | skip
  rw [hg.out, hw0.out]
  clear hw0 hs0
  have HL1 : Hid (∀ W : World, AoC w0 W → W.cell? ⟨g + 1, 0, none⟩ = some (.slice A1 p1 c1)) := hid_ (fun W h => (T0.out.below h T0.out.lt).cell 0)
  have HL2 : Hid (∀ W : World, AoC w0 W → W.cell? ⟨g + 1, 1, none⟩ = some (.slice A2 p2 c2)) := hid_ (fun W h => (T0.out.below h T0.out.lt).cell 1)
  refine region_quiet_in (C := AoC w0) (by kernel_rfl) (by kernel_rfl) ((Below.refl _ _).drew) ?_
  repeat (go_big_quiet_want; (first
    | (refine BigFrame.quiet_move _ rfl ?_; go_simp)
    | (refine BigFrame.quiet_assign _ rfl ?_; go_simp)
    | (refine quiet_run (.pointer (some ⟨g + 1, 0, none⟩)) ?_ ?_; (focus (intro W hW; go_simp; done)); go_simp)
    | (refine quiet_run (.pointer (some ⟨g + 1, 1, none⟩)) ?_ ?_; (focus (intro W hW; go_simp; done)); go_simp)
    | (refine quiet_run (.slice A1 p1 c1) ?_ ?_; (focus (intro W hW; have h := HL1.out W hW; go_simp; done)); go_simp)
    | (refine quiet_run (.slice A2 p2 c2) ?_ ?_; (focus (intro W hW; have h := HL2.out W hW; go_simp; done)); go_simp)
    | (refine quiet_run (.int .i64 (p1 : Int)) ?_ ?_; (focus (intro W hW; go_simp; done)); go_simp)
    | (refine quiet_run (.int .i64 (p2 : Int)) ?_ ?_; (focus (intro W hW; go_simp; done)); go_simp)
    | (refine quiet_run (.int .i64 (n1 : Int)) ?_ ?_; (focus (intro W hW; go_simp; done)); go_simp)
    | (refine quiet_run (.int .i64 (n2 : Int)) ?_ ?_; (focus (intro W hW; go_simp; done)); go_simp)
    | (refine quiet_run (.slice A1 n1 c1) ?_ ?_; (focus (intro W hW; go_simp; done)); go_simp)
    | (refine quiet_run (.slice A2 n2 c2) ?_ ?_; (focus (intro W hW; go_simp; done)); go_simp)); go_big_quiet_on)
  refine wpQuiet_nil ?_
  intro W hW
  have C1 := hid_ (C0.out.keep hW)
  clear hW HL1 HL2 T0 C0 hm1 hm2 hs1 hs2
  go_upto_region 3 with fail
  clear hm3 hs3
  have cs1 := fun W (r1 : Rd W W.heap.size A1 x) (r3 : Rd W W.heap.size A3 b) => seal_any key nonce A1 n1 c1 x A3 n3 c3 b W HK.out HN.out LX.out LB.out r1 r3 d3 hcm3 (by omega) (by omega)
  have cs2 := fun W (r2 : Rd W W.heap.size A2 y) (r3 : Rd W W.heap.size A3 b) => seal_any key nonce A2 n2 c2 y A3 n3 c3 b W HK.out HN.out LY.out LB.out r2 r3 d3 hcm3 (by omega) (by omega)
  have ST1 := hid_ (seal_take key nonce x b n3 LB.out)
  have ST2 := hid_ (seal_take key nonce y b n3 LB.out)
  have SL1 : Hid ((sealB key nonce x b).length = n3 + 16) := hid_ (by rw [sealB_len, LB.out])
  have SL2 : Hid ((sealB key nonce y b).length = n3 + 16) := hid_ (by rw [sealB_len, LB.out])
  obtain ⟨S1, hS1⟩ : ∃ S, Hid (sealB key nonce x b = S) := ⟨_, rfl⟩
  obtain ⟨S2, hS2⟩ : ∃ S, Hid (sealB key nonce y b = S) := ⟨_, rfl⟩
  rw [hS1.out] at cs1 ST1 SL1
  rw [hS2.out] at cs2 ST2 SL2
  refine region_byF [31, 32, 33, 34, 35, 36, 37, 38, 39, 40, 41, 42, 43, 44, 9, 10] (StC g g (key ++ nonce) A1 x A2 y A3 b w) (fun w w' => Below w.heap.size w w') (StR g key nonce A1 n1 c1 S1 A2 n2 c2 S2 A3 n3 c3) (by kernel_rfl) (by kernel_rfl) (by kernel_rfl) rfl (fun j v w w' hT h => h.keep j v w w' hT) (fun j v w hlt hj _ => by
    exfalso
    rcases j with _ | _ | _ | _ | _ | _ | _ | _ | _ | _ | _ | _ | _ | _ | _ | _ | j
    all_goals first
      | (simp [dstOf] at hj; done)
      | (simp at hlt; omega)) (⟨C1.out.1.drew, C1.out.2.1.drew, C1.out.2.2.1.drew, C1.out.2.2.2.1.drew, C1.out.2.2.2.2.1.drew, C1.out.2.2.2.2.2⟩) ?_ ?_
  · refine ⟨fun a w hC hd hf hv K hK => ?_, fun a w hC hd hf hv K hK => ?_, fun a w hC hd hf hv K hK => ?_, fun a w hC hd hf hv K hK => ?_, fun a w hC hd hf hv K hK => ?_, fun a w hC hd hf hv K hK => ?_, fun a w hC hd hf hv K hK => ?_, fun a w hC hd hf hv K hK => ?_, fun a w hC hd hf hv K hK => ?_, fun a w hC hd hf hv K hK => ?_, fun a w hC hd hf hv K hK => ?_, fun a w hC hd hf hv K hK => ?_, fun a w hC hd hf hv K hK => ?_, fun a w hC hd hf hv K hK => ?_, fun a w hC hd hf hv K hK => ?_, fun a w hC hd hf hv K hK => ?_, trivial⟩
    · have e1 := slot_of (a := a) (s := 3) (v := .pointer (some ⟨g, 0, none⟩)) (hf 3 (by kernel_rfl))
      refine step_run (wanted_none rfl) (v := .pointer (some ⟨g, 0, none⟩)) (w' := w) ?_ (hK _ _ hC (Below.refl _ _) rfl)
      go_simp
    · have e1 := eval_of (a := a) (s := 31) (v := .pointer (some ⟨g, 0, none⟩)) (hv 0 (by kernel_rfl))
      exact step_load_sub (wanted_none rfl) 22 (.tmp 31) rfl g 0 e1 (rowOf key) (sg_key hC.1) _ Try.underlying22 rfl I32.out (hK _ _ hC (Below.refl _ _) rfl)
    · have e1 := slot_of (a := a) (s := 3) (v := .pointer (some ⟨g, 0, none⟩)) (hf 3 (by kernel_rfl))
      refine step_run (wanted_none rfl) (v := .pointer (some ⟨g, 32, none⟩)) (w' := w) ?_ (hK _ _ hC (Below.refl _ _) rfl)
      go_simp
    · have e1 := eval_of (a := a) (s := 33) (v := .pointer (some ⟨g, 32, none⟩)) (hv 2 (by kernel_rfl))
      exact step_load_sub (wanted_none rfl) 32 (.tmp 33) rfl g 32 e1 (rowOf nonce) (sg_nonce HK.out hC.1) _ Try.underlying32 rfl I12.out (hK _ _ hC (Below.refl _ _) rfl)
    · have e1 := slot_of (a := a) (s := 7) (v := .slice A1 n1 c1) (hf 7 (by kernel_rfl))
      refine step_run (wanted_none rfl) (v := .slice A1 n1 c1) (w' := w) ?_ (hK _ _ hC (Below.refl _ _) rfl)
      go_simp
    · have e1 := slot_of (a := a) (s := 2) (v := .slice A3 n3 c3) (hf 2 (by kernel_rfl))
      refine step_run (wanted_none rfl) (v := .slice A3 n3 c3) (w' := w) ?_ (hK _ _ hC (Below.refl _ _) rfl)
      go_simp
    · have e1 := slot_of (a := a) (s := 32) (v := .agg (rowOf key)) (hv 1 (by kernel_rfl))
      have e2 := slot_of (a := a) (s := 34) (v := .agg (rowOf nonce)) (hv 3 (by kernel_rfl))
      have e3 := slot_of (a := a) (s := 35) (v := .slice A1 n1 c1) (hv 4 (by kernel_rfl))
      have e4 := slot_of (a := a) (s := 36) (v := .slice A3 n3 c3) (hv 5 (by kernel_rfl))
      refine step_callx 17 #[.agg (rowOf key), .agg (rowOf nonce), .slice A1 n1 c1, .slice A3 n3 c3] (wanted_none rfl) (w' := w) ?_ ((cs1 w hC.2.1 hC.2.2.2.1).mono fun e w2 hh => ?_)
      · go_simp
      · obtain ⟨A, c, he, ho, hb2⟩ := hh
        exact ⟨_, he, hK _ _ (hC.keep hb2) hb2 ⟨A, c, rfl, ho.rd.1, ho.cap.1⟩⟩
    · have e1 := slot_of (a := a) (s := 3) (v := .pointer (some ⟨g, 0, none⟩)) (hf 3 (by kernel_rfl))
      refine step_run (wanted_none rfl) (v := .pointer (some ⟨g, 0, none⟩)) (w' := w) ?_ (hK _ _ hC (Below.refl _ _) rfl)
      go_simp
    · have e1 := eval_of (a := a) (s := 38) (v := .pointer (some ⟨g, 0, none⟩)) (hv 7 (by kernel_rfl))
      exact step_load_sub (wanted_none rfl) 22 (.tmp 38) rfl g 0 e1 (rowOf key) (sg_key hC.1) _ Try.underlying22 rfl I32.out (hK _ _ hC (Below.refl _ _) rfl)
    · have e1 := slot_of (a := a) (s := 3) (v := .pointer (some ⟨g, 0, none⟩)) (hf 3 (by kernel_rfl))
      refine step_run (wanted_none rfl) (v := .pointer (some ⟨g, 32, none⟩)) (w' := w) ?_ (hK _ _ hC (Below.refl _ _) rfl)
      go_simp
    · have e1 := eval_of (a := a) (s := 40) (v := .pointer (some ⟨g, 32, none⟩)) (hv 9 (by kernel_rfl))
      exact step_load_sub (wanted_none rfl) 32 (.tmp 40) rfl g 32 e1 (rowOf nonce) (sg_nonce HK.out hC.1) _ Try.underlying32 rfl I12.out (hK _ _ hC (Below.refl _ _) rfl)
    · have e1 := slot_of (a := a) (s := 8) (v := .slice A2 n2 c2) (hf 8 (by kernel_rfl))
      refine step_run (wanted_none rfl) (v := .slice A2 n2 c2) (w' := w) ?_ (hK _ _ hC (Below.refl _ _) rfl)
      go_simp
    · have e1 := slot_of (a := a) (s := 2) (v := .slice A3 n3 c3) (hf 2 (by kernel_rfl))
      refine step_run (wanted_none rfl) (v := .slice A3 n3 c3) (w' := w) ?_ (hK _ _ hC (Below.refl _ _) rfl)
      go_simp
    · have e1 := slot_of (a := a) (s := 39) (v := .agg (rowOf key)) (hv 8 (by kernel_rfl))
      have e2 := slot_of (a := a) (s := 41) (v := .agg (rowOf nonce)) (hv 10 (by kernel_rfl))
      have e3 := slot_of (a := a) (s := 42) (v := .slice A2 n2 c2) (hv 11 (by kernel_rfl))
      have e4 := slot_of (a := a) (s := 43) (v := .slice A3 n3 c3) (hv 12 (by kernel_rfl))
      refine step_callx 17 #[.agg (rowOf key), .agg (rowOf nonce), .slice A2 n2 c2, .slice A3 n3 c3] (wanted_none rfl) (w' := w) ?_ ((cs2 w hC.2.2.1 hC.2.2.2.1).mono fun e w2 hh => ?_)
      · go_simp
      · obtain ⟨A, c, he, ho, hb2⟩ := hh
        exact ⟨_, he, hK _ _ (hC.keep hb2) hb2 ⟨A, c, rfl, ho.rd.1, ho.cap.1⟩⟩
    · obtain ⟨A, c, e1', hr, h1⟩ : ∃ A c, a.tmps.getD 37 undef = .slice A (n3 + 16) c ∧ Rd w w.heap.size A S1 ∧ n3 + 16 ≤ c := hv 6 (by kernel_rfl)
      have e1 := slot_of e1'
      refine step_run (wanted_none rfl) (v := .slice A (n3 + 16) c) (w' := w) ?_ (hK _ _ hC (Below.refl _ _) ⟨A, c, rfl, hr, h1⟩)
      go_simp
    · obtain ⟨A, c, e1', hr, h1⟩ : ∃ A c, a.tmps.getD 44 undef = .slice A (n3 + 16) c ∧ Rd w w.heap.size A S2 ∧ n3 + 16 ≤ c := hv 13 (by kernel_rfl)
      have e1 := slot_of e1'
      refine step_run (wanted_none rfl) (v := .slice A (n3 + 16) c) (w' := w) ?_ (hK _ _ hC (Below.refl _ _) ⟨A, c, rfl, hr, h1⟩)
      go_simp
  · intro f W2 hC hv
    obtain ⟨Bx, cx, ex, hrx, hcx⟩ : ∃ A c, f 9 = .slice A (n3 + 16) c ∧ Rd W2 W2.heap.size A S1 ∧ n3 + 16 ≤ c := hv 14 (by decide)
    obtain ⟨By, cy, ey, hry, hcy⟩ : ∃ A c, f 10 = .slice A (n3 + 16) c ∧ Rd W2 W2.heap.size A S2 ∧ n3 + 16 ≤ c := hv 15 (by decide)
    have QX := hid_ hrx
    have QY := hid_ hry
    have HC := hid_ hC
    simp only [framed, List.foldl_cons, List.foldl_nil, List.setIfInBounds_toArray, List.set_cons_succ, List.set_cons_zero]
    rw [ex, ey]
    generalize f 31 = z31
    generalize f 32 = z32
    generalize f 33 = z33
    generalize f 34 = z34
    generalize f 35 = z35
    generalize f 36 = z36
    generalize f 37 = z37
    generalize f 38 = z38
    generalize f 39 = z39
    generalize f 40 = z40
    generalize f 41 = z41
    generalize f 42 = z42
    generalize f 43 = z43
    generalize f 44 = z44
    clear hv ex ey hrx hry hC cs1 cs2 C1
    rename_i K hK
    refine hK _ _ ?_
    clear hK K
    obtain ⟨h3, hh3⟩ : ∃ h, h = n3 / 2 := ⟨_, rfl⟩
    have hh3i : (n3 : Int) / 2 = (h3 : Int) := by omega
    have hle3 : h3 ≤ n3 := by omega
    have hdv : (n3 : Int).tdiv 2 = (h3 : Int) := by rw [Int.tdiv_eq_ediv_of_nonneg (by omega)]; exact hh3i
    have hwv : IntKind.i64.wrap (h3 : Int) = (h3 : Int) := IntWalk.i64_in _ (by omega)
    have hwd : IntKind.i64.wrap ((n3 : Int).tdiv 2) = (h3 : Int) := by rw [hdv]; exact hwv
    have hsl := fun W => slice_to A3 n3 c3 (h3 : Int) h3 rfl (by omega) W
    clear hh3
    have LB2 : Hid ((b.take h3).length = h3) := hid_ (by rw [List.length_take, LB.out]; omega)
    have RB2 : Hid (∀ W, StC g g (key ++ nonce) A1 x A2 y A3 b w W → Rd W W.heap.size A3 (b.take h3)) := hid_ (fun W h => h.2.2.2.1.take h3)
    go_upto_region 4 with fail
    have hkk : Hid (∀ W, (∃ n, W = W2.drewN n) → ∀ j, j < (rowOf key).size → W.cell? ⟨g, 0 + j, none⟩ = (rowOf key)[j]?) := hid_ (fun W h => by obtain ⟨n, rfl⟩ := h; exact sg_key (HC.out.1.drewN n))
    have hkn : Hid (∀ W, (∃ n, W = W2.drewN n) → ∀ j, j < (rowOf nonce).size → W.cell? ⟨g, 32 + j, none⟩ = (rowOf nonce)[j]?) := hid_ (fun W h => by obtain ⟨n, rfl⟩ := h; exact sg_nonce HK.out (HC.out.1.drewN n))
    refine region_quiet_tail_lit 10 (by kernel_rfl) (by kernel_rfl) ?_
    simp only [List.take_succ_cons, List.take_zero]
    repeat (go_big_quiet_want; (first
      | (refine BigFrame.quiet_move _ rfl ?_; go_simp)
      | (refine quiet_run (.pointer (some ⟨g, 0, none⟩)) ?_ ?_; (focus (intro W hW; go_simp; done)); go_simp)
      | (refine quiet_run (.pointer (some ⟨g, 32, none⟩)) ?_ ?_; (focus (intro W hW; go_simp; done)); go_simp)
      | (refine quiet_load_sub 22 (.tmp 45) rfl g 0 rfl (rowOf key) _ Try.underlying22 rfl I32.out hkk.out ?_; go_simp)
      | (refine quiet_load_sub 32 (.tmp 47) rfl g 32 rfl (rowOf nonce) _ Try.underlying32 rfl I12.out hkn.out ?_; go_simp)
      | (refine quiet_run (.int .i64 (n3 : Int)) ?_ ?_; (focus (intro W hW; go_simp; done)); go_simp)
      | (refine quiet_run (.int .i64 (h3 : Int)) ?_ ?_; (focus (intro W hW; go_simp; done)); go_simp)
      | (refine quiet_run (.slice A3 h3 c3) ?_ ?_; (focus (intro W hW; go_simp; done)); go_simp)); go_big_quiet_on)
    refine wpQuiet_nil ?_
    intro w' hw'
    obtain ⟨nq, rfl⟩ := hw'
    simp only [List.drop_succ_cons, List.drop_zero]
    have ch := seal_any key nonce A1 n1 c1 x A3 h3 c3 (b.take h3) (W2.drewN nq) HK.out HN.out LX.out LB2.out (HC.out.2.1.drewN nq) ((HC.out.2.2.2.1.take h3).drewN nq) (by omega) hcm3 (by omega) (by omega)
    have HC3 : Hid (StC g g (key ++ nonce) A1 x A2 y A3 b w (W2.drewN nq)) := hid_ ⟨HC.out.1.drewN nq, HC.out.2.1.drewN nq, HC.out.2.2.1.drewN nq, HC.out.2.2.2.1.drewN nq, below_drewN HC.out.2.2.2.2.1 nq, HC.out.2.2.2.2.2⟩
    have QX3 : Hid (Rd (W2.drewN nq) (W2.drewN nq).heap.size Bx S1) := hid_ (QX.out.drewN nq)
    have QY3 : Hid (Rd (W2.drewN nq) (W2.drewN nq).heap.size By S2) := hid_ (QY.out.drewN nq)
    have SH := hid_ (seal_take key nonce x (b.take h3) h3 LB2.out)
    have STk := hid_ (stream_take key nonce 1 b h3 (by rw [LB.out]; exact hle3))
    have SHL : Hid ((sealB key nonce x (b.take h3)).length = h3 + 16) := hid_ (by rw [sealB_len, LB2.out])
    obtain ⟨S3, hS3⟩ : ∃ S, Hid (sealB key nonce x (b.take h3) = S) := ⟨_, rfl⟩
    rw [hS3.out] at ch SH SHL
    clear hkk hkn QX QY HC RB2 hsl hwd hdv
    generalize W2.drewN nq = w3 at *
    go_upto_region 5 with (go_at_call 17; ((with_reducible refine ch.mono ?_); rintro e w4 ⟨A4, c4, rfl, ho4, hb4⟩; have HO4 := hid_ ho4; have HB4 := hid_ hb4; clear ho4 hb4))
    have hcap := HO4.out.cap
    have X4 := hid_ (HC3.out.2.2.2.2.1.trans (HB4.out.mono HC3.out.2.2.2.2.2))
    have hg4 : g ≤ w4.heap.size := Nat.le_trans HC3.out.2.2.2.2.2 HB4.out.size
    have R4 := HO4.out.rd.1
    have RX := (QX3.out.below HB4.out).more HB4.out.size
    have RY := (QY3.out.below HB4.out).more HB4.out.size
    have LD : Hid ((streamB key nonce 1 b).length = n3) := hid_ (by rw [streamB_len, LB.out])
    obtain ⟨D, hD⟩ : ∃ D, Hid (streamB key nonce 1 b = D) := ⟨_, rfl⟩
    rw [hD.out] at ST1 ST2 STk LD
    have LD2 : Hid ((D.take h3).length = h3) := hid_ (by rw [List.length_take, LD.out]; omega)
    have RX1 := RX.take n3
    have RY1 := RY.take n3
    have R41 := R4.take h3
    have RX2 := RX.take h3
    rw [ST1.out] at RX1
    rw [ST2.out] at RY1
    rw [SH.out, STk.out] at R41
    have e3 : S1.take h3 = D.take h3 := by
      have : (S1.take n3).take h3 = S1.take h3 := by rw [List.take_take, Nat.min_eq_left hle3]
      rw [← this, ST1.out]
    rw [e3] at RX2
    have V1 : Hid (∀ W : World, AoC w4 W → (convert 23 9 (.slice Bx n3 cx)).run Try.prog W = .ok (.string (strOf D)) W) := hid_ (fun W h => conv_strn (RX1.below h) n3 cx LD.out)
    have V2 : Hid (∀ W : World, AoC w4 W → (convert 23 9 (.slice By n3 cy)).run Try.prog W = .ok (.string (strOf D)) W) := hid_ (fun W h => conv_strn (RY1.below h) n3 cy LD.out)
    have V3 : Hid (∀ W : World, AoC w4 W → (convert 23 9 (.slice A4 h3 c4)).run Try.prog W = .ok (.string (strOf (D.take h3))) W) := hid_ (fun W h => conv_strn (R41.below h) h3 c4 LD2.out)
    have V4 : Hid (∀ W : World, AoC w4 W → (convert 23 9 (.slice Bx h3 cx)).run Try.prog W = .ok (.string (strOf (D.take h3))) W) := hid_ (fun W h => conv_strn (RX2.below h) h3 cx LD2.out)
    have P1 : Hid (∀ W : World, AoC w4 W → Calls Try.prog 19 #[] W fun e w' => e = .returned (.bool true) ∧ AoC w4 w') := hid_ (fun W h => (seals_any W).mono fun e w' hh => ⟨hh.1, h.trans (hh.2.mono h.size)⟩)
    have q1 := fun W => slice_to Bx (n3 + 16) cx (n3 : Int) n3 rfl (by omega) W
    have q2 := fun W => slice_to By (n3 + 16) cy (n3 : Int) n3 rfl (by omega) W
    have q3 := fun W => slice_to A4 (h3 + 16) c4 (h3 : Int) h3 rfl (by omega) W
    have q4 := fun W => slice_to Bx (n3 + 16) cx (h3 : Int) h3 rfl (by omega) W
    have hdv : (n3 : Int).tdiv 2 = (h3 : Int) := by rw [Int.tdiv_eq_ediv_of_nonneg (by omega)]; exact hh3i
    have hwd : IntKind.i64.wrap ((n3 : Int).tdiv 2) = (h3 : Int) := by rw [hdv]; exact hwv
    have hw16 : IntKind.i64.wrap ((n3 : Int) + 16) = (n3 : Int) + 16 := IntWalk.i64_in _ (by omega)
    have hge : decide ((h3 : Int) ≤ (h3 : Int) + 16) = true := decide_eq_true (by omega)
    have hge2 : (h3 : Int) ≤ (h3 : Int) + 16 := by omega
    clear ch RX RY RX1 RY1 RX2 R41 R4 HO4 HB4 QX3 QY3 HC3 e3
    refine region_quiet_in (C := AoC w4) (by kernel_rfl) (by kernel_rfl) ((Below.refl _ _).drew) ?_
    repeat (go_big_quiet_want; (first
      | (refine BigFrame.quiet_move _ rfl ?_; go_simp)
      | (refine BigFrame.quiet_assign _ rfl ?_; go_simp)
      | (refine quiet_call (.bool true) 19 #[] ?_ P1.out ?_; (focus (intro W; go_simp; done)); go_simp)
      | (refine quiet_run (.bool true) ?_ ?_; (focus (intro W hW; go_simp; done)); go_simp)
      | (refine quiet_run (.int .i64 (n3 : Int)) ?_ ?_; (focus (intro W hW; go_simp; done)); go_simp)
      | (refine quiet_run (.int .i64 ((n3 : Int) + 16)) ?_ ?_; (focus (intro W hW; go_simp; done)); go_simp)
      | (refine quiet_run (.int .i64 (h3 : Int)) ?_ ?_; (focus (intro W hW; go_simp; done)); go_simp)
      | (refine quiet_run (.int .i64 ((h3 : Int) + 16)) ?_ ?_; (focus (intro W hW; go_simp; done)); go_simp)
      | (refine quiet_run (.slice Bx n3 cx) ?_ ?_; (focus (intro W hW; go_simp; done)); go_simp)
      | (refine quiet_run (.slice By n3 cy) ?_ ?_; (focus (intro W hW; go_simp; done)); go_simp)
      | (refine quiet_run (.slice A4 h3 c4) ?_ ?_; (focus (intro W hW; go_simp; done)); go_simp)
      | (refine quiet_run (.slice Bx h3 cx) ?_ ?_; (focus (intro W hW; go_simp; done)); go_simp)
      | (refine quiet_run (.string (strOf D)) ?_ ?_; (focus (intro W hW; have h := V1.out W hW; go_simp; done)); go_simp)
      | (refine quiet_run (.string (strOf D)) ?_ ?_; (focus (intro W hW; have h := V2.out W hW; go_simp; done)); go_simp)
      | (refine quiet_run (.string (strOf (D.take h3))) ?_ ?_; (focus (intro W hW; have h := V3.out W hW; go_simp; done)); go_simp)
      | (refine quiet_run (.string (strOf (D.take h3))) ?_ ?_; (focus (intro W hW; have h := V4.out W hW; go_simp; done)); go_simp)); go_big_quiet_on)
    refine wpQuiet_nil ?_
    intro W5 hW5
    have HW := hid_ hW5
    clear hW5
    go_wp2
    go_ret
    exact ⟨rfl, by rw [hg.out]; exact X4.out.trans (HW.out.mono hg4)⟩

set_option maxRecDepth 100000 in
theorem lifted (os : Os) (started : os.Started) (H : Type) (enc : TypeId × Value → H) :
    ReturnsInHanded {} Try.checked os 9 .any (Rows.aeadStreamsSpec.pre6 enc Try.prog Try.f9 Rows.aeadStreamsRow.domain false) (Rows.aeadStreamsSpec.post enc Try.prog Try.f9 false true false false) := by
  refine returnsInHanded_of_change (C := Try.checked) own_ started (by kernel_rfl) Try.func9
    (ChangeSpec.witness6 (enc := enc) (C := Try.checked) false ⟨#[], #[.agg (rowOf (zbytes 44)), .agg #[.slice none 0 0, .slice none 0 0], .slice none 0 0], []⟩ 8 (by kernel_rfl) (by kernel_rfl) (by kernel_rfl) (by kernel_rfl)) ?_
  intro W base args ds gs before hval0 hW hcnd _
  have hval : ∀ (j : Nat) t v, Try.f9.params[j]? = some t → args[j]? = some v → Value.okWide Try.prog W .any base t v := hval0
  have hW' := hW
  obtain ⟨p, q, hA0, hV, rfl, hfz, hnd⟩ := hW
  have hA : DataW.TrodAll enc Try.prog W 0 (fun _ => true) true Try.f9.params.toList args.toList ds p := hA0
  rw [Try.params9] at hA hval
  obtain ⟨v0, vs0, d0, ds0, p0, q0, hargs, rfl, rfl, h0, r0⟩ := trodAll_cons hA
  obtain ⟨v1, vs1, d1, ds1, p1, q1, rfl, rfl, rfl, h1, r1⟩ := trodAll_cons r0
  obtain ⟨v2, vs2, d2, ds2, p2, q2, rfl, rfl, rfl, h2, r2⟩ := trodAll_cons r1
  obtain ⟨rfl, rfl, rfl⟩ := trodAll_nil r2
  obtain rfl : args = #[v0, v1, v2] := by cases args; simp_all
  obtain ⟨rfl, rfl⟩ := trodVars_none hV
  obtain ⟨k0, n0, rfl, hk0, hn0⟩ := open_sealing Try.underlying34 ⟨rfl, rfl⟩ ⟨rfl, rfl⟩ Try.underlying22 (by kernel_rfl) Try.underlying32 Try.underlying5 (by kernel_rfl) (by kernel_rfl) (by kernel_rfl) (hval 0 34 v0 rfl rfl) h0
  obtain ⟨X1, m1, e1, X2, m2, e2, rfl, hx1, hx2, hx3, hy1, hy2, hy3⟩ := open_two Try.underlying45 Try.underlying23 Try.underlying5 (by kernel_rfl) (by kernel_rfl) (by kernel_rfl) (hval 1 45 v1 rfl rfl) h1
  obtain ⟨A2, l2, c2, rfl, hr2, hlc2, hcm2⟩ := open_bytes Try.underlying23 Try.underlying5 (by kernel_rfl) (hval 2 23 v2 rfl rfl) h2
  refine (walk W k0 n0 hk0 hn0 X1 m1 e1 hx1 hx2 (by unfold maxLen at hx3; omega) X2 m2 e2 hy1 hy2 (by unfold maxLen at hy3; omega) A2 l2 c2 hr2 hlc2 (by unfold maxLen at hcm2; omega)).mono fun e W' ⟨he, hg⟩ => ⟨_, he, ?_⟩
  exact law_post laidOut_ (of_decide_eq_true (by kernel_rfl)) rfl rfl Try.underlying4 rfl hW' hg

theorem over : Rows.aeadStreamsRow.holds Try.pinned (OpenSpec.ofChange Rows.aeadStreamsSpec) :=
  OpenClaim.holds_of_wide 9 Try.f9 rfl rfl rfl rfl rfl rfl rfl ⟨rfl, rfl, rfl, rfl, rfl⟩ rfl rfl rfl rfl rfl (by kernel_rfl) Try.func9 (by kernel_rfl)
    (of_decide_eq_true (by kernel_rfl)) (by unfold Func.isWrapper; first | (rw [if_pos (by decide +kernel)]; kernel_rfl) | (rw [if_neg (by decide +kernel)]; exact ⟨rfl, rfl⟩))
    (fun os started H enc _ => lifted os started H enc)

theorem proved : Rows.AeadStreamsSaid := over
#print axioms proved
end Go.Proofs.Ytopmngjaieobnaa.aeadStreams
