/-
  Proved: for all inputs PolyEdges answers true: of keys and bytes that are all ones, or noughts, but for some, the tag is told. No condition.
-/
import Derived.Test.YtopmngjaieobnaaU5
import Derived.Test.YtopmngjaieobnaaP7
import Derived.Test.YtopmngjaieobnaaOa
import Derived.Deep.DeepCutAuto
namespace Go.Proofs.Ytopmngjaieobnaa.polyEdges
open Go.ChangeShapes Go.WideShapes Go.ChangeAt Go.RowKit
set_option linter.unusedVariables false

theorem hid_ {p : Prop} (h : p) : Hid p := h
/-- An array of three integers, taken by value. -/
theorem open_arr3 {H : Type} {enc : TypeId × Value → H} {P : Program} {k : IntKind} {t e : TypeId} {w : World} {b0 base : Nat} {sp : Nat → Bool} {held : Bool} {r : Reach} {v : Value} {d : DataW H} {p : List MemPlace}
    (ht : P.underlying t = some (.array 3 e)) (he : P.underlying e = some (.int k)) (hc : P.cellsOf e = 1) (hct : P.cellsOf t = 3)
    (hv : Value.okWide P w r b0 t v) (h : DataW.Trod enc P w base sp held t v d p) :
    ∃ a b c : Int, v = .agg #[.int k a, .int k b, .int k c] ∧ (Lit.int k a).wf = true ∧ (Lit.int k b).wf = true ∧ (Lit.int k c).wf = true := by
  obtain ⟨cs, rfl, hsz, _⟩ : ∃ cs, v = .agg cs ∧ cs.size = P.cellsOf t ∧ Row.okWide P w r b0 t cs := by simpa [Value.okWide, ht] using hv
  rw [hct] at hsz
  obtain ⟨l⟩ := cs
  match l, hsz with
  | [c0, c1, c2], _ =>
    obtain ⟨fuel, hf⟩ := h
    obtain ⟨xs, m, _, _, _, hl, hel⟩ := DataW.trod_array ht hf
    have h0 := hel 0 (by omega)
    have h1 := hel 1 (by omega)
    have h2 := hel 2 (by omega)
    rw [hc] at h0 h1 h2
    rw [List.getElem?_eq_getElem (by omega)] at h0 h1 h2
    obtain ⟨a, e0, _, wa⟩ := DataW.trod_int he h0
    obtain ⟨b, e1, _, wb⟩ := DataW.trod_int he h1
    obtain ⟨c, e2, _, wc⟩ := DataW.trod_int he h2
    simp [Value.cells] at e0 e1 e2
    exact ⟨a, b, c, by rw [e0, e1, e2], wa, wb, wc⟩
theorem u64_nat (z : Int) : ∃ x : Nat, IntKind.u64.wrap z = (x : Int) ∧ x ≤ 18446744073709551615 := by
  refine ⟨(z % 18446744073709551616).toNat, ?_, by omega⟩
  rw [IntKind.wrap_u64]
  omega
/-- The worlds of the last line: behind w, all stands. -/
def PtC (w : World) (W : World) : Prop := Below w.heap.size w W

set_option maxRecDepth 100000 in
set_option maxHeartbeats 4000000 in
theorem walk (w : World) (a b c z y : Int) (ha : 0 ≤ a ∧ a ≤ 18446744073709551615) (hb : 0 ≤ b ∧ b ≤ 18446744073709551615) (hy : 0 ≤ y ∧ y ≤ 255) :
    Calls Try.prog 4 #[.agg #[.int .u64 a, .int .u64 b, .int .u64 c], .int .i64 z, .int .u8 y] w fun e w' => e = .returned (.bool true) ∧ Below w.heap.size w w' := by
  have hz16 := z16
  have hz32 := z32
  obtain ⟨ha0, ha1⟩ := ha
  obtain ⟨hb0, hb1⟩ := hb
  obtain ⟨hy0, hy1⟩ := hy
  have e32 : ∀ l : List UInt8, l.length = 32 → (Try.prog.info? 22).map (·.size) = some (rowOf l).size := fun l h => by rw [rowOf_size, h]; exact i32_
  have E32 := hid_ e32
  have e16 : ∀ l : List UInt8, l.length = 16 → (Try.prog.info? 24).map (·.size) = some (rowOf l).size := fun l h => by rw [rowOf_size, h]; exact i16_
  have E16 := hid_ e16
  obtain ⟨x, hx, hxb⟩ := u64_nat z
  obtain ⟨n, hn⟩ : ∃ n : Nat, (x : Int) % 70 = (n : Int) := ⟨x % 70, by omega⟩
  have hn70 : n < 70 := by omega
  have hmk0 := fun W => mk8 n (by omega) W
  obtain ⟨g, hg⟩ : ∃ g, Hid (w.heap.size = g) := ⟨_, rfl⟩
  obtain ⟨w0, hw0⟩ : ∃ W, Hid ((w.alloc (.cells #[.int .u64 a, .int .u64 b, .int .u64 c] 30)).alloc (.cells (rowOf (zbytes 32)) 22) = W) := ⟨_, rfl⟩
  have O0 : Hid (Bk w0 g 30 #[.int .u64 a, .int .u64 b, .int .u64 c]) := hid_ (by rw [← hw0.out, ← hg.out]; exact (Bk.new w _ _).alloc _)
  have K0 : Hid (Bk w0 (g + 1) 22 (rowOf (zbytes 32))) := hid_ (by
    have h := Bk.new (w.alloc (.cells #[.int .u64 a, .int .u64 b, .int .u64 c] 30)) 22 (rowOf (zbytes 32))
    rw [← hw0.out, ← hg.out]
    simpa using h)
  have X0 : Hid (Below g w w0) := hid_ (by rw [← hw0.out, ← hg.out]; exact ((Below.refl _ _).alloc (Nat.le_refl _) _).alloc (by simp) _)
  have hs1 : (w.alloc (.cells #[.int .u64 a, .int .u64 b, .int .u64 c] 30)).heap.size = g + 1 := by rw [← hg.out]; simp
  clear e32 e16
  go_enter Try.func4, Try.ntmps4
  go_upto_region 2 with fail
  first | rw [hs1] | skip
  rw [hg.out, hw0.out]
  clear hs1
  go_wp2
  go_loopw [8] (fun i wr => ∃ (k : Nat) (K : List UInt8), k ≤ 32 ∧ i = .int .i64 k ∧ Hid (K.length = 32) ∧ Hid (Bk wr g 30 #[.int .u64 a, .int .u64 b, .int .u64 c]) ∧ Hid (Bk wr (g + 1) 22 (rowOf K)) ∧ Hid (Below g w wr)) (fun i _ => 32 - (intOf i).toNat)
  case atStart => exact ⟨0, _, by omega, rfl, zbytes_len 32, O0, K0, X0⟩
  case round =>
    obtain ⟨k, K, hk, rfl, KL, O, KB, X⟩ := hrel
    clear O0 K0 X0
    by_cases hlt : k < 32
    · have hd : decide ((k : Int) < 32) = true := decide_eq_true (by omega)
      have hc0 : wr.cell? ⟨g, 0, none⟩ = some (.int .u64 a) := O.out.cell 0
      have hc := KB.out.cell k
      rw [rowOf_at _ _ (by rw [KL.out]; exact hlt)] at hc
      have hf := KB.out.frozen k
      have hset := KB.out.set_ k (.int .u8 (((255 : UInt8).toNat : Nat) : Int))
      rw [rowOf_set] at hset
      have HS : Hid (Bk (wr.setCell ⟨g + 1, k, none⟩ (.int .u8 255)) (g + 1) 22 (rowOf (K.set k 255))) := hid_ hset
      have KL2 : Hid ((K.set k 255).length = 32) := hid_ (by rw [List.length_set, KL.out])
      have HO := hid_ (O.out.far (p := ⟨g + 1, k, none⟩) (by simp) (.int .u8 255))
      have HX := hid_ (X.out.setCell (p := ⟨g + 1, k, none⟩) (by simp) (.int .u8 255))
      have t0 : (0 : Int) ≤ (k : Int) := by omega
      have t1 : (k : Int) < 32 := by omega
      clear hset
      obtain ⟨q, hq⟩ : ∃ q, (bits .and .u64 (a / 2 ^ k) 1 == 1) = q := ⟨_, rfl⟩
      cases q
      · clear HS KL2 HO HX
        go_wp2
        go_roundw
        case rel => exact ⟨k + 1, K, by omega, by go_num, KL, O, KB, X⟩
        case measure => simp [intOf]; omega
      · go_wp2
        go_roundw
        case rel => exact ⟨k + 1, _, by omega, by go_num, KL2, HO, HS, HX⟩
        case measure => simp [intOf]; omega
    · have hd : decide ((k : Int) < 32) = false := decide_eq_false (by omega)
      obtain ⟨G, hG⟩ : ∃ G, Hid (wr.heap.size = G) := ⟨_, rfl⟩
      have hmk1 := hmk0 wr
      rw [hG.out] at hmk1
      obtain ⟨w1, hw1⟩ : ∃ W, Hid (wr.alloc (.cells (rowOf (List.replicate n 0)) 5) = W) := ⟨_, rfl⟩
      rw [hw1.out] at hmk1
      have hgG : g + 1 < G := by rw [← hG.out]; exact KB.out.lt
      have O1 : Hid (Bk w1 g 30 #[.int .u64 a, .int .u64 b, .int .u64 c]) := hid_ (by rw [← hw1.out]; exact O.out.alloc _)
      have K1 : Hid (Bk w1 (g + 1) 22 (rowOf K)) := hid_ (by rw [← hw1.out]; exact KB.out.alloc _)
      have X1 : Hid (Below g w w1) := hid_ (by rw [← hw1.out]; exact X.out.alloc (by rw [hG.out]; omega) _)
      have G1 : Hid (Bk w1 G 5 (rowOf (List.replicate n 0))) := hid_ (by rw [← hw1.out, ← hG.out]; exact Bk.new wr _ _)
      clear O KB X hw1 hG hmk0
      go_wp2
      clear hmk1 hx hn
      go_loopw [10] (fun i wr => ∃ (j : Nat) (l : List UInt8), j ≤ n ∧ i = .int .i64 j ∧ Hid (l.length = n) ∧ Hid (Bk wr g 30 #[.int .u64 a, .int .u64 b, .int .u64 c]) ∧ Hid (Bk wr (g + 1) 22 (rowOf K)) ∧ Hid (Bk wr G 5 (rowOf l)) ∧ Hid (Below g w wr)) (fun i _ => n - (intOf i).toNat)
      case atStart => exact ⟨0, _, by omega, rfl, hid_ (by simp), O1, K1, G1, X1⟩
      case round =>
        obtain ⟨j, l, hj, rfl, LL, O, KB, GB, X⟩ := hrel
        clear O1 K1 X1 G1
        by_cases hltj : j < n
        · have hd2 : decide ((j : Int) < (n : Int)) = true := decide_eq_true (by omega)
          have hd3 : decide (j < n) = true := decide_eq_true hltj
          have hc0 : wr.cell? ⟨g, 1, none⟩ = some (.int .u64 b) := O.out.cell 1
          have hc := GB.out.cell j
          rw [rowOf_at _ _ (by rw [LL.out]; exact hltj)] at hc
          have hf := GB.out.frozen j
          have hset := GB.out.set_ j (.int .u8 (((255 : UInt8).toNat : Nat) : Int))
          rw [rowOf_set] at hset
          have HS : Hid (Bk (wr.setCell ⟨G, j, none⟩ (.int .u8 255)) G 5 (rowOf (l.set j 255))) := hid_ hset
          have LL2 : Hid ((l.set j 255).length = n) := hid_ (by rw [List.length_set, LL.out])
          have HO := hid_ (O.out.far (p := ⟨G, j, none⟩) (by simp; omega) (.int .u8 255))
          have HK := hid_ (KB.out.far (p := ⟨G, j, none⟩) (by simp; omega) (.int .u8 255))
          have HX := hid_ (X.out.setCell (p := ⟨G, j, none⟩) (by simp; omega) (.int .u8 255))
          have t0 : (0 : Int) ≤ (j : Int) := by omega
          have t1 : ((j : Int) % 64).toNat = j % 64 := by omega
          have t2 : (0 : Int) ≤ (j : Int) % 64 := by omega
          clear hset
          obtain ⟨q, hq⟩ : ∃ q, (bits .and .u64 (b / 2 ^ (j % 64)) 1 == 1) = q := ⟨_, rfl⟩
          cases q
          · clear HS LL2 HO HX HK
            go_wp2
            go_roundw
            case rel => exact ⟨j + 1, l, by omega, by go_num, LL, O, KB, GB, X⟩
            case measure => simp [intOf]; omega
          · go_wp2
            go_roundw
            case rel => exact ⟨j + 1, _, by omega, by go_num, LL2, HO, HK, HS, HX⟩
            case measure => simp [intOf]; omega
        · have hd2 : decide ((j : Int) < (n : Int)) = false := decide_eq_false (by omega)
          have hd3 : decide (j < n) = false := decide_eq_false hltj
          have hyb : Hid ((((UInt8.ofNat y.toNat).toNat : Nat) : Int) = y) := hid_ (by
            have : (UInt8.ofNat y.toNat).toNat = y.toNat := by simp; omega
            rw [this]; omega)
          by_cases h0 : n = 0
          case' pos =>
            have t1 : decide ((0 : Int) < (n : Int)) = false := decide_eq_false (by omega)
            have t2 : decide (0 < n) = false := decide_eq_false (by omega)
            have t3 : ¬ 0 < n := by omega
            have WT : True := trivial
            clear h0 hyb
            go_upto_region 15 with fail
            obtain ⟨w2, hw2⟩ : ∃ W, W = wr := ⟨_, rfl⟩
            rw [← hw2] at O KB GB X ⊢
            clear hw2 hltj hj
          case' neg =>
            have t1 : decide ((0 : Int) < (n : Int)) = true := decide_eq_true (by omega)
            have t2 : decide (0 < n) = true := decide_eq_true (by omega)
            have t3 : 0 < n := by omega
            have hc := GB.out.cell (n - 1)
            rw [rowOf_at _ _ (by rw [LL.out]; omega)] at hc
            have hf := GB.out.frozen (n - 1)
            have hset := GB.out.set_ (n - 1) (.int .u8 (((UInt8.ofNat y.toNat).toNat : Nat) : Int))
            rw [rowOf_set, hyb.out] at hset
            have LL2 : Hid ((l.set (n - 1) (UInt8.ofNat y.toNat)).length = n) := hid_ (by rw [List.length_set, LL.out])
            have O2 := hid_ (O.out.far (p := ⟨G, n - 1, none⟩) (by simp; omega) (.int .u8 y))
            have KB2 := hid_ (KB.out.far (p := ⟨G, n - 1, none⟩) (by simp; omega) (.int .u8 y))
            have X2 := hid_ (X.out.setCell (p := ⟨G, n - 1, none⟩) (by simp; omega) (.int .u8 y))
            have GB2 := hid_ hset
            have t4 : ((n : Int) - 1).toNat = n - 1 := by omega
            have t5 : (0 : Int) ≤ (n : Int) - 1 := by omega
            have t6 : (n : Int) - 1 < (n : Int) := by omega
            clear hset h0 hyb O KB GB X LL
            go_upto_region 15 with fail
            obtain ⟨w2, hw2⟩ : ∃ W, Hid (wr.setCell ⟨G, n - 1, none⟩ (.int .u8 y) = W) := ⟨_, rfl⟩
            rw [hw2.out] at O2 KB2 GB2 X2 ⊢
            clear hw2 hc hf hltj hj
            have O := O2
            have KB := KB2
            have X := X2
            have GB := GB2
            have LL := LL2
            clear O2 KB2 X2 GB2 LL2
            generalize l.set (n - 1) (UInt8.ofNat y.toNat) = l at *
          all_goals
            have R2 : Hid (Rd w2 w2.heap.size (some ⟨G, 0, none⟩) l) := hid_ (rd_of_bk GB.out GB.out.lt)
            have ct := tag_any K (some ⟨G, 0, none⟩) n n l w2 KL.out LL.out (Nat.le_refl _) (by omega) R2.out
            obtain ⟨T, hT⟩ : ∃ T, Hid (polyTag K l = T) := ⟨_, rfl⟩
            have TL : Hid (T.length = 16) := hid_ (by rw [← hT.out]; exact polyTag_len _ _)
            rw [hT.out] at ct
            have K1 := KB.out
            go_upto_region 16 with (first
              | (refine wpList_load_row rfl 22 (.tmp 7) rfl (g + 1) rfl 22 (rowOf K) (0, 0) _ K1 Try.underlying22 rfl (E32.out _ KL.out) ?_)
              | (go_at_call 14; ((with_reducible refine ct.mono ?_); rintro e w3 ⟨rfl, hb3⟩; have HB3 := hid_ hb3; clear hb3))
              | (refine wpList_put_row rfl 24 (.tmp 11) (.tmp 56) rfl w3.heap.size (rowOf T) rfl rfl 24 (rowOf (zbytes 16)) (Bk.new w3 _ _) (E16.out _ TL.out) (by rw [rowOf_size, rowOf_size, TL.out, zbytes_len]) (bytes_one _) ?_; intro w4 k4 g4 s4))
            rw [put_none]
            have hwl := HB3.out.size
            have Y4 : Below w2.heap.size w2 w4 := (HB3.out.alloc hwl (.cells (rowOf (zbytes 16)) 24)).grown g4 (by simp; omega) (fun i hi => by injection hi with hi; omega)
            have HK4 := hid_ k4
            have B4 := hid_ (KB.out.below Y4 KB.out.lt)
            have X4 := hid_ (X.out.trans (Y4.mono (by have := KB.out.lt; omega)))
            have R4 := (R2.out.below Y4).more Y4.size
            obtain ⟨D, hD⟩ : ∃ D, Hid (w3.heap.size = D) := ⟨_, rfl⟩
            rw [hD.out] at HK4 ⊢
            have V1 : Hid (∀ W : World, PtC w4 W → (convert 23 9 (.slice (some ⟨D, 0, none⟩) 16 16)).run Try.prog W = .ok (.string (strOf T)) W) := hid_ (fun W h => conv_strn ((HK4.out.below h HK4.out.lt).rd (Nat.lt_succ_self _)) 16 16 TL.out)
            have V2 : Hid (∀ W : World, PtC w4 W → (convert 23 9 (.slice (some ⟨g + 1, 0, none⟩) 32 32)).run Try.prog W = .ok (.string (strOf K)) W) := hid_ (fun W h => conv_strn ((B4.out.below h B4.out.lt).rd (Nat.lt_succ_self _)) 32 32 KL.out)
            have V3 : Hid (∀ W : World, PtC w4 W → (convert 23 9 (.slice (some ⟨G, 0, none⟩) n n)).run Try.prog W = .ok (.string (strOf l)) W) := hid_ (fun W h => conv_strn (R4.below h) n n LL.out)
            have P1 : Hid (∀ W : World, PtC w4 W → Calls Try.prog 15 #[] W fun e w' => e = .returned (.bool true) ∧ PtC w4 w') := hid_ (fun W h => (tags_any W).mono fun e w' hh => ⟨hh.1, h.trans (hh.2.mono h.size)⟩)
            have P2 : Hid (∀ W : World, PtC w4 W → Calls Try.prog 16 #[.string (strOf K), .string (strOf l)] W fun e w' => e = .returned (.string (strOf T)) ∧ PtC w4 w') := hid_ (fun W h => (refTag_any K l n W KL.out LL.out (by omega)).mono fun e w' hh => ⟨by rw [← hT.out]; exact hh.1, h.trans (hh.2.mono h.size)⟩)
            have s1 := slice_all16 D
            have s2 := slice_all32 (g + 1)
            have HC : PtC w4 { w4 with drawn := w4.drawn + 1 } := (Below.refl _ w4).drew
            clear R4 Y4 hwl k4 g4 s4 ct K1
            refine region_quiet_in (C := PtC w4) (by kernel_rfl) (by kernel_rfl) HC ?_
            clear HC
            repeat (go_big_quiet_want; (first
              | (refine BigFrame.quiet_move _ rfl ?_; go_simp)
              | (refine BigFrame.quiet_assign _ rfl ?_; go_simp)
              | (refine quiet_call (.bool true) 15 #[] ?_ P1.out ?_; (focus (intro W; go_simp; done)); go_simp)
              | (refine quiet_call (.string (strOf T)) 16 #[.string (strOf K), .string (strOf l)] ?_ P2.out ?_; (focus (intro W; go_simp; done)); go_simp)
              | (refine quiet_run (.bool true) ?_ ?_; (focus (intro W hW; go_simp; done)); go_simp)
              | (refine quiet_run (.slice (some ⟨D, 0, none⟩) 16 16) ?_ ?_; (focus (intro W hW; go_simp; done)); go_simp)
              | (refine quiet_run (.slice (some ⟨g + 1, 0, none⟩) 32 32) ?_ ?_; (focus (intro W hW; go_simp; done)); go_simp)
              | (refine quiet_run (.string (strOf T)) ?_ ?_; (focus (intro W hW; have h := V1.out W hW; go_simp; done)); go_simp)
              | (refine quiet_run (.string (strOf K)) ?_ ?_; (focus (intro W hW; have h := V2.out W hW; go_simp; done)); go_simp)
              | (refine quiet_run (.string (strOf l)) ?_ ?_; (focus (intro W hW; have h := V3.out W hW; go_simp; done)); go_simp)); go_big_quiet_on)
            refine wpQuiet_nil ?_
            intro W hW
            have HW := hid_ hW
            clear hW
            go_wp2
            go_ret
            exact ⟨rfl, by rw [hg.out]; exact X4.out.trans (HW.out.mono (by have := B4.out.lt; omega))⟩

set_option maxRecDepth 100000 in
theorem lifted (os : Os) (started : os.Started) (H : Type) (enc : TypeId × Value → H) :
    ReturnsInHanded {} Try.checked os 4 .any (Rows.polyEdgesSpec.pre6 enc Try.prog Try.f4 Rows.polyEdgesRow.domain false) (Rows.polyEdgesSpec.post enc Try.prog Try.f4 false true false false) := by
  refine returnsInHanded_of_change (C := Try.checked) own_ started (by kernel_rfl) Try.func4
    (ChangeSpec.witness6 (enc := enc) (C := Try.checked) false ⟨#[], #[.agg #[.int .u64 0, .int .u64 0, .int .u64 0], .int .i64 0, .int .u8 0], []⟩ 8 (by kernel_rfl) (by kernel_rfl) (by kernel_rfl) (by kernel_rfl)) ?_
  intro W base args ds gs before hval0 hW hcnd _
  have hval : ∀ (j : Nat) t v, Try.f4.params[j]? = some t → args[j]? = some v → Value.okWide Try.prog W .any base t v := hval0
  have hW' := hW
  obtain ⟨p, q, hA0, hV, rfl, hfz, hnd⟩ := hW
  have hA : DataW.TrodAll enc Try.prog W 0 (fun _ => true) true Try.f4.params.toList args.toList ds p := hA0
  rw [Try.params4] at hA hval
  obtain ⟨v0, vs0, d0, ds0, p0, q0, hargs, rfl, rfl, h0, r0⟩ := trodAll_cons hA
  obtain ⟨v1, vs1, d1, ds1, p1, q1, rfl, rfl, rfl, h1, r1⟩ := trodAll_cons r0
  obtain ⟨v2, vs2, d2, ds2, p2, q2, rfl, rfl, rfl, h2, r2⟩ := trodAll_cons r1
  obtain ⟨rfl, rfl, rfl⟩ := trodAll_nil r2
  obtain rfl : args = #[v0, v1, v2] := by cases args; simp_all
  obtain ⟨rfl, rfl⟩ := trodVars_none hV
  obtain ⟨n0, n1, n2, rfl, u0, u1, _⟩ := open_arr3 Try.underlying30 Try.underlying29 (by kernel_rfl) (by kernel_rfl) (hval 0 30 v0 rfl rfl) h0
  obtain ⟨a1, rfl, rfl, rfl, w1⟩ := open_int Try.underlying3 (hval 1 3 v1 rfl rfl) h1
  obtain ⟨b1, e1⟩ := bounds_i64 w1
  obtain ⟨a2, rfl, rfl, rfl, w2⟩ := open_int Try.underlying5 (hval 2 5 v2 rfl rfl) h2
  obtain ⟨b2, e2⟩ := bounds_u8 w2
  refine (walk W n0 n1 n2 a1 a2 (bounds_u64 u0) (bounds_u64 u1) ⟨b2, e2⟩).mono fun e W' ⟨he, hg⟩ => ⟨_, he, ?_⟩
  exact law_post laidOut_ (of_decide_eq_true (by kernel_rfl)) rfl rfl Try.underlying4 rfl hW' hg

theorem over : Rows.polyEdgesRow.holds Try.pinned (OpenSpec.ofChange Rows.polyEdgesSpec) :=
  OpenClaim.holds_of_wide 4 Try.f4 rfl rfl rfl rfl rfl rfl rfl ⟨rfl, rfl, rfl, rfl, rfl⟩ rfl rfl rfl rfl rfl (by kernel_rfl) Try.func4 (by kernel_rfl)
    (of_decide_eq_true (by kernel_rfl)) (by unfold Func.isWrapper; first | (rw [if_pos (by decide +kernel)]; kernel_rfl) | (rw [if_neg (by decide +kernel)]; exact ⟨rfl, rfl⟩))
    (fun os started H enc _ => lifted os started H enc)

theorem proved : Rows.PolyEdgesSaid := over
#print axioms proved
end Go.Proofs.Ytopmngjaieobnaa.polyEdges
