/-
  casketlaw14.tame.
-/
import Derived.Test.YtjflmfmncepeeaaIj
namespace Go.Proofs.Ytjflmfmncepeeaa
open Go.ChangeShapes Go.WideShapes Go.ChangeAt Go.RowKit
set_option linter.unusedVariables false
set_option linter.unusedSimpArgs false

theorem iRX_ : (Try.prog.info? 25).map (·.size) = some 17 := by kernel_rfl
theorem sliceD_to (A : Option Addr) (n c : Nat) (z : Int) (k : Nat) (hz : z = (k : Int)) (hk : k ≤ c) (W : World) :
    (Instr.slice 23 (.slice A n c) none (some (.int .i64 z)) none).run Try.prog W = .ok (.slice A k c) W := by
  subst hz
  have he : Try.prog.elem 23 = 27 := by kernel_rfl
  rw [run_slice_h W 23 A n c (by rw [he]; exact Try.underlying23) .i64 k (by omega) (by omega)]
  have hs : (sizeOf (Try.prog.elem 23)).run Try.prog W = .ok 2 W := by
    rw [he]
    kernel_rfl
  rw [hs]
  simp only [Result.andThen]
  cases A with
  | none => by_cases h : c = 0 <;> simp [sliced, h]
  | some a => by_cases h : c = 0 <;> simp [sliced, h, Addr.add]
theorem zRX_ (W : World) : (zeroValue 25).run Try.prog W = .ok (.agg (ctxRow (List.replicate 16 0) none 0 0)) W := by kernel_rfl

theorem grown_cell (w : World) (g k : Nat) (u : Value) : w.grownBy (w.setCell ⟨g, k, none⟩ u) (some g) :=
  ⟨rfl, rfl, rfl, by simp, fun j _ hne => Below.heap_setCell w ⟨g, k, none⟩ u j (fun e => hne (by rw [e]))⟩
theorem RdD.far {w : World} {B : Nat} {A : Option Addr} {ms : List DotV} (h : RdD w B A ms) (p : Addr) (u : Value) (hp : 0 < ms.length → ∀ b off, A = some ⟨b, off, none⟩ → b ≠ p.block) : RdD (w.setCell p u) B A ms := fun hn => by
  obtain ⟨b, off, e, hlt, hc⟩ := h hn
  have hne := hp hn b off e
  exact ⟨b, off, e, hlt, fun j hj => ⟨(World.cell?_of_block (Below.heap_setCell w p u b hne)).trans (hc j hj).1, (World.cell?_of_block (Below.heap_setCell w p u b hne)).trans (hc j hj).2⟩⟩
theorem RdD.grownR {w w' : World} {B g : Nat} {A : Option Addr} {ms : List DotV} (h : RdD w B A ms) (hB : B ≤ w.heap.size) (hg : w.grownBy w' (some g)) (hp : 0 < ms.length → ∀ b off, A = some ⟨b, off, none⟩ → b ≠ g) : RdD w' B A ms := fun hn => by
  obtain ⟨b, off, e, hlt, hc⟩ := h hn
  have hne := hp hn b off e
  have hk := fun j => World.cell?_of_block (a := ⟨b, j, none⟩) (hg.block b (by omega) (fun e => by injection e with e; exact hne e))
  exact ⟨b, off, e, hlt, fun j hj => ⟨(hk _).trans (hc j hj).1, (hk _).trans (hc j hj).2⟩⟩
theorem ctxRow_put (up : List Int) (A : Option Addr) (n c : Nat) (h : up.length = 16) (A' : Option Addr) (n' c' : Nat) : (ctxRow up A n c).setIfInBounds 16 (.slice A' n' c') = ctxRow up A' n' c' := by
  simp [ctxRow, h]
theorem ctxRow_one (up : List Int) (A : Option Addr) (n c : Nat) : (ctxRow up A n c).all (·.oneCell') = true := by
  simp [ctxRow, Value.oneCell']

set_option maxRecDepth 100000 in
set_option maxHeartbeats 8000000 in
theorem tame_t (w : World) (up : List Int) (hu : up.length = 16) (A : Option Addr) (n c : Nat) (ms : List DotV) (hn : ms.length = n) (hc : n ≤ c) (hc7 : c ≤ 9223372036854775807) (hr : RdD w w.heap.size A ms) :
    Calls Try.prog 9 #[.agg (ctxRow up A n c)] w fun e w' => ∃ A' c', e = .returned (.agg (ctxRow up A' (min n 40) c')) ∧ RdD w' w'.heap.size A' (ms.take 40) ∧ min n 40 ≤ c' ∧ c' ≤ 9223372036854775807 ∧ Below w.heap.size w w' ∧ (0 < min n 40 → ∀ b off, A' = some ⟨b, off, none⟩ → w.heap.size ≤ b) ∧ TyD w' A' (ms.take 40) := by
  obtain ⟨g, hg⟩ : ∃ g, w.heap.size = g := ⟨_, rfl⟩
  obtain ⟨w0, hw0⟩ : ∃ w0, w.alloc (.cells (ctxRow up A n c) 25) = w0 := ⟨_, rfl⟩
  have K0 := hidd_ (show Bk w0 g 25 (ctxRow up A n c) by rw [← hw0, ← hg]; exact Bk.new w _ _)
  have X0 := hidd_ (show Below g w w0 by rw [← hw0, ← hg]; exact (Below.refl _ _).alloc (Nat.le_refl _) _)
  have S0 : w0.heap.size = g + 1 := by rw [← hw0, ← hg]; simp
  obtain ⟨m, hm⟩ : ∃ m, m = min n 40 := ⟨_, rfl⟩
  have hz := zRX_
  have hm1 := fun W ts t => run_min2 n 40 m hm W ts t
  rw [show ((40 : Nat) : Int) = 40 from rfl] at hm1
  have hs1 := fun W => sliceD_to A n c (m : Int) m rfl (by omega) W
  go_enter Try.func9, Try.ntmps9
  go_upto_region 1 with fail
  generalize hw1 : w0.alloc _ = w1
  have b1 : Below w0.heap.size w0 w1 := by rw [← hw1]; exact (Below.refl _ _).alloc (Nat.le_refl _) _
  have S1 : w1.heap.size = g + 2 := by rw [← hw1]; simp [S0]
  have R1 : Bk w1 (g + 1) 25 (ctxRow (List.replicate 16 0) none 0 0) := by rw [← hw1, ← S0]; exact Bk.new w0 _ _
  have K1 := K0.out.below b1 K0.out.lt
  have X1 := X0.out.trans (b1.mono (by omega))
  obtain ⟨w2, hw2⟩ : ∃ x, w1.alloc (.cells #[] 27) = x := ⟨_, rfl⟩
  have b2 : Below w1.heap.size w1 w2 := by rw [← hw2]; exact (Below.refl _ _).alloc (Nat.le_refl _) _
  have K2 := K1.below b2 K1.lt
  have R2 := R1.below b2 R1.lt
  have X2 := X1.trans (b2.mono (by omega))
  have hcx := (K2.cell 16).trans (ctxRow_more up A n c hu)
  have hwl : wpList = wpList := rfl
  have HR2 := hidd_ ((hr.below (by rw [hg]; exact X2)).take 40)
  have LM := hidd_ (show (ms.take 40).length = m by rw [List.length_take, hn, hm, Nat.min_comm])
  have M6 : m ≤ 1000000 := by omega
  have HX2 := hidd_ X2
  have HK2 := hidd_ K2
  have HR := hidd_ R2
  have HU := hidd_ hu
  have HM := hidd_ hm
  clear b1 b2 K0 K1 R1 X0 X1 R2 X2 K2 hr hz hwl hu hn hm hw0 hw1 S0
  have IX := hidd_ (fun A n c => (show (Try.prog.info? 25).map (·.size) = some (ctxRow up A n c).size by rw [ctxRow_size up A n c HU.out]; exact iRX_))
  go_upto_region 2 with (first
    | (refine wpList_appD0 rfl (.tmp 3) (.tmp 10) rfl ⟨g + 2, 0, none⟩ rfl m c rfl HR2.out LM.out M6 ?_; intro A' c' w3 hr3 hm3 hc3 hb3 hA3 hT3; have HT3 := hidd_ hT3; clear hT3; have K3 := hidd_ (HK2.out.below hb3 HK2.out.lt); have R3 := hidd_ (HR.out.below hb3 HR.out.lt); have X3 := hidd_ (HX2.out.trans (hb3.mono (Nat.le_of_lt HK2.out.lt))); have hcx3 := (K3.out.cell 16).trans (ctxRow_more up A n c HU.out); have hfx3 := K3.out.frozen 16; have HR3 := hidd_ hr3; clear hr3 hb3)
    | fail)
  have e4 := ctxRow_put up A n c HU.out A' m c'
  generalize hw4 : w3.setCell _ _ = w4
  have S4 : w4.heap.size = w3.heap.size := by rw [← hw4]; simp
  have K4 := hidd_ (show Bk w4 g 25 (ctxRow up A' m c') by rw [← hw4, ← e4]; exact K3.out.set_ 16 _)
  have R4 := hidd_ (show Bk w4 (g + 1) 25 (ctxRow (List.replicate 16 0) none 0 0) by rw [← hw4]; exact R3.out.far (by simp) _)
  have X4 := hidd_ (show Below g w w4 by rw [← hw4]; exact X3.out.setCell (by simp) _)
  have R4D := hidd_ (show RdD w4 w4.heap.size A' (ms.take 40) by
    rw [S4, ← hw4]
    refine HR3.out.far _ _ fun h b off e => ?_
    rw [LM.out] at h
    rw [hA3 h] at e
    injection e with e
    injection e with e
    have := HK2.out.lt
    simp only
    omega)
  have HA4 := hidd_ (fun (h : 0 < m) (b off : Nat) (e : A' = some ⟨b, off, none⟩) => (show b ≠ g + 1 by
    rw [hA3 h] at e
    injection e with e
    injection e with e
    have := HR.out.lt
    omega))
  have TY4 := hidd_ (show TyD w4 A' (ms.take 40) from HT3.out.grown (by rw [← hw4]; exact grown_cell w3 g 16 _) fun h b off e => by
    rw [LM.out] at h
    rw [hA3 h] at e
    injection e with e
    injection e with e
    have := HK2.out.lt
    omega)
  have HA5 := hidd_ (fun (h : 0 < m) (b off : Nat) (e : A' = some ⟨b, off, none⟩) => (show g ≤ b by
    rw [hA3 h] at e
    injection e with e
    injection e with e
    have := HR.out.lt
    omega))
  clear hw4 e4 hcx3 hfx3 K3 R3 X3 HR3 HR2 HX2 HK2 HR hcx hw2 hA3
  go_wp2_with (first
    | (refine wpList_load_row rfl 25 (.tmp 1) rfl g rfl 25 (ctxRow up A' m c') (0, 0) _ K4.out Try.underlying25 rfl (IX.out A' m c') ?_)
    | (refine wpList_put_row rfl 25 _ _ rfl (g + 1) (ctxRow up A' m c') rfl rfl 25 (ctxRow (List.replicate 16 0) none 0 0) R4.out (IX.out A' m c') (by rw [ctxRow_size _ _ _ _ HU.out]; rfl) (ctxRow_one _ _ _ _) ?_; intro w5 k5 g5 s5))
  have k0 := K4.out.grown g5 (by simp)
  rw [← HM.out]
  have hle : w4.heap.size ≤ w5.heap.size := by omega
  refine bodyPost_ret (results_cell_row Try.results9 _ _ (g + 1) 25 _ (0, 0) _ rfl k5 Try.underlying25 rfl (IX.out A' m c')) rfl ⟨A', c', rfl, (R4D.out.grownR (Nat.le_refl _) g5 fun h b off e => HA4.out (by rw [LM.out] at h; exact h) b off e).more hle, hm3, hc3, by rw [hg]; exact X4.out.grown g5 (by have := K4.out.lt; omega) (fun k hk => by injection hk with hk; omega), fun h b off e => by rw [hg]; exact HA5.out h b off e, TY4.out.grown g5 fun h b off e => HA4.out (by rw [LM.out] at h; exact h) b off e⟩
theorem tame_any (w : World) (up : List Int) (hu : up.length = 16) (A : Option Addr) (n c : Nat) (ms : List DotV) (hn : ms.length = n) (hc : n ≤ c) (hc7 : c ≤ 9223372036854775807) (hr : RdD w w.heap.size A ms) :
    Calls Try.prog 9 #[.agg (ctxRow up A n c)] w fun e w' => ∃ A' c', e = .returned (.agg (ctxRow up A' (min n 40) c')) ∧ RdD w' w'.heap.size A' (ms.take 40) ∧ min n 40 ≤ c' ∧ c' ≤ 9223372036854775807 ∧ Below w.heap.size w w' ∧ (0 < min n 40 → ∀ b off, A' = some ⟨b, off, none⟩ → w.heap.size ≤ b) :=
  (tame_t w up hu A n c ms hn hc hc7 hr).mono fun e w' ⟨A', c', h1, h2, h3, h4, h5, h6, _⟩ => ⟨A', c', h1, h2, h3, h4, h5, h6⟩
end Go.Proofs.Ytjflmfmncepeeaa
