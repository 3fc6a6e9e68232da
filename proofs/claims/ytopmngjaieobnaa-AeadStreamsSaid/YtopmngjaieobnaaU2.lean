/-
  Contracts: the reference's Poly1305: prime, less, carry.
-/
import Derived.Test.YtopmngjaieobnaaU0
import Derived.Test.YtopmngjaieobnaaBk
namespace Go.Proofs.Ytopmngjaieobnaa
open Go.RowKit
set_option linter.unusedVariables false

theorem hidu_ {p : Prop} (h : p) : Hid p := h
/-- The cells of a row of ints. -/
def rowI (l : List Int) : Array Value := (l.map (Value.int .i64)).toArray
theorem rowI_size (l : List Int) : (rowI l).size = l.length := by simp [rowI]
theorem rowI_at (l : List Int) (i : Nat) (h : i < l.length) : (rowI l)[i]? = some (.int .i64 (l.getD i 0)) := by
  simp [rowI, List.getD, h]
theorem rowI_set (l : List Int) (i : Nat) (x : Int) : (rowI l).setIfInBounds i (.int .i64 x) = rowI (l.set i x) := by
  simp [rowI, List.map_set]
theorem rowI_one (l : List Int) : (rowI l).all (·.oneCell') = true := by
  rw [Array.all_eq_true_iff_forall_mem]
  intro v hv
  simp [rowI] at hv
  obtain ⟨x, _, rfl⟩ := hv
  rfl
def zerosI : List Int := List.replicate 34 0
theorem zerosI_len : zerosI.length = 34 := by decide
theorem z34 (W : World) : (zeroValue 82).run Try.prog W = .ok (.agg (rowI zerosI)) W := by kernel_rfl
theorem i34_ : (Try.prog.info? 82).map (·.size) = some 34 := by kernel_rfl
theorem i34 (l : List Int) (h : l.length = 34) : (Try.prog.info? 82).map (·.size) = some (rowI l).size := by rw [rowI_size, h]; exact i34_
def pI : Int := 1361129467683753853853498429727072845819

/-- 255 in the first k places. -/
def onesI (k : Nat) : List Int := (List.range 34).map fun i => if i < k then 255 else 0
theorem onesI_len (k : Nat) : (onesI k).length = 34 := by simp [onesI]
theorem onesI_zero : onesI 0 = zerosI := by decide
theorem onesI_set (k : Nat) (h : k < 16) : (onesI k).set k 255 = onesI (k + 1) := by
  have h2 : ∀ k : Fin 16, (onesI k.val).set k.val 255 = onesI (k.val + 1) := by decide +kernel
  exact h2 ⟨k, h⟩
theorem prime_row : ((onesI 16).set 0 251).set 16 3 = digI 34 pI := by decide +kernel

set_option maxRecDepth 100000 in
set_option maxHeartbeats 2000000 in
theorem prime_any (w : World) : Calls Try.prog 74 #[] w fun e w' => e = .returned (.agg (rowI (digI 34 pI))) ∧ Below w.heap.size w w' := by
  have hz := z34
  obtain ⟨g, hg⟩ : ∃ g, Hid (w.heap.size = g) := ⟨_, rfl⟩
  obtain ⟨w0, hw0⟩ : ∃ W, Hid ((w.alloc (.cells (rowI zerosI) 82)).alloc (.cells (rowI zerosI) 82) = W) := ⟨_, rfl⟩
  have HG : Hid (Bk w0 g 82 (rowI zerosI)) := hidu_ (by rw [← hw0.out, ← hg.out]; exact (Bk.new w _ _).alloc _)
  have HZ : Hid (Bk w0 (g + 1) 82 (rowI zerosI)) := hidu_ (by
    have h := Bk.new (w.alloc (.cells (rowI zerosI) 82)) 82 (rowI zerosI)
    rw [← hw0.out, ← hg.out]
    simpa using h)
  have HR : Hid (Below g w w0) := hidu_ (by rw [← hw0.out, ← hg.out]; exact ((Below.refl _ _).alloc (Nat.le_refl _) _).alloc (by simp) _)
  have hI : ∀ l : List Int, l.length = 34 → (Try.prog.info? 82).map (·.size) = some (rowI l).size := i34
  have HI := hidu_ hI
  clear hI
  go_enter Try.func74, Try.ntmps74
  go_upto_region 2 with fail
  rw [hg.out]
  have hs1 : (w.alloc (.cells (rowI zerosI) 82)).heap.size = g + 1 := by rw [← hg.out]; simp
  first | rw [hs1] | skip
  clear hs1
  rw [hw0.out]
  clear hz
  go_wp2
  go_loopw [2] (fun i wr => ∃ k : Nat, k ≤ 16 ∧ i = .int .i64 k ∧ Bk wr g 82 (rowI zerosI) ∧ Bk wr (g + 1) 82 (rowI (onesI k)) ∧ Below g w wr) (fun i _ => 16 - (intOf i).toNat)
  case atStart => exact ⟨0, by omega, rfl, HG.out, by rw [onesI_zero]; exact HZ.out, HR.out⟩
  case round =>
    obtain ⟨k, hk, rfl, b0, b1, bb⟩ := hrel
    have B0 := hidu_ b0
    have B1 := hidu_ b1
    have BB := hidu_ bb
    clear b0 b1 bb HG HZ HR
    by_cases hlt : k < 16
    · have hc := B1.out.cell k
      rw [rowI_at _ _ (by rw [onesI_len]; omega)] at hc
      have hf := B1.out.frozen k
      have hset := B1.out.set_ k (.int .i64 255)
      rw [rowI_set, onesI_set k hlt] at hset
      have HS := hidu_ hset
      have HF := hidu_ (B0.out.far (p := ⟨g + 1, k, none⟩) (by simp) (.int .i64 255))
      have t0 : (0 : Int) ≤ (k : Int) := by omega
      have t1 : (k : Int) < 34 := by omega
      clear hset
      go_wp2
      go_roundw
      case rel => exact ⟨k + 1, by omega, by go_num, HF.out, HS.out, BB.out.setCell (by simp) _⟩
      case measure => simp [intOf]; omega
    · obtain rfl : k = 16 := by omega
      have hc := B1.out.cell 0
      rw [rowI_at _ _ (by rw [onesI_len]; omega)] at hc
      have hf := B1.out.frozen 0
      have h1 := B1.out.set_ 0 (.int .i64 251)
      rw [rowI_set] at h1
      have hc2 := h1.cell 16
      rw [rowI_at _ _ (by rw [List.length_set, onesI_len]; omega)] at hc2
      have hf2 := h1.frozen 16
      have h2 := h1.set_ 16 (.int .i64 3)
      rw [rowI_set, prime_row] at h2
      have H2 := hidu_ h2
      have H3 := hidu_ ((B0.out.far (p := ⟨g + 1, 0, none⟩) (by simp) (.int .i64 251)).far (p := ⟨g + 1, 16, none⟩) (by simp) (.int .i64 3))
      have H4 := hidu_ ((BB.out.setCell (p := ⟨g + 1, 0, none⟩) (by simp) (.int .i64 251)).setCell (p := ⟨g + 1, 16, none⟩) (by simp) (.int .i64 3))
      clear h1 h2
      go_upto_region 7 with fail
      clear hc hf hc2 hf2
      obtain ⟨w2, hw2⟩ : ∃ W, Hid (((wr.setCell ⟨g + 1, 0, none⟩ (.int .i64 251)).setCell ⟨g + 1, 16, none⟩ (.int .i64 3)) = W) := ⟨_, rfl⟩
      rw [hw2.out] at H2 H3 H4 ⊢
      have K2 := H2.out
      have K3 := H3.out
      go_wp2_with (first
        | (refine wpList_load_row rfl 82 (.tmp 1) rfl (g + 1) rfl 82 (rowI (digI 34 pI)) (0, 0) _ K2 Try.underlying82 rfl (HI.out _ (digI_len _ _)) ?_)
        | (refine wpList_put_row rfl 82 (.tmp 0) (.tmp 11) rfl g (rowI (digI 34 pI)) rfl rfl 82 (rowI zerosI) K3 (HI.out _ (digI_len _ _)) (by rw [rowI_size, rowI_size, digI_len, zerosI_len]) (rowI_one _) ?_; intro w12 k12 g12 s12))
      exact bodyPost_ret (results_cell_row Try.results74 _ _ g 82 _ (0, 0) _ rfl k12 Try.underlying82 rfl (HI.out _ (digI_len _ _))) rfl ⟨rfl, by rw [hg.out]; exact H4.out.grown g12 (by have := H4.out.size; rw [hg.out] at this; exact this) (fun i hi => by injection hi with hi; omega)⟩

set_option maxRecDepth 100000 in
set_option maxHeartbeats 2000000 in
theorem carry_any (d : List Int) (w : World) (hd : d.length = 34) (hr : rngI 1000000000 d) :
    Calls Try.prog 49 #[.agg (rowI d)] w fun e w' => e = .returned (.agg (rowI (digI 34 (vI d)))) ∧ Below w.heap.size w w' := by
  have hz := z34
  obtain ⟨g, hg⟩ : ∃ g, Hid (w.heap.size = g) := ⟨_, rfl⟩
  obtain ⟨w0, hw0⟩ : ∃ W, Hid ((w.alloc (.cells (rowI d) 82)).alloc (.cells (rowI zerosI) 82) = W) := ⟨_, rfl⟩
  have HG : Hid (Bk w0 g 82 (rowI d)) := hidu_ (by rw [← hw0.out, ← hg.out]; exact (Bk.new w _ _).alloc _)
  have HZ : Hid (Bk w0 (g + 1) 82 (rowI zerosI)) := hidu_ (by
    have h := Bk.new (w.alloc (.cells (rowI d) 82)) 82 (rowI zerosI)
    rw [← hw0.out, ← hg.out]
    simpa using h)
  have HB : Hid (Below g w w0) := hidu_ (by rw [← hw0.out, ← hg.out]; exact ((Below.refl _ _).alloc (Nat.le_refl _) _).alloc (by simp) _)
  have hI : ∀ l : List Int, l.length = 34 → (Try.prog.info? 82).map (·.size) = some (rowI l).size := i34
  have HI := hidu_ hI
  have HD := hidu_ hd
  have HR := hidu_ hr
  clear hI hd hr
  go_enter Try.func49, Try.ntmps49
  go_upto_region 1 with fail
  rw [hg.out, hw0.out]
  clear hz
  go_wp2
  go_loopw [3, 4] (fun o i wr => ∃ k : Nat, k ≤ 34 ∧ i = .int .i64 k ∧ o = .int .i64 (ovI d k) ∧ Bk wr g 82 (rowI (carI d k)) ∧ Bk wr (g + 1) 82 (rowI zerosI) ∧ Below g w wr) (fun _ i _ => 34 - (intOf i).toNat)
  case atStart => exact ⟨0, by omega, rfl, by rw [ovI_zero], by rw [carI_zero]; exact HG.out, HZ.out, HB.out⟩
  case round =>
    obtain ⟨k, hk, rfl, rfl, b0, b1, bb⟩ := hrel
    have B0 := hidu_ b0
    have B1 := hidu_ b1
    have BB := hidu_ bb
    clear b0 b1 bb HG HZ HB
    by_cases hlt : k < 34
    · have hkd : k < d.length := by rw [HD.out]; exact hlt
      have hc := B0.out.cell k
      rw [rowI_at _ _ (by rw [carI_len _ _ (by omega)]; exact hkd), carI_get d k hkd] at hc
      have hf := B0.out.frozen k
      have hset := B0.out.set_ k (.int .i64 ((d.getD k 0 + ovI d k) % 256))
      rw [rowI_set, carI_step d k hkd] at hset
      have b1 := HR.out.get (by omega) k
      have b2 := ovI_bd d HR.out (by omega) k (by omega)
      have e2 := hidu_ (ovI_step d k hkd)
      obtain ⟨x, hx⟩ : ∃ x, Hid (d.getD k 0 = x) := ⟨_, rfl⟩
      obtain ⟨o, ho⟩ : ∃ x, Hid (ovI d k = x) := ⟨_, rfl⟩
      rw [hx.out] at hc b1 hset
      rw [ho.out] at b2 hset ⊢
      obtain ⟨b10, b11⟩ := b1
      obtain ⟨b20, b21⟩ := b2
      have HS := hidu_ hset
      have HF := hidu_ (B1.out.far (p := ⟨g, k, none⟩) (by simp) (.int .i64 ((x + o) % 256)))
      have t0 : (0 : Int) ≤ (k : Int) := by omega
      have t1 : (k : Int) < 34 := by omega
      clear hset hkd
      go_wp2
      go_roundw
      case rel => exact ⟨k + 1, by omega, by go_num, by rw [e2.out, hx.out, ho.out], HS.out, HF.out, BB.out.setCell (by simp) _⟩
      case measure => simp [intOf]; omega
    · obtain rfl : k = 34 := by omega
      have K2 := B0.out
      have K3 := B1.out
      rw [carI_end d 34 HD.out] at K2
      generalize ovI d 34 = o
      obtain ⟨D, hD⟩ : ∃ x, Hid (digI 34 (vI d) = x) := ⟨_, rfl⟩
      have hDl : D.length = 34 := by rw [← hD.out]; exact digI_len _ _
      rw [hD.out] at K2
      have HDl := hidu_ hDl
      clear hDl
      go_wp2_with (first
        | (refine wpList_load_row rfl 82 (.tmp 1) rfl g rfl 82 (rowI D) (0, 0) _ K2 Try.underlying82 rfl (HI.out _ HDl.out) ?_)
        | (refine wpList_put_row rfl 82 (.tmp 2) (.tmp 21) rfl (g + 1) (rowI D) rfl rfl 82 (rowI zerosI) K3 (HI.out _ HDl.out) (by rw [rowI_size, rowI_size, HDl.out, zerosI_len]) (rowI_one _) ?_; intro w12 k12 g12 s12))
      exact bodyPost_ret (results_cell_row Try.results49 _ _ (g + 1) 82 _ (0, 0) _ rfl k12 Try.underlying82 rfl (HI.out _ HDl.out)) rfl ⟨by rw [hD.out], by rw [hg.out]; exact BB.out.grown g12 (by have := BB.out.size; rw [hg.out] at this; exact this) (fun i hi => by injection hi with hi; omega)⟩
end Go.Proofs.Ytopmngjaieobnaa
