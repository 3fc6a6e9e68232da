/-
  log's laws: acts and falls that came in.
-/
import Derived.Test.YtdlciehboimciaaLhf
import Derived.Test.YtdlciehboimciaaDkm
import Derived.Deep.Strs
import Derived.Deep.Slices
namespace Go.Proofs.Ytdlciehboimciaa
set_option maxRecDepth 100000
open Go.ChangeShapes Go.WideShapes Go.ChangeAt Go.RowKit
set_option linter.unusedVariables false
set_option linter.unusedSimpArgs false

section
variable {H : Type} {enc : TypeId × Value → H} {P : Program} {w : World} {held : Bool}
theorem cells_rowsL {t e q : TypeId} {fuel : Nat} {cs : List Value} {d : DataW H × List MemPlace}
    (ht : P.underlying t = some (.slice e)) (he : P.underlying e = some (.slice q)) (hq : P.underlying q = some (.int .u8)) (ce : P.cellsOf e = 1) (cq : P.cellsOf q = 1)
    (hf : DataW.trod enc P w 0 (fun _ => true) held fuel t cs = some d) :
    ∃ A n c ls, cs = [.slice A n c] ∧ (ls : List (List UInt8)).length = n ∧ PartsV w w.heap.size A ls ∧ n ≤ maxLen := by
  rcases Go.Deep.open_int_rows ht he hq ce cq hf with ⟨hcs, hx⟩ | ⟨a, len, cap, A, L, C, Z, hcs, _, hl, hm, hx, hcell⟩
  · exact ⟨none, 0, 0, [], hcs, rfl, fun h => absurd h (by simp), Nat.zero_le _⟩
  · refine ⟨some a, len, cap, (List.range len).map fun r => ((Z r).take (L r)).map fun n => UInt8.ofNat n.toNat, hcs, by simp, fun h0 => ?_, Nat.le_trans hl hm⟩
    have h0' : 0 < len := by simpa using h0
    obtain ⟨b, off, spot⟩ := a
    have hc0 := (hcell 0 (by omega)).1
    have hspot : spot = none := by simpa [Addr.add] using World.cell?_spot hc0
    subst hspot
    have hplain : ∀ (g o j : Nat), (⟨g, o, none⟩ : Addr).add j = ⟨g, o + j, none⟩ := fun g o j => by unfold Addr.add; split <;> simp_all
    refine ⟨b, off, rfl, World.block_lt_of_cell? w _ hc0, fun j hj => ?_⟩
    have hj' : j < len := by simpa using hj
    obtain ⟨hc, hLC, hCm, hZ, hwf, hnone, hsome⟩ := hcell j (by omega)
    have hget : ((List.range len).map fun r => ((Z r).take (L r)).map fun n => UInt8.ofNat n.toNat).getD j [] = ((Z j).take (L j)).map fun n => UInt8.ofNat n.toNat := by simp [List.getD, hj']
    have hlen : (((Z j).take (L j)).map fun n => UInt8.ofNat n.toNat).length = L j := by rw [List.length_map, List.length_take]; omega
    rw [hget]
    refine ⟨A j, C j, ?_, fun h1 => ?_, by rw [hlen]; exact hLC, by simp only [maxLen] at hCm; omega⟩
    · rw [hlen, ← hplain]; exact hc
    · rw [hlen] at h1
      cases hA : A j with
      | none => have := hnone hA; omega
      | some a' =>
        obtain ⟨g, o, spot⟩ := a'
        have hs := (hsome _ hA).2
        have hg0 := hs 0 (by omega)
        have hsp : spot = none := by simpa [Addr.add] using World.cell?_spot hg0
        subst hsp
        refine ⟨g, o, rfl, World.block_lt_of_cell? w _ hg0, fun i hi => ?_⟩
        rw [hlen] at hi
        rw [← hplain, hs i (by omega)]
        have hb := bounds_u8 (hwf ((Z j).getD i 0) (by simp [List.getD, show i < (Z j).length by omega]))
        have e1 : (((Z j).take (L j)).map fun n => UInt8.ofNat n.toNat).getD i 0 = UInt8.ofNat ((Z j).getD i 0).toNat := by
          simp [List.getD, hi, show i < (Z j).length by omega]
        rw [e1]
        generalize (Z j).getD i 0 = z at hb
        congr 2
        simp
        omega

theorem cells_intL {t : TypeId} {fuel : Nat} {sp : Nat → Bool} {cs : List Value} {d : DataW H × List MemPlace}
    (ht : P.underlying t = some (.int .i64)) (hf : DataW.trod enc P w 0 sp held fuel t cs = some d) : ∃ z, cs = [.int .i64 z] ∧ -9223372036854775808 ≤ z ∧ z ≤ 9223372036854775807 := by
  obtain ⟨n, e, _, hw⟩ := DataW.trod_int ht hf
  exact ⟨n, e, bounds_i64 hw⟩
theorem cells_boolL {t : TypeId} {fuel : Nat} {sp : Nat → Bool} {cs : List Value} {d : DataW H × List MemPlace}
    (ht : P.underlying t = some .bool) (hf : DataW.trod enc P w 0 sp held fuel t cs = some d) : ∃ b, cs = [.bool b] := by
  obtain ⟨n, e, _⟩ := DataW.trod_bool ht hf
  exact ⟨n, e⟩
theorem open_twoL {sp : Nat → Bool} {t : TypeId} {f0 f1 : Field} {fuel : Nat} {cs : List Value} {x : DataW H × List MemPlace} (ht : P.underlying t = some (.struct #[f0, f1])) (h : DataW.trod enc P w 0 sp held fuel t cs = some x) :
    ∃ (n : Nat), ∀ f, f ∈ [f0, f1] → ∃ y, DataW.trod enc P w 0 sp held n f.type ((cs.drop f.offset).take (P.cellsOf f.type)) = some y := by
  obtain ⟨xs, n, _, rfl, hl, hlen, hf⟩ := DataW.trod_struct ht h
  match xs, hlen with
  | [y0, y1], _ =>
    refine ⟨n, fun f hm => ?_⟩
    simp only [List.mem_cons, List.not_mem_nil, or_false] at hm
    rcases hm with rfl | rfl
    · exact ⟨y0, by simpa using hf 0 f rfl⟩
    · exact ⟨y1, by simpa using hf 1 f rfl⟩
theorem open_threeL {sp : Nat → Bool} {t : TypeId} {f0 f1 f2 : Field} {fuel : Nat} {cs : List Value} {x : DataW H × List MemPlace} (ht : P.underlying t = some (.struct #[f0, f1, f2])) (h : DataW.trod enc P w 0 sp held fuel t cs = some x) :
    ∃ (n : Nat), ∀ f, f ∈ [f0, f1, f2] → ∃ y, DataW.trod enc P w 0 sp held n f.type ((cs.drop f.offset).take (P.cellsOf f.type)) = some y := by
  obtain ⟨xs, n, _, rfl, hl, hlen, hf⟩ := DataW.trod_struct ht h
  match xs, hlen with
  | [y0, y1, y2], _ =>
    refine ⟨n, fun f hm => ?_⟩
    simp only [List.mem_cons, List.not_mem_nil, or_false] at hm
    rcases hm with rfl | rfl | rfl
    · exact ⟨y0, by simpa using hf 0 f rfl⟩
    · exact ⟨y1, by simpa using hf 1 f rfl⟩
    · exact ⟨y2, by simpa using hf 2 f rfl⟩
end
/-- An act as the walk knows it. -/
structure LAct where
  rep : Bool
  recs : List (List UInt8)
  at_ : Option Addr
  cap : Nat
instance : Inhabited LAct := ⟨⟨false, [], none, 0⟩⟩
def RdLA (w : World) (B : Nat) (A : Option Addr) (l : List LAct) : Prop :=
  0 < l.length → ∃ b off, A = some ⟨b, off, none⟩ ∧ b < B ∧ ∀ j (h : j < l.length),
    w.cell? ⟨b, off + 2 * j, none⟩ = some (.bool (l[j]).rep) ∧ w.cell? ⟨b, off + 2 * j + 1, none⟩ = some (.slice (l[j]).at_ (l[j]).recs.length (l[j]).cap) ∧ PartsV w B (l[j]).at_ (l[j]).recs ∧ (l[j]).recs.length ≤ 9223372036854775807
theorem RdLA.below {w w' : World} {B : Nat} {A : Option Addr} {l : List LAct} (h : RdLA w B A l) (hb : Below B w w') : RdLA w' B A l := fun hn => by
  obtain ⟨b, off, e, hlt, hc⟩ := h hn
  refine ⟨b, off, e, hlt, fun j hj => ?_⟩
  obtain ⟨h1, h2, h3, h4⟩ := hc j hj
  exact ⟨(hb.cell (p := ⟨b, _, none⟩) hlt).trans h1, (hb.cell (p := ⟨b, _, none⟩) hlt).trans h2, h3.below hb (Nat.le_refl _), h4⟩
section
variable {H : Type} {enc : TypeId × Value → H} {P : Program} {w : World} {held : Bool}
theorem cells_lacts {t s tb tr e q : TypeId} {f0 f1 : Field} {fuel : Nat} {cs : List Value} {d : DataW H × List MemPlace}
    (ht : P.underlying t = some (.slice s)) (hs : P.underlying s = some (.struct #[f0, f1])) (h0 : f0.type = tb ∧ f0.offset = 0) (h1 : f1.type = tr ∧ f1.offset = 1)
    (hb : P.underlying tb = some .bool) (cb : P.cellsOf tb = 1) (hr : P.underlying tr = some (.slice e)) (cr : P.cellsOf tr = 1) (he : P.underlying e = some (.slice q)) (hq : P.underlying q = some (.int .u8)) (ce : P.cellsOf e = 1) (cq : P.cellsOf q = 1) (cs2 : P.cellsOf s = 2)
    (hf : DataW.trod enc P w 0 (fun _ => true) held fuel t cs = some d) :
    ∃ A l c, cs = [.slice A (l : List LAct).length c] ∧ RdLA w w.heap.size A l ∧ l.length ≤ c ∧ c ≤ maxLen := by
  rcases Go.Deep.open_slice ht hf with ⟨hcs, hx⟩ | ⟨a, len, cap, m, n, D, Pl, hcs, _, hl, hm, hmm, hx, hel⟩
  · exact ⟨none, [], 0, hcs, fun h => by simp at h, Nat.le_refl _, Nat.zero_le _⟩
  · have hlm : len ≤ m := by rw [hmm]; split <;> omega
    rw [cs2] at hel
    have hone : ∀ j, j < len → ∃ x : LAct, w.cell? (a.add (j * 2)) = some (.bool x.rep) ∧ w.cell? (a.add (j * 2 + 1)) = some (.slice x.at_ x.recs.length x.cap) ∧ PartsV w w.heap.size x.at_ x.recs ∧ x.recs.length ≤ 9223372036854775807 := by
      intro j hj
      obtain ⟨cs', hc1, hc2⟩ := hel j (by omega)
      obtain ⟨_, hlen, hcell⟩ := World.cells?_some hc1
      obtain ⟨nn, hfour⟩ := open_twoL hs hc2
      obtain ⟨y0, g0⟩ := hfour f0 (by simp)
      obtain ⟨y1, g1⟩ := hfour f1 (by simp)
      rw [h0.1, h0.2, cb] at g0
      rw [h1.1, h1.2, cr] at g1
      match cs', hlen with
      | [k0, k1], _ =>
        obtain ⟨bb, e0⟩ := cells_boolL hb g0
        obtain ⟨A1, n1, c1, ls, e1, hls, hp, hm1⟩ := cells_rowsL hr he hq ce cq g1
        simp at e0 e1
        have c0 := hcell 0 (by omega)
        have c2 := hcell 1 (by omega)
        rw [Go.Deep.add_add] at c0 c2
        refine ⟨⟨bb, ls, A1, c1⟩, ?_, ?_, hp, by show ls.length ≤ _; unfold maxLen at hm1; omega⟩
        · simpa [e0] using c0
        · simpa [e1, hls] using c2
    obtain ⟨x, hx⟩ := Go.Deep.choose_lt hone
    refine ⟨some a, (List.range len).map x, cap, by simpa using hcs, fun hn => ?_, by simpa using hl, hm⟩
    have hn' : 0 < len := by simpa using hn
    obtain ⟨b, off, spot⟩ := a
    have hc0 := (hx 0 hn').1
    have hspot : spot = none := by simpa [Addr.add] using World.cell?_spot hc0
    subst hspot
    have hplain : ∀ j, (⟨b, off, none⟩ : Addr).add j = ⟨b, off + j, none⟩ := fun j => by unfold Addr.add; split <;> simp_all
    refine ⟨b, off, rfl, World.block_lt_of_cell? w _ hc0, fun j hj => ?_⟩
    have hj' : j < len := by simpa using hj
    obtain ⟨h1, h2, h3, h4⟩ := hx j hj'
    rw [hplain] at h1 h2
    have e : ((List.range len).map x)[j] = x j := by simp
    rw [e]
    refine ⟨?_, ?_, h3, h4⟩
    · rw [Nat.mul_comm]; exact h1
    · rw [Nat.mul_comm 2 j, Nat.add_assoc]; exact h2
theorem open_lacts {t s tb tr e q : TypeId} {f0 f1 : Field} {b0 : Nat} {r : Reach} {v : Value} {d : DataW H} {p : List MemPlace}
    (ht : P.underlying t = some (.slice s)) (hs : P.underlying s = some (.struct #[f0, f1])) (h0 : f0.type = tb ∧ f0.offset = 0) (h1 : f1.type = tr ∧ f1.offset = 1)
    (hb : P.underlying tb = some .bool) (cb : P.cellsOf tb = 1) (hr : P.underlying tr = some (.slice e)) (cr : P.cellsOf tr = 1) (he : P.underlying e = some (.slice q)) (hq : P.underlying q = some (.int .u8)) (ce : P.cellsOf e = 1) (cq : P.cellsOf q = 1) (cs2 : P.cellsOf s = 2)
    (hv : Value.okWide P w r b0 t v) (h : DataW.Trod enc P w 0 (fun _ => true) held t v d p) :
    ∃ A l c, v = .slice A (l : List LAct).length c ∧ RdLA w w.heap.size A l ∧ l.length ≤ c ∧ c ≤ maxLen := by
  obtain ⟨a0, len, cap, rfl⟩ := okWide_slice ht hv
  obtain ⟨fuel, hf⟩ := h
  obtain ⟨A, l, c, e1, h2, h3, h4⟩ := cells_lacts ht hs h0 h1 hb cb hr cr he hq ce cq cs2 hf
  simp [Value.cells] at e1
  obtain ⟨rfl, rfl, rfl⟩ := e1
  exact ⟨_, l, _, rfl, h2, h3, h4⟩
end
/-- A fall as the walk knows it. -/
structure LFall where
  row : List LAct
  rat : Option Addr
  rcap : Nat
  fuse : Int
  stay : List Bool
  sat : Option Addr
  scap : Nat
instance : Inhabited LFall := ⟨⟨[], none, 0, 0, [], none, 0⟩⟩
def RdLF (w : World) (B : Nat) (A : Option Addr) (l : List LFall) : Prop :=
  0 < l.length → ∃ b off, A = some ⟨b, off, none⟩ ∧ b < B ∧ ∀ j (h : j < l.length),
    w.cell? ⟨b, off + 3 * j, none⟩ = some (.slice (l[j]).rat (l[j]).row.length (l[j]).rcap) ∧ w.cell? ⟨b, off + 3 * j + 1, none⟩ = some (.int .i64 (l[j]).fuse) ∧ w.cell? ⟨b, off + 3 * j + 2, none⟩ = some (.slice (l[j]).sat (l[j]).stay.length (l[j]).scap) ∧
    RdLA w B (l[j]).rat (l[j]).row ∧ (l[j]).row.length ≤ 9223372036854775807 ∧ RdB w B (l[j]).sat (l[j]).stay ∧ (l[j]).stay.length ≤ 9223372036854775807
theorem RdLF.below {w w' : World} {B : Nat} {A : Option Addr} {l : List LFall} (h : RdLF w B A l) (hb : Below B w w') : RdLF w' B A l := fun hn => by
  obtain ⟨b, off, e, hlt, hc⟩ := h hn
  refine ⟨b, off, e, hlt, fun j hj => ?_⟩
  obtain ⟨h1, h2, h3, h4, h5, h6, h7⟩ := hc j hj
  exact ⟨(hb.cell (p := ⟨b, _, none⟩) hlt).trans h1, (hb.cell (p := ⟨b, _, none⟩) hlt).trans h2, (hb.cell (p := ⟨b, _, none⟩) hlt).trans h3, h4.below hb, h5, h6.below hb, h7⟩
section
variable {H : Type} {enc : TypeId × Value → H} {P : Program} {w : World} {held : Bool}
theorem open_lfalls {t u ta s tb tr e q ti ty : TypeId} {f0 f1 k0 k1 k2 : Field} {b0 : Nat} {r : Reach} {v : Value} {d : DataW H} {p : List MemPlace}
    (ht : P.underlying t = some (.slice u)) (hu : P.underlying u = some (.struct #[k0, k1, k2])) (g0 : k0.type = ta ∧ k0.offset = 0) (g1 : k1.type = ti ∧ k1.offset = 1) (g2 : k2.type = ty ∧ k2.offset = 2) (cu3 : P.cellsOf u = 3)
    (hta : P.underlying ta = some (.slice s)) (cta : P.cellsOf ta = 1) (hti : P.underlying ti = some (.int .i64)) (cti : P.cellsOf ti = 1) (hty : P.underlying ty = some (.slice tb)) (cty : P.cellsOf ty = 1)
    (hs : P.underlying s = some (.struct #[f0, f1])) (h0 : f0.type = tb ∧ f0.offset = 0) (h1 : f1.type = tr ∧ f1.offset = 1)
    (hb : P.underlying tb = some .bool) (cb : P.cellsOf tb = 1) (hr : P.underlying tr = some (.slice e)) (cr : P.cellsOf tr = 1) (he : P.underlying e = some (.slice q)) (hq : P.underlying q = some (.int .u8)) (ce : P.cellsOf e = 1) (cq : P.cellsOf q = 1) (cs2 : P.cellsOf s = 2)
    (hv : Value.okWide P w r b0 t v) (h : DataW.Trod enc P w 0 (fun _ => true) held t v d p) :
    ∃ A l c, v = .slice A (l : List LFall).length c ∧ RdLF w w.heap.size A l ∧ l.length ≤ c ∧ c ≤ maxLen := by
  obtain ⟨a0, len, cap, rfl⟩ := okWide_slice ht hv
  obtain ⟨fuel, hf⟩ := h
  rcases Go.Deep.open_slice ht hf with ⟨hcs, hx⟩ | ⟨a, len', cap', m, n, D, Pl, hcs, _, hl, hm, hmm, hx, hel⟩
  · simp [Value.cells] at hcs
    obtain ⟨rfl, rfl, rfl⟩ := hcs
    exact ⟨none, [], 0, rfl, fun h => by simp at h, Nat.le_refl _, Nat.zero_le _⟩
  · simp [Value.cells] at hcs
    obtain ⟨rfl, rfl, rfl⟩ := hcs
    have hlm : len ≤ m := by rw [hmm]; split <;> omega
    rw [cu3] at hel
    have hone : ∀ j, j < len → ∃ x : LFall, w.cell? (a.add (j * 3)) = some (.slice x.rat x.row.length x.rcap) ∧ w.cell? (a.add (j * 3 + 1)) = some (.int .i64 x.fuse) ∧ w.cell? (a.add (j * 3 + 2)) = some (.slice x.sat x.stay.length x.scap) ∧ RdLA w w.heap.size x.rat x.row ∧ x.row.length ≤ 9223372036854775807 ∧ RdB w w.heap.size x.sat x.stay ∧ x.stay.length ≤ 9223372036854775807 := by
      intro j hj
      obtain ⟨cs', hc1, hc2⟩ := hel j (by omega)
      obtain ⟨_, hlen, hcell⟩ := World.cells?_some hc1
      obtain ⟨nn, hfour⟩ := open_threeL hu hc2
      obtain ⟨y0, q0⟩ := hfour k0 (by simp)
      obtain ⟨y1, q1⟩ := hfour k1 (by simp)
      obtain ⟨y2, q2⟩ := hfour k2 (by simp)
      rw [g0.1, g0.2, cta] at q0
      rw [g1.1, g1.2, cti] at q1
      rw [g2.1, g2.2, cty] at q2
      match cs', hlen with
      | [v0, v1, v2], _ =>
        obtain ⟨A1, l1, c1, e0, hra, hl1, hm1⟩ := cells_lacts hta hs h0 h1 hb cb hr cr he hq ce cq cs2 q0
        obtain ⟨z, e1, _, _⟩ := cells_intL hti q1
        obtain ⟨A2, S, c2, e2, hrb, hl2, hm2⟩ := cells_boolsK hty hb cb q2
        simp at e0 e1 e2
        have d0 := hcell 0 (by omega)
        have d1 := hcell 1 (by omega)
        have d2 := hcell 2 (by omega)
        rw [Go.Deep.add_add] at d0 d1 d2
        refine ⟨⟨l1, A1, c1, z, S, A2, c2⟩, ?_, ?_, ?_, hra, by show l1.length ≤ _; unfold maxLen at hm1; omega, hrb, by show S.length ≤ _; unfold maxLen at hm2; omega⟩
        · simpa [e0] using d0
        · simpa [e1] using d1
        · simpa [e2] using d2
    obtain ⟨x, hx⟩ := Go.Deep.choose_lt hone
    refine ⟨some a, (List.range len).map x, cap, by simp, fun hn => ?_, by simpa using hl, hm⟩
    have hn' : 0 < len := by simpa using hn
    obtain ⟨b, off, spot⟩ := a
    have hc0 := (hx 0 hn').1
    have hspot : spot = none := by simpa [Addr.add] using World.cell?_spot hc0
    subst hspot
    have hplain : ∀ j, (⟨b, off, none⟩ : Addr).add j = ⟨b, off + j, none⟩ := fun j => by unfold Addr.add; split <;> simp_all
    refine ⟨b, off, rfl, World.block_lt_of_cell? w _ hc0, fun j hj => ?_⟩
    have hj' : j < len := by simpa using hj
    obtain ⟨h1, h2, h3, h4, h5, h6, h7⟩ := hx j hj'
    rw [hplain] at h1 h2 h3
    have e : ((List.range len).map x)[j] = x j := by simp
    rw [e]
    refine ⟨?_, ?_, ?_, h4, h5, h6, h7⟩
    · rw [Nat.mul_comm]; exact h1
    · rw [Nat.mul_comm 3 j, Nat.add_assoc]; exact h2
    · rw [Nat.mul_comm 3 j, Nat.add_assoc]; exact h3
end
end Go.Proofs.Ytdlciehboimciaa
