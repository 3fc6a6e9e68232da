/-
  A slice of parts (a kind, a number, a text) that came in.
-/
import Derived.Test.YtnlipmcnpekifaaGb
import Derived.Deep.Strs
import Derived.Deep.Slices
namespace Go.Proofs.Ytnlipmcnpekifaa
set_option maxRecDepth 100000
open Go.ChangeShapes Go.WideShapes Go.ChangeAt Go.RowKit
set_option linter.unusedVariables false
set_option linter.unusedSimpArgs false

/-- A part as the walk knows it: its kind, its number, its text; where that lies, and its capacity. -/
structure PartV where
  kind : Int
  num : Int
  text : List UInt8
  at_ : Option Addr
  cap : Nat
instance : Inhabited PartV := ⟨⟨0, 0, [], none, 0⟩⟩
def PartV.agg (p : PartV) : Value := .agg #[.int .i64 p.kind, .int .i64 p.num, .slice p.at_ p.text.length p.cap]
/-- What is known of each, in a world: the text lies below B. -/
structure PartOk (w : World) (B : Nat) (p : PartV) : Prop where
  k0 : -9223372036854775808 ≤ p.kind
  k1 : p.kind ≤ 9223372036854775807
  n0 : -9223372036854775808 ≤ p.num
  n1 : p.num ≤ 9223372036854775807
  rd : Rd w B p.at_ p.text
  len : p.text.length ≤ p.cap
  cap : p.cap ≤ 9223372036854775807
theorem PartOk.below {w w' : World} {B : Nat} {p : PartV} (h : PartOk w B p) (hb : Below B w w') : PartOk w' B p := ⟨h.k0, h.k1, h.n0, h.n1, h.rd.below hb, h.len, h.cap⟩
theorem PartOk.more {w : World} {B C : Nat} {p : PartV} (h : PartOk w B p) (hB : B ≤ C) : PartOk w C p := ⟨h.k0, h.k1, h.n0, h.n1, h.rd.more hB, h.len, h.cap⟩
/-- A slice of parts, all of it below B. -/
def RdP (w : World) (B : Nat) (A : Option Addr) (l : List PartV) : Prop :=
  0 < l.length → ∃ b off, A = some ⟨b, off, none⟩ ∧ b < B ∧ ∀ j (h : j < l.length),
    w.cell? ⟨b, off + 3 * j, none⟩ = some (.int .i64 (l[j]).kind) ∧ w.cell? ⟨b, off + 3 * j + 1, none⟩ = some (.int .i64 (l[j]).num) ∧ w.cell? ⟨b, off + 3 * j + 2, none⟩ = some (.slice (l[j]).at_ (l[j]).text.length (l[j]).cap) ∧ PartOk w B l[j]
theorem RdP.below {w w' : World} {B : Nat} {A : Option Addr} {l : List PartV} (h : RdP w B A l) (hb : Below B w w') : RdP w' B A l := fun hn => by
  obtain ⟨b, off, e, hlt, hc⟩ := h hn
  refine ⟨b, off, e, hlt, fun j hj => ?_⟩
  obtain ⟨h1, h2, h3, h4⟩ := hc j hj
  exact ⟨(hb.cell (p := ⟨b, _, none⟩) hlt).trans h1, (hb.cell (p := ⟨b, _, none⟩) hlt).trans h2, (hb.cell (p := ⟨b, _, none⟩) hlt).trans h3, h4.below hb⟩
/-- The cells of a slice of bytes, within something greater. -/
theorem cells_bytes {H : Type} {enc : TypeId × Value → H} {P : Program} {t e : TypeId} {w : World} {fuel : Nat} {sp : Nat → Bool} {held : Bool} {cs : List Value} {d : DataW H × List MemPlace}
    (ht : P.underlying t = some (.slice e)) (he : P.underlying e = some (.int .u8)) (hc : P.cellsOf e = 1)
    (hf : DataW.trod enc P w 0 sp held fuel t cs = some d) :
    ∃ A l c, cs = [.slice A (l : List UInt8).length c] ∧ Rd w w.heap.size A l ∧ l.length ≤ c ∧ c ≤ maxLen := by
  rcases open_ints ht he hc hf with ⟨hcs, hx⟩ | ⟨a, len, cap, zs, hcs, _, hl, hm, hz, hx, hcell, hwz⟩
  · exact ⟨none, [], 0, hcs, Rd.nil, Nat.le_refl _, Nat.zero_le _⟩
  · have hzl : len ≤ zs.length := by
      rw [hz]; split <;> omega
    have hlen : ((zs.take len).map fun n => UInt8.ofNat n.toNat).length = len := by
      rw [List.length_map, List.length_take]; omega
    refine ⟨some a, (zs.take len).map fun n => UInt8.ofNat n.toNat, cap, by rw [hlen]; exact hcs, fun h0 => ?_, by rw [hlen]; exact hl, hm⟩
    rw [hlen] at h0
    obtain ⟨b, off, spot⟩ := a
    have hc0 := hcell 0 (by omega)
    have hspot : spot = none := by simpa [Addr.add] using World.cell?_spot hc0
    subst hspot
    have hplain : ∀ j, (⟨b, off, none⟩ : Addr).add j = ⟨b, off + j, none⟩ := fun j => by unfold Addr.add; split <;> simp_all
    refine ⟨b, off, rfl, World.block_lt_of_cell? w _ hc0, fun j hj => ?_⟩
    rw [hlen] at hj
    rw [← hplain, hcell j (by omega)]
    have hb := bounds_u8 (hwz (zs.getD j 0) (by simp [List.getD, show j < zs.length by omega]))
    have e1 : ((zs.take len).map fun n => UInt8.ofNat n.toNat).getD j 0 = UInt8.ofNat (zs.getD j 0).toNat := by
      simp [List.getD, hj, show j < zs.length by omega]
    rw [e1]
    generalize zs.getD j 0 = z at hb
    congr 2
    simp
    omega
theorem cells_int {H : Type} {enc : TypeId × Value → H} {P : Program} {t : TypeId} {w : World} {fuel : Nat} {sp : Nat → Bool} {held : Bool} {cs : List Value} {d : DataW H × List MemPlace}
    (ht : P.underlying t = some (.int .i64)) (hf : DataW.trod enc P w 0 sp held fuel t cs = some d) : ∃ z, cs = [.int .i64 z] ∧ -9223372036854775808 ≤ z ∧ z ≤ 9223372036854775807 := by
  obtain ⟨n, e, _, hw⟩ := DataW.trod_int ht hf
  exact ⟨n, e, bounds_i64 hw⟩
theorem open_pparts {H : Type} {enc : TypeId × Value → H} {P : Program} {t s ti tb e : TypeId} {f0 f1 f2 : Field} {w : World} {b0 : Nat} {sp : Nat → Bool} {held : Bool} {r : Reach} {v : Value} {d : DataW H} {p : List MemPlace}
    (ht : P.underlying t = some (.slice s)) (hs : P.underlying s = some (.struct #[f0, f1, f2])) (h0 : f0.type = ti ∧ f0.offset = 0) (h1 : f1.type = ti ∧ f1.offset = 1) (h2 : f2.type = tb ∧ f2.offset = 2)
    (hi : P.underlying ti = some (.int .i64)) (ci : P.cellsOf ti = 1) (hb : P.underlying tb = some (.slice e)) (cb : P.cellsOf tb = 1) (he : P.underlying e = some (.int .u8)) (ce : P.cellsOf e = 1) (cs3 : P.cellsOf s = 3)
    (hv : Value.okWide P w r b0 t v) (h : DataW.Trod enc P w 0 sp held t v d p) :
    ∃ A l c, v = .slice A (l : List PartV).length c ∧ RdP w w.heap.size A l ∧ l.length ≤ c ∧ c ≤ maxLen := by
  obtain ⟨a0, len, cap, rfl⟩ := okWide_slice ht hv
  obtain ⟨fuel, hf⟩ := h
  rcases Go.Deep.open_slice ht hf with ⟨hcs, hx⟩ | ⟨a, len', cap', m, n, D, Pl, hcs, _, hl, hm, hmm, hx, hel⟩
  · simp [Value.cells] at hcs
    obtain ⟨rfl, rfl, rfl⟩ := hcs
    exact ⟨none, [], 0, rfl, fun h => by simp at h, Nat.le_refl _, Nat.zero_le _⟩
  · simp [Value.cells] at hcs
    obtain ⟨rfl, rfl, rfl⟩ := hcs
    have hlm : len ≤ m := by rw [hmm]; split <;> omega
    rw [cs3] at hel
    have hone : ∀ j, j < len → ∃ q : PartV, w.cell? (a.add (j * 3)) = some (.int .i64 q.kind) ∧ w.cell? (a.add (j * 3 + 1)) = some (.int .i64 q.num) ∧ w.cell? (a.add (j * 3 + 2)) = some (.slice q.at_ q.text.length q.cap) ∧ PartOk w w.heap.size q := by
      intro j hj
      obtain ⟨cs', hc1, hc2⟩ := hel j (by omega)
      obtain ⟨_, hlen, hcell⟩ := World.cells?_some hc1
      obtain ⟨y0, y1, y2, nn, _, _, g0, g1, g2⟩ := Go.Deep.trod_struct3 hs hc2
      rw [h0.1, h0.2, ci] at g0
      rw [h1.1, h1.2, ci] at g1
      rw [h2.1, h2.2, cb] at g2
      match cs', hlen with
      | [k0, k1, k2], _ =>
        obtain ⟨z0, e0, a0, b0⟩ := cells_int hi g0
        obtain ⟨z1, e1, a1, b1⟩ := cells_int hi g1
        obtain ⟨TA, T, Tc, e2, hr, hl2, hm2⟩ := cells_bytes hb he ce g2
        simp at e0 e1 e2
        have c0 := hcell 0 (by omega)
        have c1 := hcell 1 (by omega)
        have c2 := hcell 2 (by omega)
        rw [Go.Deep.add_add] at c0 c1 c2
        refine ⟨⟨z0, z1, T, TA, Tc⟩, ?_, ?_, ?_, ⟨a0, b0, a1, b1, hr, hl2, by unfold maxLen at hm2; omega⟩⟩
        · simpa [e0] using c0
        · simpa [e1] using c1
        · simpa [e2] using c2
    obtain ⟨q, hq⟩ := Go.Deep.choose_lt hone
    refine ⟨some a, (List.range len).map q, cap, by simp, fun hn => ?_, by simpa using hl, hm⟩
    have hn' : 0 < len := by simpa using hn
    obtain ⟨b, off, spot⟩ := a
    have hc0 := (hq 0 hn').1
    have hspot : spot = none := by simpa [Addr.add] using World.cell?_spot hc0
    subst hspot
    have hplain : ∀ j, (⟨b, off, none⟩ : Addr).add j = ⟨b, off + j, none⟩ := fun j => by unfold Addr.add; split <;> simp_all
    refine ⟨b, off, rfl, World.block_lt_of_cell? w _ hc0, fun j hj => ?_⟩
    have hj' : j < len := by simpa using hj
    obtain ⟨h1, h2, h3, h4⟩ := hq j hj'
    rw [hplain] at h1 h2 h3
    have e : ((List.range len).map q)[j] = q j := by simp
    rw [e]
    refine ⟨?_, ?_, ?_, h4⟩
    · rw [Nat.mul_comm]; exact h1
    · rw [Nat.mul_comm 3 j, Nat.add_assoc]; exact h2
    · rw [Nat.mul_comm 3 j, Nat.add_assoc]; exact h3
end Go.Proofs.Ytnlipmcnpekifaa
