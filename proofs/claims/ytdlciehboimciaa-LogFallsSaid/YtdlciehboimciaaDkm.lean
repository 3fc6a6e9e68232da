/-
  A slice of acts (what, at, by, n, stay) that came in, as casketlaw16 has it.
-/
import Derived.Test.YtdlciehboimciaaDkl
import Derived.Test.YtdlciehboimciaaLp
import Derived.Deep.Strs
import Derived.Deep.Slices
namespace Go.Proofs.Ytdlciehboimciaa
set_option maxRecDepth 100000
open Go.ChangeShapes Go.WideShapes Go.ChangeAt Go.RowKit
set_option linter.unusedVariables false
set_option linter.unusedSimpArgs false

structure ActK where
  what : Int
  at1 : Int
  by_ : UInt8
  n : Int
  st : List Bool
  at_ : Option Addr
  cap : Nat
/-- Bools below B. -/
def RdB (w : World) (B : Nat) (A : Option Addr) (S : List Bool) : Prop := 0 < S.length → ∃ b off, A = some ⟨b, off, none⟩ ∧ b < B ∧ ∀ j, j < S.length → w.cell? ⟨b, off + j, none⟩ = some (.bool (S.getD j false))
theorem RdB.below {w w' : World} {B : Nat} {A : Option Addr} {S : List Bool} (h : RdB w B A S) (hb : Below B w w') : RdB w' B A S := fun hn => by
  obtain ⟨b, off, e, hlt, hc⟩ := h hn
  exact ⟨b, off, e, hlt, fun j hj => (hb.cell (p := ⟨b, _, none⟩) hlt).trans (hc j hj)⟩
structure ActOkK (w : World) (B : Nat) (p : ActK) : Prop where
  w0 : -9223372036854775808 ≤ p.what
  w1 : p.what ≤ 9223372036854775807
  a0 : -9223372036854775808 ≤ p.at1
  a1 : p.at1 ≤ 9223372036854775807
  n0 : -9223372036854775808 ≤ p.n
  n1 : p.n ≤ 9223372036854775807
  rd : RdB w B p.at_ p.st
  len : p.st.length ≤ p.cap
  cap : p.cap ≤ 9223372036854775807
theorem ActOkK.below {w w' : World} {B : Nat} {p : ActK} (h : ActOkK w B p) (hb : Below B w w') : ActOkK w' B p := ⟨h.w0, h.w1, h.a0, h.a1, h.n0, h.n1, h.rd.below hb, h.len, h.cap⟩
def ActK.row (p : ActK) : Array Value := #[.int .i64 p.what, .int .i64 p.at1, .int .u8 ((p.by_.toNat : Nat) : Int), .int .i64 p.n, .slice p.at_ p.st.length p.cap]
theorem ActK.row_size (p : ActK) : p.row.size = 5 := rfl
theorem ActK.row_one (p : ActK) : p.row.all (·.oneCell') = true := by simp [ActK.row, Value.oneCell']
/-- A slice of acts, all of it below B. -/
def RdK (w : World) (B : Nat) (A : Option Addr) (l : List ActK) : Prop :=
  0 < l.length → ∃ b off, A = some ⟨b, off, none⟩ ∧ b < B ∧ ∀ j (h : j < l.length), (∀ i, i < 5 → w.cell? ⟨b, off + j * 5 + i, none⟩ = (l[j]).row[i]?) ∧ ActOkK w B l[j]
theorem RdK.below {w w' : World} {B : Nat} {A : Option Addr} {l : List ActK} (h : RdK w B A l) (hb : Below B w w') : RdK w' B A l := fun hn => by
  obtain ⟨b, off, e, hlt, hc⟩ := h hn
  refine ⟨b, off, e, hlt, fun j hj => ?_⟩
  obtain ⟨h1, h2⟩ := hc j hj
  exact ⟨fun i hi => (hb.cell (p := ⟨b, _, none⟩) hlt).trans (h1 i hi), h2.below hb⟩
theorem cells_boolsK {H : Type} {enc : TypeId × Value → H} {P : Program} {t e : TypeId} {w : World} {fuel : Nat} {sp : Nat → Bool} {held : Bool} {cs : List Value} {d : DataW H × List MemPlace}
    (ht : P.underlying t = some (.slice e)) (he : P.underlying e = some .bool) (hc : P.cellsOf e = 1)
    (hf : DataW.trod enc P w 0 sp held fuel t cs = some d) :
    ∃ A S c, cs = [.slice A (S : List Bool).length c] ∧ RdB w w.heap.size A S ∧ S.length ≤ c ∧ c ≤ maxLen := by
  rcases Go.Deep.open_slice1 ht hc hf with ⟨hcs, hx⟩ | ⟨a, len, cap, m, n, V, D, Pl, hcs, _, hl, hm, hmm, hx, hel⟩
  · exact ⟨none, [], 0, hcs, fun h => absurd h (by simp), Nat.le_refl _, Nat.zero_le _⟩
  · have hlm : len ≤ m := by rw [hmm]; split <;> omega
    obtain ⟨B, hB⟩ := Go.Deep.choose_lt (α := Bool) (n := len) (p := fun i b => w.cell? (a.add i) = some (.bool b)) (fun i hi => by
      obtain ⟨h1, h2⟩ := hel i (by omega)
      obtain ⟨b, h3, _⟩ := DataW.trod_bool he h2
      exact ⟨b, by rw [h1]; simpa using h3⟩)
    refine ⟨some a, (List.range len).map B, cap, by simpa using hcs, fun hn => ?_, by simpa using hl, hm⟩
    have hn' : 0 < len := by simpa using hn
    obtain ⟨b, off, spot⟩ := a
    have hc0 := hB 0 hn'
    have hspot : spot = none := by simpa [Addr.add] using World.cell?_spot hc0
    subst hspot
    have hplain : ∀ j, (⟨b, off, none⟩ : Addr).add j = ⟨b, off + j, none⟩ := fun j => by unfold Addr.add; split <;> simp_all
    refine ⟨b, off, rfl, World.block_lt_of_cell? w _ hc0, fun j hj => ?_⟩
    have hj' : j < len := by simpa using hj
    have := hB j hj'
    rw [hplain] at this
    rw [this]
    simp [List.getD, hj']
theorem cells_intK {H : Type} {enc : TypeId × Value → H} {P : Program} {t : TypeId} {w : World} {fuel : Nat} {sp : Nat → Bool} {held : Bool} {cs : List Value} {d : DataW H × List MemPlace}
    (ht : P.underlying t = some (.int .i64)) (hf : DataW.trod enc P w 0 sp held fuel t cs = some d) : ∃ z, cs = [.int .i64 z] ∧ -9223372036854775808 ≤ z ∧ z ≤ 9223372036854775807 := by
  obtain ⟨n, e, _, hw⟩ := DataW.trod_int ht hf
  exact ⟨n, e, bounds_i64 hw⟩
theorem cells_u8K {H : Type} {enc : TypeId × Value → H} {P : Program} {t : TypeId} {w : World} {fuel : Nat} {sp : Nat → Bool} {held : Bool} {cs : List Value} {d : DataW H × List MemPlace}
    (ht : P.underlying t = some (.int .u8)) (hf : DataW.trod enc P w 0 sp held fuel t cs = some d) : ∃ b : UInt8, cs = [.int .u8 ((b.toNat : Nat) : Int)] := by
  obtain ⟨n, e, _, hw⟩ := DataW.trod_int ht hf
  have hb := bounds_u8 hw
  refine ⟨UInt8.ofNat n.toNat, ?_⟩
  rw [e]
  congr 2
  simp
  omega
theorem open_five {H : Type} {enc : TypeId × Value → H} {P : Program} {w : World} {sp : Nat → Bool} {held : Bool} {t : TypeId} {f0 f1 f2 f3 f4 : Field} {fuel : Nat} {cs : List Value} {x : DataW H × List MemPlace} (ht : P.underlying t = some (.struct #[f0, f1, f2, f3, f4])) (h : DataW.trod enc P w 0 sp held fuel t cs = some x) :
    ∃ (n : Nat), ∀ f, f ∈ [f0, f1, f2, f3, f4] → ∃ y, DataW.trod enc P w 0 sp held n f.type ((cs.drop f.offset).take (P.cellsOf f.type)) = some y := by
  obtain ⟨xs, n, _, rfl, hl, hlen, hf⟩ := DataW.trod_struct ht h
  match xs, hlen with
  | [y0, y1, y2, y3, y4], _ =>
    refine ⟨n, fun f hm => ?_⟩
    simp only [List.mem_cons, List.not_mem_nil, or_false] at hm
    rcases hm with rfl | rfl | rfl | rfl | rfl
    · exact ⟨y0, by simpa using hf 0 f rfl⟩
    · exact ⟨y1, by simpa using hf 1 f rfl⟩
    · exact ⟨y2, by simpa using hf 2 f rfl⟩
    · exact ⟨y3, by simpa using hf 3 f rfl⟩
    · exact ⟨y4, by simpa using hf 4 f rfl⟩
theorem open_actsK {H : Type} {enc : TypeId × Value → H} {P : Program} {t s ti tu tb e : TypeId} {f0 f1 f2 f3 f4 : Field} {w : World} {b0 : Nat} {sp : Nat → Bool} {held : Bool} {r : Reach} {v : Value} {d : DataW H} {p : List MemPlace}
    (ht : P.underlying t = some (.slice s)) (hs : P.underlying s = some (.struct #[f0, f1, f2, f3, f4])) (h0 : f0.type = ti ∧ f0.offset = 0) (h1 : f1.type = ti ∧ f1.offset = 1) (h2 : f2.type = tu ∧ f2.offset = 2) (h3 : f3.type = ti ∧ f3.offset = 3) (h4 : f4.type = tb ∧ f4.offset = 4)
    (hi : P.underlying ti = some (.int .i64)) (ci : P.cellsOf ti = 1) (hu : P.underlying tu = some (.int .u8)) (cu : P.cellsOf tu = 1) (hb : P.underlying tb = some (.slice e)) (cb : P.cellsOf tb = 1) (he : P.underlying e = some .bool) (ce : P.cellsOf e = 1) (cs3 : P.cellsOf s = 5)
    (hv : Value.okWide P w r b0 t v) (h : DataW.Trod enc P w 0 sp held t v d p) :
    ∃ A l c, v = .slice A (l : List ActK).length c ∧ RdK w w.heap.size A l ∧ l.length ≤ c ∧ c ≤ maxLen := by
  obtain ⟨a0, len, cap, rfl⟩ := okWide_slice ht hv
  obtain ⟨fuel, hf⟩ := h
  rcases Go.Deep.open_slice ht hf with ⟨hcs, hx⟩ | ⟨a, len', cap', m, n, D, Pl, hcs, _, hl, hm, hmm, hx, hel⟩
  · simp [Value.cells] at hcs
    obtain ⟨rfl, rfl, rfl⟩ := hcs
    exact ⟨none, [], 0, rfl, fun h => by simp at h, Nat.le_refl _, Nat.zero_le _⟩
  · simp [Value.cells] at hcs
    obtain ⟨rfl, rfl, rfl⟩ := hcs
    have hlm : len ≤ m := by rw [hmm]; split <;> omega
    rw [cs3] at hel
    have hone : ∀ j, j < len → ∃ q : ActK, (∀ i, i < 5 → w.cell? (a.add (j * 5 + i)) = q.row[i]?) ∧ ActOkK w w.heap.size q := by
      intro j hj
      obtain ⟨cs', hc1, hc2⟩ := hel j (by omega)
      obtain ⟨_, hlen, hcell⟩ := World.cells?_some hc1
      obtain ⟨nn, hfour⟩ := open_five hs hc2
      obtain ⟨y0, g0⟩ := hfour f0 (by simp)
      obtain ⟨y1, g1⟩ := hfour f1 (by simp)
      obtain ⟨y2, g2⟩ := hfour f2 (by simp)
      obtain ⟨y3, g3⟩ := hfour f3 (by simp)
      obtain ⟨y4, g4⟩ := hfour f4 (by simp)
      rw [h0.1, h0.2, ci] at g0
      rw [h1.1, h1.2, ci] at g1
      rw [h2.1, h2.2, cu] at g2
      rw [h3.1, h3.2, ci] at g3
      rw [h4.1, h4.2, cb] at g4
      match cs', hlen with
      | [k0, k1, k2, k3, k4], _ =>
        obtain ⟨z0, e0, a0, b0⟩ := cells_intK hi g0
        obtain ⟨z1, e1, a1, b1⟩ := cells_intK hi g1
        obtain ⟨z2, e2⟩ := cells_u8K hu g2
        obtain ⟨z3, e3, a3, b3⟩ := cells_intK hi g3
        obtain ⟨TA, T, Tc, e4, hr, hl2, hm2⟩ := cells_boolsK hb he ce g4
        simp at e0 e1 e2 e3 e4
        refine ⟨⟨z0, z1, z2, z3, T, TA, Tc⟩, fun i hi5 => ?_, ⟨a0, b0, a1, b1, a3, b3, hr, hl2, by unfold maxLen at hm2; omega⟩⟩
        have c0 := hcell i (by omega)
        rw [Go.Deep.add_add] at c0
        rw [c0]
        match i, hi5 with
        | 0, _ => simp [ActK.row, e0]
        | 1, _ => simp [ActK.row, e1]
        | 2, _ => simp [ActK.row, e2]
        | 3, _ => simp [ActK.row, e3]
        | 4, _ => simp [ActK.row, e4]
    haveI : Nonempty ActK := ⟨⟨0, 0, 0, 0, [], none, 0⟩⟩
    haveI : Inhabited ActK := ⟨⟨0, 0, 0, 0, [], none, 0⟩⟩
    obtain ⟨q, hq⟩ := Go.Deep.choose_lt hone
    refine ⟨some a, (List.range len).map q, cap, by simp, fun hn => ?_, by simpa using hl, hm⟩
    have hn' : 0 < len := by simpa using hn
    obtain ⟨b, off, spot⟩ := a
    have hc0 := (hq 0 hn').1 0 (by omega)
    have hc0' : w.cell? ((⟨b, off, spot⟩ : Addr).add 0) = some (.int .i64 (q 0).what) := by simpa [ActK.row] using hc0
    have hspot : spot = none := by simpa [Addr.add] using World.cell?_spot hc0'
    subst hspot
    have hplain : ∀ j, (⟨b, off, none⟩ : Addr).add j = ⟨b, off + j, none⟩ := fun j => by unfold Addr.add; split <;> simp_all
    refine ⟨b, off, rfl, World.block_lt_of_cell? w _ hc0', fun j hj => ?_⟩
    have hj' : j < len := by simpa using hj
    obtain ⟨h1, h4⟩ := hq j hj'
    have e : ((List.range len).map q)[j] = q j := by simp
    rw [e]
    refine ⟨fun i hi => ?_, h4⟩
    have := h1 i hi
    rw [hplain] at this
    rw [Nat.add_assoc]
    exact this
end Go.Proofs.Ytdlciehboimciaa
