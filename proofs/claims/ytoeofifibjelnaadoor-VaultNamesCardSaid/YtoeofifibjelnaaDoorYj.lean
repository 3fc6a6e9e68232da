/-
  An act of a vault's laws, by value.
-/
import Derived.Test.YtoeofifibjelnaaDoorYi
import Derived.Test.YtoeofifibjelnaaDoorLp
import Derived.Deep.Strs
import Derived.Deep.Slices
namespace Go.Proofs.YtoeofifibjelnaaDoor
set_option maxRecDepth 100000
open Go.ChangeShapes Go.WideShapes Go.ChangeAt Go.RowKit
set_option linter.unusedVariables false
set_option linter.unusedSimpArgs false

structure VAct where
  what : Int
  epoch : Int
  client : Int
  counter : Int
  wa : Option Addr
  wl : List UInt8
  wc : Nat
  ba : Option Addr
  bl : List UInt8
  bc : Nat
  which : Int
  by_ : UInt8
instance : Inhabited VAct := ⟨⟨0, 0, 0, 0, none, [], 0, none, [], 0, 0, 0⟩⟩
def VAct.row (q : VAct) : Array Value := #[.int .i64 q.what, .int .i64 q.epoch, .int .i64 q.client, .int .i64 q.counter, .slice q.wa q.wl.length q.wc, .slice q.ba q.bl.length q.bc, .int .i64 q.which, .int .u8 (q.by_.toNat : Int)]
structure VActOk (w : World) (B : Nat) (q : VAct) : Prop where
  hwhat : okI q.what
  hepoch : okI q.epoch
  hclient : okI q.client
  hcounter : okI q.counter
  wrd : Rd w B q.wa q.wl
  wlen : q.wl.length ≤ q.wc
  wcap : q.wc ≤ 9223372036854775807
  brd : Rd w B q.ba q.bl
  blen : q.bl.length ≤ q.bc
  bcap : q.bc ≤ 9223372036854775807
  hwhich : okI q.which
theorem VActOk.below {w w' : World} {B : Nat} {q : VAct} (h : VActOk w B q) (hb : Below B w w') : VActOk w' B q := ⟨h.hwhat, h.hepoch, h.hclient, h.hcounter, h.wrd.below hb, h.wlen, h.wcap, h.brd.below hb, h.blen, h.bcap, h.hwhich⟩
theorem VActOk.more {w : World} {B C : Nat} {q : VAct} (h : VActOk w B q) (hB : B ≤ C) : VActOk w C q := ⟨h.hwhat, h.hepoch, h.hclient, h.hcounter, h.wrd.more hB, h.wlen, h.wcap, h.brd.more hB, h.blen, h.bcap, h.hwhich⟩
/-- The cells of a slice of bytes, within something greater. -/
theorem cells_bytesV {H : Type} {enc : TypeId × Value → H} {P : Program} {t e : TypeId} {w : World} {fuel : Nat} {sp : Nat → Bool} {held : Bool} {cs : List Value} {d : DataW H × List MemPlace}
    (ht : P.underlying t = some (.slice e)) (he : P.underlying e = some (.int .u8)) (hc : P.cellsOf e = 1)
    (hf : DataW.trod enc P w 0 sp held fuel t cs = some d) :
    ∃ A l c, cs = [.slice A (l : List UInt8).length c] ∧ Rd w w.heap.size A l ∧ l.length ≤ c ∧ c ≤ maxLen := by
  rcases open_ints ht he hc hf with ⟨hcs, hx⟩ | ⟨a, len, cap, zs, hcs, _, hl, hm, hz, hx, hcell, hwz⟩
  · exact ⟨none, [], 0, hcs, Rd.nil, Nat.le_refl _, Nat.zero_le _⟩
  · have hzl : len ≤ zs.length := by
      rw [hz]; split <;> omega
    have hlen : ((zs.take len).map fun n => UInt8.ofNat n.toNat).length = len := by
      rw [List.length_map, List.length_take]; omega
    refine ⟨some a, (zs.take len).map fun n => UInt8.ofNat n.toNat, cap, by rw [hlen]; exact hcs, fun h0 => ?_, by rw [hlen]; exact hl, hm⟩
    rw [hlen] at h0
    obtain ⟨b, off, spot⟩ := a
    have hc0 := hcell 0 (by omega)
    have hspot : spot = none := by simpa [Addr.add] using World.cell?_spot hc0
    subst hspot
    have hplain : ∀ j, (⟨b, off, none⟩ : Addr).add j = ⟨b, off + j, none⟩ := fun j => by unfold Addr.add; split <;> simp_all
    refine ⟨b, off, rfl, World.block_lt_of_cell? w _ hc0, fun j hj => ?_⟩
    rw [hlen] at hj
    rw [← hplain, hcell j (by omega)]
    have hb := bounds_u8 (hwz (zs.getD j 0) (by simp [List.getD, show j < zs.length by omega]))
    have e1 : ((zs.take len).map fun n => UInt8.ofNat n.toNat).getD j 0 = UInt8.ofNat (zs.getD j 0).toNat := by
      simp [List.getD, hj, show j < zs.length by omega]
    rw [e1]
    generalize zs.getD j 0 = z at hb
    congr 2
    simp
    omega
theorem cells_intV {H : Type} {enc : TypeId × Value → H} {P : Program} {t : TypeId} {w : World} {fuel : Nat} {sp : Nat → Bool} {held : Bool} {cs : List Value} {d : DataW H × List MemPlace}
    (ht : P.underlying t = some (.int .i64)) (hf : DataW.trod enc P w 0 sp held fuel t cs = some d) : ∃ z, cs = [.int .i64 z] ∧ okI z := by
  obtain ⟨n, e, _, hw⟩ := DataW.trod_int ht hf
  exact ⟨n, e, bounds_i64 hw⟩
theorem cells_u8V {H : Type} {enc : TypeId × Value → H} {P : Program} {t : TypeId} {w : World} {fuel : Nat} {sp : Nat → Bool} {held : Bool} {cs : List Value} {d : DataW H × List MemPlace}
    (ht : P.underlying t = some (.int .u8)) (hf : DataW.trod enc P w 0 sp held fuel t cs = some d) : ∃ u : UInt8, cs = [.int .u8 ((u.toNat : Nat) : Int)] := by
  obtain ⟨n, e, _, hw⟩ := DataW.trod_int ht hf
  obtain ⟨b1, b2⟩ := bounds_u8 hw
  refine ⟨UInt8.ofNat n.toNat, ?_⟩
  have : (UInt8.ofNat n.toNat).toNat = n.toNat := by simp; omega
  rw [this, e]
  congr 2
  omega
theorem cellsU_ : Tryd.prog.cellsOf 5 = 1 := by kernel_rfl
theorem cellsSl_ : Tryd.prog.cellsOf 29 = 1 := by kernel_rfl
theorem cells_vact {H : Type} {enc : TypeId × Value → H} {w : World} {fuel : Nat} {sp : Nat → Bool} {held : Bool} {cs : List Value} {d : DataW H × List MemPlace} (hlc : cs.length = 8)
    (hf : DataW.trod enc Tryd.prog w 0 sp held fuel 39 cs = some d) : ∃ q : VAct, cs = q.row.toList ∧ VActOk w w.heap.size q := by
  obtain ⟨xs, n, _, _, hl, hlen, hg⟩ := DataW.trod_struct Tryd.underlying39 hf
  match cs, hlc with
  | [k0, k1, k2, k3, k4, k5, k6, k7], _ =>
  match xs, hlen with
  | [y0, y1, y2, y3, y4, y5, y6, y7], _ =>
    have g0 := hg 0 _ rfl
    have g1 := hg 1 _ rfl
    have g2 := hg 2 _ rfl
    have g3 := hg 3 _ rfl
    have g4 := hg 4 _ rfl
    have g5 := hg 5 _ rfl
    have g6 := hg 6 _ rfl
    have g7 := hg 7 _ rfl
    simp only [cellsI_, cellsU_, cellsSl_, List.drop_succ_cons, List.drop_zero, List.take_succ_cons, List.take_zero, List.getElem?_cons_succ, List.getElem?_cons_zero] at g0 g1 g2 g3 g4 g5 g6 g7
    obtain ⟨z0, e0, o0⟩ := cells_intV Tryd.underlying3 g0
    obtain ⟨z1, e1, o1⟩ := cells_intV Tryd.underlying3 g1
    obtain ⟨z2, e2, o2⟩ := cells_intV Tryd.underlying3 g2
    obtain ⟨z3, e3, o3⟩ := cells_intV Tryd.underlying3 g3
    obtain ⟨A4, l4, c4, e4, r4, h4, m4⟩ := cells_bytesV Tryd.underlying29 Tryd.underlying5 cellsU_ g4
    obtain ⟨A5, l5, c5, e5, r5, h5, m5⟩ := cells_bytesV Tryd.underlying29 Tryd.underlying5 cellsU_ g5
    obtain ⟨z6, e6, o6⟩ := cells_intV Tryd.underlying3 g6
    obtain ⟨u7, e7⟩ := cells_u8V Tryd.underlying5 g7
    simp [cellsI_, cellsU_, cellsSl_] at e0 e1 e2 e3 e4 e5 e6 e7
    unfold maxLen at m4 m5
    refine ⟨⟨z0, z1, z2, z3, A4, l4, c4, A5, l5, c5, z6, u7⟩, by rw [e0, e1, e2, e3, e4, e5, e6, e7]; rfl, ⟨o0, o1, o2, o3, r4, h4, by show c4 ≤ _; omega, r5, h5, by show c5 ≤ _; omega, o6⟩⟩
theorem cellsAct_ : Tryd.prog.cellsOf 39 = 8 := by kernel_rfl
theorem open_vact {H : Type} {enc : TypeId × Value → H} {w : World} {b0 : Nat} {sp : Nat → Bool} {held : Bool} {r : Reach} {v : Value} {d : DataW H} {p : List MemPlace}
    (hv : Value.okWide Tryd.prog w r b0 39 v) (h : DataW.Trod enc Tryd.prog w 0 sp held 39 v d p) : ∃ q : VAct, v = .agg q.row ∧ VActOk w w.heap.size q := by
  obtain ⟨cs, rfl, hsz⟩ := okWide_struct Tryd.underlying39 hv
  obtain ⟨fuel, hf⟩ := h
  obtain ⟨q, e, ho⟩ := cells_vact (cs := (Value.agg cs).cells.toList) (by rw [cellsAct_] at hsz; simpa [Value.cells] using hsz) hf
  refine ⟨q, ?_, ho⟩
  congr 1
  apply Array.ext'
  simpa [Value.cells] using e
end Go.Proofs.YtoeofifibjelnaaDoor
