/-
  ring: the points sorted; New.
-/
import Derived.Test.YtkhmghmilnfngaaDoorRge
import Derived.Test.YtkhmghmilnfngaaDoorSsk
import Derived.Test.YtkhmghmilnfngaaDoorLc
import Derived.Shelf.SlSortCmp.KitK
import Derived.Lib.SlBytesConst
namespace Go.Proofs.YtkhmghmilnfngaaDoor
set_option maxRecDepth 100000
open Go.ChangeShapes Go.WideShapes Go.ChangeAt Go.RowKit Go.Shelf
open Go.Sort (flatK get_flatK size_flatK HoldsK putRowK)
set_option linter.unusedVariables false
set_option linter.unusedSimpArgs false

def encD (x : PtV) : List Value := [.int .u64 (x.p : Int), .int .i64 (x.r : Int)]
theorem get_arr (ms : List PtV) (k : Nat) : ms.toArray[k]! = ms.getD k ⟨0, 0⟩ := by
  simp only [List.getD_eq_getElem?_getD, List.getElem!_toArray, List.getElem!_eq_getElem?_getD]
  rfl
theorem flat_rowD (ms : List PtV) (t : Nat) (h : t < ms.length * 2) : (rowD ms)[t]? = some ((flatK encD 2 ms.toArray)[t]!) := by
  rw [get_flatK _ _ _ _ (by simpa using h), get_arr]
  obtain ⟨r1, r2⟩ := rowD_at ms (t / 2) (by omega)
  rcases (by omega : t = t / 2 * 2 ∨ t = t / 2 * 2 + 1) with e | e
  · have m : t % 2 = 0 := by omega
    rw [m]
    exact (congrArg (fun i => (rowD ms)[i]?) e).trans r1
  · have m : t % 2 = 1 := by omega
    rw [m]
    exact (congrArg (fun i => (rowD ms)[i]?) e).trans r2
theorem take_putD (cur : Array Value) (ms : List PtV) (h : ms.length * 2 ≤ cur.size) : (Go.Sort.putCells id 0 (flatK encD 2 ms.toArray) cur).toList.take (ms.length * 2) = rowD ms := by
  have hl := rowD_len ms
  apply List.ext_getElem?
  intro i
  rw [List.getElem?_take]
  by_cases hi : i < ms.length * 2
  · rw [if_pos hi, flat_rowD ms i hi]
    have hc : i < cur.size := by omega
    simp [Go.Sort.putCells, hc, hi]
  · rw [if_neg hi, List.getElem?_eq_none (by omega)]
theorem holdsD {w : World} {base g n c : Nat} {ms : List PtV} (hn : ms.length = n) (h : OwnD w base (.slice (some ⟨g, 0, none⟩) n c) ms) : HoldsK encD 2 w g 0 ms.toArray := fun j hj => by
  subst hn
  have hj2 : j < ms.length * 2 := by simpa using hj
  rw [Nat.zero_add]
  exact ⟨(World.ownsRow.cellAt h j hj2).trans (flat_rowD ms j hj2), World.ownsRow.frozenAt h j⟩
theorem sortedWorld {w : World} {base g n c : Nat} {ms : List PtV} (hn : ms.length = n) (h : OwnD w base (.slice (some ⟨g, 0, none⟩) n c) ms) (d' : List PtV) (hd : d'.length = n) (q : Nat) (os : Array Obj) :
    OwnD (sortWorldK encD 2 w g 0 q d'.toArray os) base (.slice (some ⟨g, 0, none⟩) n c) d' ∧ w.grownBy (sortWorldK encD 2 w g 0 q d'.toArray os) (some g) := by
  subst hn
  have hgl := (World.ownsRow.lt h g rfl).2
  rcases h.2 with ⟨hv, _⟩ | ⟨g', cap, cur, hv, hb, hg, hnc, hcm, hcs, ht⟩
  · cases hv
  · injection hv with e1 e2 e3
    injection e1 with e1
    injection e1 with e1
    subst e1 e3
    refine ⟨⟨by rw [rowD_len], .inr ⟨g, c, Go.Sort.putCells id 0 (flatK encD 2 d'.toArray) cur, by rw [hd], hb, ?_, by omega, hcm, by simp [Go.Sort.putCells, hcs], take_putD cur d' (by omega)⟩⟩, ?_⟩
    · unfold sortWorldK putRowK Go.Sort.putRow Go.Sort.mapBlock Go.Sort.grow Go.Sort.ahead
      simp only
      rw [Array.getElem?_append_left (by simpa using hgl), Array.getElem?_modify, if_pos rfl, hg]
      rfl
    · refine ⟨rfl, rfl, rfl, ?_, fun k hk hne => ?_⟩
      · unfold sortWorldK putRowK Go.Sort.putRow Go.Sort.mapBlock Go.Sort.grow Go.Sort.ahead
        simp
      · have hkg : g ≠ k := fun e => hne (by rw [e])
        unfold sortWorldK putRowK Go.Sort.putRow Go.Sort.mapBlock Go.Sort.grow Go.Sort.ahead
        simp only
        rw [Array.getElem?_append_left (by simpa using hk), Array.getElem?_modify, if_neg hkg]
theorem sort_pts (w : World) (base b n c : Nat) (L : List PtV) (hn : L.length = n) (hn6 : n ≤ 1000000) (h : OwnD w base (.slice (some ⟨b, 0, none⟩) n c) L) :
    Calls Tryd.prog 20 #[.slice (some ⟨b, 0, none⟩) n c, .func (.func 21) #[] #[]] w fun e w' => e = .returned (.tuple #[]) ∧ OwnD w' base (.slice (some ⟨b, 0, none⟩) n c) (ssort ltP L) ∧ w.grownBy w' (some b) := by
  have hsz : L.toArray.size = n := by simpa using hn
  have hH := holdsD hn h
  have R : RowK encD 2 w b 0 L.toArray := ⟨fun _ => rfl, fun x v hv => by simp [encD] at hv; rcases hv with rfl | rfl <;> rfl, hH, (World.ownsRow.lt h b rfl).2⟩
  have hcmp : CmpS encD w b 0 L.toArray.size (fun x y => cmpU x.p y.p) := fun W dk hS _ x y => (ptCmp_any W x y).mono fun e w' ⟨e1, e2⟩ => ⟨e1, by rw [e2]; exact (hS.alloc _).alloc _⟩
  have hc := sortStable_any wkP (lt := ltP) (cf := fun x y => cmpU x.p y.p) ltP_cmp hcmp R (SWK.start hH) rfl (by rw [hsz]; omega) c
  rw [hsz] at hc
  refine hc.mono ?_
  rintro e w' ⟨rfl, d', ⟨q, os, rfl⟩, h2, h3⟩
  have hx := sortedWorld hn h d'.toList (by rw [Array.length_toList, h2]) q os
  rw [Array.toArray_toList] at hx
  refine ⟨rfl, ?_, hx.2⟩
  have e1 : d'.toList = ssort ltP L := by rw [h3]
  rw [← e1]
  exact hx.1
/-- Where a replica's point stands. -/
def plcS (r p : Nat) : Nat := plB (sha [114, 105, 110, 103, UInt8.ofNat r, UInt8.ofNat p])
def ring4 : Array Value := #[.int .u8 114, .int .u8 105, .int .u8 110, .int .u8 103]
theorem ring_parts (w : World) (r p : Nat) (hr : r < 256) (hp : p < 256) :
    let w1 := w.alloc (.cells ring4 5 (4, 5))
    let w2 := w1.alloc (.cells #[.int .u8 (r : Int), .int .u8 (p : Int)] 5)
    let w3 := w2.alloc (.cells #[.slice (some ⟨w.heap.size, 0, none⟩) 4 4, .slice (some ⟨w.heap.size + 1, 0, none⟩) 2 2] 38)
    Parts w3 w3.heap.size (some ⟨w.heap.size + 1 + 1, 0, none⟩) [[114, 105, 110, 103], [UInt8.ofNat r, UInt8.ofNat p]] ∧ Below w.heap.size w w3 ∧ w3.heap.size = w.heap.size + 3 := by
  intro w1 w2 w3
  have l1 : w1.heap.size = w.heap.size + 1 := by simp [w1]
  have l2 : w2.heap.size = w.heap.size + 2 := by simp [w2, l1]
  have l3 : w3.heap.size = w.heap.size + 3 := by simp [w3, l2]
  have er : (UInt8.ofNat r).toNat = r := by simp [UInt8.toNat_ofNat']; omega
  have ep : (UInt8.ofNat p).toNat = p := by simp [UInt8.toNat_ofNat']; omega
  have b1 : Below w.heap.size w w1 := (Below.refl _ _).alloc (Nat.le_refl _) _
  have b2 : Below w1.heap.size w1 w2 := (Below.refl _ _).alloc (Nat.le_refl _) _
  have b3 : Below w2.heap.size w2 w3 := (Below.refl _ _).alloc (Nat.le_refl _) _
  have k1 : ∀ j, w1.cell? ⟨w.heap.size, j, none⟩ = ring4[j]? := fun j => World.cell?_alloc_mark w ring4 _ _ j
  have k2 : ∀ j, w2.cell? ⟨w.heap.size + 1, j, none⟩ = (#[.int .u8 (r : Int), .int .u8 (p : Int)] : Array Value)[j]? := fun j => by rw [← l1]; exact World.cell?_alloc_mark w1 #[.int .u8 (r : Int), .int .u8 (p : Int)] _ _ j
  have k3 : ∀ j, w3.cell? ⟨w.heap.size + 1 + 1, j, none⟩ = (#[.slice (some ⟨w.heap.size, 0, none⟩) 4 4, .slice (some ⟨w.heap.size + 1, 0, none⟩) 2 2] : Array Value)[j]? := fun j => by rw [show w.heap.size + 1 + 1 = w2.heap.size by omega]; exact World.cell?_alloc_mark w2 _ _ _ j
  have r1 : Rd w3 w3.heap.size (some ⟨w.heap.size, 0, none⟩) [114, 105, 110, 103] := fun _ => ⟨_, 0, rfl, by omega, fun j hj => by
    rw [Nat.zero_add]
    refine (b3.cell (p := ⟨w.heap.size, j, none⟩) (by show w.heap.size < _; omega)).trans ((b2.cell (p := ⟨w.heap.size, j, none⟩) (by show w.heap.size < _; omega)).trans ((k1 j).trans ?_))
    match j, hj with
    | 0, _ => rfl
    | 1, _ => rfl
    | 2, _ => rfl
    | 3, _ => rfl⟩
  have r2 : Rd w3 w3.heap.size (some ⟨w.heap.size + 1, 0, none⟩) [UInt8.ofNat r, UInt8.ofNat p] := fun _ => ⟨_, 0, rfl, by omega, fun j hj => by
    rw [Nat.zero_add]
    refine (b3.cell (p := ⟨w.heap.size + 1, j, none⟩) (by show w.heap.size + 1 < _; omega)).trans ((k2 j).trans ?_)
    match j, hj with
    | 0, _ => show some (Value.int .u8 (r : Int)) = some (Value.int .u8 (((UInt8.ofNat r).toNat : Nat) : Int)); rw [er]
    | 1, _ => show some (Value.int .u8 (p : Int)) = some (Value.int .u8 (((UInt8.ofNat p).toNat : Nat) : Int)); rw [ep]⟩
  refine ⟨fun _ => ⟨_, 0, rfl, by omega, fun j hj => ?_⟩, b1.trans ((b2.trans (b3.mono b2.size)).mono b1.size), l3⟩
  rw [Nat.zero_add]
  match j, hj with
  | 0, _ => exact ⟨_, 4, k3 0, r1, by show 4 ≤ 4; omega, by decide⟩
  | 1, _ => exact ⟨_, 2, k3 1, r2, by show 2 ≤ 2; omega, by decide⟩
theorem new_no (w : World) (n k : Int) (h : n < 1 ∨ 8 < n ∨ k < 1 ∨ 64 < k) : Calls Tryd.prog 10 #[.int .i64 n, .int .i64 k] w fun e w' => e = .returned (.tuple #[.pointer none, .int .i64 1]) ∧ w = w' := by
  by_cases h1 : n < 1
  · have t1 : n < 1 := h1
    go_enter Tryd.func10, Tryd.ntmps10
    go_wp2
    go_ret2
    exact ⟨rfl, rfl⟩
  have t1 : ¬ n < 1 := h1
  by_cases h2 : 8 < n
  · have t2 : 8 < n := h2
    go_enter Tryd.func10, Tryd.ntmps10
    go_wp2
    go_ret2
    exact ⟨rfl, rfl⟩
  have t2 : ¬ 8 < n := h2
  by_cases h3 : k < 1
  · have t3 : k < 1 := h3
    go_enter Tryd.func10, Tryd.ntmps10
    go_wp2
    go_ret2
    exact ⟨rfl, rfl⟩
  have t3 : ¬ k < 1 := h3
  have t4 : 64 < k := by omega
  go_enter Tryd.func10, Tryd.ntmps10
  go_wp2
  go_ret2
  exact ⟨rfl, rfl⟩
end Go.Proofs.YtkhmghmilnfngaaDoor
