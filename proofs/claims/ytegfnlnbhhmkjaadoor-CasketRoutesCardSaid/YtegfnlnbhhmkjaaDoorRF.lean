/-
  Merged: Rgf Rgg Rgh.
-/
import Derived.Test.YtegfnlnbhhmkjaaDoorRC
import Derived.Test.YtegfnlnbhhmkjaaDoorSJ
import Derived.Test.YtegfnlnbhhmkjaaDoorLc
import Derived.Shelf.SlSortCmp.KitK
import Derived.Lib.SlBytesConst
namespace Go.Proofs.YtegfnlnbhhmkjaaDoor
set_option maxRecDepth 100000
open Go.ChangeShapes Go.WideShapes Go.ChangeAt Go.RowKit Go.Shelf
open Go.Sort (flatK get_flatK size_flatK HoldsK putRowK)
set_option linter.unusedVariables false
set_option linter.unusedSimpArgs false

def encD (x : PtV) : List Value := [.int .u64 (x.p : Int), .int .i64 (x.r : Int)]
theorem get_arr (ms : List PtV) (k : Nat) : ms.toArray[k]! = ms.getD k ⟨0, 0⟩ := by
  simp only [List.getD_eq_getElem?_getD, List.getElem!_toArray, List.getElem!_eq_getElem?_getD]
  rfl
theorem flat_rowD (ms : List PtV) (t : Nat) (h : t < ms.length * 2) : (rowD ms)[t]? = some ((flatK encD 2 ms.toArray)[t]!) := by
  rw [get_flatK _ _ _ _ (by simpa using h), get_arr]
  obtain ⟨r1, r2⟩ := rowD_at ms (t / 2) (by omega)
  rcases (by omega : t = t / 2 * 2 ∨ t = t / 2 * 2 + 1) with e | e
  · have m : t % 2 = 0 := by omega
    rw [m]
    exact (congrArg (fun i => (rowD ms)[i]?) e).trans r1
  · have m : t % 2 = 1 := by omega
    rw [m]
    exact (congrArg (fun i => (rowD ms)[i]?) e).trans r2
theorem take_putD (cur : Array Value) (ms : List PtV) (h : ms.length * 2 ≤ cur.size) : (Go.Sort.putCells id 0 (flatK encD 2 ms.toArray) cur).toList.take (ms.length * 2) = rowD ms := by
  have hl := rowD_len ms
  apply List.ext_getElem?
  intro i
  rw [List.getElem?_take]
  by_cases hi : i < ms.length * 2
  · rw [if_pos hi, flat_rowD ms i hi]
    have hc : i < cur.size := by omega
    simp [Go.Sort.putCells, hc, hi]
  · rw [if_neg hi, List.getElem?_eq_none (by omega)]
theorem holdsD {w : World} {base g n c : Nat} {ms : List PtV} (hn : ms.length = n) (h : OwnD w base (.slice (some ⟨g, 0, none⟩) n c) ms) : HoldsK encD 2 w g 0 ms.toArray := fun j hj => by
  subst hn
  have hj2 : j < ms.length * 2 := by simpa using hj
  rw [Nat.zero_add]
  exact ⟨(World.ownsRow.cellAt h j hj2).trans (flat_rowD ms j hj2), World.ownsRow.frozenAt h j⟩
theorem sortedWorld {w : World} {base g n c : Nat} {ms : List PtV} (hn : ms.length = n) (h : OwnD w base (.slice (some ⟨g, 0, none⟩) n c) ms) (d' : List PtV) (hd : d'.length = n) (q : Nat) (os : Array Obj) :
    OwnD (sortWorldK encD 2 w g 0 q d'.toArray os) base (.slice (some ⟨g, 0, none⟩) n c) d' ∧ w.grownBy (sortWorldK encD 2 w g 0 q d'.toArray os) (some g) := by
  subst hn
  have hgl := (World.ownsRow.lt h g rfl).2
  rcases h.2 with ⟨hv, _⟩ | ⟨g', cap, cur, hv, hb, hg, hnc, hcm, hcs, ht⟩
  · cases hv
  · injection hv with e1 e2 e3
    injection e1 with e1
    injection e1 with e1
    subst e1 e3
    refine ⟨⟨by rw [rowD_len], .inr ⟨g, c, Go.Sort.putCells id 0 (flatK encD 2 d'.toArray) cur, by rw [hd], hb, ?_, by omega, hcm, by simp [Go.Sort.putCells, hcs], take_putD cur d' (by omega)⟩⟩, ?_⟩
    · unfold sortWorldK putRowK Go.Sort.putRow Go.Sort.mapBlock Go.Sort.grow Go.Sort.ahead
      simp only
      rw [Array.getElem?_append_left (by simpa using hgl), Array.getElem?_modify, if_pos rfl, hg]
      rfl
    · refine ⟨rfl, rfl, rfl, ?_, fun k hk hne => ?_⟩
      · unfold sortWorldK putRowK Go.Sort.putRow Go.Sort.mapBlock Go.Sort.grow Go.Sort.ahead
        simp
      · have hkg : g ≠ k := fun e => hne (by rw [e])
        unfold sortWorldK putRowK Go.Sort.putRow Go.Sort.mapBlock Go.Sort.grow Go.Sort.ahead
        simp only
        rw [Array.getElem?_append_left (by simpa using hk), Array.getElem?_modify, if_neg hkg]
theorem sort_pts (w : World) (base b n c : Nat) (L : List PtV) (hn : L.length = n) (hn6 : n ≤ 1000000) (h : OwnD w base (.slice (some ⟨b, 0, none⟩) n c) L) :
    Calls Tryd.prog 15 #[.slice (some ⟨b, 0, none⟩) n c, .func (.func 16) #[] #[]] w fun e w' => e = .returned (.tuple #[]) ∧ OwnD w' base (.slice (some ⟨b, 0, none⟩) n c) (ssort ltP L) ∧ w.grownBy w' (some b) := by
  have hsz : L.toArray.size = n := by simpa using hn
  have hH := holdsD hn h
  have R : RowK encD 2 w b 0 L.toArray := ⟨fun _ => rfl, fun x v hv => by simp [encD] at hv; rcases hv with rfl | rfl <;> rfl, hH, (World.ownsRow.lt h b rfl).2⟩
  have hcmp : CmpS encD w b 0 L.toArray.size (fun x y => cmpU x.p y.p) := fun W dk hS _ x y => (ptCmp_any W x y).mono fun e w' ⟨e1, e2⟩ => ⟨e1, by rw [e2]; exact (hS.alloc _).alloc _⟩
  have hc := sortStable_any wkP (lt := ltP) (cf := fun x y => cmpU x.p y.p) ltP_cmp hcmp R (SWK.start hH) rfl (by rw [hsz]; omega) c
  rw [hsz] at hc
  refine hc.mono ?_
  rintro e w' ⟨rfl, d', ⟨q, os, rfl⟩, h2, h3⟩
  have hx := sortedWorld hn h d'.toList (by rw [Array.length_toList, h2]) q os
  rw [Array.toArray_toList] at hx
  refine ⟨rfl, ?_, hx.2⟩
  have e1 : d'.toList = ssort ltP L := by rw [h3]
  rw [← e1]
  exact hx.1
/-- Where a replica's point stands. -/
def plcS (r p : Nat) : Nat := plB (sha [114, 105, 110, 103, UInt8.ofNat r, UInt8.ofNat p])
def ring4 : Array Value := #[.int .u8 114, .int .u8 105, .int .u8 110, .int .u8 103]
theorem ring_parts (w : World) (r p : Nat) (hr : r < 256) (hp : p < 256) :
    let w1 := w.alloc (.cells ring4 5 (4, 5))
    let w2 := w1.alloc (.cells #[.int .u8 (r : Int), .int .u8 (p : Int)] 5)
    let w3 := w2.alloc (.cells #[.slice (some ⟨w.heap.size, 0, none⟩) 4 4, .slice (some ⟨w.heap.size + 1, 0, none⟩) 2 2] 39)
    Parts w3 w3.heap.size (some ⟨w.heap.size + 1 + 1, 0, none⟩) [[114, 105, 110, 103], [UInt8.ofNat r, UInt8.ofNat p]] ∧ Below w.heap.size w w3 ∧ w3.heap.size = w.heap.size + 3 := by
  intro w1 w2 w3
  have l1 : w1.heap.size = w.heap.size + 1 := by simp [w1]
  have l2 : w2.heap.size = w.heap.size + 2 := by simp [w2, l1]
  have l3 : w3.heap.size = w.heap.size + 3 := by simp [w3, l2]
  have er : (UInt8.ofNat r).toNat = r := by simp [UInt8.toNat_ofNat']; omega
  have ep : (UInt8.ofNat p).toNat = p := by simp [UInt8.toNat_ofNat']; omega
  have b1 : Below w.heap.size w w1 := (Below.refl _ _).alloc (Nat.le_refl _) _
  have b2 : Below w1.heap.size w1 w2 := (Below.refl _ _).alloc (Nat.le_refl _) _
  have b3 : Below w2.heap.size w2 w3 := (Below.refl _ _).alloc (Nat.le_refl _) _
  have k1 : ∀ j, w1.cell? ⟨w.heap.size, j, none⟩ = ring4[j]? := fun j => World.cell?_alloc_mark w ring4 _ _ j
  have k2 : ∀ j, w2.cell? ⟨w.heap.size + 1, j, none⟩ = (#[.int .u8 (r : Int), .int .u8 (p : Int)] : Array Value)[j]? := fun j => by rw [← l1]; exact World.cell?_alloc_mark w1 #[.int .u8 (r : Int), .int .u8 (p : Int)] _ _ j
  have k3 : ∀ j, w3.cell? ⟨w.heap.size + 1 + 1, j, none⟩ = (#[.slice (some ⟨w.heap.size, 0, none⟩) 4 4, .slice (some ⟨w.heap.size + 1, 0, none⟩) 2 2] : Array Value)[j]? := fun j => by rw [show w.heap.size + 1 + 1 = w2.heap.size by omega]; exact World.cell?_alloc_mark w2 _ _ _ j
  have r1 : Rd w3 w3.heap.size (some ⟨w.heap.size, 0, none⟩) [114, 105, 110, 103] := fun _ => ⟨_, 0, rfl, by omega, fun j hj => by
    rw [Nat.zero_add]
    refine (b3.cell (p := ⟨w.heap.size, j, none⟩) (by show w.heap.size < _; omega)).trans ((b2.cell (p := ⟨w.heap.size, j, none⟩) (by show w.heap.size < _; omega)).trans ((k1 j).trans ?_))
    match j, hj with
    | 0, _ => rfl
    | 1, _ => rfl
    | 2, _ => rfl
    | 3, _ => rfl⟩
  have r2 : Rd w3 w3.heap.size (some ⟨w.heap.size + 1, 0, none⟩) [UInt8.ofNat r, UInt8.ofNat p] := fun _ => ⟨_, 0, rfl, by omega, fun j hj => by
    rw [Nat.zero_add]
    refine (b3.cell (p := ⟨w.heap.size + 1, j, none⟩) (by show w.heap.size + 1 < _; omega)).trans ((k2 j).trans ?_)
    match j, hj with
    | 0, _ => show some (Value.int .u8 (r : Int)) = some (Value.int .u8 (((UInt8.ofNat r).toNat : Nat) : Int)); rw [er]
    | 1, _ => show some (Value.int .u8 (p : Int)) = some (Value.int .u8 (((UInt8.ofNat p).toNat : Nat) : Int)); rw [ep]⟩
  refine ⟨fun _ => ⟨_, 0, rfl, by omega, fun j hj => ?_⟩, b1.trans ((b2.trans (b3.mono b2.size)).mono b1.size), l3⟩
  rw [Nat.zero_add]
  match j, hj with
  | 0, _ => exact ⟨_, 4, k3 0, r1, by show 4 ≤ 4; omega, by decide⟩
  | 1, _ => exact ⟨_, 2, k3 1, r2, by show 2 ≤ 2; omega, by decide⟩
theorem new_no (w : World) (n k : Int) (h : n < 1 ∨ 8 < n ∨ k < 1 ∨ 64 < k) : Calls Tryd.prog 4 #[.int .i64 n, .int .i64 k] w fun e w' => e = .returned (.tuple #[.pointer none, .int .i64 1]) ∧ w = w' := by
  by_cases h1 : n < 1
  · have t1 : n < 1 := h1
    go_enter Tryd.func4, Tryd.ntmps4
    go_wp2
    go_ret2
    exact ⟨rfl, rfl⟩
  have t1 : ¬ n < 1 := h1
  by_cases h2 : 8 < n
  · have t2 : 8 < n := h2
    go_enter Tryd.func4, Tryd.ntmps4
    go_wp2
    go_ret2
    exact ⟨rfl, rfl⟩
  have t2 : ¬ 8 < n := h2
  by_cases h3 : k < 1
  · have t3 : k < 1 := h3
    go_enter Tryd.func4, Tryd.ntmps4
    go_wp2
    go_ret2
    exact ⟨rfl, rfl⟩
  have t3 : ¬ k < 1 := h3
  have t4 : 64 < k := by omega
  go_enter Tryd.func4, Tryd.ntmps4
  go_wp2
  go_ret2
  exact ⟨rfl, rfl⟩
end Go.Proofs.YtegfnlnbhhmkjaaDoor

namespace Go.Proofs.YtegfnlnbhhmkjaaDoor
set_option maxRecDepth 100000
open Go.ChangeShapes Go.WideShapes Go.ChangeAt Go.RowKit
set_option linter.unusedVariables false
set_option linter.unusedSimpArgs false

theorem ownsRow_heapr {w w' : World} {base size n : Nat} {e : TypeId} {v : Value} {xs : List Value} (h : w.ownsRow base e size v n xs) (hg : ∀ g, v.ownBlock = some g → w'.heap[g]? = w.heap[g]?) : w'.ownsRow base e size v n xs := by
  refine ⟨h.1, ?_⟩
  rcases h.2 with h2 | ⟨g, cap, cur, hv, hb, hh, rest⟩
  · exact .inl h2
  · exact .inr ⟨g, cap, cur, hv, hb, (hg g (by rw [hv]; rfl)).trans hh, rest⟩
/-- A ring that is being made. -/
def NwS (w wr : World) (g base : Nat) (l : List PtV) : Prop := ∃ A c, Bk wr g 57 #[.slice A l.length c] ∧ OwnD wr base (.slice A l.length c) l ∧ Below w.heap.size w wr ∧ base ≤ wr.heap.size
def NewRP (w : World) (n k : Nat) (e : Ending) (w' : World) : Prop := ∃ g, e = .returned (.tuple #[.pointer (some ⟨g, 0, none⟩), .int .i64 0]) ∧ RingIs w' g (ringL plcS n k) ∧ Below w.heap.size w w'
theorem zRing (W : World) : (zeroValue 57).run Tryd.prog W = .ok (.agg #[.slice none 0 0]) W := by kernel_rfl
theorem rdd_one (w : World) (x : PtV) : RdD (w.alloc (.cells #[.int .u64 (x.p : Int), .int .i64 (x.r : Int)] 61)) (w.alloc (.cells #[.int .u64 (x.p : Int), .int .i64 (x.r : Int)] 61)).heap.size (some ⟨w.heap.size, 0, none⟩) [x] := fun _ =>
  ⟨_, 0, rfl, by simp, fun j hj => by
    have : j = 0 := by simpa using hj
    subst this
    exact ⟨World.cell?_alloc_mark w #[.int .u64 (x.p : Int), .int .i64 (x.r : Int)] 61 _ 0, World.cell?_alloc_mark w #[.int .u64 (x.p : Int), .int .i64 (x.r : Int)] 61 _ 1⟩⟩
set_option maxRecDepth 100000 in
set_option maxHeartbeats 4000000 in
theorem new_any (w : World) (n k : Nat) (h1 : 1 ≤ n) (h2 : n ≤ 8) (h3 : 1 ≤ k) (h4 : k ≤ 64) (ht : Tab w) (hg1 : 0 < w.heap.size) :
    Calls Tryd.prog 4 #[.int .i64 (n : Int), .int .i64 (k : Int)] w (NewRP w n k) := by
  obtain ⟨g, hg⟩ : ∃ g, w.heap.size = g := ⟨_, rfl⟩
  obtain ⟨w1, hw1⟩ : ∃ W, w.alloc (.cells #[.slice none 0 0] 57) = W := ⟨_, rfl⟩
  obtain ⟨base, hbase⟩ : ∃ x, w1.heap.size = x := ⟨_, rfl⟩
  have s1 : base = g + 1 := by rw [← hbase, ← hw1, ← hg]; simp
  have HS0 := hidrg_ (show NwS w w1 g base (ptsL plcS 0 k) from ⟨none, 0, by have kk := Bk.new w 57 #[.slice none 0 0]; rw [hw1, hg] at kk; exact kk, OwnD.nil_ _ _, by rw [← hw1]; exact (Below.refl _ _).alloc (Nat.le_refl _) _, by omega⟩)
  have HGB := hidrg_ (show g < base by omega)
  have HG := hidrg_ (show w.heap.size ≤ g by omega)
  have HT := hidrg_ ht
  have hz := zRing
  have t1 : ¬ (n : Int) < 1 := by omega
  have t2 : ¬ 8 < (n : Int) := by omega
  have t3 : ¬ (k : Int) < 1 := by omega
  have t4 : ¬ 64 < (k : Int) := by omega
  clear ht hbase s1
  go_enter Tryd.func4, Tryd.ntmps4
  go_wp2
  clear t1 t2 t3 t4
  go_loopw [27] (fun i wr => ∃ (r : Nat), i = .int .i64 r ∧ r ≤ n ∧ Hid (NwS w wr g base (ptsL plcS r k))) (fun i _ => n - (intOf i).toNat)
  case atStart => exact ⟨0, rfl, Nat.zero_le _, HS0⟩
  case round =>
    clear HS0
    obtain ⟨r, rfl, hrn, HSr⟩ := hrel
    by_cases hlt : r < n
    · have tl : (r : Int) < (n : Int) := by omega
      go_wp2
      clear tl
      go_loopw [31] (fun i wr => ∃ (p : Nat), i = .int .i64 p ∧ p ≤ k ∧ Hid (NwS w wr g base (ptsL plcS r k ++ ptsR plcS p r))) (fun i _ => k - (intOf i).toNat)
      case atStart => exact ⟨0, rfl, Nat.zero_le _, hidrg_ (by have e : ptsL plcS r k ++ ptsR plcS 0 r = ptsL plcS r k := List.append_nil _; rw [e]; exact HSr.out)⟩
      case round =>
        clear HSr
        obtain ⟨p, rfl, hpk, HSp⟩ := hrel
        by_cases hlt2 : p < k
        · have tl : (p : Int) < (k : Int) := by omega
          obtain ⟨l, hl⟩ : ∃ l, ptsL plcS r k ++ ptsR plcS p r = l := ⟨_, rfl⟩
          have HLL := hidrg_ (show ptsL plcS r k ++ ptsR plcS (p + 1) r = l ++ [⟨plcS r p, r⟩] by rw [ptsR_succ, ← List.append_assoc, hl])
          rw [hl] at HSp
          obtain ⟨m, hm⟩ : ∃ m, l.length = m := ⟨_, rfl⟩
          have hm6 : m ≤ 1000 := by
            rw [← hm, ← hl, List.length_append, ptsL_len, ptsR_len]
            have : r * k ≤ 8 * 64 := Nat.mul_le_mul (by omega) h4
            omega
          obtain ⟨A, c, hbk, how, hB, hbs⟩ := HSp.out
          rw [hm] at hbk how
          have HMM := hidrg_ hm
          have BK := hidrg_ hbk
          have OW := hidrg_ how
          have HB := hidrg_ hB
          have HBS := hidrg_ hbs
          obtain ⟨gx, hgx⟩ : ∃ x, wr.heap.size = x := ⟨_, rfl⟩
          have kc := Lib.run_convert_bytes_const (P := Tryd.prog) wr 39 5 #[.int .u8 114, .int .u8 105, .int .u8 110, .int .u8 103] 4 4 Tryd.underlying39 Tryd.underlying5
          rw [hgx] at kc
          obtain ⟨hp, hb3, hs3⟩ := ring_parts wr r p (by omega) (by omega)
          unfold ring4 at hp hb3 hs3
          rw [hgx] at hp hb3 hs3
          have cs := sum_any (some ⟨gx + 1 + 1, 0, none⟩) 2 2 [[114, 105, 110, 103], [UInt8.ofNat r, UInt8.ofNat p]] _ rfl hp (by omega) (by simp) (fun t h => ((HB.out.trans (hb3.mono (by rw [← hgx]; exact HB.out.size))).cell hg1).trans (HT.out t h)) (by have := HB.out.size; have := hb3.size; omega)
          rw [show ([[114, 105, 110, 103], [UInt8.ofNat r, UInt8.ofNat p]] : List (List UInt8)).flatten = [114, 105, 110, 103, UInt8.ofNat r, UInt8.ofNat p] from rfl] at cs
          have BX := hidrg_ hb3
          have HGX := hidrg_ (show gx = wr.heap.size from hgx.symm)
          have HS3 := hidrg_ hs3
          obtain ⟨D, hD⟩ : ∃ D, sha [114, 105, 110, 103, UInt8.ofNat r, UInt8.ofNat p] = D := ⟨_, rfl⟩
          have HPL := hidrg_ (show plB D = plcS r p by rw [← hD]; rfl)
          have HDL := hidrg_ (show D.length = 32 by rw [← hD]; exact sha_len _)
          rw [hD] at cs
          have wu1 : IntKind.u8.wrap (r : Int) = (r : Int) := by rw [IntKind.wrap_u8]; omega
          have wu2 : IntKind.u8.wrap (p : Int) = (p : Int) := by rw [IntKind.wrap_u8]; omega
          have cp := fun W => placeOf_any W D HDL.out
          rw [HPL.out] at cp
          obtain ⟨z, hz2⟩ : ∃ z, plcS r p = z := ⟨_, rfl⟩
          rw [hz2] at cp HLL
          have k0 := (show wr.cell? ⟨g, 0, none⟩ = some (.slice A m c) from hbk.cell 0)
          clear hl hm hbk how hB hbs hp hb3 hs3 hD hz2 k0
          go_wp2_with (first
            | (go_at_call 14; ((with_reducible refine cs.mono ?_); clear cs; rintro e w4 ⟨rfl, hb⟩; have B4 := hidrg_ (BX.out.trans (hb.mono (by rw [HS3.out]; omega))); have cp2 := cp w4; clear cp hb))
            | (go_at_call 13; ((with_reducible refine cp2.mono ?_); clear cp2; rintro e w5 ⟨rfl, hb⟩; have B5 := hidrg_ (B4.out.trans (hb.mono (by have := B4.out.size; rw [HGX.out]; exact this))); have K5 := hidrg_ (BK.out.below B5.out (by have := BK.out.lt; rw [HGX.out]; exact this)); have k5 := (show w5.cell? ⟨g, 0, none⟩ = some (.slice A m c) from K5.out.cell 0); have O5 := hidrg_ ((OW.out.below B5.out (by rw [HGX.out]; exact Nat.le_refl _)).alloc (.cells #[.int .u64 (z : Int), .int .i64 (r : Int)] 61)); have RP := hidrg_ (rdd_one w5 ⟨z, r⟩); have hl1 : l.length + 1 ≤ 1000000 := (by rw [HMM.out]; omega); have hb1 : base ≤ (w5.alloc (.cells #[.int .u64 (z : Int), .int .i64 (r : Int)] 61)).heap.size := (by simp; have := B5.out.size; have := HBS.out; omega); clear hb))
            | (at_builtin; refine wpList_appDD rfl (.tmp 48) (.tmp 52) rfl O5.out rfl 1 1 rfl RP.out rfl hl1 hb1 ?_; intro A6 c6 w6 q1 q2 q3; rw [HMM.out] at q1 q3 ⊢; have O6 := hidrg_ q1; have K6 := hidrg_ ((K5.out.alloc (.cells #[.int .u64 (z : Int), .int .i64 (r : Int)] 61)).grown q2 (fun e => by have h1 := (World.ownsRow.lt O5.out g e.symm).1; have h2 := HGB.out; omega)); have k6 := (show w6.cell? ⟨g, 0, none⟩ = some (.slice A m c) from K6.out.cell 0); have kf := (show w6.frozen? ⟨g, 0, none⟩ = false from K6.out.frozen 0); have BA := (HB.out.trans (B5.out.mono (by rw [HGX.out]; exact HB.out.size))); have BA2 := BA.alloc BA.size (.cells #[.int .u64 (z : Int), .int .i64 (r : Int)] 61); have B6 := hidrg_ (BA2.grown q2 BA2.size (fun k hk => by have h1 := (World.ownsRow.lt O5.out k hk).1; have h2 := HGB.out; have h3 := HG.out; omega)); have S6 := hidrg_ (show base ≤ w6.heap.size from Nat.le_trans hb1 q2.size); clear q1 q2 q3 k5 BA BA2))
          have HFIN := hidrg_ (show NwS w (w6.setCell ⟨g, 0, none⟩ (.slice A6 (m + 1) c6)) g base (ptsL plcS r k ++ ptsR plcS (p + 1) r) by
            rw [HLL.out]
            have e : (l ++ [(⟨z, r⟩ : PtV)]).length = m + 1 := by rw [List.length_append, HMM.out]; rfl
            refine ⟨A6, c6, ?_, ?_, B6.out.setCell HG.out _, by simpa using S6.out⟩
            · rw [e]
              exact K6.out.set_ 0 _
            · rw [e]
              exact ownsRow_heapr O6.out (fun q hq => Below.heap_setCell _ _ _ q (fun e2 => by have h1 := (World.ownsRow.lt O6.out q hq).1; have h2 := HGB.out; have h3 : q = g := e2; omega)))
          go_roundw
          case rel => exact ⟨p + 1, by go_num, by omega, HFIN⟩
          case measure => simp [intOf]; omega
        · have tl : ¬ (p : Int) < (k : Int) := by omega
          obtain rfl : p = k := by omega
          have HN := hidrg_ (show NwS w wr g base (ptsL plcS (r + 1) p) by rw [ptsL_succ]; exact HSp.out)
          go_wp2
          go_roundw
          case rel => exact ⟨r + 1, by go_num, by omega, HN⟩
          case measure => simp [intOf]; omega
    · have tl : ¬ (r : Int) < (n : Int) := by omega
      obtain rfl : r = n := by omega
      obtain ⟨L, hL⟩ : ∃ L, ptsL plcS r k = L := ⟨_, rfl⟩
      have HRL := hidrg_ (show ringL plcS r k = ssort ltP L by unfold ringL; rw [hL])
      obtain ⟨m, hm⟩ : ∃ m, L.length = m := ⟨_, rfl⟩
      have hm0 : 0 < m := by rw [← hm, ← hL, ptsL_len]; exact Nat.mul_pos h1 h3
      have hm6 : m ≤ 1000 := by
        rw [← hm, ← hL, ptsL_len]
        have : r * k ≤ 8 * 64 := Nat.mul_le_mul h2 h4
        omega
      rw [hL] at HSr
      obtain ⟨A, c, hbk, how, hB, hbs⟩ := HSr.out
      rw [hm] at hbk how
      obtain ⟨b, rfl⟩ : ∃ b, A = some ⟨b, 0, none⟩ := by
        rcases how.2 with ⟨_, h0⟩ | ⟨b, cap, cur, hv, _⟩
        · omega
        · injection hv with e1
          exact ⟨b, e1⟩
      have cs := sort_pts wr base b m c L hm (by omega) how
      have BK := hidrg_ hbk
      have OW := hidrg_ how
      have HBB := hidrg_ hB
      have HMM := hidrg_ hm
      have k0 := (show wr.cell? ⟨g, 0, none⟩ = some (.slice (some ⟨b, 0, none⟩) m c) from hbk.cell 0)
      clear hbk how hB hbs hL hm HSr
      go_wp2_with (go_at_call 15; ((with_reducible refine cs.mono ?_); clear cs; rintro e w2 ⟨rfl, ho, hgr⟩; have O2 := hidrg_ ho; have G2 := hidrg_ hgr; clear ho hgr))
      go_ret2
      exact ⟨g, rfl, ⟨some ⟨b, 0, none⟩, c, by rw [HRL.out, ssort_len, HMM.out]; exact BK.out.grown G2.out (fun e => by have h5 := (World.ownsRow.lt OW.out b rfl).1; have h6 := HGB.out; injection e with e; omega), by rw [HRL.out]; exact O2.out.rd.1⟩, HBB.out.grown G2.out HBB.out.size (fun q hq => by injection hq with hq; have h5 := (World.ownsRow.lt OW.out b rfl).1; have h6 := HGB.out; have h7 := HG.out; omega)⟩
end Go.Proofs.YtegfnlnbhhmkjaaDoor

namespace Go.Proofs.YtegfnlnbhhmkjaaDoor
set_option maxRecDepth 100000
open Go.ChangeShapes Go.WideShapes Go.ChangeAt Go.RowKit
set_option linter.unusedVariables false
set_option linter.unusedSimpArgs false

def SaZ (w : World) (b : Bool) (e : Ending) (w' : World) : Prop := e = .returned (.bool b) ∧ Below w.heap.size w w'
theorem getD_append_succ {l : List Nat} {k : Nat} (h : k < l.length) : l.take (k + 1) = l.take k ++ [l.getD k 0] := by
  rw [List.take_succ_eq_append_getElem h, List.getD_eq_getElem?_getD, List.getElem?_eq_getElem h]
  rfl
theorem rowOf_five : (#[.int .u8 5, .int .u8 0, .int .u8 0, .int .u8 0, .int .u8 0, .int .u8 0, .int .u8 0, .int .u8 0, .int .u8 0, .int .u8 0, .int .u8 0, .int .u8 0, .int .u8 0, .int .u8 0, .int .u8 0, .int .u8 0, .int .u8 0, .int .u8 0, .int .u8 0, .int .u8 0, .int .u8 0, .int .u8 0, .int .u8 0, .int .u8 0, .int .u8 0, .int .u8 0, .int .u8 0, .int .u8 0, .int .u8 0, .int .u8 0, .int .u8 0, .int .u8 0] : Array Value) = rowOf (5 :: List.replicate 31 0) := rfl
end Go.Proofs.YtegfnlnbhhmkjaaDoor
