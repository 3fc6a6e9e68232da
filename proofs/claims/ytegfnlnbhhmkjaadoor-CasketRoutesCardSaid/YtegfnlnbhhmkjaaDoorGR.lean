/-
  Merged: G9 Ga Gb Gd Ge Gf.
-/
import Derived.Test.YtegfnlnbhhmkjaaDoorG8
import Derived.Test.YtegfnlnbhhmkjaaDoorLp
import Derived.Deep.Strs
import Derived.Deep.Slices
import Derived.Test.YtegfnlnbhhmkjaaDoorBr
namespace Go.Proofs.YtegfnlnbhhmkjaaDoor
set_option maxRecDepth 100000
open Go.RowKit
set_option linter.unusedVariables false
set_option linter.unusedSimpArgs false

theorem str_from (l : List UInt8) (n k : Nat) (hl : l.length = n) (hk : k ≤ n) (W : World) :
    (Instr.slice 9 (.string (strOf l)) (some (.int .i64 (k : Int))) none none).run Tryd.prog W = .ok (.string (strOf (l.drop k))) W := by
  have hs : (strOf l).size = n := by rw [strOf_size, hl]
  rw [run_slice_string_l W 9 (strOf l) Tryd.underlying9 .i64 (k : Int) (by omega) (by rw [hs]; omega), Int.toNat_natCast, hs, strOf_mid]
  congr 3
  exact List.take_of_length_le (by rw [List.length_drop]; omega)
theorem str_to (l : List UInt8) (n k : Nat) (hl : l.length = n) (hk : k ≤ n) (W : World) :
    (Instr.slice 9 (.string (strOf l)) none (some (.int .i64 (k : Int))) none).run Tryd.prog W = .ok (.string (strOf (l.take k))) W := by
  have hs : (strOf l).size = n := by rw [strOf_size, hl]
  rw [run_slice_string_h W 9 (strOf l) Tryd.underlying9 .i64 (k : Int) (by omega) (by rw [hs]; omega), Int.toNat_natCast, strOf_mid]
  rfl
theorem str_mid (l : List UInt8) (n a b : Nat) (hl : l.length = n) (hab : a ≤ b) (hb : b ≤ n) (W : World) :
    (Instr.slice 9 (.string (strOf l)) (some (.int .i64 (a : Int))) (some (.int .i64 (b : Int))) none).run Tryd.prog W = .ok (.string (strOf ((l.drop a).take (b - a)))) W := by
  have hs : (strOf l).size = n := by rw [strOf_size, hl]
  rw [run_slice_string_if W 9 (strOf l) .i64 .i64 _ _ Tryd.underlying9, if_pos (by rw [hs]; omega), if_pos (by omega), Int.toNat_natCast, Int.toNat_natCast, strOf_mid]

theorem numS_err (size : Nat) (most : Int) (l : List UInt8) : (numS size most l 0).2.2 ≠ 0 ∧ (numS size most l 0).2.1 = l ∨ (numS size most l 0).2.2 = 0 ∧ (numS size most l 0).2.1 = l.drop size ∧ size ≤ l.length := by
  unfold numS
  rw [if_neg (by decide)]
  split
  · exact .inl ⟨by show (3 : Int) ≠ 0; decide, rfl⟩
  · split
    · exact .inl ⟨by show (5 : Int) ≠ 0; decide, rfl⟩
    · exact .inr ⟨rfl, rfl, by omega⟩
def bytS (most : Int) (l : List UInt8) (err : Int) : List UInt8 × List UInt8 × Int := fixS (numS 4 most l err).1 (numS 4 most l err).2.1 (numS 4 most l err).2.2
theorem numS_big32 (most : Int) (l : List UInt8) (h : (numS 4 most l 0).2.2 = 0) : ∃ k : Nat, (numS 4 most l 0).1 = (k : Int) ∧ k ≤ 4294967295 := by
  unfold numS at h ⊢
  rw [if_neg (by decide)] at h ⊢
  split at h
  · cases h
  · rename_i h1
    rw [if_neg h1]
    split at h
    · cases h
    · rename_i h2
      rw [if_neg h2]
      refine ⟨_, rfl, ?_⟩
      have h3 := beN_lt (l.take 4)
      have h4 : (l.take 4).length = 4 := by rw [List.length_take]; omega
      rw [h4] at h3
      have : (256 : Nat) ^ 4 = 4294967296 := by decide
      omega
end Go.Proofs.YtegfnlnbhhmkjaaDoor

namespace Go.Proofs.YtegfnlnbhhmkjaaDoor
set_option maxRecDepth 100000
open Go.RowKit
set_option linter.unusedVariables false
set_option linter.unusedSimpArgs false

set_option maxRecDepth 100000 in
set_option maxHeartbeats 1000000 in
theorem has_nil (w : World) (n : Int) : Calls Tryd.prog 75 #[.pointer none, .int .i64 n] w fun e w' => e = .returned (.bool false) ∧ w = w' := by
  go_enter Tryd.func75, Tryd.ntmps75
  go_wp2
  go_ret
  exact ⟨rfl, rfl⟩
set_option maxRecDepth 100000 in
set_option maxHeartbeats 1000000 in
theorem number_nil (w : World) (n m : Int) : Calls Tryd.prog 60 #[.pointer none, .int .i64 n, .int .i64 m] w fun e w' => e = .returned (.int .i64 0) ∧ w = w' := by
  have c1 := has_nil w n
  go_enter Tryd.func60, Tryd.ntmps60
  go_wp2_with (go_at_call 75; ((with_reducible refine c1.mono ?_); rintro e w' ⟨rfl, rfl⟩))
  go_ret
  exact ⟨rfl, rfl⟩
set_option maxRecDepth 100000 in
set_option maxHeartbeats 1000000 in
theorem innum_nil (w : World) (m : Int) : Calls Tryd.prog 37 #[.pointer none, .int .i64 m] w fun e w' => e = .returned (.int .i64 0) ∧ w = w' := by
  have c1 := number_nil w 8 m
  go_enter Tryd.func37, Tryd.ntmps37
  go_wp2_with (go_at_call 60; ((with_reducible refine c1.mono ?_); rintro e w' ⟨rfl, rfl⟩))
  go_ret
  exact ⟨rfl, rfl⟩
set_option maxRecDepth 100000 in
set_option maxHeartbeats 1000000 in
theorem insmall_nil (w : World) (m : Int) : Calls Tryd.prog 36 #[.pointer none, .int .i64 m] w fun e w' => e = .returned (.int .i64 0) ∧ w = w' := by
  have c1 := number_nil w 1 m
  go_enter Tryd.func36, Tryd.ntmps36
  go_wp2_with (go_at_call 60; ((with_reducible refine c1.mono ?_); rintro e w' ⟨rfl, rfl⟩))
  go_ret
  exact ⟨rfl, rfl⟩
set_option maxRecDepth 100000 in
set_option maxHeartbeats 1000000 in
theorem infixed_nil (w : World) (n : Int) : Calls Tryd.prog 62 #[.pointer none, .int .i64 n] w fun e w' => e = .returned (.slice none 0 0) ∧ w = w' := by
  have c1 := has_nil w n
  go_enter Tryd.func62, Tryd.ntmps62
  go_wp2_with (go_at_call 75; ((with_reducible refine c1.mono ?_); rintro e w' ⟨rfl, rfl⟩))
  go_ret
  exact ⟨rfl, rfl⟩
set_option maxRecDepth 100000 in
set_option maxHeartbeats 1000000 in
theorem inbytes_nil (w : World) (m : Int) : Calls Tryd.prog 61 #[.pointer none, .int .i64 m] w fun e w' => e = .returned (.slice none 0 0) ∧ w = w' := by
  have c1 := number_nil w 4 m
  have c2 := infixed_nil w 0
  go_enter Tryd.func61, Tryd.ntmps61
  go_wp2_with (first
    | (go_at_call 60; ((with_reducible refine c1.mono ?_); rintro e w' ⟨rfl, rfl⟩))
    | (go_at_call 62; ((with_reducible refine c2.mono ?_); rintro e w' ⟨rfl, rfl⟩)))
  go_ret
  exact ⟨rfl, rfl⟩
set_option maxRecDepth 100000 in
set_option maxHeartbeats 1000000 in
theorem end_nil (w : World) : Calls Tryd.prog 44 #[.pointer none] w fun e w' => e = .returned (.int .i64 1) ∧ w = w' := by
  go_enter Tryd.func44, Tryd.ntmps44
  go_wp2
  go_ret
  exact ⟨rfl, rfl⟩
set_option maxRecDepth 100000 in
set_option maxHeartbeats 1000000 in
theorem put_nil (w : World) (v : Value) : Calls Tryd.prog 73 #[.pointer none, v] w fun e w' => e = .returned (.pointer none) ∧ w = w' := by
  go_enter Tryd.func73, Tryd.ntmps73
  go_wp2
  go_ret
  exact ⟨rfl, rfl⟩
set_option maxRecDepth 100000 in
set_option maxHeartbeats 1000000 in
theorem fixed_nil (w : World) (v : Value) : Calls Tryd.prog 57 #[.pointer none, v] w fun e w' => e = .returned (.pointer none) ∧ w = w' := by
  have c1 := put_nil w v
  go_enter Tryd.func57, Tryd.ntmps57
  go_wp2_with (go_at_call 73; ((with_reducible refine c1.mono ?_); rintro e w' ⟨rfl, rfl⟩))
  go_ret
  exact ⟨rfl, rfl⟩
set_option maxRecDepth 100000 in
set_option maxHeartbeats 1000000 in
theorem num_nil (w : World) : Calls Tryd.prog 56 #[.pointer none, .int .i64 1] w fun e w' => e = .returned (.pointer none) ∧ Below w.heap.size w w' := by
  have c1 : Calls Tryd.prog 65 #[.int .u64 1, .int .i64 8] w fun e w' => e = .returned (.slice (some ⟨w.heap.size, 0, none⟩) 8 8) ∧ Blk8 w' w.heap.size (highB 8 1) ∧ Below w.heap.size w w' := putHigh_any 1 8 8 (by omega) (by omega) (by omega) (.inr (.inl ⟨by omega, by omega, rfl⟩)) w
  go_enter Tryd.func56, Tryd.ntmps56
  go_wp2_with (first
    | (go_at_call 65; refine c1.mono ?_; rintro e w1 ⟨rfl, hb, hB⟩; have HB := hidg_ hB; clear hb hB)
    | (go_at_call 73; have cp := put_nil w1 (.slice (some ⟨w.heap.size, 0, none⟩) 8 8); ((with_reducible refine cp.mono ?_); clear cp; rintro e w' ⟨rfl, rfl⟩)))
  go_ret
  exact ⟨rfl, HB.out⟩
set_option maxRecDepth 100000 in
set_option maxHeartbeats 1000000 in
theorem done_nil (w : World) : Calls Tryd.prog 59 #[.pointer none] w fun e w' => e = .returned (.tuple #[.slice none 0 0, .int .i64 1]) ∧ w = w' := by
  go_enter Tryd.func59, Tryd.ntmps59
  go_wp2
  go_ret2
  exact ⟨rfl, rfl⟩
end Go.Proofs.YtegfnlnbhhmkjaaDoor

namespace Go.Proofs.YtegfnlnbhhmkjaaDoor
set_option maxRecDepth 100000
open Go.ChangeShapes Go.WideShapes Go.ChangeAt Go.RowKit
set_option linter.unusedVariables false
set_option linter.unusedSimpArgs false

/-- A slice that reads as these ints, all of it below B. -/
def RdIc (w : World) (B : Nat) (A : Option Addr) (l : List Int) : Prop :=
  0 < l.length → ∃ b off, A = some ⟨b, off, none⟩ ∧ b < B ∧ ∀ j, j < l.length → w.cell? ⟨b, off + j, none⟩ = some (.int .i64 (l.getD j 0))
theorem RdIc.below {w w' : World} {B : Nat} {A : Option Addr} {l : List Int} (h : RdIc w B A l) (hb : Below B w w') : RdIc w' B A l := fun hn => by
  obtain ⟨b, off, e, hlt, hc⟩ := h hn
  exact ⟨b, off, e, hlt, fun j hj => (hb.cell (p := ⟨b, off + j, none⟩) hlt).trans (hc j hj)⟩
theorem open_i64s {H : Type} {enc : TypeId × Value → H} {P : Program} {t e : TypeId} {w : World} {b0 : Nat} {sp : Nat → Bool} {held : Bool} {r : Reach} {v : Value} {d : DataW H} {p : List MemPlace}
    (ht : P.underlying t = some (.slice e)) (he : P.underlying e = some (.int .i64)) (hc : P.cellsOf e = 1)
    (hv : Value.okWide P w r b0 t v) (h : DataW.Trod enc P w 0 sp held t v d p) :
    ∃ A l c, v = .slice A (l : List Int).length c ∧ RdIc w w.heap.size A l ∧ l.length ≤ c ∧ c ≤ maxLen ∧ ∀ z ∈ l, -9223372036854775808 ≤ z ∧ z ≤ 9223372036854775807 := by
  obtain ⟨a0, len, cap, rfl⟩ := okWide_slice ht hv
  obtain ⟨fuel, hf⟩ := h
  rcases open_ints ht he hc hf with ⟨hcs, hx⟩ | ⟨a, len', cap', zs, hcs, _, hl, hm, hz, hx, hcell, hwz⟩
  · simp [Value.cells] at hcs
    obtain ⟨rfl, rfl, rfl⟩ := hcs
    exact ⟨none, [], 0, rfl, fun h => by simp at h, Nat.le_refl _, Nat.zero_le _, fun z hz => by simp at hz⟩
  · simp [Value.cells] at hcs
    obtain ⟨rfl, rfl, rfl⟩ := hcs
    have hzl : len ≤ zs.length := by
      rw [hz]; split <;> omega
    have hlen : (zs.take len).length = len := by rw [List.length_take]; omega
    refine ⟨some a, zs.take len, cap, by rw [hlen], fun h0 => ?_, by rw [hlen]; exact hl, hm, fun z hzm => ?_⟩
    · rw [hlen] at h0
      obtain ⟨b, off, spot⟩ := a
      have hc0 := hcell 0 (by omega)
      have hspot : spot = none := by simpa [Addr.add] using World.cell?_spot hc0
      subst hspot
      have hplain : ∀ j, (⟨b, off, none⟩ : Addr).add j = ⟨b, off + j, none⟩ := fun j => by unfold Addr.add; split <;> simp_all
      refine ⟨b, off, rfl, World.block_lt_of_cell? w _ hc0, fun j hj => ?_⟩
      rw [hlen] at hj
      rw [← hplain, hcell j (by omega)]
      simp [List.getD, hj, show j < zs.length by omega]
    · exact bounds_i64 (hwz z (List.mem_of_mem_take hzm))
/-- What an In leaves is no longer than what it had. -/
theorem numS_le (size : Nat) (most : Int) (l : List UInt8) (err : Int) : (numS size most l err).2.1.length ≤ l.length := by
  unfold numS
  split
  · exact Nat.le_refl _
  · split
    · exact Nat.le_refl _
    · split
      · exact Nat.le_refl _
      · simp
theorem fixS_le (n : Int) (l : List UInt8) (err : Int) : (fixS n l err).2.1.length ≤ l.length := by
  unfold fixS
  split
  · exact Nat.le_refl _
  · split
    · exact Nat.le_refl _
    · simp
theorem bytS_le (most : Int) (l : List UInt8) (err : Int) : (bytS most l err).2.1.length ≤ l.length := Nat.le_trans (fixS_le _ _ _) (numS_le _ _ _ _)
/-- Once there is an error, what is left says nothing any more. -/
theorem numS_same (size : Nat) (most : Int) (l l' : List UInt8) (err : Int) (h : err = 0 → l' = l) : (numS size most l' err).1 = (numS size most l err).1 ∧ (numS size most l' err).2.2 = (numS size most l err).2.2 ∧ ((numS size most l err).2.2 = 0 → (numS size most l' err).2.1 = (numS size most l err).2.1) := by
  by_cases he : err = 0
  · rw [h he]; exact ⟨rfl, rfl, fun _ => rfl⟩
  · rw [numS_off he, numS_off he]; exact ⟨rfl, rfl, fun e => absurd e he⟩
theorem fixS_same (n : Int) (l l' : List UInt8) (err : Int) (h : err = 0 → l' = l) : (fixS n l' err).1 = (fixS n l err).1 ∧ (fixS n l' err).2.2 = (fixS n l err).2.2 ∧ ((fixS n l err).2.2 = 0 → (fixS n l' err).2.1 = (fixS n l err).2.1) := by
  by_cases he : err = 0
  · rw [h he]; exact ⟨rfl, rfl, fun _ => rfl⟩
  · rw [fixS_off (.inl he), fixS_off (.inl he)]; exact ⟨rfl, rfl, fun e => absurd e he⟩
theorem bytS_same (most : Int) (l l' : List UInt8) (err : Int) (h : err = 0 → l' = l) : (bytS most l' err).1 = (bytS most l err).1 ∧ (bytS most l' err).2.2 = (bytS most l err).2.2 ∧ ((bytS most l err).2.2 = 0 → (bytS most l' err).2.1 = (bytS most l err).2.1) := by
  by_cases he : err = 0
  · rw [h he]; exact ⟨rfl, rfl, fun _ => rfl⟩
  · unfold bytS
    rw [numS_off he, numS_off he]
    exact fixS_same 0 l l' err h
theorem endS_same (l l' : List UInt8) (err : Int) (h : err = 0 → l' = l) : endS l' err = endS l err := by
  by_cases he : err = 0
  · rw [h he]
  · unfold endS
    rw [if_pos he, if_pos he]
end Go.Proofs.YtegfnlnbhhmkjaaDoor

namespace Go.Proofs.YtegfnlnbhhmkjaaDoor
set_option maxRecDepth 100000
open Go.ChangeShapes Go.WideShapes Go.ChangeAt Go.RowKit
set_option linter.unusedVariables false
set_option linter.unusedSimpArgs false

/-- A part as the walk knows it: its kind, its number, its text; where that lies, and its capacity. -/
structure PartV where
  kind : Int
  num : Int
  text : List UInt8
  at_ : Option Addr
  cap : Nat
instance : Inhabited PartV := ⟨⟨0, 0, [], none, 0⟩⟩
def PartV.agg (p : PartV) : Value := .agg #[.int .i64 p.kind, .int .i64 p.num, .slice p.at_ p.text.length p.cap]
/-- What is known of each, in a world: the text lies below B. -/
structure PartOk (w : World) (B : Nat) (p : PartV) : Prop where
  k0 : -9223372036854775808 ≤ p.kind
  k1 : p.kind ≤ 9223372036854775807
  n0 : -9223372036854775808 ≤ p.num
  n1 : p.num ≤ 9223372036854775807
  rd : Rd w B p.at_ p.text
  len : p.text.length ≤ p.cap
  cap : p.cap ≤ 9223372036854775807
theorem PartOk.below {w w' : World} {B : Nat} {p : PartV} (h : PartOk w B p) (hb : Below B w w') : PartOk w' B p := ⟨h.k0, h.k1, h.n0, h.n1, h.rd.below hb, h.len, h.cap⟩
theorem PartOk.more {w : World} {B C : Nat} {p : PartV} (h : PartOk w B p) (hB : B ≤ C) : PartOk w C p := ⟨h.k0, h.k1, h.n0, h.n1, h.rd.more hB, h.len, h.cap⟩
/-- A slice of parts, all of it below B. -/
def RdP (w : World) (B : Nat) (A : Option Addr) (l : List PartV) : Prop :=
  0 < l.length → ∃ b off, A = some ⟨b, off, none⟩ ∧ b < B ∧ ∀ j (h : j < l.length),
    w.cell? ⟨b, off + 3 * j, none⟩ = some (.int .i64 (l[j]).kind) ∧ w.cell? ⟨b, off + 3 * j + 1, none⟩ = some (.int .i64 (l[j]).num) ∧ w.cell? ⟨b, off + 3 * j + 2, none⟩ = some (.slice (l[j]).at_ (l[j]).text.length (l[j]).cap) ∧ PartOk w B l[j]
theorem RdP.below {w w' : World} {B : Nat} {A : Option Addr} {l : List PartV} (h : RdP w B A l) (hb : Below B w w') : RdP w' B A l := fun hn => by
  obtain ⟨b, off, e, hlt, hc⟩ := h hn
  refine ⟨b, off, e, hlt, fun j hj => ?_⟩
  obtain ⟨h1, h2, h3, h4⟩ := hc j hj
  exact ⟨(hb.cell (p := ⟨b, _, none⟩) hlt).trans h1, (hb.cell (p := ⟨b, _, none⟩) hlt).trans h2, (hb.cell (p := ⟨b, _, none⟩) hlt).trans h3, h4.below hb⟩
/-- The cells of a slice of bytes, within something greater. -/
theorem cells_bytes {H : Type} {enc : TypeId × Value → H} {P : Program} {t e : TypeId} {w : World} {fuel : Nat} {sp : Nat → Bool} {held : Bool} {cs : List Value} {d : DataW H × List MemPlace}
    (ht : P.underlying t = some (.slice e)) (he : P.underlying e = some (.int .u8)) (hc : P.cellsOf e = 1)
    (hf : DataW.trod enc P w 0 sp held fuel t cs = some d) :
    ∃ A l c, cs = [.slice A (l : List UInt8).length c] ∧ Rd w w.heap.size A l ∧ l.length ≤ c ∧ c ≤ maxLen := by
  rcases open_ints ht he hc hf with ⟨hcs, hx⟩ | ⟨a, len, cap, zs, hcs, _, hl, hm, hz, hx, hcell, hwz⟩
  · exact ⟨none, [], 0, hcs, Rd.nil, Nat.le_refl _, Nat.zero_le _⟩
  · have hzl : len ≤ zs.length := by
      rw [hz]; split <;> omega
    have hlen : ((zs.take len).map fun n => UInt8.ofNat n.toNat).length = len := by
      rw [List.length_map, List.length_take]; omega
    refine ⟨some a, (zs.take len).map fun n => UInt8.ofNat n.toNat, cap, by rw [hlen]; exact hcs, fun h0 => ?_, by rw [hlen]; exact hl, hm⟩
    rw [hlen] at h0
    obtain ⟨b, off, spot⟩ := a
    have hc0 := hcell 0 (by omega)
    have hspot : spot = none := by simpa [Addr.add] using World.cell?_spot hc0
    subst hspot
    have hplain : ∀ j, (⟨b, off, none⟩ : Addr).add j = ⟨b, off + j, none⟩ := fun j => by unfold Addr.add; split <;> simp_all
    refine ⟨b, off, rfl, World.block_lt_of_cell? w _ hc0, fun j hj => ?_⟩
    rw [hlen] at hj
    rw [← hplain, hcell j (by omega)]
    have hb := bounds_u8 (hwz (zs.getD j 0) (by simp [List.getD, show j < zs.length by omega]))
    have e1 : ((zs.take len).map fun n => UInt8.ofNat n.toNat).getD j 0 = UInt8.ofNat (zs.getD j 0).toNat := by
      simp [List.getD, hj, show j < zs.length by omega]
    rw [e1]
    generalize zs.getD j 0 = z at hb
    congr 2
    simp
    omega
theorem cells_int {H : Type} {enc : TypeId × Value → H} {P : Program} {t : TypeId} {w : World} {fuel : Nat} {sp : Nat → Bool} {held : Bool} {cs : List Value} {d : DataW H × List MemPlace}
    (ht : P.underlying t = some (.int .i64)) (hf : DataW.trod enc P w 0 sp held fuel t cs = some d) : ∃ z, cs = [.int .i64 z] ∧ -9223372036854775808 ≤ z ∧ z ≤ 9223372036854775807 := by
  obtain ⟨n, e, _, hw⟩ := DataW.trod_int ht hf
  exact ⟨n, e, bounds_i64 hw⟩
theorem open_pparts {H : Type} {enc : TypeId × Value → H} {P : Program} {t s ti tb e : TypeId} {f0 f1 f2 : Field} {w : World} {b0 : Nat} {sp : Nat → Bool} {held : Bool} {r : Reach} {v : Value} {d : DataW H} {p : List MemPlace}
    (ht : P.underlying t = some (.slice s)) (hs : P.underlying s = some (.struct #[f0, f1, f2])) (h0 : f0.type = ti ∧ f0.offset = 0) (h1 : f1.type = ti ∧ f1.offset = 1) (h2 : f2.type = tb ∧ f2.offset = 2)
    (hi : P.underlying ti = some (.int .i64)) (ci : P.cellsOf ti = 1) (hb : P.underlying tb = some (.slice e)) (cb : P.cellsOf tb = 1) (he : P.underlying e = some (.int .u8)) (ce : P.cellsOf e = 1) (cs3 : P.cellsOf s = 3)
    (hv : Value.okWide P w r b0 t v) (h : DataW.Trod enc P w 0 sp held t v d p) :
    ∃ A l c, v = .slice A (l : List PartV).length c ∧ RdP w w.heap.size A l ∧ l.length ≤ c ∧ c ≤ maxLen := by
  obtain ⟨a0, len, cap, rfl⟩ := okWide_slice ht hv
  obtain ⟨fuel, hf⟩ := h
  rcases Go.Deep.open_slice ht hf with ⟨hcs, hx⟩ | ⟨a, len', cap', m, n, D, Pl, hcs, _, hl, hm, hmm, hx, hel⟩
  · simp [Value.cells] at hcs
    obtain ⟨rfl, rfl, rfl⟩ := hcs
    exact ⟨none, [], 0, rfl, fun h => by simp at h, Nat.le_refl _, Nat.zero_le _⟩
  · simp [Value.cells] at hcs
    obtain ⟨rfl, rfl, rfl⟩ := hcs
    have hlm : len ≤ m := by rw [hmm]; split <;> omega
    rw [cs3] at hel
    have hone : ∀ j, j < len → ∃ q : PartV, w.cell? (a.add (j * 3)) = some (.int .i64 q.kind) ∧ w.cell? (a.add (j * 3 + 1)) = some (.int .i64 q.num) ∧ w.cell? (a.add (j * 3 + 2)) = some (.slice q.at_ q.text.length q.cap) ∧ PartOk w w.heap.size q := by
      intro j hj
      obtain ⟨cs', hc1, hc2⟩ := hel j (by omega)
      obtain ⟨_, hlen, hcell⟩ := World.cells?_some hc1
      obtain ⟨y0, y1, y2, nn, _, _, g0, g1, g2⟩ := Go.Deep.trod_struct3 hs hc2
      rw [h0.1, h0.2, ci] at g0
      rw [h1.1, h1.2, ci] at g1
      rw [h2.1, h2.2, cb] at g2
      match cs', hlen with
      | [k0, k1, k2], _ =>
        obtain ⟨z0, e0, a0, b0⟩ := cells_int hi g0
        obtain ⟨z1, e1, a1, b1⟩ := cells_int hi g1
        obtain ⟨TA, T, Tc, e2, hr, hl2, hm2⟩ := cells_bytes hb he ce g2
        simp at e0 e1 e2
        have c0 := hcell 0 (by omega)
        have c1 := hcell 1 (by omega)
        have c2 := hcell 2 (by omega)
        rw [Go.Deep.add_add] at c0 c1 c2
        refine ⟨⟨z0, z1, T, TA, Tc⟩, ?_, ?_, ?_, ⟨a0, b0, a1, b1, hr, hl2, by unfold maxLen at hm2; omega⟩⟩
        · simpa [e0] using c0
        · simpa [e1] using c1
        · simpa [e2] using c2
    obtain ⟨q, hq⟩ := Go.Deep.choose_lt hone
    refine ⟨some a, (List.range len).map q, cap, by simp, fun hn => ?_, by simpa using hl, hm⟩
    have hn' : 0 < len := by simpa using hn
    obtain ⟨b, off, spot⟩ := a
    have hc0 := (hq 0 hn').1
    have hspot : spot = none := by simpa [Addr.add] using World.cell?_spot hc0
    subst hspot
    have hplain : ∀ j, (⟨b, off, none⟩ : Addr).add j = ⟨b, off + j, none⟩ := fun j => by unfold Addr.add; split <;> simp_all
    refine ⟨b, off, rfl, World.block_lt_of_cell? w _ hc0, fun j hj => ?_⟩
    have hj' : j < len := by simpa using hj
    obtain ⟨h1, h2, h3, h4⟩ := hq j hj'
    rw [hplain] at h1 h2 h3
    have e : ((List.range len).map q)[j] = q j := by simp
    rw [e]
    refine ⟨?_, ?_, ?_, h4⟩
    · rw [Nat.mul_comm]; exact h1
    · rw [Nat.mul_comm 3 j, Nat.add_assoc]; exact h2
    · rw [Nat.mul_comm 3 j, Nat.add_assoc]; exact h3
end Go.Proofs.YtegfnlnbhhmkjaaDoor

namespace Go.Proofs.YtegfnlnbhhmkjaaDoor
set_option maxRecDepth 100000
open Go.ChangeShapes Go.WideShapes Go.ChangeAt Go.RowKit
set_option linter.unusedVariables false
set_option linter.unusedSimpArgs false

/-- The kind: one of four. -/
def PartV.k (p : PartV) : Nat := (p.kind % 4).toNat
theorem PartV.k_lt (p : PartV) : p.k < 4 := by unfold PartV.k; omega
theorem u64_some (z : Int) : ∃ x : Nat, IntKind.u64.wrap z = (x : Int) ∧ x % 4 = (z % 4).toNat ∧ x ≤ 18446744073709551615 := by
  have h : IntKind.u64.wrap z = z % 18446744073709551616 := by simp [IntKind.wrap, IntKind.signed, IntKind.bits]
  rw [h]
  exact ⟨(z % 18446744073709551616).toNat, by omega, by omega, by omega⟩
end Go.Proofs.YtegfnlnbhhmkjaaDoor

namespace Go.Proofs.YtegfnlnbhhmkjaaDoor
set_option maxRecDepth 100000
open Go.ChangeShapes Go.WideShapes Go.ChangeAt Go.RowKit
set_option linter.unusedVariables false
set_option linter.unusedSimpArgs false

/-- A number's bytes; of none: nothing. -/
def numL (z : Int) : List UInt8 := if z < 0 then [] else highB 8 z.toNat
def smallL (z : Int) : List UInt8 := if 0 ≤ z ∧ z < 256 then [UInt8.ofNat z.toNat] else []
end Go.Proofs.YtegfnlnbhhmkjaaDoor
