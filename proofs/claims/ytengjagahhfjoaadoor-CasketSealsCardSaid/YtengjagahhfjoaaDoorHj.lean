/-
  HKDF: the bytes as mathematics; hkdf.Extract and hkdf.Expand give them.
-/
import Derived.Test.YtengjagahhfjoaaDoorHH
namespace Go.Proofs.YtengjagahhfjoaaDoor
open Go.ChangeShapes Go.WideShapes Go.ChangeAt Go.RowKit
set_option linter.unusedVariables false
set_option linter.unusedSimpArgs false
theorem hidj_ {p : Prop} (h : p) : Hid p := h

/-- The digests, each out of the one ahead. -/
def lastB (key use : List UInt8) : Nat → List UInt8
  | 0 => []
  | i + 1 => hmacB key (lastB key use i ++ use ++ [UInt8.ofNat (i + 1)])
/-- All of them, one behind the other. -/
def outB (key use : List UInt8) : Nat → List UInt8
  | 0 => []
  | i + 1 => outB key use i ++ lastB key use (i + 1)
theorem lastB_len (key use : List UInt8) (i : Nat) : (lastB key use (i + 1)).length = 32 := by rw [lastB]; exact hmacB_len _ _
theorem lastB_le (key use : List UInt8) (i : Nat) : (lastB key use i).length ≤ 32 := by
  cases i with
  | zero => simp [lastB]
  | succ i => rw [lastB_len]; exact Nat.le_refl _
theorem outB_len (key use : List UInt8) : ∀ i, (outB key use i).length = 32 * i
  | 0 => rfl
  | i + 1 => by rw [outB, List.length_append, outB_len key use i, lastB_len]; omega
/-- What Expand gives. -/
def expandB (key use : List UInt8) (n : Nat) : List UInt8 := (outB key use 255).take n
theorem outB_grow (key use : List UInt8) (k : Nat) : ∀ d, (outB key use (k + d)).take (32 * k) = outB key use k
  | 0 => by rw [Nat.add_zero]; exact List.take_of_length_le (by rw [outB_len]; exact Nat.le_refl _)
  | d + 1 => by
    rw [← Nat.add_assoc, outB, List.take_append_of_le_length (by rw [outB_len]; omega)]
    exact outB_grow key use k d
theorem expandB_eq (key use : List UInt8) (n k : Nat) (hk : k ≤ 255) (h : n ≤ 32 * k) : expandB key use n = (outB key use k).take n := by
  have h1 := outB_grow key use k (255 - k)
  rw [show k + (255 - k) = 255 by omega] at h1
  rw [expandB, ← h1, List.take_take, Nat.min_eq_left h]
theorem expandB_len (key use : List UInt8) (n : Nat) (h : n ≤ 8160) : (expandB key use n).length = n := by
  rw [expandB, List.length_take, outB_len]
  omega
theorem outB_step (key use : List UInt8) (n k : Nat) (h : 32 * k < n) : (outB key use (k + 1)).take n = outB key use k ++ (lastB key use (k + 1)).take (min 32 (n - 32 * k)) := by
  rw [outB, List.take_append, List.take_of_length_le (by rw [outB_len]; omega), outB_len]
  congr 1
  rcases Nat.le_total 32 (n - 32 * k) with h1 | h1
  · rw [Nat.min_eq_left h1, List.take_of_length_le (by rw [lastB_len]; exact h1), List.take_of_length_le (by rw [lastB_len]; exact Nat.le_refl _)]
  · rw [Nat.min_eq_right h1]

theorem mk8c' (n : Nat) (hn : n ≤ 281474976710656) (w : World) :
    (Instr.makeSlice 22 (.int .i64 0) (.int .i64 (n : Int))).run Tryd.prog w = .ok (.slice (some ⟨w.heap.size, 0, none⟩) 0 n) (w.alloc (.cells (rowOf (List.replicate n 0)) 5)) := by
  obtain ⟨i, hi, hz, hsize, hby⟩ := info_parts info8
  have h := run_make w 22 5 i (.int .u8 0) Tryd.underlying22 hi hz .i64 .i64 0 (n : Int) (by omega) (by omega) (by rw [hby]; omega) (by omega)
  rw [hsize, Int.toNat_natCast, Nat.mul_one] at h
  rw [h, ← rowOf_made]
  rfl
theorem own_made' (w : World) (base n : Nat) (hb : base ≤ w.heap.size) (hm : n ≤ maxLen) : Own8 (w.alloc (.cells (rowOf (List.replicate n 0)) 5)) base (.slice (some ⟨w.heap.size, 0, none⟩) 0 n) [] := by
  refine ⟨rfl, .inr ⟨w.heap.size, n, _, rfl, hb, heap_alloc_new w _, Nat.zero_le _, hm, ?_, rfl⟩⟩
  simp [rowOf]
theorem parts_3 {W : World} {h n1 c1 n2 c2 n3 c3 : Nat} {A1 A2 A3 : Option Addr} {X Y Z : List UInt8} (hb : Bk W h 22 #[.slice A1 n1 c1, .slice A2 n2 c2, .slice A3 n3 c3]) (hn1 : X.length = n1) (hn2 : Y.length = n2) (hn3 : Z.length = n3) (hX : Rd W W.heap.size A1 X) (hY : Rd W W.heap.size A2 Y) (hZ : Rd W W.heap.size A3 Z) (hc1 : n1 ≤ c1) (hm1 : c1 ≤ 9223372036854775807) (hc2 : n2 ≤ c2) (hm2 : c2 ≤ 9223372036854775807) (hc3 : n3 ≤ c3) (hm3 : c3 ≤ 9223372036854775807) : Parts W W.heap.size (some ⟨h, 0, none⟩) [X, Y, Z] := by
  subst hn1 hn2 hn3
  obtain ⟨h0, h1, h2⟩ : W.cell? ⟨h, 0, none⟩ = some (.slice A1 X.length c1) ∧ W.cell? ⟨h, 1, none⟩ = some (.slice A2 Y.length c2) ∧ W.cell? ⟨h, 2, none⟩ = some (.slice A3 Z.length c3) := by
    have h0 := hb.cell 0
    have h1 := hb.cell 1
    have h2 := hb.cell 2
    simp only [List.getElem?_toArray, List.getElem?_cons_zero, List.getElem?_cons_succ] at h0 h1 h2
    exact ⟨h0, h1, h2⟩
  refine fun _ => ⟨h, 0, rfl, hb.lt, fun j hj => ?_⟩
  have hj3 : j < 3 := hj
  rcases j with _ | _ | _ | j
  · exact ⟨_, _, h0, hX, hc1, hm1⟩
  · exact ⟨_, _, h1, hY, hc2, hm2⟩
  · exact ⟨_, _, h2, hZ, hc3, hm3⟩
  · omega
/-- What Expand leaves: a slice of the call's own. -/
def ExpP (w : World) (l : List UInt8) (e : Ending) (w' : World) : Prop := ∃ A c, e = .returned (.tuple #[.slice A l.length c, .int .i64 0]) ∧ Own8 w' w.heap.size (.slice A l.length c) l ∧ Below w.heap.size w w'
/-- The worlds of the loop. -/
structure ExJ (w : World) (n j : Nat) (key use : List UInt8) (v8 v9 : Value) (W : World) : Prop where
  own : Own8 W w.heap.size v8 ((outB key use (j - 1)).take n)
  last : ∃ A c, v9 = .slice A (lastB key use (j - 1)).length c ∧ Rd W W.heap.size A (lastB key use (j - 1)) ∧ (lastB key use (j - 1)).length ≤ c ∧ c ≤ 9223372036854775807
  below : Below w.heap.size w W
theorem byte_of (j : Nat) : IntKind.u8.wrap (j : Int) = (((UInt8.ofNat j).toNat : Nat) : Int) := by
  simp [IntKind.wrap, IntKind.signed, IntKind.bits]

theorem expand_no (w : World) (A9 : Option Addr) (n9 c9 : Nat) (A8 : Option Addr) (n8 c8 : Nat) (z : Int) (hz : z < 0 ∨ 8160 < z) :
    Calls Tryd.prog 4 #[.slice A9 n9 c9, .slice A8 n8 c8, .int .i64 z] w fun e w' => e = .returned (.tuple #[.slice none 0 0, .int .i64 1]) ∧ Below w.heap.size w w' := by
  rcases Int.lt_or_le z 0 with h | h
  · have hd1 : decide (z < 0) = true := decide_eq_true h
    go_enter Tryd.func4, Tryd.ntmps4
    go_wp2
    go_ret2
    exact ⟨rfl, Below.refl _ _⟩
  · have hd1 : decide (z < 0) = false := decide_eq_false (by omega)
    have hd2 : decide (8160 < z) = true := decide_eq_true (by omega)
    go_enter Tryd.func4, Tryd.ntmps4
    go_wp2
    go_ret2
    exact ⟨rfl, Below.refl _ _⟩

set_option maxRecDepth 100000 in
set_option maxHeartbeats 8000000 in
theorem expand_any (w : World) (A9 : Option Addr) (n9 c9 : Nat) (key : List UInt8) (hn9 : key.length = n9) (hk9 : n9 ≤ 1000000) (hc9 : n9 ≤ c9) (hcm9 : c9 ≤ 9223372036854775807) (hr9 : Rd w w.heap.size A9 key)
    (A8 : Option Addr) (n8 c8 : Nat) (use : List UInt8) (hn8 : use.length = n8) (hk8 : n8 ≤ 1000000) (hc8 : n8 ≤ c8) (hcm8 : c8 ≤ 9223372036854775807) (hr8 : Rd w w.heap.size A8 use)
    (n : Nat) (hn : n ≤ 8160) (ht : Tab w) (hg1 : 0 < w.heap.size) :
    Calls Tryd.prog 4 #[.slice A9 n9 c9, .slice A8 n8 c8, .int .i64 (n : Int)] w (ExpP w (expandB key use n)) := by
  have hmk := fun W => mk8c' n (by omega) W
  have hz := z32
  have hd1 : decide ((n : Int) < 0) = false := decide_eq_false (by omega)
  have hd2 : decide ((8160 : Int) < (n : Int)) = false := decide_eq_false (by omega)
  have hd3 : decide (8160 < n) = false := decide_eq_false (by omega)
  have HT := hidj_ ht
  have R9 := hidj_ hr9
  have R8 := hidj_ hr8
  have M9 := hidj_ hn9
  have M8 := hidj_ hn8
  have S0 : Hid (ExJ w n 1 key use (.slice (some ⟨w.heap.size, 0, none⟩) 0 n) (.slice none 0 0) (w.alloc (.cells (rowOf (List.replicate n 0)) 5))) := hidj_ ⟨by have h := own_made' w w.heap.size n (Nat.le_refl _) (by unfold maxLen; omega); simpa [outB] using h, ⟨none, 0, rfl, Rd.nil, by simp [lastB], by omega⟩, (Below.refl _ _).alloc (Nat.le_refl _) _⟩
  have hall := dig_all
  clear ht hr9 hr8 hn9 hn8
  go_enter Tryd.func4, Tryd.ntmps4
  go_upto_region 6 with fail
  clear hd1 hd2 hd3 hmk
  generalize w.alloc (.cells (rowOf (List.replicate n 0)) 5) = w1 at *
  go_loopw [8, 9, 10] (fun v8 v9 i wr => ∃ j : Nat, 1 ≤ j ∧ j ≤ 256 ∧ i = .int .i64 j ∧ Hid (j = 1 ∨ 32 * (j - 2) < n) ∧ Hid (ExJ w n j key use v8 v9 wr)) (fun _ _ i _ => 256 - (intOf i).toNat)
  case atStart => exact ⟨1, by omega, by omega, rfl, hidj_ (.inl rfl), S0⟩
  case round =>
    obtain ⟨j, hj0, hj1, rfl, HJ, HS⟩ := hrel
    clear S0
    by_cases hlt : 32 * (j - 1) < n
    · obtain ⟨q, hq⟩ : ∃ q, Hid (32 * (j - 1) = q) := ⟨_, hidj_ rfl⟩
      have hqn : q < n := by rw [← hq.out]; exact hlt
      have hj2 : j ≤ 255 := by omega
      have OL := hidj_ (show (outB key use (j - 1)).length = q by rw [outB_len, hq.out])
      have OT : (outB key use (j - 1)).take n = outB key use (j - 1) := List.take_of_length_le (by rw [OL.out]; omega)
      have ho := HS.out.own
      rw [OT] at ho
      obtain ⟨A1, c1, rfl, -⟩ := ho.form
      obtain ⟨A2, c2, rfl, hr2, hl2, hm2⟩ := HS.out.last
      have HB := hidj_ HS.out.below
      have hst := hidj_ (outB_step key use n (j - 1) hlt)
      have hlb := hidj_ (show lastB key use (j - 1 + 1) = hmacB key (lastB key use (j - 1) ++ use ++ [UInt8.ofNat (j - 1 + 1)]) from rfl)
      rw [show j - 1 + 1 = j by omega] at hst hlb
      rw [hq.out] at hst
      have H9 := hidj_ (lastB_le key use (j - 1))
      have LJ := hidj_ (show (lastB key use j).length = 32 by have h := lastB_len key use (j - 1); rw [show j - 1 + 1 = j by omega] at h; exact h)
      generalize lastB key use (j - 1) = p at *
      generalize outB key use (j - 1) = O at *
      obtain ⟨p2, hp2⟩ : ∃ p2, Hid (p.length = p2) := ⟨_, hidj_ rfl⟩
      rw [hp2.out] at hl2 H9 ⊢
      rw [OL.out] at ho ⊢
      have hp32 : p2 ≤ 32 := H9.out
      have HO := hidj_ ho
      have H2 := hidj_ hr2
      clear ho hr2 OT HS HJ hlt H9
      obtain ⟨bj, hbj⟩ : ∃ bj : UInt8, UInt8.ofNat j = bj := ⟨_, rfl⟩
      have hw1 := byte_of j
      rw [hbj] at hw1 hlb
      have hw2 : (j : Int) % 256 = ((bj.toNat : Nat) : Int) := by rw [← hw1]; simp [IntKind.wrap, IntKind.signed, IntKind.bits]
      clear hbj
      obtain ⟨dg, hdg⟩ : ∃ dg, lastB key use j = dg := ⟨_, rfl⟩
      rw [hdg] at hst hlb LJ
      have HLJ := hidj_ hdg
      clear hdg
      have I := hidj_ (show (Tryd.prog.info? 28).map (·.size) = some (rowOf dg).size by rw [rowOf_size, LJ.out]; exact i32_)
      have Q := hidj_ (show (rowOf (zbytes 32)).size = (rowOf dg).size by rw [rowOf_size, rowOf_size, LJ.out, zbytes_len])
      obtain ⟨w2, hw2e⟩ : ∃ w2, wr.alloc (.cells #[.int .u8 ((bj.toNat : Nat) : Int)] 5) = w2 := ⟨_, rfl⟩
      obtain ⟨w3, hw3e⟩ : ∃ w3, w2.alloc (.cells #[.slice A2 p2 c2, .slice A8 n8 c8, .slice (some ⟨wr.heap.size, 0, none⟩) 1 1] 22) = w3 := ⟨_, rfl⟩
      have b2 : Below wr.heap.size wr w2 := by rw [← hw2e]; exact (Below.refl _ _).alloc (Nat.le_refl _) _
      have b3 : Below w2.heap.size w2 w3 := by rw [← hw3e]; exact (Below.refl _ _).alloc (Nat.le_refl _) _
      have b23 := hidj_ (b2.trans (b3.mono b2.size))
      have rb : Rd w2 w2.heap.size (some ⟨wr.heap.size, 0, none⟩) [bj] := by rw [← hw2e]; exact (Blk8.new wr [bj]).rd (by simp)
      have k3 : Bk w3 w2.heap.size 22 #[.slice A2 p2 c2, .slice A8 n8 c8, .slice (some ⟨wr.heap.size, 0, none⟩) 1 1] := by rw [← hw3e]; exact Bk.new w2 _ _
      have X3 := hidj_ (HB.out.trans (b23.out.mono HB.out.size))
      have hpp := parts_3 k3 hp2.out M8.out (show [bj].length = 1 from rfl) ((H2.out.below b23.out).more b23.out.size) ((R8.out.below X3.out).more X3.out.size) ((rb.below b3).more b3.size) hl2 hm2 hc8 hcm8 (Nat.le_refl 1) (by omega)
      have ch := hmac_any w3 A9 n9 c9 key M9.out (by omega) hc9 hcm9 ((R9.out.below X3.out).more X3.out.size) (some ⟨w2.heap.size, 0, none⟩) 3 3 [p, use, [bj]] rfl hpp (by omega) (by simp [hp2.out, M8.out]; omega) (fun t h => (X3.out.cell (p := ⟨_, t, none⟩) hg1).trans (HT.out t h)) (Nat.lt_of_lt_of_le hg1 X3.out.size)
      rw [show ([p, use, [bj]] : List (List UInt8)).flatten = p ++ use ++ [bj] by simp, ← hlb.out] at ch
      have O3 := hidj_ (HO.out.below b23.out (Nat.le_refl _))
      have hd1 : decide ((q : Int) < (n : Int)) = true := decide_eq_true (by omega)
      have hd2 : decide (q < n) = true := decide_eq_true hqn
      obtain ⟨r, hr⟩ : ∃ r, n - q = r := ⟨_, rfl⟩
      obtain ⟨m, hm⟩ : ∃ m, m = min 32 r := ⟨_, rfl⟩
      have r1 : IntKind.i64.wrap ((n : Int) - (q : Int)) = (r : Int) := by rw [IntWalk.i64_in _ (by omega)]; omega
      have hmn := fun W => run_min2 32 r m hm W
      rw [show ((32 : Nat) : Int) = 32 from rfl] at hmn
      have hm32 : m ≤ 32 := by omega
      have hqm : q + m ≤ n := by omega
      have hsl := fun D W => slice_to (some ⟨D, 0, none⟩) 32 32 (m : Int) m rfl (by omega) W
      rw [hr, ← hm] at hst
      clear b2 b3 rb k3 hpp hr hm HO H2 HB
      go_wp2_with (first
        | (go_at_call 13; ((with_reducible refine ch.mono ?_); rintro e w5 ⟨rfl, hb⟩; have X5 := hidj_ (X3.out.trans (hb.mono X3.out.size)); have O5 := hidj_ (O3.out.below hb (Nat.le_refl _)); clear hb ch))
        | (refine wpList_put_row rfl 28 _ _ rfl w5.heap.size (rowOf dg) rfl rfl 28 (rowOf (zbytes 32)) (Bk.new w5 _ _) I.out Q.out (bytes_one _) ?_; intro w6 k6 g6 s6; have BX : Below w5.heap.size w5 w6 := (((Below.refl w5.heap.size w5).alloc (Nat.le_refl _) (.cells (rowOf (zbytes 32)) 28)).grown g6 (by simp) (fun k hk => by injection hk with hk; omega)); have X6 := hidj_ (X5.out.trans (BX.mono X5.out.size)); have O6 := hidj_ (O5.out.below BX (Nat.le_refl _)); have D6 := hidj_ k6; clear k6 g6 s6 BX)
        | (at_builtin; refine wpList_app rfl (.tmp 35) (.tmp 44) rfl O6.out rfl m 32 rfl ((D6.out.rd D6.out.lt).take m) (by rw [List.length_take, LJ.out]; omega) (by rw [OL.out]; omega) X6.out.size ?_; (intro A7 c7 w7 k1 k2 k3; rw [OL.out] at k1 ⊢; have O7 := hidj_ k1; have X7 := hidj_ (X6.out.grown k2 X6.out.size (fun k hk => (World.ownsRow.lt O6.out k hk).1)); have D7 := hidj_ (D6.out.grown k2 (fun e => by first | (have h := (World.ownsRow.lt O5.out _ e).2; omega) | (have h := (World.ownsRow.lt O5.out _ e.symm).2; omega))); clear k1 k2 k3)))
      go_roundw
      case rel =>
        refine ⟨j + 1, by omega, by omega, by go_num, hidj_ (.inr ?_), hidj_ ⟨?_, ⟨some ⟨w5.heap.size, 0, none⟩, 32, ?_, ?_, ?_, by omega⟩, X7.out⟩⟩
        · have := hq.out
          omega
        · rw [Nat.add_sub_cancel, hst.out]
          exact O7.out
        · rw [Nat.add_sub_cancel, HLJ.out, LJ.out]
        · rw [Nat.add_sub_cancel, HLJ.out]
          exact D7.out.rd D7.out.lt
        · rw [Nat.add_sub_cancel, HLJ.out, LJ.out]
          exact Nat.le_refl _
      case measure => simp [intOf]; omega
    · have hjn : n ≤ 32 * (j - 1) := by omega
      have hj256 : j - 1 ≤ 255 := by omega
      have he := expandB_eq key use n (j - 1) hj256 hjn
      have ho := HS.out.own
      rw [← he] at ho
      have EL := hidj_ (expandB_len key use n hn)
      obtain ⟨A1, c1, rfl, -⟩ := ho.form
      obtain ⟨A2, c2, rfl, -⟩ := HS.out.last
      have HB := hidj_ HS.out.below
      have HO := hidj_ ho
      generalize (lastB key use (j - 1)).length = p2 at *
      clear ho he HS HJ hlt hjn
      rw [EL.out]
      have HO2 : Hid (Own8 wr w.heap.size (.slice A1 n c1) (expandB key use n)) := hidj_ (by have h := HO.out; rw [EL.out] at h; exact h)
      have hd1 : decide ((n : Int) < (n : Int)) = false := decide_eq_false (by omega)
      go_wp2
      go_ret2
      exact ⟨A1, c1, by simp [EL.out], by rw [EL.out]; exact HO2.out, HB.out⟩
end Go.Proofs.YtengjagahhfjoaaDoor
