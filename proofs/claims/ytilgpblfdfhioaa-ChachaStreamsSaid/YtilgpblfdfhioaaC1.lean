/-
  Contracts: crc.Check, the document's own Check; CRC-32C of what is known.
-/
import Derived.Test.YtilgpblfdfhioaaBw
import Derived.Test.YtilgpblfdfhioaaBr
import Derived.Test.YtilgpblfdfhioaaC0
import Derived.Lib.SlBytesConst
namespace Go.Proofs.Ytilgpblfdfhioaa
open Go.RowKit
set_option linter.unusedVariables false

theorem ofInt_toNat32 (a : BitVec 32) : BitVec.ofInt 32 ((a.toNat : Nat) : Int) = a := by
  rw [BitVec.ofInt_natCast, BitVec.ofNat_toNat, BitVec.setWidth_eq]
theorem wrap32 (a : BitVec 32) : IntKind.u32.wrap ((a.toNat : Nat) : Int) = ((a.toNat : Nat) : Int) := by
  have := a.isLt
  rw [IntKind.wrap_u32]
  omega
theorem bxor32 (a b : BitVec 32) : bits .xor .u32 ((a.toNat : Nat) : Int) ((b.toNat : Nat) : Int) = (((a ^^^ b).toNat : Nat) : Int) := by
  show IntKind.u32.wrap ((BitVec.ofInt 32 _ ^^^ BitVec.ofInt 32 _).toNat : Int) = _
  rw [ofInt_toNat32, ofInt_toNat32, wrap32]
theorem band32 (a b : BitVec 32) : bits .and .u32 ((a.toNat : Nat) : Int) ((b.toNat : Nat) : Int) = (((a &&& b).toNat : Nat) : Int) := by
  show IntKind.u32.wrap ((BitVec.ofInt 32 _ &&& BitVec.ofInt 32 _).toNat : Int) = _
  rw [ofInt_toNat32, ofInt_toNat32, wrap32]
theorem and_one (a : BitVec 32) : a &&& 1#32 = if a.getLsbD 0 then 1#32 else 0#32 := by
  apply BitVec.eq_of_getLsbD_eq
  intro i hi
  rw [BitVec.getLsbD_and]
  rcases i with _ | i
  · cases a.getLsbD 0 <;> rfl
  · cases a.getLsbD 0 <;> simp
theorem band_one (a : BitVec 32) : bits .and .u32 ((a.toNat : Nat) : Int) 1 = if a.getLsbD 0 then 1 else 0 := by
  have h := band32 a 1#32
  rw [and_one] at h
  have e : (((1#32 : BitVec 32).toNat : Nat) : Int) = 1 := rfl
  rw [e] at h
  rw [h]
  cases a.getLsbD 0 <;> rfl
theorem half (a : BitVec 32) : (((a >>> 1).toNat : Nat) : Int) = ((a.toNat : Nat) : Int) / 2 := by
  rw [BitVec.toNat_ushiftRight, Nat.shiftRight_eq_div_pow]
  omega
theorem parity (a : BitVec 32) : a.getLsbD 0 = decide (a.toNat % 2 = 1) := by
  rw [← BitVec.testBit_toNat, Nat.testBit_zero]

theorem hidc_ {p : Prop} (h : p) : Hid p := h
theorem cstep_form (x : BitVec 32) : bits .xor .u32 (((x.toNat : Nat) : Int) / 2) ((2197175160 * bits .and .u32 ((x.toNat : Nat) : Int) 1) % 4294967296) = (((cstep x).toNat : Nat) : Int) := by
  rw [band_one, ← half]
  have e : ((2197175160 * (if x.getLsbD 0 = true then 1 else 0) : Int) % 4294967296) = (((if x.getLsbD 0 = true then 0x82f63b78#32 else 0#32 : BitVec 32).toNat : Nat) : Int) := by
    cases x.getLsbD 0 <;> rfl
  rw [e, bxor32]
  rfl
theorem bw_int (b : UInt8) : (((bw b).toNat : Nat) : Int) = ((b.toNat : Nat) : Int) := by
  have := b.toNat_lt
  unfold bw
  rw [BitVec.toNat_ofNat, Nat.mod_eq_of_lt (by omega)]
theorem not32 (x : BitVec 32) : bits .xor .u32 IntKind.u32.max ((x.toNat : Nat) : Int) = (((~~~ x).toNat : Nat) : Int) := by
  have e : IntKind.u32.max = (((0xffffffff#32 : BitVec 32).toNat : Nat) : Int) := rfl
  rw [e, bxor32]
  congr 2

set_option maxRecDepth 100000 in
set_option maxHeartbeats 1000000 in
theorem check_any (A : Option Addr) (B cap n : Nat) (l : List UInt8) (w : World) (hn : l.length = n) (hr : Rd w B A l) (hm : n ≤ 9223372036854775807) :
    Calls Try.prog 64 #[.slice A n cap] w fun e w' => e = .returned (.int .u32 (((crcV l).toNat : Nat) : Int)) ∧ w = w' := by
  have HR : Hid (Rd w B A l) := hr
  have HN : Hid (l.length = n) := hn
  clear hr hn
  go_enter Try.func64, Try.ntmps64
  go_wp2
  go_loop [3, 8] (fun x i => ∃ k : Nat, k ≤ n ∧ i = .int .i64 k ∧ x = .int .u32 (((crun (0xffffffff#32) (l.take k)).toNat : Nat) : Int)) (fun _ i => n - (intOf i).toNat)
  case atStart => exact ⟨0, Nat.zero_le _, rfl, rfl⟩
  case round =>
    obtain ⟨k, hk, rfl, rfl⟩ := hrel
    by_cases hlt : k < n
    · obtain ⟨b1, o1, z1, rfl, hb1, hc1, hz1, hx1⟩ := HR.out.atz (k := k) (by rw [HN.out]; exact hlt)
      obtain ⟨s, hs⟩ : ∃ s, Hid (crun (0xffffffff#32) (l.take k) = s) := ⟨_, rfl⟩
      rw [hs.out]
      have HS : Hid (crun (0xffffffff#32) (l.take (k + 1)) = cbyte s (l.getD k 0)) := hidc_ (by rw [take_snoc8 l k (by rw [HN.out]; exact hlt), crun_snoc, hs.out])
      have HX : Hid (bits .xor .u32 ((s.toNat : Nat) : Int) (z1 : Int) = (((s ^^^ bw (l.getD k 0)).toNat : Nat) : Int)) := hidc_ (by rw [← hx1.out, ← bw_int, bxor32])
      clear hx1
      go_wp2
      go_loop [3, 16] (fun x i => ∃ j : Nat, j ≤ 8 ∧ i = .int .i64 j ∧ x = .int .u32 (((csteps j (s ^^^ bw (l.getD k 0))).toNat : Nat) : Int)) (fun _ i => 8 - (intOf i).toNat)
      case atStart => exact ⟨0, Nat.zero_le _, rfl, by rw [HX.out]; rfl⟩
      case round =>
        obtain ⟨j, hj, rfl, rfl⟩ := hrel
        obtain ⟨y, hy⟩ : ∃ y, Hid (csteps j (s ^^^ bw (l.getD k 0)) = y) := ⟨_, rfl⟩
        rw [hy.out]
        have HF := hidc_ (cstep_form y)
        have HY : Hid (csteps (j + 1) (s ^^^ bw (l.getD k 0)) = cstep y) := hidc_ (by rw [csteps, hy.out])
        have hyl := y.isLt
        by_cases h8 : j < 8
        · go_wp2
          go_round
          case rel => exact ⟨j + 1, by omega, by go_num, by rw [HY.out, ← HF.out]⟩
          case measure => simp [intOf]; omega
        · obtain rfl : j = 8 := by omega
          go_wp2
          go_round
          case rel => exact ⟨k + 1, by omega, by go_num, by rw [HS.out, ← hy.out]; rfl⟩
          case measure => simp [intOf]; omega
    · obtain rfl : k = n := by omega
      have HE : Hid (l.take k = l) := hidc_ (List.take_of_length_le (by rw [HN.out]; omega))
      rw [HE.out]
      have HQ := hidc_ (not32 (crun (0xffffffff#32) l))
      have hsg : IntKind.u32.signed = false := rfl
      go_wp2
      go_ret
      exact ⟨by rw [crcV, ← HQ.out]; rfl, rfl⟩
theorem cstep_one (x : BitVec 32) (h : x.getLsbD 0 = true) : bits .xor .u32 (((x.toNat : Nat) : Int) / 2) 2197175160 = (((cstep x).toNat : Nat) : Int) := by
  have e : (2197175160 : Int) = (((0x82f63b78#32 : BitVec 32).toNat : Nat) : Int) := rfl
  rw [← half, e, bxor32, cstep, if_pos h]
theorem cstep_none (x : BitVec 32) (h : x.getLsbD 0 = false) : (((x.toNat : Nat) : Int) / 2) = (((cstep x).toNat : Nat) : Int) := by
  rw [← half, cstep, h]
  simp

set_option maxRecDepth 100000 in
set_option maxHeartbeats 1000000 in
theorem refCheck_any (n : Nat) (l : List UInt8) (w : World) (hn : l.length = n) (hm : n ≤ 9223372036854775807) :
    Calls Try.prog 65 #[.string (strOf l)] w fun e w' => e = .returned (.int .u32 (((crcV l).toNat : Nat) : Int)) ∧ w = w' := by
  have hs : (strOf l).size = n := by rw [strOf_size, hn]
  have HN : Hid (l.length = n) := hn
  clear hn
  go_enter Try.func65, Try.ntmps65
  go_wp2
  go_loop [3, 4] (fun x i => ∃ k : Nat, k ≤ n ∧ i = .int .i64 k ∧ x = .int .u32 (((crun (0xffffffff#32) (l.take k)).toNat : Nat) : Int)) (fun _ i => n - (intOf i).toNat)
  case atStart => exact ⟨0, Nat.zero_le _, rfl, rfl⟩
  case round =>
    obtain ⟨k, hk, rfl, rfl⟩ := hrel
    by_cases hlt : k < n
    · obtain ⟨s, hs'⟩ : ∃ s, Hid (crun (0xffffffff#32) (l.take k) = s) := ⟨_, rfl⟩
      rw [hs'.out]
      have HS : Hid (crun (0xffffffff#32) (l.take (k + 1)) = cbyte s (l.getD k 0)) := hidc_ (by rw [take_snoc8 l k (by rw [HN.out]; exact hlt), crun_snoc, hs'.out])
      have HX : Hid (∀ h : k < (strOf l).size, bits .xor .u32 ((s.toNat : Nat) : Int) ((((strOf l)[k]'h).toNat : Int) % 4294967296) = (((s ^^^ bw (l.getD k 0)).toNat : Nat) : Int)) := hidc_ (fun h => by
        have h1 := (l.getD k 0).toNat_lt
        have h2 : (((l.getD k 0).toNat : Nat) : Int) % 4294967296 = (((l.getD k 0).toNat : Nat) : Int) := by omega
        rw [strOf_get, h2, ← bw_int, bxor32])
      go_wp2
      go_loop [3, 5, 6] (fun x i _ => ∃ j : Nat, j ≤ 8 ∧ i = .int .i64 j ∧ x = .int .u32 (((csteps j (s ^^^ bw (l.getD k 0))).toNat : Nat) : Int)) (fun _ i _ => 8 - (intOf i).toNat)
      case atStart => exact ⟨0, Nat.zero_le _, rfl, by rw [HX.out]; rfl⟩
      case round =>
        obtain ⟨j, hj, rfl, rfl⟩ := hrel
        obtain ⟨y, hy⟩ : ∃ y, Hid (csteps j (s ^^^ bw (l.getD k 0)) = y) := ⟨_, rfl⟩
        rw [hy.out]
        have HY : Hid (csteps (j + 1) (s ^^^ bw (l.getD k 0)) = cstep y) := hidc_ (by rw [csteps, hy.out])
        have hyl := y.isLt
        have ho := band_one y
        by_cases h8 : j < 8
        · cases hp : y.getLsbD 0
          · have HF := hidc_ (cstep_none y hp)
            rw [hp] at ho
            simp only [Bool.false_eq_true, if_false] at ho
            clear hp
            go_wp2
            go_round
            case rel => exact ⟨j + 1, by omega, by go_num, by rw [HY.out, ← HF.out]⟩
            case measure => simp [intOf]; omega
          · have HF := hidc_ (cstep_one y hp)
            rw [hp] at ho
            simp only [if_true] at ho
            clear hp
            go_wp2
            go_round
            case rel => exact ⟨j + 1, by omega, by go_num, by rw [HY.out, ← HF.out]⟩
            case measure => simp [intOf]; omega
        · obtain rfl : j = 8 := by omega
          clear ho
          go_wp2
          go_round
          case rel => exact ⟨k + 1, by omega, by go_num, by rw [HS.out, ← hy.out]; rfl⟩
          case measure => simp [intOf]; omega
    · obtain rfl : k = n := by omega
      have HE : Hid (l.take k = l) := hidc_ (List.take_of_length_le (by rw [HN.out]; omega))
      rw [HE.out]
      have HQ := hidc_ (not32 (crun (0xffffffff#32) l))
      have hsg : IntKind.u32.signed = false := rfl
      go_wp2
      go_ret
      exact ⟨by rw [crcV, ← HQ.out]; rfl, rfl⟩

theorem crc_nine : (((crcV [49, 50, 51, 52, 53, 54, 55, 56, 57]).toNat : Nat) : Int) = 3808858755 := by decide +kernel
theorem rd_mark (W : World) (l : List UInt8) (fz : Nat × Nat) : Rd (W.alloc (.cells (rowOf l) 5 fz)) (W.heap.size + 1) (some ⟨W.heap.size, 0, none⟩) l := fun _ =>
  ⟨_, 0, rfl, Nat.lt_succ_self _, fun j hj => by
    rw [Nat.zero_add, World.cell?_alloc_mark]
    exact rowOf_at l j hj⟩
set_option maxRecDepth 100000 in
set_option maxHeartbeats 1000000 in
theorem checks_any (w : World) : Calls Try.prog 63 #[] w fun e w' => e = .returned (.bool true) ∧ Below w.heap.size w w' := by
  have c := check_any (some ⟨w.heap.size, 0, none⟩) (w.heap.size + 1) 9 9 [49, 50, 51, 52, 53, 54, 55, 56, 57] (w.alloc (.cells (rowOf [49, 50, 51, 52, 53, 54, 55, 56, 57]) 5 (9, 10))) rfl (rd_mark w _ _) (by omega)
  rw [crc_nine] at c
  have hrow : rowOf [49, 50, 51, 52, 53, 54, 55, 56, 57] = #[.int .u8 49, .int .u8 50, .int .u8 51, .int .u8 52, .int .u8 53, .int .u8 54, .int .u8 55, .int .u8 56, .int .u8 57] := rfl
  rw [hrow] at c
  clear hrow
  have k1 := Lib.run_convert_bytes_const (P := Try.prog) w 22 5 #[.int .u8 49, .int .u8 50, .int .u8 51, .int .u8 52, .int .u8 53, .int .u8 54, .int .u8 55, .int .u8 56, .int .u8 57] 9 9 Try.underlying22 Try.underlying5
  go_enter Try.func63, Try.ntmps63
  go_wp2_with (go_at_call 64; ((with_reducible refine c.mono ?_); rintro e w' ⟨rfl, rfl⟩))
  go_ret
  exact ⟨rfl, (Below.refl _ _).alloc (Nat.le_refl _) _⟩
set_option maxRecDepth 100000 in
theorem slice_to (A : Option Addr) (n c : Nat) (z : Int) (k : Nat) (hz : z = (k : Int)) (hk : k ≤ c) (W : World) :
    (Instr.slice 22 (.slice A n c) none (some (.int .i64 z)) none).run Try.prog W = .ok (.slice A k c) W := by
  subst hz
  have he : Try.prog.elem 22 = 5 := by kernel_rfl
  rw [run_slice_h W 22 A n c (by rw [he]; exact Try.underlying22) .i64 k (by omega) (by omega)]
  have hs : (sizeOf (Try.prog.elem 22)).run Try.prog W = .ok 1 W := by
    rw [he]
    obtain ⟨i, hi, hz, hsize, hby⟩ := info_parts info8
    simp [sizeOf, typeInfo, hi, hsize]
  rw [hs]
  simp only [Result.andThen, sliced]
  congr 2
  by_cases h : c = 0
  · rw [if_pos h]
  · rw [if_neg h]
    cases A with
    | none => rfl
    | some a => simp [Addr.add]
theorem mix3_snoc (a b c : UInt8) : ∀ (l m n : List UInt8), l.length = m.length → m.length = n.length → mix3 (l ++ [a]) (m ++ [b]) (n ++ [c]) = mix3 l m n ++ [a ^^^ b ^^^ c]
  | [], [], [], _, _ => rfl
  | x :: l, y :: m, z :: n, h1, h2 => by
    show _ :: mix3 (l ++ [a]) (m ++ [b]) (n ++ [c]) = _ :: (mix3 l m n ++ _)
    rw [mix3_snoc a b c l m n (by simpa using h1) (by simpa using h2)]
theorem mix3_len : ∀ (l m n : List UInt8), l.length = m.length → m.length = n.length → (mix3 l m n).length = l.length
  | [], [], [], _, _ => rfl
  | x :: l, y :: m, z :: n, h1, h2 => by
    show (mix3 l m n).length + 1 = l.length + 1
    rw [mix3_len l m n (by simpa using h1) (by simpa using h2)]
end Go.Proofs.Ytilgpblfdfhioaa
