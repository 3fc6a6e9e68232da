/-
  Merged: C0 C1 C2.
-/
import Derived.WalkKit
import Derived.Test.YtdlciehboimciaaBB
import Derived.Test.YtdlciehboimciaaBr
import Derived.Test.YtdlciehboimciaaGn
import Derived.Lib.SlBytesConst
import Derived.Test.YtdlciehboimciaaBk
import Derived.BigQuiet
namespace Go.Proofs.Ytdlciehboimciaa
set_option maxRecDepth 100000
/-- One bit gone through. -/
def cstep (x : BitVec 32) : BitVec 32 := (x >>> 1) ^^^ (if x.getLsbD 0 then 0x82f63b78#32 else 0#32)
def csteps : Nat → BitVec 32 → BitVec 32
  | 0, x => x
  | k + 1, x => cstep (csteps k x)
theorem xor4 (a b c d : BitVec 32) : (a ^^^ b) ^^^ (c ^^^ d) = (a ^^^ c) ^^^ (b ^^^ d) := by ac_rfl
theorem cstep_xor (x y : BitVec 32) : cstep (x ^^^ y) = cstep x ^^^ cstep y := by
  unfold cstep
  rw [BitVec.ushiftRight_xor_distrib, BitVec.getLsbD_xor, xor4]
  congr 1
  cases x.getLsbD 0 <;> cases y.getLsbD 0 <;> simp
theorem csteps_xor (k : Nat) (x y : BitVec 32) : csteps k (x ^^^ y) = csteps k x ^^^ csteps k y := by
  induction k with
  | zero => rfl
  | succ k ih => rw [csteps, ih, cstep_xor]; rfl
theorem cstep_zero {x : BitVec 32} (h : cstep x = 0#32) : x = 0#32 := by
  have h31 : (cstep x).getLsbD 31 = x.getLsbD 0 := by
    unfold cstep
    rw [BitVec.getLsbD_xor, BitVec.getLsbD_ushiftRight]
    rw [BitVec.getLsbD_of_ge x (1 + 31) (by omega)]
    cases x.getLsbD 0 <;> rfl
  have h0 : x.getLsbD 0 = false := by rw [← h31, h]; rfl
  have hs : x >>> 1 = 0#32 := by
    have : cstep x = x >>> 1 := by unfold cstep; rw [h0]; simp
    rw [← this, h]
  apply BitVec.eq_of_getLsbD_eq
  intro i hi
  rcases i with _ | i
  · rw [h0]; rfl
  · have := congrArg (fun v => v.getLsbD i) hs
    simp only [BitVec.getLsbD_ushiftRight] at this
    rw [Nat.add_comm, this]
    simp
theorem csteps_zero (k : Nat) {x : BitVec 32} (h : csteps k x = 0#32) : x = 0#32 := by
  induction k with
  | zero => exact h
  | succ k ih => exact ih (cstep_zero h)
theorem csteps_inj (k : Nat) {x y : BitVec 32} (h : csteps k x = csteps k y) : x = y := by
  have : csteps k (x ^^^ y) = 0#32 := by rw [csteps_xor, h, BitVec.xor_self]
  have := csteps_zero k this
  exact BitVec.xor_eq_zero_iff.1 this
theorem csteps_add (a b : Nat) (x : BitVec 32) : csteps a (csteps b x) = csteps (a + b) x := by
  induction a with
  | zero => rw [Nat.zero_add]; rfl
  | succ a ih => rw [Nat.succ_add]; show cstep _ = cstep _; rw [ih]
/-- A byte, as a word. -/
def bw (b : UInt8) : BitVec 32 := BitVec.ofNat 32 b.toNat
/-- A byte gone through. -/
def cbyte (s : BitVec 32) (b : UInt8) : BitVec 32 := csteps 8 (s ^^^ bw b)
def crun (s : BitVec 32) (l : List UInt8) : BitVec 32 := l.foldl cbyte s
theorem crun_snoc (s : BitVec 32) (l : List UInt8) (b : UInt8) : crun s (l ++ [b]) = cbyte (crun s l) b := by simp [crun]
theorem crun_append (s : BitVec 32) (l m : List UInt8) : crun s (l ++ m) = crun (crun s l) m := by simp [crun]
def crcV (l : List UInt8) : BitVec 32 := ~~~ crun (0xffffffff#32) l
theorem bw_xor (a b : UInt8) : bw (a ^^^ b) = bw a ^^^ bw b := by
  unfold bw
  rw [UInt8.toNat_xor]
  apply BitVec.eq_of_toNat_eq
  rw [BitVec.toNat_xor]
  have ha := a.toNat_lt
  have hb := b.toNat_lt
  have hx : a.toNat ^^^ b.toNat < 2 ^ 8 := Nat.xor_lt_two_pow (by omega) (by omega)
  simp only [BitVec.toNat_ofNat]
  rw [Nat.mod_eq_of_lt (by omega), Nat.mod_eq_of_lt (by omega), Nat.mod_eq_of_lt (by omega)]
theorem cbyte_xor3 (s t u : BitVec 32) (a b c : UInt8) : cbyte (s ^^^ t ^^^ u) (a ^^^ b ^^^ c) = cbyte s a ^^^ cbyte t b ^^^ cbyte u c := by
  unfold cbyte
  rw [bw_xor, bw_xor, show s ^^^ t ^^^ u ^^^ (bw a ^^^ bw b ^^^ bw c) = (s ^^^ bw a) ^^^ (t ^^^ bw b) ^^^ (u ^^^ bw c) by ac_rfl, csteps_xor, csteps_xor]
/-- Three texts, by exclusive or. -/
def mix3 : List UInt8 → List UInt8 → List UInt8 → List UInt8
  | a :: l, b :: m, c :: n => (a ^^^ b ^^^ c) :: mix3 l m n
  | _, _, _ => []
theorem crun_xor3 : ∀ (l m n : List UInt8) (s t u : BitVec 32), l.length = m.length → m.length = n.length → crun (s ^^^ t ^^^ u) (mix3 l m n) = crun s l ^^^ crun t m ^^^ crun u n
  | [], [], [], _, _, _, _, _ => rfl
  | a :: l, b :: m, c :: n, s, t, u, h1, h2 => by
    show crun (cbyte _ _) (mix3 l m n) = crun (cbyte s a) l ^^^ crun (cbyte t b) m ^^^ crun (cbyte u c) n
    rw [cbyte_xor3]
    exact crun_xor3 l m n _ _ _ (by simpa using h1) (by simpa using h2)
theorem not3 (x y z : BitVec 32) : ~~~ (x ^^^ y ^^^ z) = ~~~ x ^^^ ~~~ y ^^^ ~~~ z := by
  apply BitVec.eq_of_getLsbD_eq
  intro i hi
  simp [hi]
theorem crc_xor3 (l m n : List UInt8) (h1 : l.length = m.length) (h2 : m.length = n.length) : crcV (mix3 l m n) = crcV l ^^^ crcV m ^^^ crcV n := by
  have h := crun_xor3 l m n (0xffffffff#32) (0xffffffff#32) (0xffffffff#32) h1 h2
  have e : (0xffffffff#32 ^^^ 0xffffffff#32 ^^^ 0xffffffff#32 : BitVec 32) = 0xffffffff#32 := by decide
  rw [e] at h
  unfold crcV
  rw [h, not3]

/-- Bytes, the lowest first, as a number. -/
def leW : List UInt8 → Nat
  | [] => 0
  | b :: l => b.toNat + 256 * leW l
theorem leW_lt : ∀ l : List UInt8, leW l < 256 ^ l.length
  | [] => by simp [leW]
  | b :: l => by
    have := leW_lt l
    have hb := b.toNat_lt
    rw [leW, List.length_cons, Nat.pow_succ]
    omega
theorem csteps8_shift (x : Nat) (b : UInt8) (hx : x < 2 ^ 24) : csteps 8 (BitVec.ofNat 32 (b.toNat + 256 * x)) = csteps 8 (bw b) ^^^ BitVec.ofNat 32 x := by
  have hb := b.toNat_lt
  have e : BitVec.ofNat 32 (b.toNat + 256 * x) = bw b ^^^ (BitVec.ofNat 32 x <<< 8) := by
    apply BitVec.eq_of_getLsbD_eq
    intro i hi
    rw [BitVec.getLsbD_xor, BitVec.getLsbD_shiftLeft, bw, BitVec.getLsbD_ofNat, BitVec.getLsbD_ofNat, BitVec.getLsbD_ofNat]
    have h := Nat.testBit_two_pow_mul_add x (show b.toNat < 2 ^ 8 from hb) i
    rw [show b.toNat + 256 * x = 2 ^ 8 * x + b.toNat by omega, h]
    by_cases h8 : i < 8
    · simp [h8, hi]
    · have hz : b.toNat.testBit i = false := Nat.testBit_lt_two_pow (Nat.lt_of_lt_of_le hb (Nat.pow_le_pow_right (by omega) (by omega)))
      simp [h8, hi, hz]
      omega
  have hev : ∀ (k : Nat) (y : BitVec 32), (∀ i, 32 ≤ i + k → y.getLsbD i = false) → csteps k (y <<< k) = y := by
    intro k
    induction k with
    | zero => intro y _; simp [csteps]
    | succ k ih =>
      intro y hy
      have h1 : csteps k ((y <<< 1) <<< k) = y <<< 1 := ih (y <<< 1) (fun i hi => by
        rw [BitVec.getLsbD_shiftLeft]
        rcases i with _ | i
        · simp
        · simp; intro _; exact hy i (by omega))
      rw [← BitVec.shiftLeft_add, Nat.add_comm 1 k] at h1
      rw [csteps, h1]
      unfold cstep
      have h0 : (y <<< 1).getLsbD 0 = false := by simp
      rw [h0]
      apply BitVec.eq_of_getLsbD_eq
      intro i hi
      simp only [BitVec.getLsbD_xor, BitVec.getLsbD_ushiftRight, BitVec.getLsbD_shiftLeft]
      by_cases h31 : 1 + i < 32
      · simp [h31]
      · rw [hy i (by omega)]
        simp [h31]
  rw [e, csteps_xor, hev 8]
  intro i hi
  rw [BitVec.getLsbD_ofNat, Nat.testBit_lt_two_pow (Nat.lt_of_lt_of_le hx (Nat.pow_le_pow_right (by omega) (by omega)))]
  simp
/-- Up to four bytes gone through: their number, in so many bits. -/
theorem crun_le : ∀ (l : List UInt8) (s : BitVec 32), l.length ≤ 4 → crun s l = csteps (8 * l.length) (s ^^^ BitVec.ofNat 32 (leW l))
  | [], s, _ => by simp [crun, leW, csteps]
  | b :: l, s, h => by
    have hl : l.length ≤ 3 := by simpa using h
    have hx : leW l < 2 ^ 24 := Nat.lt_of_lt_of_le (leW_lt l) (by
      have : 256 ^ l.length ≤ 256 ^ 3 := Nat.pow_le_pow_right (by omega) hl
      simpa using this)
    show crun (cbyte s b) l = _
    rw [crun_le l _ (by omega), leW, List.length_cons, show 8 * (l.length + 1) = 8 * l.length + 8 by omega, ← csteps_add, csteps_xor 8, csteps8_shift _ _ hx]
    unfold cbyte
    rw [csteps_xor 8]
    congr 1
    ac_rfl
theorem leW_inj : ∀ {l m : List UInt8}, l.length = m.length → leW l = leW m → l = m
  | [], [], _, _ => rfl
  | a :: l, b :: m, h, e => by
    have ha := a.toNat_lt
    have hb := b.toNat_lt
    rw [leW, leW] at e
    have e1 : a.toNat = b.toNat := by omega
    have e2 : leW l = leW m := by omega
    rw [UInt8.toNat_inj.1 e1, leW_inj (by simpa using h) e2]
theorem crun_inj4 {s : BitVec 32} {l m : List UInt8} (hl : l.length = 4) (hm : m.length = 4) (h : crun s l = crun s m) : l = m := by
  rw [crun_le l s (by omega), crun_le m s (by omega), hl, hm] at h
  have h1 := csteps_inj 32 h
  have h2 : BitVec.ofNat 32 (leW l) = BitVec.ofNat 32 (leW m) := by
    have := congrArg (fun z => s ^^^ z) h1
    simpa [← BitVec.xor_assoc] using this
  have h3 := congrArg BitVec.toNat h2
  have b1 := leW_lt l
  have b2 := leW_lt m
  rw [hl] at b1
  rw [hm] at b2
  simp only [BitVec.toNat_ofNat] at h3
  rw [Nat.mod_eq_of_lt (by omega), Nat.mod_eq_of_lt (by omega)] at h3
  exact leW_inj (by omega) h3
theorem cbyte_inj {s t : BitVec 32} {b : UInt8} (h : cbyte s b = cbyte t b) : s = t := by
  have h1 := csteps_inj 8 h
  have := congrArg (fun z => z ^^^ bw b) h1
  simpa [BitVec.xor_assoc] using this
theorem crun_inj : ∀ {l : List UInt8} {s t : BitVec 32}, crun s l = crun t l → s = t
  | [], _, _, h => h
  | _ :: l, _, _, h => cbyte_inj (crun_inj (l := l) h)
/-- What is closed has one remainder. -/
theorem crc_rest (body told : List UInt8) (h4 : told.length = 4) (h : leW told = (crcV body).toNat) : crun (0xffffffff#32) (body ++ told) = csteps 32 (0xffffffff#32) := by
  rw [crun_append, crun_le told _ (by omega), h4, h]
  unfold crcV
  rw [BitVec.ofNat_toNat, BitVec.setWidth_eq]
  congr 1
  generalize crun (0xffffffff#32) body = x
  have e : (0xffffffff#32) = BitVec.allOnes 32 := rfl
  rw [e]
  apply BitVec.eq_of_getLsbD_eq
  intro i hi
  rw [BitVec.getLsbD_xor, BitVec.getLsbD_not, BitVec.getLsbD_allOnes]
  simp [hi]
/-- Four bytes, one behind the other, that are turned, aren't passed over. -/
theorem crc_burst (p q m m' body told body' told' : List UInt8) (hm : m.length = 4) (hm' : m'.length = 4) (h : body ++ told = p ++ m ++ q) (h' : body' ++ told' = p ++ m' ++ q) (ht : told.length = 4) (ht' : told'.length = 4)
    (hc : leW told = (crcV body).toNat) (hc' : leW told' = (crcV body').toNat) : m = m' := by
  have r := crc_rest body told ht hc
  have r' := crc_rest body' told' ht' hc'
  rw [h] at r
  rw [h', ← r] at r'
  simp only [crun_append] at r'
  exact (crun_inj4 hm' hm (crun_inj r')).symm
end Go.Proofs.Ytdlciehboimciaa

namespace Go.Proofs.Ytdlciehboimciaa
set_option maxRecDepth 100000
open Go.RowKit
set_option linter.unusedVariables false

theorem ofInt_toNat32 (a : BitVec 32) : BitVec.ofInt 32 ((a.toNat : Nat) : Int) = a := by
  rw [BitVec.ofInt_natCast, BitVec.ofNat_toNat, BitVec.setWidth_eq]
theorem wrap32 (a : BitVec 32) : IntKind.u32.wrap ((a.toNat : Nat) : Int) = ((a.toNat : Nat) : Int) := by
  have := a.isLt
  rw [IntKind.wrap_u32]
  omega
theorem bxor32 (a b : BitVec 32) : bits .xor .u32 ((a.toNat : Nat) : Int) ((b.toNat : Nat) : Int) = (((a ^^^ b).toNat : Nat) : Int) := by
  show IntKind.u32.wrap ((BitVec.ofInt 32 _ ^^^ BitVec.ofInt 32 _).toNat : Int) = _
  rw [ofInt_toNat32, ofInt_toNat32, wrap32]
theorem band32 (a b : BitVec 32) : bits .and .u32 ((a.toNat : Nat) : Int) ((b.toNat : Nat) : Int) = (((a &&& b).toNat : Nat) : Int) := by
  show IntKind.u32.wrap ((BitVec.ofInt 32 _ &&& BitVec.ofInt 32 _).toNat : Int) = _
  rw [ofInt_toNat32, ofInt_toNat32, wrap32]
theorem and_one (a : BitVec 32) : a &&& 1#32 = if a.getLsbD 0 then 1#32 else 0#32 := by
  apply BitVec.eq_of_getLsbD_eq
  intro i hi
  rw [BitVec.getLsbD_and]
  rcases i with _ | i
  · cases a.getLsbD 0 <;> rfl
  · cases a.getLsbD 0 <;> simp
theorem band_one (a : BitVec 32) : bits .and .u32 ((a.toNat : Nat) : Int) 1 = if a.getLsbD 0 then 1 else 0 := by
  have h := band32 a 1#32
  rw [and_one] at h
  have e : (((1#32 : BitVec 32).toNat : Nat) : Int) = 1 := rfl
  rw [e] at h
  rw [h]
  cases a.getLsbD 0 <;> rfl
theorem half (a : BitVec 32) : (((a >>> 1).toNat : Nat) : Int) = ((a.toNat : Nat) : Int) / 2 := by
  rw [BitVec.toNat_ushiftRight, Nat.shiftRight_eq_div_pow]
  omega
theorem parity (a : BitVec 32) : a.getLsbD 0 = decide (a.toNat % 2 = 1) := by
  rw [← BitVec.testBit_toNat, Nat.testBit_zero]

theorem hidc_ {p : Prop} (h : p) : Hid p := h
theorem cstep_form (x : BitVec 32) : bits .xor .u32 (((x.toNat : Nat) : Int) / 2) ((2197175160 * bits .and .u32 ((x.toNat : Nat) : Int) 1) % 4294967296) = (((cstep x).toNat : Nat) : Int) := by
  rw [band_one, ← half]
  have e : ((2197175160 * (if x.getLsbD 0 = true then 1 else 0) : Int) % 4294967296) = (((if x.getLsbD 0 = true then 0x82f63b78#32 else 0#32 : BitVec 32).toNat : Nat) : Int) := by
    cases x.getLsbD 0 <;> rfl
  rw [e, bxor32]
  rfl
theorem bw_int (b : UInt8) : (((bw b).toNat : Nat) : Int) = ((b.toNat : Nat) : Int) := by
  have := b.toNat_lt
  unfold bw
  rw [BitVec.toNat_ofNat, Nat.mod_eq_of_lt (by omega)]
theorem not32 (x : BitVec 32) : bits .xor .u32 IntKind.u32.max ((x.toNat : Nat) : Int) = (((~~~ x).toNat : Nat) : Int) := by
  have e : IntKind.u32.max = (((0xffffffff#32 : BitVec 32).toNat : Nat) : Int) := rfl
  rw [e, bxor32]
  congr 2

set_option maxRecDepth 100000 in
set_option maxHeartbeats 1000000 in
theorem check_any (A : Option Addr) (B cap n : Nat) (l : List UInt8) (w : World) (hn : l.length = n) (hr : Rd w B A l) (hm : n ≤ 9223372036854775807) :
    Calls Try.prog 75 #[.slice A n cap] w fun e w' => e = .returned (.int .u32 (((crcV l).toNat : Nat) : Int)) ∧ w = w' := by
  have HR : Hid (Rd w B A l) := hr
  have HN : Hid (l.length = n) := hn
  clear hr hn
  go_enter Try.func75, Try.ntmps75
  go_wp2
  go_loop [3, 8] (fun x i => ∃ k : Nat, k ≤ n ∧ i = .int .i64 k ∧ x = .int .u32 (((crun (0xffffffff#32) (l.take k)).toNat : Nat) : Int)) (fun _ i => n - (intOf i).toNat)
  case atStart => exact ⟨0, Nat.zero_le _, rfl, rfl⟩
  case round =>
    obtain ⟨k, hk, rfl, rfl⟩ := hrel
    by_cases hlt : k < n
    · obtain ⟨b1, o1, z1, rfl, hb1, hc1, hz1, hx1⟩ := HR.out.atz (k := k) (by rw [HN.out]; exact hlt)
      obtain ⟨s, hs⟩ : ∃ s, Hid (crun (0xffffffff#32) (l.take k) = s) := ⟨_, rfl⟩
      rw [hs.out]
      have HS : Hid (crun (0xffffffff#32) (l.take (k + 1)) = cbyte s (l.getD k 0)) := hidc_ (by rw [take_snoc8 l k (by rw [HN.out]; exact hlt), crun_snoc, hs.out])
      have HX : Hid (bits .xor .u32 ((s.toNat : Nat) : Int) (z1 : Int) = (((s ^^^ bw (l.getD k 0)).toNat : Nat) : Int)) := hidc_ (by rw [← hx1.out, ← bw_int, bxor32])
      clear hx1
      go_wp2
      go_loop [3, 16] (fun x i => ∃ j : Nat, j ≤ 8 ∧ i = .int .i64 j ∧ x = .int .u32 (((csteps j (s ^^^ bw (l.getD k 0))).toNat : Nat) : Int)) (fun _ i => 8 - (intOf i).toNat)
      case atStart => exact ⟨0, Nat.zero_le _, rfl, by rw [HX.out]; rfl⟩
      case round =>
        obtain ⟨j, hj, rfl, rfl⟩ := hrel
        obtain ⟨y, hy⟩ : ∃ y, Hid (csteps j (s ^^^ bw (l.getD k 0)) = y) := ⟨_, rfl⟩
        rw [hy.out]
        have HF := hidc_ (cstep_form y)
        have HY : Hid (csteps (j + 1) (s ^^^ bw (l.getD k 0)) = cstep y) := hidc_ (by rw [csteps, hy.out])
        have hyl := y.isLt
        by_cases h8 : j < 8
        · go_wp2
          go_round
          case rel => exact ⟨j + 1, by omega, by go_num, by rw [HY.out, ← HF.out]⟩
          case measure => simp [intOf]; omega
        · obtain rfl : j = 8 := by omega
          go_wp2
          go_round
          case rel => exact ⟨k + 1, by omega, by go_num, by rw [HS.out, ← hy.out]; rfl⟩
          case measure => simp [intOf]; omega
    · obtain rfl : k = n := by omega
      have HE : Hid (l.take k = l) := hidc_ (List.take_of_length_le (by rw [HN.out]; omega))
      rw [HE.out]
      have HQ := hidc_ (not32 (crun (0xffffffff#32) l))
      have hsg : IntKind.u32.signed = false := rfl
      go_wp2
      go_ret
      exact ⟨by rw [crcV, ← HQ.out]; rfl, rfl⟩
theorem cstep_one (x : BitVec 32) (h : x.getLsbD 0 = true) : bits .xor .u32 (((x.toNat : Nat) : Int) / 2) 2197175160 = (((cstep x).toNat : Nat) : Int) := by
  have e : (2197175160 : Int) = (((0x82f63b78#32 : BitVec 32).toNat : Nat) : Int) := rfl
  rw [← half, e, bxor32, cstep, if_pos h]
theorem cstep_none (x : BitVec 32) (h : x.getLsbD 0 = false) : (((x.toNat : Nat) : Int) / 2) = (((cstep x).toNat : Nat) : Int) := by
  rw [← half, cstep, h]
  simp

set_option maxRecDepth 100000 in
set_option maxHeartbeats 1000000 in
theorem refCheck_any (n : Nat) (l : List UInt8) (w : World) (hn : l.length = n) (hm : n ≤ 9223372036854775807) :
    Calls Try.prog 58 #[.string (strOf l)] w fun e w' => e = .returned (.int .u32 (((crcV l).toNat : Nat) : Int)) ∧ w = w' := by
  have hs : (strOf l).size = n := by rw [strOf_size, hn]
  have HN : Hid (l.length = n) := hn
  clear hn
  go_enter Try.func58, Try.ntmps58
  go_wp2
  go_loop [3, 4] (fun x i => ∃ k : Nat, k ≤ n ∧ i = .int .i64 k ∧ x = .int .u32 (((crun (0xffffffff#32) (l.take k)).toNat : Nat) : Int)) (fun _ i => n - (intOf i).toNat)
  case atStart => exact ⟨0, Nat.zero_le _, rfl, rfl⟩
  case round =>
    obtain ⟨k, hk, rfl, rfl⟩ := hrel
    by_cases hlt : k < n
    · obtain ⟨s, hs'⟩ : ∃ s, Hid (crun (0xffffffff#32) (l.take k) = s) := ⟨_, rfl⟩
      rw [hs'.out]
      have HS : Hid (crun (0xffffffff#32) (l.take (k + 1)) = cbyte s (l.getD k 0)) := hidc_ (by rw [take_snoc8 l k (by rw [HN.out]; exact hlt), crun_snoc, hs'.out])
      have HX : Hid (∀ h : k < (strOf l).size, bits .xor .u32 ((s.toNat : Nat) : Int) ((((strOf l)[k]'h).toNat : Int) % 4294967296) = (((s ^^^ bw (l.getD k 0)).toNat : Nat) : Int)) := hidc_ (fun h => by
        have h1 := (l.getD k 0).toNat_lt
        have h2 : (((l.getD k 0).toNat : Nat) : Int) % 4294967296 = (((l.getD k 0).toNat : Nat) : Int) := by omega
        rw [strOf_get, h2, ← bw_int, bxor32])
      go_wp2
      go_loop [3, 5, 6] (fun x i _ => ∃ j : Nat, j ≤ 8 ∧ i = .int .i64 j ∧ x = .int .u32 (((csteps j (s ^^^ bw (l.getD k 0))).toNat : Nat) : Int)) (fun _ i _ => 8 - (intOf i).toNat)
      case atStart => exact ⟨0, Nat.zero_le _, rfl, by rw [HX.out]; rfl⟩
      case round =>
        obtain ⟨j, hj, rfl, rfl⟩ := hrel
        obtain ⟨y, hy⟩ : ∃ y, Hid (csteps j (s ^^^ bw (l.getD k 0)) = y) := ⟨_, rfl⟩
        rw [hy.out]
        have HY : Hid (csteps (j + 1) (s ^^^ bw (l.getD k 0)) = cstep y) := hidc_ (by rw [csteps, hy.out])
        have hyl := y.isLt
        have ho := band_one y
        by_cases h8 : j < 8
        · cases hp : y.getLsbD 0
          · have HF := hidc_ (cstep_none y hp)
            rw [hp] at ho
            simp only [Bool.false_eq_true, if_false] at ho
            clear hp
            go_wp2
            go_round
            case rel => exact ⟨j + 1, by omega, by go_num, by rw [HY.out, ← HF.out]⟩
            case measure => simp [intOf]; omega
          · have HF := hidc_ (cstep_one y hp)
            rw [hp] at ho
            simp only [if_true] at ho
            clear hp
            go_wp2
            go_round
            case rel => exact ⟨j + 1, by omega, by go_num, by rw [HY.out, ← HF.out]⟩
            case measure => simp [intOf]; omega
        · obtain rfl : j = 8 := by omega
          clear ho
          go_wp2
          go_round
          case rel => exact ⟨k + 1, by omega, by go_num, by rw [HS.out, ← hy.out]; rfl⟩
          case measure => simp [intOf]; omega
    · obtain rfl : k = n := by omega
      have HE : Hid (l.take k = l) := hidc_ (List.take_of_length_le (by rw [HN.out]; omega))
      rw [HE.out]
      have HQ := hidc_ (not32 (crun (0xffffffff#32) l))
      have hsg : IntKind.u32.signed = false := rfl
      go_wp2
      go_ret
      exact ⟨by rw [crcV, ← HQ.out]; rfl, rfl⟩

theorem crc_nine : (((crcV [49, 50, 51, 52, 53, 54, 55, 56, 57]).toNat : Nat) : Int) = 3808858755 := by decide +kernel
theorem mix3_snoc (a b c : UInt8) : ∀ (l m n : List UInt8), l.length = m.length → m.length = n.length → mix3 (l ++ [a]) (m ++ [b]) (n ++ [c]) = mix3 l m n ++ [a ^^^ b ^^^ c]
  | [], [], [], _, _ => rfl
  | x :: l, y :: m, z :: n, h1, h2 => by
    show _ :: mix3 (l ++ [a]) (m ++ [b]) (n ++ [c]) = _ :: (mix3 l m n ++ _)
    rw [mix3_snoc a b c l m n (by simpa using h1) (by simpa using h2)]
theorem mix3_len : ∀ (l m n : List UInt8), l.length = m.length → m.length = n.length → (mix3 l m n).length = l.length
  | [], [], [], _, _ => rfl
  | x :: l, y :: m, z :: n, h1, h2 => by
    show (mix3 l m n).length + 1 = l.length + 1
    rw [mix3_len l m n (by simpa using h1) (by simpa using h2)]
end Go.Proofs.Ytdlciehboimciaa

namespace Go.Proofs.Ytdlciehboimciaa
set_option maxRecDepth 100000
open Go.RowKit
set_option linter.unusedVariables false

theorem leN_eq : ∀ l : List UInt8, leN l = leW l
  | [] => rfl
  | b :: l => by
    have h : leN (b :: l) = leN l * 256 + b.toNat := by
      unfold leN
      rw [List.reverse_cons, beN_snoc]
    rw [h, leN_eq l, leW]
    omega
/-- Bytes, and their check, the lowest first. -/
def closeB (l : List UInt8) : List UInt8 := l ++ lowB 4 (crcV l).toNat
theorem closeB_len (l : List UInt8) : (closeB l).length = l.length + 4 := by rw [closeB, List.length_append, lowB_len]

set_option maxRecDepth 100000 in
set_option maxHeartbeats 1000000 in
theorem close_any (A : Option Addr) (n c : Nat) (l : List UInt8) (w : World) (hn : l.length = n) (hr : Rd w w.heap.size A l) (hm : n ≤ 70368744177660) :
    Calls Try.prog 55 #[.slice A n c] w (NewP w (n + 4) (closeB l)) := by
  have hx := (crcV l).isLt
  have c1 := check_any A w.heap.size c n l w hn hr (by omega)
  have c2 := putLow_any (crcV l).toNat 4 4 (by omega) (by omega) (by omega) (by omega) w
  have hw1 : Below w.heap.size w ((w.alloc (.cells (rowOf (lowB 4 (crcV l).toNat)) 5)).alloc (.cells #[.slice A n c, .slice (some ⟨w.heap.size, 0, none⟩) 4 4] 39)) := ((Below.refl _ _).alloc (Nat.le_refl _) _).alloc (by simp) _
  have c3 := concat_any (w.heap.size + 1) 2 2 (n + 4) [(A, c, l), (some ⟨w.heap.size, 0, none⟩, 4, lowB 4 (crcV l).toNat)] ((w.alloc (.cells (rowOf (lowB 4 (crcV l).toNat)) 5)).alloc (.cells #[.slice A n c, .slice (some ⟨w.heap.size, 0, none⟩) 4 4] 39)) rfl (by simp [flat, lowB_len, hn])
    ⟨by simp, fun i hi => by
      have h2 : i < 2 := hi
      have hcell := (Bk.new (w.alloc (.cells (rowOf (lowB 4 (crcV l).toNat)) 5)) 39 #[.slice A n c, .slice (some ⟨w.heap.size, 0, none⟩) 4 4]).cell i
      have hsz : (w.alloc (.cells (rowOf (lowB 4 (crcV l).toNat)) 5)).heap.size = w.heap.size + 1 := by simp
      rw [hsz] at hcell
      rcases i with _ | _ | i
      · exact ⟨hcell.trans (by simp [hn]), (hr.below hw1).more hw1.size⟩
      · exact ⟨hcell.trans (by simp [lowB_len]), (((Blk8.new w _).alloc _).rd (by simp; omega))⟩
      · omega⟩ (by omega) (by omega)
  have hfl : flat [(A, c, l), (some ⟨w.heap.size, 0, none⟩, 4, lowB 4 (crcV l).toNat)] = closeB l := by simp [flat, closeB]
  rw [hfl] at c3
  have HW := hidk_ hw1
  clear hw1 hfl hr hn
  generalize (crcV l).toNat = x at *
  go_enter Try.func55, Try.ntmps55
  go_wp2_with (first
    | (go_at_call 75; ((with_reducible refine c1.mono ?_); rintro e w' ⟨rfl, rfl⟩))
    | (go_at_call 74; ((with_reducible refine c2.mono ?_); rintro e w' ⟨rfl, rfl⟩))
    | (go_at_call 73; ((with_reducible refine c3.mono ?_); rintro e w' ⟨A2, q2, rfl, ho, hb⟩; have HO := hidk_ ho; have HB := hidk_ hb; clear ho hb)))
  go_ret
  exact NewP.from HW.out ⟨A2, q2, rfl, HO.out, HB.out⟩

/-- Opened: what is ahead of the last four bytes, if these are its check. -/
def openB (l : List UInt8) : Bool := leW (l.drop (l.length - 4)) == (crcV (l.take (l.length - 4))).toNat
def OpenP (w : World) (n : Nat) (l : List UInt8) (e : Ending) (w' : World) : Prop :=
  ∃ A c, e = .returned (.tuple #[.slice A n c, .bool true]) ∧ Own8 w' w.heap.size (.slice A n c) l ∧ Below w.heap.size w w'
def ShutP (w : World) (e : Ending) (w' : World) : Prop := e = .returned (.tuple #[.slice none 0 0, .bool false]) ∧ Below w.heap.size w w'

end Go.Proofs.Ytdlciehboimciaa
