/-
  CRC-32C as plain mathematics: a step is linear and one to one; what four bytes in a row do. No program is named here.
-/
import Derived.WalkKit
namespace Go.Proofs.Ytilgpblfdfhioaa
/-- One bit gone through. -/
def cstep (x : BitVec 32) : BitVec 32 := (x >>> 1) ^^^ (if x.getLsbD 0 then 0x82f63b78#32 else 0#32)
def csteps : Nat → BitVec 32 → BitVec 32
  | 0, x => x
  | k + 1, x => cstep (csteps k x)
theorem xor4 (a b c d : BitVec 32) : (a ^^^ b) ^^^ (c ^^^ d) = (a ^^^ c) ^^^ (b ^^^ d) := by ac_rfl
theorem cstep_xor (x y : BitVec 32) : cstep (x ^^^ y) = cstep x ^^^ cstep y := by
  unfold cstep
  rw [BitVec.ushiftRight_xor_distrib, BitVec.getLsbD_xor, xor4]
  congr 1
  cases x.getLsbD 0 <;> cases y.getLsbD 0 <;> simp
theorem csteps_xor (k : Nat) (x y : BitVec 32) : csteps k (x ^^^ y) = csteps k x ^^^ csteps k y := by
  induction k with
  | zero => rfl
  | succ k ih => rw [csteps, ih, cstep_xor]; rfl
theorem cstep_zero {x : BitVec 32} (h : cstep x = 0#32) : x = 0#32 := by
  have h31 : (cstep x).getLsbD 31 = x.getLsbD 0 := by
    unfold cstep
    rw [BitVec.getLsbD_xor, BitVec.getLsbD_ushiftRight]
    rw [BitVec.getLsbD_of_ge x (1 + 31) (by omega)]
    cases x.getLsbD 0 <;> rfl
  have h0 : x.getLsbD 0 = false := by rw [← h31, h]; rfl
  have hs : x >>> 1 = 0#32 := by
    have : cstep x = x >>> 1 := by unfold cstep; rw [h0]; simp
    rw [← this, h]
  apply BitVec.eq_of_getLsbD_eq
  intro i hi
  rcases i with _ | i
  · rw [h0]; rfl
  · have := congrArg (fun v => v.getLsbD i) hs
    simp only [BitVec.getLsbD_ushiftRight] at this
    rw [Nat.add_comm, this]
    simp
theorem csteps_zero (k : Nat) {x : BitVec 32} (h : csteps k x = 0#32) : x = 0#32 := by
  induction k with
  | zero => exact h
  | succ k ih => exact ih (cstep_zero h)
theorem csteps_inj (k : Nat) {x y : BitVec 32} (h : csteps k x = csteps k y) : x = y := by
  have : csteps k (x ^^^ y) = 0#32 := by rw [csteps_xor, h, BitVec.xor_self]
  have := csteps_zero k this
  exact BitVec.xor_eq_zero_iff.1 this
theorem csteps_add (a b : Nat) (x : BitVec 32) : csteps a (csteps b x) = csteps (a + b) x := by
  induction a with
  | zero => rw [Nat.zero_add]; rfl
  | succ a ih => rw [Nat.succ_add]; show cstep _ = cstep _; rw [ih]
/-- A byte, as a word. -/
def bw (b : UInt8) : BitVec 32 := BitVec.ofNat 32 b.toNat
/-- A byte gone through. -/
def cbyte (s : BitVec 32) (b : UInt8) : BitVec 32 := csteps 8 (s ^^^ bw b)
def crun (s : BitVec 32) (l : List UInt8) : BitVec 32 := l.foldl cbyte s
theorem crun_snoc (s : BitVec 32) (l : List UInt8) (b : UInt8) : crun s (l ++ [b]) = cbyte (crun s l) b := by simp [crun]
theorem crun_append (s : BitVec 32) (l m : List UInt8) : crun s (l ++ m) = crun (crun s l) m := by simp [crun]
def crcV (l : List UInt8) : BitVec 32 := ~~~ crun (0xffffffff#32) l
theorem bw_xor (a b : UInt8) : bw (a ^^^ b) = bw a ^^^ bw b := by
  unfold bw
  rw [UInt8.toNat_xor]
  apply BitVec.eq_of_toNat_eq
  rw [BitVec.toNat_xor]
  have ha := a.toNat_lt
  have hb := b.toNat_lt
  have hx : a.toNat ^^^ b.toNat < 2 ^ 8 := Nat.xor_lt_two_pow (by omega) (by omega)
  simp only [BitVec.toNat_ofNat]
  rw [Nat.mod_eq_of_lt (by omega), Nat.mod_eq_of_lt (by omega), Nat.mod_eq_of_lt (by omega)]
theorem cbyte_xor3 (s t u : BitVec 32) (a b c : UInt8) : cbyte (s ^^^ t ^^^ u) (a ^^^ b ^^^ c) = cbyte s a ^^^ cbyte t b ^^^ cbyte u c := by
  unfold cbyte
  rw [bw_xor, bw_xor, show s ^^^ t ^^^ u ^^^ (bw a ^^^ bw b ^^^ bw c) = (s ^^^ bw a) ^^^ (t ^^^ bw b) ^^^ (u ^^^ bw c) by ac_rfl, csteps_xor, csteps_xor]
/-- Three texts, by exclusive or. -/
def mix3 : List UInt8 → List UInt8 → List UInt8 → List UInt8
  | a :: l, b :: m, c :: n => (a ^^^ b ^^^ c) :: mix3 l m n
  | _, _, _ => []
theorem crun_xor3 : ∀ (l m n : List UInt8) (s t u : BitVec 32), l.length = m.length → m.length = n.length → crun (s ^^^ t ^^^ u) (mix3 l m n) = crun s l ^^^ crun t m ^^^ crun u n
  | [], [], [], _, _, _, _, _ => rfl
  | a :: l, b :: m, c :: n, s, t, u, h1, h2 => by
    show crun (cbyte _ _) (mix3 l m n) = crun (cbyte s a) l ^^^ crun (cbyte t b) m ^^^ crun (cbyte u c) n
    rw [cbyte_xor3]
    exact crun_xor3 l m n _ _ _ (by simpa using h1) (by simpa using h2)
theorem not3 (x y z : BitVec 32) : ~~~ (x ^^^ y ^^^ z) = ~~~ x ^^^ ~~~ y ^^^ ~~~ z := by
  apply BitVec.eq_of_getLsbD_eq
  intro i hi
  simp [hi]
theorem crc_xor3 (l m n : List UInt8) (h1 : l.length = m.length) (h2 : m.length = n.length) : crcV (mix3 l m n) = crcV l ^^^ crcV m ^^^ crcV n := by
  have h := crun_xor3 l m n (0xffffffff#32) (0xffffffff#32) (0xffffffff#32) h1 h2
  have e : (0xffffffff#32 ^^^ 0xffffffff#32 ^^^ 0xffffffff#32 : BitVec 32) = 0xffffffff#32 := by decide
  rw [e] at h
  unfold crcV
  rw [h, not3]

/-- Bytes, the lowest first, as a number. -/
def leW : List UInt8 → Nat
  | [] => 0
  | b :: l => b.toNat + 256 * leW l
theorem leW_lt : ∀ l : List UInt8, leW l < 256 ^ l.length
  | [] => by simp [leW]
  | b :: l => by
    have := leW_lt l
    have hb := b.toNat_lt
    rw [leW, List.length_cons, Nat.pow_succ]
    omega
theorem csteps8_shift (x : Nat) (b : UInt8) (hx : x < 2 ^ 24) : csteps 8 (BitVec.ofNat 32 (b.toNat + 256 * x)) = csteps 8 (bw b) ^^^ BitVec.ofNat 32 x := by
  have hb := b.toNat_lt
  have e : BitVec.ofNat 32 (b.toNat + 256 * x) = bw b ^^^ (BitVec.ofNat 32 x <<< 8) := by
    apply BitVec.eq_of_getLsbD_eq
    intro i hi
    rw [BitVec.getLsbD_xor, BitVec.getLsbD_shiftLeft, bw, BitVec.getLsbD_ofNat, BitVec.getLsbD_ofNat, BitVec.getLsbD_ofNat]
    have h := Nat.testBit_two_pow_mul_add x (show b.toNat < 2 ^ 8 from hb) i
    rw [show b.toNat + 256 * x = 2 ^ 8 * x + b.toNat by omega, h]
    by_cases h8 : i < 8
    · simp [h8, hi]
    · have hz : b.toNat.testBit i = false := Nat.testBit_lt_two_pow (Nat.lt_of_lt_of_le hb (Nat.pow_le_pow_right (by omega) (by omega)))
      simp [h8, hi, hz]
      omega
  have hev : ∀ (k : Nat) (y : BitVec 32), (∀ i, 32 ≤ i + k → y.getLsbD i = false) → csteps k (y <<< k) = y := by
    intro k
    induction k with
    | zero => intro y _; simp [csteps]
    | succ k ih =>
      intro y hy
      have h1 : csteps k ((y <<< 1) <<< k) = y <<< 1 := ih (y <<< 1) (fun i hi => by
        rw [BitVec.getLsbD_shiftLeft]
        rcases i with _ | i
        · simp
        · simp; intro _; exact hy i (by omega))
      rw [← BitVec.shiftLeft_add, Nat.add_comm 1 k] at h1
      rw [csteps, h1]
      unfold cstep
      have h0 : (y <<< 1).getLsbD 0 = false := by simp
      rw [h0]
      apply BitVec.eq_of_getLsbD_eq
      intro i hi
      simp only [BitVec.getLsbD_xor, BitVec.getLsbD_ushiftRight, BitVec.getLsbD_shiftLeft]
      by_cases h31 : 1 + i < 32
      · simp [h31]
      · rw [hy i (by omega)]
        simp [h31]
  rw [e, csteps_xor, hev 8]
  intro i hi
  rw [BitVec.getLsbD_ofNat, Nat.testBit_lt_two_pow (Nat.lt_of_lt_of_le hx (Nat.pow_le_pow_right (by omega) (by omega)))]
  simp
/-- Up to four bytes gone through: their number, in so many bits. -/
theorem crun_le : ∀ (l : List UInt8) (s : BitVec 32), l.length ≤ 4 → crun s l = csteps (8 * l.length) (s ^^^ BitVec.ofNat 32 (leW l))
  | [], s, _ => by simp [crun, leW, csteps]
  | b :: l, s, h => by
    have hl : l.length ≤ 3 := by simpa using h
    have hx : leW l < 2 ^ 24 := Nat.lt_of_lt_of_le (leW_lt l) (by
      have : 256 ^ l.length ≤ 256 ^ 3 := Nat.pow_le_pow_right (by omega) hl
      simpa using this)
    show crun (cbyte s b) l = _
    rw [crun_le l _ (by omega), leW, List.length_cons, show 8 * (l.length + 1) = 8 * l.length + 8 by omega, ← csteps_add, csteps_xor 8, csteps8_shift _ _ hx]
    unfold cbyte
    rw [csteps_xor 8]
    congr 1
    ac_rfl
theorem leW_inj : ∀ {l m : List UInt8}, l.length = m.length → leW l = leW m → l = m
  | [], [], _, _ => rfl
  | a :: l, b :: m, h, e => by
    have ha := a.toNat_lt
    have hb := b.toNat_lt
    rw [leW, leW] at e
    have e1 : a.toNat = b.toNat := by omega
    have e2 : leW l = leW m := by omega
    rw [UInt8.toNat_inj.1 e1, leW_inj (by simpa using h) e2]
theorem crun_inj4 {s : BitVec 32} {l m : List UInt8} (hl : l.length = 4) (hm : m.length = 4) (h : crun s l = crun s m) : l = m := by
  rw [crun_le l s (by omega), crun_le m s (by omega), hl, hm] at h
  have h1 := csteps_inj 32 h
  have h2 : BitVec.ofNat 32 (leW l) = BitVec.ofNat 32 (leW m) := by
    have := congrArg (fun z => s ^^^ z) h1
    simpa [← BitVec.xor_assoc] using this
  have h3 := congrArg BitVec.toNat h2
  have b1 := leW_lt l
  have b2 := leW_lt m
  rw [hl] at b1
  rw [hm] at b2
  simp only [BitVec.toNat_ofNat] at h3
  rw [Nat.mod_eq_of_lt (by omega), Nat.mod_eq_of_lt (by omega)] at h3
  exact leW_inj (by omega) h3
theorem cbyte_inj {s t : BitVec 32} {b : UInt8} (h : cbyte s b = cbyte t b) : s = t := by
  have h1 := csteps_inj 8 h
  have := congrArg (fun z => z ^^^ bw b) h1
  simpa [BitVec.xor_assoc] using this
theorem crun_inj : ∀ {l : List UInt8} {s t : BitVec 32}, crun s l = crun t l → s = t
  | [], _, _, h => h
  | _ :: l, _, _, h => cbyte_inj (crun_inj (l := l) h)
/-- What is closed has one remainder. -/
theorem crc_rest (body told : List UInt8) (h4 : told.length = 4) (h : leW told = (crcV body).toNat) : crun (0xffffffff#32) (body ++ told) = csteps 32 (0xffffffff#32) := by
  rw [crun_append, crun_le told _ (by omega), h4, h]
  unfold crcV
  rw [BitVec.ofNat_toNat, BitVec.setWidth_eq]
  congr 1
  generalize crun (0xffffffff#32) body = x
  have e : (0xffffffff#32) = BitVec.allOnes 32 := rfl
  rw [e]
  apply BitVec.eq_of_getLsbD_eq
  intro i hi
  rw [BitVec.getLsbD_xor, BitVec.getLsbD_not, BitVec.getLsbD_allOnes]
  simp [hi]
/-- Four bytes, one behind the other, that are turned, aren't passed over. -/
theorem crc_burst (p q m m' body told body' told' : List UInt8) (hm : m.length = 4) (hm' : m'.length = 4) (h : body ++ told = p ++ m ++ q) (h' : body' ++ told' = p ++ m' ++ q) (ht : told.length = 4) (ht' : told'.length = 4)
    (hc : leW told = (crcV body).toNat) (hc' : leW told' = (crcV body').toNat) : m = m' := by
  have r := crc_rest body told ht hc
  have r' := crc_rest body' told' ht' hc'
  rw [h] at r
  rw [h', ← r] at r'
  simp only [crun_append] at r'
  exact (crun_inj4 hm' hm (crun_inj r')).symm
end Go.Proofs.Ytilgpblfdfhioaa
