/-
  Merged: Bm Wd Bl Bp Bw.
-/
import Derived.WalkKit
import Derived.Test.YtegfnlnbhhmkjaaDoorRows
import Derived.Below
import Derived.Laws.OwnMore
import Derived.Laws.Rows
import Derived.Deep.Draws
import Derived.Deep.OwnRows
import Derived.Laws.IdiomStrings
import Derived.Laws.BytesArg
import Derived.Outline
import Derived.RegionTactic
import Derived.WalkLawsBesides
namespace Go.Proofs.YtegfnlnbhhmkjaaDoor
set_option maxRecDepth 100000

/-- Turned left by one bit. -/
def rot1 (x : Int) : Int := x * 2 % 4294967296 + x / 2147483648
/-- Turned left by so many bits, one by one. -/
def rotn : Nat → Int → Int
  | 0, x => x
  | k + 1, x => rot1 (rotn k x)

theorem rot1_bd {x : Int} (h0 : 0 ≤ x) (h1 : x ≤ 4294967295) : 0 ≤ rot1 x ∧ rot1 x ≤ 4294967295 := by unfold rot1; omega
theorem rotn_bd {x : Int} (k : Nat) (h0 : 0 ≤ x) (h1 : x ≤ 4294967295) : 0 ≤ rotn k x ∧ rotn k x ≤ 4294967295 := by
  induction k with
  | zero => exact ⟨h0, h1⟩
  | succ k ih => exact rot1_bd ih.1 ih.2
theorem rotn_add (a b : Nat) (x : Int) : rotn a (rotn b x) = rotn (a + b) x := by
  induction a with
  | zero => rw [Nat.zero_add]; rfl
  | succ a ih => rw [Nat.succ_add]; show rot1 _ = rot1 _; rw [ih]

/-- The closed form: b: the low bits, a: the high ones. p = 2^k, q = 2^(32-k). -/
theorem rotn_closed : ∀ (k : Nat) (x : Int), k ≤ 31 → 0 ≤ x → x ≤ 4294967295 → ∃ p q : Int, p = 2 ^ k ∧ q = 2 ^ (32 - k) ∧ p * q = 4294967296 ∧ 1 ≤ p ∧ 2 ≤ q ∧ rotn k x = x % q * p + x / q := by
  intro k
  induction k with
  | zero => intro x _ h0 h1; exact ⟨1, 4294967296, rfl, rfl, rfl, by omega, by omega, by show x = _; omega⟩
  | succ k ih =>
    intro x hk h0 h1
    obtain ⟨p, q, hp, hq, hpq, hp1, hq2, hr⟩ := ih x (by omega) h0 h1
    have hqe : q = 2 * 2 ^ (32 - (k + 1)) := by rw [hq, show 32 - k = (32 - (k + 1)) + 1 by omega, Int.pow_succ]; omega
    generalize hQ : (2 : Int) ^ (32 - (k + 1)) = r at hqe
    have hr1 : 1 ≤ r := by omega
    have hpr : p * r = 2147483648 := by
      have : p * (2 * r) = 4294967296 := by rw [← hqe]; exact hpq
      rw [Int.mul_left_comm] at this; omega
    have hr2 : 2 ≤ r := by
      rcases Int.lt_or_le 1 r with h | h
      · omega
      · exfalso
        have e : r = 1 := by omega
        rw [e] at hQ
        have : (32 - (k + 1)) = 0 ∨ ∃ m, 32 - (k + 1) = m + 1 := by
          rcases Nat.eq_zero_or_pos (32 - (k + 1)) with h | h
          · exact .inl h
          · exact .inr ⟨_, (Nat.succ_pred_eq_of_pos h).symm⟩
        rcases this with h | ⟨m, h⟩
        · omega
        · rw [h, Int.pow_succ] at hQ; omega
    refine ⟨p * 2, r, by rw [Int.pow_succ, hp], rfl, by rw [Int.mul_right_comm, hpr]; rfl, by omega, hr2, ?_⟩
    show rot1 (rotn k x) = _
    rw [hr]
    -- x = a q + b, b = b1 r + b0
    have hxq : x = q * (x / q) + x % q := (Int.mul_ediv_add_emod x q).symm
    have hb0 : 0 ≤ x % q := Int.emod_nonneg _ (by omega)
    have hb1 : x % q < q := Int.emod_lt_of_pos _ (by omega)
    generalize x / q = a at hxq ⊢
    generalize x % q = b at hxq hb0 hb1 ⊢
    have hbr : b = r * (b / r) + b % r := (Int.mul_ediv_add_emod b r).symm
    have hc0 : 0 ≤ b % r := Int.emod_nonneg _ (by omega)
    have hc1 : b % r < r := Int.emod_lt_of_pos _ (by omega)
    generalize b / r = b1 at hbr
    generalize b % r = b0 at hbr hc0 hc1
    subst hbr
    have hb1r : 0 ≤ b1 ∧ b1 ≤ 1 := by
      constructor
      · rcases Int.lt_or_le b1 0 with h | h
        · have h2 : r * b1 ≤ r * (-1) := Int.mul_le_mul_of_nonneg_left (by omega) (by omega)
          omega
        · exact h
      · rcases Int.lt_or_le 1 b1 with h | h
        · have h2 : r * 2 ≤ r * b1 := Int.mul_le_mul_of_nonneg_left (by omega) (by omega)
          omega
        · exact h
    have ha : 0 ≤ a ∧ a ≤ p - 1 := by
      constructor
      · rcases Int.lt_or_le a 0 with h | h
        · have h2 : q * a ≤ q * (-1) := Int.mul_le_mul_of_nonneg_left (by omega) (by omega)
          omega
        · exact h
      · rcases Int.lt_or_le (p - 1) a with h | h
        · have h2 : q * p ≤ q * a := Int.mul_le_mul_of_nonneg_left (by omega) (by omega)
          rw [Int.mul_comm q p, hpq] at h2
          omega
        · exact h
    -- the two quotients by r
    have hx2 : x / r = 2 * a + b1 := by
      have : x = b0 + r * (2 * a + b1) := by
        rw [hxq, hqe, Int.mul_add]
        have : 2 * r * a = r * (2 * a) := by rw [Int.mul_comm 2 r, Int.mul_assoc]
        omega
      rw [this, Int.add_mul_ediv_left _ _ (by omega), Int.ediv_eq_zero_of_lt hc0 hc1]; omega
    have hx3 : x % r = b0 := by
      have : x = b0 + r * (2 * a + b1) := by
        rw [hxq, hqe, Int.mul_add]
        have : 2 * r * a = r * (2 * a) := by rw [Int.mul_comm 2 r, Int.mul_assoc]
        omega
      rw [this, Int.add_mul_emod_self_left, Int.emod_eq_of_lt hc0 hc1]
    rw [hx2, hx3]
    unfold rot1
    have hbp : 0 ≤ b0 * p ∧ b0 * p ≤ 2147483648 - p := by
      constructor
      · exact Int.mul_nonneg hc0 (by omega)
      · have h2 : b0 * p ≤ (r - 1) * p := Int.mul_le_mul_of_nonneg_right (by omega) (by omega)
        rw [Int.sub_mul, Int.mul_comm r p, hpr] at h2
        omega
    have e : (r * b1 + b0) * p = 2147483648 * b1 + b0 * p := by
      rw [Int.add_mul, Int.mul_right_comm, Int.mul_comm r p, hpr]
    rw [e, show b0 * (p * 2) = b0 * p * 2 by rw [Int.mul_assoc]]
    generalize b0 * p = c at *
    omega

/-- Turned by 32 bits it is the same. -/
theorem rotn_32 {x : Int} (h0 : 0 ≤ x) (h1 : x ≤ 4294967295) : rotn 32 x = x := by
  show rot1 (rotn 31 x) = x
  obtain ⟨p, q, hp, hq, _, _, _, hr⟩ := rotn_closed 31 x (by omega) h0 h1
  have hp' : p = 2147483648 := by rw [hp]; rfl
  have hq' : q = 2 := by rw [hq]; rfl
  rw [hr, hp', hq']
  unfold rot1
  have h2 : x % 2 = 0 ∨ x % 2 = 1 := by omega
  rcases h2 with h | h <;> rw [h] <;> omega
theorem rotn_mul32 {x : Int} (m : Nat) (h0 : 0 ≤ x) (h1 : x ≤ 4294967295) : rotn (32 * m) x = x := by
  induction m with
  | zero => rfl
  | succ m ih => rw [Nat.mul_succ, ← rotn_add, rotn_32 h0 h1, ih]
theorem rotn_mod {x : Int} (k : Nat) (h0 : 0 ≤ x) (h1 : x ≤ 4294967295) : rotn (k % 32) x = rotn k x := by
  have h : rotn (k % 32 + 32 * (k / 32)) x = rotn (k % 32) x := by rw [← rotn_add, rotn_mul32 _ h0 h1]
  rw [Nat.mod_add_div] at h
  exact h.symm

/-- The 'or' of two words that share no bit is their sum. -/
theorem or_u32_add (a b c : Nat) (k : Nat) (hb : b < 2 ^ k) (h : a = c * 2 ^ k) (ha : a + b < 4294967296) : bits .or .u32 (a : Int) (b : Int) = ((a + b : Nat) : Int) := by
  have e : a ||| b = a + b := by
    rw [h, Nat.mul_comm]
    exact (Nat.two_pow_add_eq_or_of_lt hb c).symm
  show IntKind.u32.wrap ((BitVec.ofInt 32 (a : Int) ||| BitVec.ofInt 32 (b : Int)).toNat : Int) = _
  rw [BitVec.toNat_or, BitVec.ofInt_natCast, BitVec.ofInt_natCast, BitVec.toNat_ofNat, BitVec.toNat_ofNat, Nat.mod_eq_of_lt (by omega : a < 2 ^ 32), Nat.mod_eq_of_lt (by omega : b < 2 ^ 32), e, IntKind.wrap_u32]
  omega

theorem left_math {x : Int} (k : Nat) (hk : k ≤ 31) (h0 : 0 ≤ x) (h1 : x ≤ 4294967295) : bits .or .u32 (x * 2 ^ k % 4294967296) (x / 2 ^ (32 - k)) = rotn k x := by
  obtain ⟨p, q, hp, hq, hpq, hp1, hq2, hr⟩ := rotn_closed k x hk h0 h1
  rw [hr, ← hp, ← hq]
  have hxq : x = q * (x / q) + x % q := (Int.mul_ediv_add_emod x q).symm
  have hb0 : 0 ≤ x % q := Int.emod_nonneg _ (by omega)
  have hb1 : x % q < q := Int.emod_lt_of_pos _ (by omega)
  have hx : x * p % 4294967296 = x % q * p := by
    have hlt : x % q * p < 4294967296 := by
      have h2 : x % q * p ≤ (q - 1) * p := Int.mul_le_mul_of_nonneg_right (by omega) (by omega)
      rw [Int.sub_mul, Int.mul_comm q p, hpq] at h2
      omega
    have e : x * p = x % q * p + 4294967296 * (x / q) := by
      have e1 : x * p = (q * (x / q) + x % q) * p := by rw [← hxq]
      rw [e1, Int.add_mul, Int.mul_right_comm, Int.mul_comm q p, hpq]; omega
    rw [e, Int.add_mul_emod_self_left, Int.emod_eq_of_lt (Int.mul_nonneg hb0 (by omega)) hlt]
  rw [hx]
  have ha : 0 ≤ x / q ∧ x / q ≤ p - 1 := by
    constructor
    · exact Int.ediv_nonneg h0 (by omega)
    · rcases Int.lt_or_le (p - 1) (x / q) with h | h
      · have h2 : q * p ≤ q * (x / q) := Int.mul_le_mul_of_nonneg_left (by omega) (by omega)
        rw [Int.mul_comm q p, hpq] at h2
        omega
      · exact h
  have hbp : 0 ≤ x % q * p ∧ x % q * p ≤ 4294967296 - p := by
    constructor
    · exact Int.mul_nonneg hb0 (by omega)
    · have h2 : x % q * p ≤ (q - 1) * p := Int.mul_le_mul_of_nonneg_right (by omega) (by omega)
      rw [Int.sub_mul, Int.mul_comm q p, hpq] at h2
      omega
  have hpn : ((2 ^ k : Nat) : Int) = p := by rw [hp]; push_cast; rfl
  have h := or_u32_add ((x % q * p).toNat) ((x / q).toNat) ((x % q).toNat) k (by omega)
    (by apply Int.ofNat.inj; show ((_ : Nat) : Int) = ((_ : Nat) : Int); rw [Int.toNat_of_nonneg hbp.1]; push_cast; rw [Int.toNat_of_nonneg hb0, hp]) (by omega)
  rw [Int.toNat_of_nonneg hbp.1, Int.toNat_of_nonneg ha.1] at h
  rw [h]
  omega
end Go.Proofs.YtegfnlnbhhmkjaaDoor

namespace Go.Proofs.YtegfnlnbhhmkjaaDoor
set_option maxRecDepth 100000
open Go.RowKit

/-- The cells of a row of bytes. -/
def rowOf (l : List UInt8) : Array Value := (l.map fun b => Value.int .u8 (b.toNat : Int)).toArray

theorem rowOf_size (l : List UInt8) : (rowOf l).size = l.length := by simp [rowOf]
theorem rowOf_get (l : List UInt8) (i : Nat) : (rowOf l)[i]? = l[i]?.map fun b => Value.int .u8 (b.toNat : Int) := by simp [rowOf]
theorem rowOf_at (l : List UInt8) (i : Nat) (h : i < l.length) : (rowOf l)[i]? = some (.int .u8 ((l.getD i 0).toNat : Int)) := by
  rw [rowOf_get, List.getElem?_eq_getElem h]
  simp [List.getD, h]
theorem rowOf_set (l : List UInt8) (i : Nat) (b : UInt8) : (rowOf l).setIfInBounds i (.int .u8 (b.toNat : Int)) = rowOf (l.set i b) := by
  simp [rowOf, List.map_set]
theorem rowOf_made (n : Nat) : madeCells #[Value.int .u8 0] n = rowOf (List.replicate n 0) := by
  apply Array.ext
  · simp [madeCells, rowOf]
  · intro i h1 h2
    simp [madeCells, rowOf, Nat.mod_one]

/-- Block g is a row of just these bytes. -/
def Blk8 (w : World) (g : Nat) (l : List UInt8) : Prop := w.heap[g]? = some (.cells (rowOf l) 5 (0, 0))

section
variable {w w' : World} {g : Nat} {l : List UInt8}
theorem Blk8.lt (h : Blk8 w g l) : g < w.heap.size := by
  rcases Nat.lt_or_ge g w.heap.size with hlt | hge
  · exact hlt
  · unfold Blk8 at h; rw [Array.getElem?_eq_none hge] at h; cases h
theorem Blk8.cell (h : Blk8 w g l) (i : Nat) (hi : i < l.length) : w.cell? ⟨g, i, none⟩ = some (.int .u8 ((l.getD i 0).toNat : Int)) := by
  unfold Blk8 at h
  rw [cell_of_row w g i _ _ (0, 0) h, rowOf_at l i hi]
theorem Blk8.frozen (h : Blk8 w g l) (i : Nat) : w.frozen? ⟨g, i, none⟩ = false := by
  unfold Blk8 at h
  simp [World.frozen?, h]
theorem Blk8.new (w : World) (l : List UInt8) : Blk8 (w.alloc (.cells (rowOf l) 5)) w.heap.size l := heap_alloc_new w _
theorem Blk8.drew (h : Blk8 w g l) : Blk8 w.drew g l := h
theorem Blk8.drewN (h : Blk8 w g l) (n : Nat) : Blk8 (w.drewN n) g l := h
theorem Blk8.alloc (h : Blk8 w g l) (o : Obj) : Blk8 (w.alloc o) g l := (Below.heap_alloc w o g h.lt).trans h
theorem Blk8.set_ (h : Blk8 w g l) (i : Nat) (b : UInt8) : Blk8 (w.setCell ⟨g, i, none⟩ (.int .u8 (b.toNat : Int))) g (l.set i b) := by
  unfold Blk8 at h ⊢
  simp [World.setCell, Array.getElem?_modify, h, rowOf_set]
theorem Blk8.far (h : Blk8 w g l) {p : Addr} (hp : g ≠ p.block) (u : Value) : Blk8 (w.setCell p u) g l := (Below.heap_setCell w p u g hp).trans h
theorem Blk8.below {B : Nat} (h : Blk8 w g l) (hb : Below B w w') (hg : g < B) : Blk8 w' g l := (hb.block g hg).trans h
end

/-- A slice at A reads as the bytes l; its memory lies below block B. A is of no account where l is empty. -/
def Rd (w : World) (B : Nat) (A : Option Addr) (l : List UInt8) : Prop :=
  0 < l.length → ∃ b off, A = some ⟨b, off, none⟩ ∧ b < B ∧ ∀ j, j < l.length → w.cell? ⟨b, off + j, none⟩ = some (.int .u8 ((l.getD j 0).toNat : Int))

section
variable {w w' : World} {B B' : Nat} {A : Option Addr} {l : List UInt8}
theorem Rd.nil : Rd w B A [] := fun h => absurd h (by simp)
theorem Rd.at_ {k : Nat} (h : Rd w B A l) (hk : k < l.length) : ∃ b off, A = some ⟨b, off, none⟩ ∧ b < B ∧ w.cell? ⟨b, off + k, none⟩ = some (.int .u8 ((l.getD k 0).toNat : Int)) := by
  obtain ⟨b, off, e, hb, hc⟩ := h (by omega)
  exact ⟨b, off, e, hb, hc k hk⟩
theorem Rd.atz {k : Nat} (h : Rd w B A l) (hk : k < l.length) : ∃ b off z, A = some ⟨b, off, none⟩ ∧ b < B ∧ w.cell? ⟨b, off + k, none⟩ = some (.int .u8 ((z : Nat) : Int)) ∧ z ≤ 255 ∧ Hid ((l.getD k 0).toNat = z) := by
  obtain ⟨b, off, e, hb, hc⟩ := h.at_ hk
  have := (l.getD k 0).toNat_lt
  exact ⟨b, off, _, e, hb, hc, by omega, rfl⟩
theorem Rd.keep (h : Rd w B A l) (hk : ∀ p : Addr, p.block < B → w'.cell? p = w.cell? p) : Rd w' B A l := fun hn => by
  obtain ⟨b, off, e, hb, hc⟩ := h hn
  exact ⟨b, off, e, hb, fun j hj => (hk _ hb).trans (hc j hj)⟩
theorem Rd.more (h : Rd w B A l) (hB : B ≤ B') : Rd w B' A l := fun hn => by
  obtain ⟨b, off, e, hb, hc⟩ := h hn
  exact ⟨b, off, e, by omega, hc⟩
theorem Rd.below (h : Rd w B A l) (hb : Below B w w') : Rd w' B A l := h.keep fun _ hp => hb.cell hp
theorem Rd.drew (h : Rd w B A l) : Rd w.drew B A l := h
theorem Rd.drewN (h : Rd w B A l) (n : Nat) : Rd (w.drewN n) B A l := h
theorem Rd.alloc (h : Rd w B A l) (hB : B ≤ w.heap.size) (o : Obj) : Rd (w.alloc o) B A l := h.keep fun p hp => World.cell?_alloc_lt w o p (by omega)
theorem Rd.setCell (h : Rd w B A l) {p : Addr} (hB : B ≤ p.block) (u : Value) : Rd (w.setCell p u) B A l :=
  h.keep fun q hq => World.cell?_setCell_other w p q u (fun e => by subst e; omega)
/-- From a row known whole: all of it, or its beginning. -/
theorem Blk8.rd {g : Nat} (h : Blk8 w g l) (hB : g < B) : Rd w B (some ⟨g, 0, none⟩) l := fun _ =>
  ⟨g, 0, rfl, hB, fun j hj => by rw [Nat.zero_add]; exact h.cell j hj⟩
theorem Rd.take (h : Rd w B A l) (n : Nat) : Rd w B A (l.take n) := fun hn => by
  have hl : (l.take n).length ≤ l.length := by simp; omega
  obtain ⟨b, off, e, hb, hc⟩ := h (by omega)
  refine ⟨b, off, e, hb, fun j hj => ?_⟩
  rw [hc j (by omega)]
  have : j < n := by simp at hj; omega
  simp [List.getD, this]
theorem Rd.drop {b off : Nat} (h : Rd w B (some ⟨b, off, none⟩) l) (n : Nat) : Rd w B (some ⟨b, off + n, none⟩) (l.drop n) := fun hn => by
  simp at hn
  obtain ⟨b', off', e, hb, hc⟩ := h (by omega)
  injection e with e
  injection e with e1 e2
  subst e1 e2
  refine ⟨b, off + n, rfl, hb, fun j hj => ?_⟩
  simp at hj
  rw [Nat.add_assoc, hc (n + j) (by omega)]
  simp [List.getD]
end

/-- The string of a list of bytes. -/
def strOf (l : List UInt8) : ByteArray := ⟨l.toArray⟩
theorem strOf_size (l : List UInt8) : (strOf l).size = l.length := by simp [strOf, ByteArray.size]
theorem strOf_inj {l m : List UInt8} : strOf l = strOf m ↔ l = m := by
  constructor
  · intro h
    have := congrArg (fun b => b.data.toList) h
    simpa [strOf] using this
  · rintro rfl; rfl

/-- 'string(b)' of a slice that reads as the bytes l. -/
theorem conv_str {w : World} {B : Nat} {A : Option Addr} {l : List UInt8} (h : Rd w B A l) (cap : Nat) :
    (convert 39 9 (.slice A l.length cap)).run Tryd.prog w = .ok (.string (strOf l)) w := by
  rcases A with _ | ⟨b, off, spot⟩
  · have hl : l = [] := by
      rcases Nat.eq_zero_or_pos l.length with h0 | h0
      · exact List.eq_nil_of_length_eq_zero h0
      · obtain ⟨_, _, e, _⟩ := h h0
        cases e
    subst hl
    exact run_convert_bytes_nil w 39 5 Tryd.underlying39 Tryd.underlying5 _ cap 9 Tryd.underlying9
  · refine run_convert_bytes_back w 39 9 5 _ cap l Tryd.underlying39 Tryd.underlying5 Tryd.underlying9 fun j hj => ?_
    obtain ⟨b', off', e, _, hc⟩ := h (by omega)
    injection e with e
    rw [e]
    have hp : (⟨b', off', none⟩ : Addr).add j = ⟨b', off' + j, none⟩ := by unfold Addr.add; split <;> simp_all
    rw [hp, hc j hj]
    simp [List.getD, hj]
theorem conv_strn {w : World} {B : Nat} {A : Option Addr} {l : List UInt8} (h : Rd w B A l) (n cap : Nat) (hn : l.length = n) :
    (convert 39 9 (.slice A n cap)).run Tryd.prog w = .ok (.string (strOf l)) w := by subst hn; exact conv_str h cap
end Go.Proofs.YtegfnlnbhhmkjaaDoor

namespace Go.Proofs.YtegfnlnbhhmkjaaDoor
set_option maxRecDepth 100000
open Go.RowKit

theorem tmod_u64 (n : Int) : ∃ k : Nat, (IntKind.u64.wrap n).tmod 32 = (k : Int) ∧ k ≤ 31 ∧ k = (n % 32).toNat := by
  refine ⟨(n % 32).toNat, ?_, by omega, rfl⟩
  have e : IntKind.u64.wrap n = n % 18446744073709551616 := by simp [IntKind.wrap, IntKind.bits, IntKind.signed]
  rw [e, Int.tmod_eq_emod_of_nonneg (by omega)]
  omega

theorem left_any (x n : Int) (hx0 : 0 ≤ x) (hx1 : x ≤ 4294967295) (w : World) :
    Calls Tryd.prog 85 #[.int .u32 x, .int .i64 n] w fun e w' => e = .returned (.int .u32 (rotn (n % 32).toNat x)) ∧ w = w' := by
  obtain ⟨k, hk, hk1, he⟩ := tmod_u64 n
  rw [← he, ← left_math k hk1 hx0 hx1]
  clear he
  go_enter Tryd.func85, Tryd.ntmps85
  go_wp2
  go_ret
  exact ⟨rfl, rfl⟩

theorem tmod_i64 (n : Int) : ∃ (t : Int) (k : Nat), n.tmod 32 = t ∧ k ≤ 31 ∧ k = (n % 32).toNat ∧ (0 ≤ t ∧ t = k ∨ t < 0 ∧ t = (k : Int) - 32) := by
  refine ⟨_, _, rfl, ?_, rfl, ?_⟩
  · omega
  · rcases Int.lt_or_le n 0 with h | h
    · have e : n.tmod 32 = -((-n) % 32) := by
        have h1 : (-(-n)).tmod 32 = -((-n).tmod 32) := Int.neg_tmod _ _
        rw [Int.neg_neg] at h1
        rw [h1, Int.tmod_eq_emod_of_nonneg (by omega)]
      rw [e]
      omega
    · rw [Int.tmod_eq_emod_of_nonneg h]
      omega

theorem rotn_succ_form (k : Nat) (x : Int) : rotn (k + 1) x = rotn k x * 2 % 4294967296 + rotn k x / 2147483648 := rfl

theorem int_any (x : Int) (hx0 : 0 ≤ x) (hx1 : x ≤ 18446744073709551615) (w : World) :
    Calls Tryd.prog 76 #[.int .u64 x] w fun e w' => e = .returned (.tuple #[.int .i64 (if x ≤ 9223372036854775807 then x else 0), .bool (decide (x ≤ 9223372036854775807))]) ∧ w = w' := by
  by_cases h : x ≤ 9223372036854775807
  · rw [if_pos h, decide_eq_true h]
    go_enter Tryd.func76, Tryd.ntmps76
    go_wp2
    go_ret2
    exact ⟨rfl, rfl⟩
  · rw [if_neg h, decide_eq_false h]
    go_enter Tryd.func76, Tryd.ntmps76
    go_wp2
    go_ret2
    exact ⟨rfl, rfl⟩

theorem byte_any (n : Int) (w0 : -9223372036854775808 ≤ n) (w1 : n ≤ 9223372036854775807) (w : World) :
    Calls Tryd.prog 71 #[.int .i64 n] w fun e w' => e = .returned (.tuple #[.int .u8 (if 0 ≤ n ∧ n < 256 then n else 0), .bool (decide (0 ≤ n ∧ n < 256))]) ∧ w = w' := by
  rcases Int.lt_or_le n 0 with h | h
  · rw [if_neg (by omega), decide_eq_false (by omega)]
    go_enter Tryd.func71, Tryd.ntmps71
    go_wp2
    go_ret2
    exact ⟨rfl, rfl⟩
  · by_cases h2 : n ≤ 255
    · rw [if_pos (by omega), decide_eq_true (by omega)]
      go_enter Tryd.func71, Tryd.ntmps71
      go_wp2
      go_ret2
      exact ⟨rfl, rfl⟩
    · rw [if_neg (by omega), decide_eq_false (by omega)]
      go_enter Tryd.func71, Tryd.ntmps71
      go_wp2
      go_ret2
      exact ⟨rfl, rfl⟩
end Go.Proofs.YtegfnlnbhhmkjaaDoor

namespace Go.Proofs.YtegfnlnbhhmkjaaDoor
set_option maxRecDepth 100000
open Go.RowKit

theorem info8 : (Tryd.prog.info? 5).map (fun i => (i.zero, i.size, i.bytes)) = some (some (.int .u8 0), 1, 1) := by kernel_rfl
theorem mk8 (n : Nat) (hn : n ≤ 281474976710656) (w : World) :
    (Instr.makeSlice 39 (.int .i64 (n : Int)) (.int .i64 (n : Int))).run Tryd.prog w = .ok (.slice (some ⟨w.heap.size, 0, none⟩) n n) (w.alloc (.cells (rowOf (List.replicate n 0)) 5)) := by
  rw [← rowOf_made]
  exact run_make_row' 39 5 (.int .u8 0) 1 Tryd.underlying39 info8 rfl _ _ n (by omega) (by omega) w

/-- The lowest n bytes of x, the lowest first. -/
def lowB (n : Nat) (x : Nat) : List UInt8 := (List.range n).map fun i => UInt8.ofNat (x / 256 ^ i % 256)
theorem lowB_len (n x : Nat) : (lowB n x).length = n := by simp [lowB]
theorem lowB_succ (n x : Nat) : lowB (n + 1) x = lowB n x ++ [UInt8.ofNat (x / 256 ^ n % 256)] := by simp [lowB, List.range_succ]

theorem set_mid (l r : List UInt8) (b : UInt8) : (l ++ (0 :: r)).set l.length b = (l ++ [b]) ++ r := by
  rw [List.set_append_right _ _ (Nat.le_refl _)]
  simp
theorem low_step (n x k : Nat) (hk : k < n) : (lowB k x ++ List.replicate (n - k) 0).set k (UInt8.ofNat (x / 256 ^ k % 256)) = lowB (k + 1) x ++ List.replicate (n - (k + 1)) 0 := by
  have e : n - k = (n - (k + 1)) + 1 := by omega
  have h := set_mid (lowB k x) (List.replicate (n - (k + 1)) 0) (UInt8.ofNat (x / 256 ^ k % 256))
  rw [lowB_len] at h
  rw [e, List.replicate_succ, h, lowB_succ]

theorem putLow_any (x n : Nat) (size : Int) (hx : x ≤ 18446744073709551615) (w0 : -9223372036854775808 ≤ size) (w1 : size ≤ 9223372036854775807)
    (hn : size < 0 ∧ n = 0 ∨ 0 ≤ size ∧ size ≤ 64 ∧ size = (n : Int) ∨ 64 < size ∧ n = 64) (w : World) :
    Calls Tryd.prog 80 #[.int .u64 x, .int .i64 size] w fun e w' => e = .returned (.slice (some ⟨w.heap.size, 0, none⟩) n n) ∧ w.alloc (.cells (rowOf (lowB n x)) 5) = w' := by
  have hmk : ∀ z : Int, (n : Int) = z → ∀ W : World, (Instr.makeSlice 39 (.int .i64 z) (.int .i64 z)).run Tryd.prog W = .ok (.slice (some ⟨W.heap.size, 0, none⟩) n n) (W.alloc (.cells (rowOf (List.replicate n 0)) 5)) := by
    rintro z rfl W
    exact mk8 n (by omega) W
  have hn64 : n ≤ 64 := by omega
  rcases hn with ⟨h, h3⟩ | ⟨h, h2, rfl⟩ | ⟨h, h3⟩
  case' inl => have hmk0 := hmk 0 (by omega)
  case' inr.inl => have hmk0 := hmk n rfl
  case' inr.inr => have hmk0 := hmk 64 (by omega)
  case' inl => clear hmk h3
  case' inr.inl => clear hmk
  case' inr.inr => clear hmk h3
  all_goals
    go_enter Tryd.func80, Tryd.ntmps80
    go_wp2
    go_loopw [0, 6, 13] (fun y _ i wr => ∃ k : Nat, k ≤ n ∧ i = .int .i64 k ∧ y = .int .u64 ((x / 256 ^ k : Nat) : Int) ∧ wr = w.alloc (.cells (rowOf (lowB k x ++ List.replicate (n - k) 0)) 5)) (fun _ _ i _ => n - (intOf i).toNat)
    case atStart => exact ⟨0, Nat.zero_le _, rfl, by simp, by simp [lowB]⟩
    case round =>
      obtain ⟨k, hk, rfl, rfl, rfl⟩ := hrel
      have hyl : x / 256 ^ k ≤ 18446744073709551615 := Nat.le_trans (Nat.div_le_self _ _) hx
      by_cases hlt : k < n
      · have hc := (Blk8.new w (lowB k x ++ List.replicate (n - k) 0)).cell k (by simp [lowB_len]; omega)
        have hst := low_step n x k hlt
        have hset := rowOf_set (lowB k x ++ List.replicate (n - k) 0) k (UInt8.ofNat (x / 256 ^ k % 256))
        have HS : Hid ((rowOf (lowB k x ++ List.replicate (n - k) 0)).setIfInBounds k (.int .u8 ((x / 256 ^ k : Nat) % 256 : Int)) = rowOf (lowB (k + 1) x ++ List.replicate (n - (k + 1)) 0)) := by
          rw [← hst, ← hset]
          show _ = _
          congr 2
          simp
        clear hst hset
        have HP : Hid (x / 256 ^ k / 256 = x / 256 ^ (k + 1)) := by
          show _ = _
          rw [Nat.pow_succ, Nat.div_div_eq_div_mul]
        obtain ⟨y, hy⟩ : ∃ y, Hid (x / 256 ^ k = y) := ⟨_, rfl⟩
        rw [hy.out] at hyl HP HS ⊢
        go_wp2
        go_roundw
        case rel => exact ⟨k + 1, by omega, by go_num, by rw [← HP.out]; rfl, by rw [HS.out]⟩
        case measure => simp [intOf]; omega
      · obtain rfl : k = n := by omega
        go_wp2
        go_ret
        exact ⟨rfl, by simp⟩

/-- So far turned: the first k and the last k. -/
def revAt (l : List UInt8) (k : Nat) (m : List UInt8) : Prop :=
  m.length = l.length ∧ ∀ i, i < l.length → m.getD i 0 = if i < k ∨ l.length ≤ i + k then l.getD (l.length - 1 - i) 0 else l.getD i 0
theorem revAt_zero (l : List UInt8) : revAt l 0 l := ⟨rfl, fun i hi => by rw [if_neg (by omega)]⟩
theorem getD_set (l : List UInt8) (i j : Nat) (b : UInt8) (hi : i < l.length) : (l.set i b).getD j 0 = if i = j then b else l.getD j 0 := by
  by_cases h : i = j
  · subst h; simp [List.getD, hi]
  · simp [List.getD, h]
theorem revAt_step {l m : List UInt8} {k j : Nat} (h : revAt l k m) (hkj : k < j) (hj : j + k + 1 = l.length) : revAt l (k + 1) ((m.set k (m.getD j 0)).set j (m.getD k 0)) := by
  obtain ⟨hl, h⟩ := h
  refine ⟨by simp [hl], fun i hi => ?_⟩
  rw [getD_set _ _ _ _ (by simp; omega), getD_set _ _ _ _ (by omega)]
  have hk := h k (by omega)
  have hj' := h j (by omega)
  rw [if_neg (by omega)] at hk hj'
  by_cases h1 : j = i
  · subst h1
    rw [if_pos rfl, if_pos (by omega), hk]
    congr 1; omega
  · rw [if_neg h1]
    by_cases h2 : k = i
    · subst h2
      rw [if_pos rfl, if_pos (by omega), hj']
      congr 1; omega
    · rw [if_neg h2, h i hi]
      by_cases h3 : i < k ∨ l.length ≤ i + k
      · rw [if_pos h3, if_pos (by omega)]
      · rw [if_neg h3, if_neg (by omega)]
theorem revAt_end {l m : List UInt8} {k : Nat} (h : revAt l k m) (hk : l.length ≤ 2 * k + 1) : m = l.reverse := by
  obtain ⟨hl, h⟩ := h
  apply List.ext_getElem
  · simp [hl]
  · intro i h1 h2
    have hi := h i (by omega)
    have e : (if i < k ∨ l.length ≤ i + k then l.getD (l.length - 1 - i) 0 else l.getD i 0) = l.getD (l.length - 1 - i) 0 := by
      by_cases h3 : i < k ∨ l.length ≤ i + k
      · rw [if_pos h3]
      · rw [if_neg h3]; congr 1; omega
    rw [e] at hi
    simp [List.getD, h1] at hi
    rw [hi, List.getElem_reverse, List.getElem?_eq_getElem (by omega)]
    rfl

theorem grown_put {a w : World} {g : Nat} (h : a.grownBy w (some g)) (o : Nat) (u : Value) : a.grownBy (w.setCell ⟨g, o, none⟩ u) (some g) :=
  ⟨h.os, h.tape, h.output, by simpa [World.setCell] using h.size, fun i hi hne => (Below.heap_setCell w ⟨g, o, none⟩ u i (fun e => hne (by rw [e]))).trans (h.block i hi hne)⟩
theorem grown_drew {a w : World} {row : Option Nat} (h : a.grownBy w row) : a.grownBy w.drew row := ⟨h.os, h.tape, h.output, h.size, h.block⟩

set_option maxHeartbeats 400000 in
/-- slices.Reverse on a row of the call's own: the row read backwards. -/
theorem reverse_any (g cap : Nat) (l : List UInt8) (w : World) (hb : Blk8 w g l) (hm : l.length ≤ 9223372036854775807) :
    Calls Tryd.prog 81 #[.slice (some ⟨g, 0, none⟩) l.length cap] w fun e w' => e = .returned (.tuple #[]) ∧ Blk8 w' g l.reverse ∧ w.grownBy w' (some g) := by
  go_enter Tryd.func81, Tryd.ntmps81
  go_wp2
  go_loopw [2, 3] (fun i j wr => ∃ (k : Nat) (z : Int) (m : List UInt8), k ≤ l.length ∧ z + k + 1 = l.length ∧ i = .int .i64 k ∧ j = .int .i64 z ∧ revAt l k m ∧ Blk8 wr g m ∧ w.grownBy wr (some g)) (fun i _ _ => l.length + 1 - (intOf i).toNat)
  case atStart => exact ⟨0, _, l, by omega, by omega, rfl, rfl, revAt_zero l, hb, World.grownBy.refl w _⟩
  case round =>
    obtain ⟨k, z, m, hk, hz, rfl, rfl, hm', hbk, hgr⟩ := hrel
    have HR : Hid (revAt l k m) := hm'
    have HB : Hid (Blk8 wr g m) := hbk
    have HG : Hid (w.grownBy wr (some g)) := hgr
    have hml := hm'.1
    clear hm' hbk hgr hb
    by_cases hlt : (k : Int) < z
    · obtain ⟨j, rfl⟩ := Int.eq_ofNat_of_zero_le (show 0 ≤ z by omega)
      have c1 := HB.out.cell k (by omega)
      have c2 := HB.out.cell j (by omega)
      have f1 := HB.out.frozen k
      have f2 := HB.out.frozen j
      have HS := HB.out.set_ k (m.getD j 0)
      have c3 := HS.cell j (by simp; omega)
      have f3 := HS.frozen j
      have HR2 : Hid (revAt l (k + 1) ((m.set k (m.getD j 0)).set j (m.getD k 0))) := revAt_step HR.out (by omega) (by omega)
      have HS2 : Hid _ := HS.set_ j (m.getD k 0)
      rw [getD_set _ _ _ _ (by omega), if_neg (by omega)] at c3
      clear HS hml
      go_wp2
      go_region
      all_goals
        go_wp2
        go_roundw
        case rel =>
          have HG2 := grown_drew (grown_put (grown_put HG.out k (.int .u8 ((m.getD j 0).toNat : Int))) j (.int .u8 ((m.getD k 0).toNat : Int)))
          exact ⟨k + 1, _, _, by omega, by omega, by go_num, rfl, HR2.out, HS2.out, HG2⟩
        case measure => simp [intOf]; omega
    · go_wp2
      go_end0
      exact ⟨rfl, by rw [← revAt_end HR.out (by omega)]; exact HB.out, HG.out⟩

/-- The lowest n bytes of x, the highest first. -/
def highB (n x : Nat) : List UInt8 := (lowB n x).reverse
theorem highB_len (n x : Nat) : (highB n x).length = n := by simp [highB, lowB_len]

theorem putHigh_any (x n : Nat) (size : Int) (hx : x ≤ 18446744073709551615) (w0 : -9223372036854775808 ≤ size) (w1 : size ≤ 9223372036854775807)
    (hn : size < 0 ∧ n = 0 ∨ 0 ≤ size ∧ size ≤ 64 ∧ size = (n : Int) ∨ 64 < size ∧ n = 64) (w : World) :
    Calls Tryd.prog 65 #[.int .u64 x, .int .i64 size] w fun e w' => e = .returned (.slice (some ⟨w.heap.size, 0, none⟩) n n) ∧ Blk8 w' w.heap.size (highB n x) ∧ Below w.heap.size w w' := by
  have c1 := putLow_any x n size hx w0 w1 hn w
  have hn64 : n ≤ 64 := by omega
  have c2 := reverse_any w.heap.size n (lowB n x) _ (Blk8.new w (lowB n x)) (by rw [lowB_len]; omega)
  rw [lowB_len] at c2
  clear hn
  go_enter Tryd.func65, Tryd.ntmps65
  go_wp2_with (first | (go_at_call 80; refine c1.mono ?_; rintro e w' ⟨rfl, rfl⟩) | (go_at_call 81; refine c2.mono ?_; rintro e w2 ⟨rfl, hb, hg⟩))
  go_ret
  exact ⟨rfl, hb, ((Below.refl _ _).alloc (Nat.le_refl _) _).grown hg (by simp) (fun k hk => by injection hk with hk; omega)⟩

end Go.Proofs.YtegfnlnbhhmkjaaDoor

namespace Go.Proofs.YtegfnlnbhhmkjaaDoor
set_option maxRecDepth 100000
open Go.RowKit

/-- The number of bytes, the highest first. -/
def beN (l : List UInt8) : Nat := l.foldl (fun x b => x * 256 + b.toNat) 0
theorem beN_snoc (l : List UInt8) (b : UInt8) : beN (l ++ [b]) = beN l * 256 + b.toNat := by simp [beN]
theorem beN_from (l : List UInt8) : ∀ x : Nat, l.foldl (fun x b => x * 256 + b.toNat) x = x * 256 ^ l.length + beN l := by
  induction l with
  | nil => intro x; simp [beN]
  | cons b l ih =>
    intro x
    unfold beN
    rw [List.foldl_cons, List.foldl_cons, ih, ih, List.length_cons, Nat.pow_succ, Nat.zero_mul, Nat.zero_add, Nat.add_mul, Nat.mul_assoc, Nat.mul_comm 256, Nat.add_assoc]
theorem beN_cons (b : UInt8) (l : List UInt8) : beN (b :: l) = b.toNat * 256 ^ l.length + beN l := by
  have h := beN_from l b.toNat
  unfold beN
  rw [List.foldl_cons, Nat.zero_mul, Nat.zero_add]
  exact h
theorem beN_lt (l : List UInt8) : beN l < 256 ^ l.length := by
  induction l with
  | nil => simp [beN]
  | cons b l ih =>
    rw [beN_cons, List.length_cons, Nat.pow_succ]
    have hb := b.toNat_lt
    have : b.toNat * 256 ^ l.length ≤ 255 * 256 ^ l.length := Nat.mul_le_mul_right _ (by omega)
    omega
/-- The number of bytes, the lowest first. -/
def leN (l : List UInt8) : Nat := beN l.reverse
theorem leN_snoc (l : List UInt8) (b : UInt8) : leN (l ++ [b]) = leN l + b.toNat * 256 ^ l.length := by
  unfold leN
  rw [List.reverse_append, List.reverse_singleton, List.singleton_append, beN_cons, List.length_reverse, Nat.add_comm]
theorem leN_lt (l : List UInt8) : leN l < 256 ^ l.length := by
  have := beN_lt l.reverse
  rwa [List.length_reverse] at this

theorem beN_append (l m : List UInt8) : beN (l ++ m) = beN l * 256 ^ m.length + beN m := by
  unfold beN
  rw [List.foldl_append, beN_from]
  rfl

theorem leN_lowB (n x : Nat) : leN (lowB n x) = x % 256 ^ n := by
  induction n with
  | zero => simp [lowB, leN, beN, Nat.mod_one]
  | succ n ih =>
    rw [lowB_succ, leN_snoc, ih, lowB_len, Nat.mod_pow_succ, Nat.mul_comm (256 ^ n)]
    congr 2
    simp
theorem beN_highB (n x : Nat) : beN (highB n x) = x % 256 ^ n := by
  rw [← leN_lowB]
  rfl
theorem below_drewN {B : Nat} {a w : World} (h : Below B a w) (n : Nat) : Below B a (w.drewN n) := ⟨h.os, h.tape, h.output, h.size, h.block⟩

theorem take_snoc8 (l : List UInt8) (k : Nat) (h : k < l.length) : l.take (k + 1) = l.take k ++ [l.getD k 0] := by
  rw [List.take_succ_eq_append_getElem h]
  simp [List.getD, h]

theorem or_u64_add (a b c : Nat) (k : Nat) (hb : b < 2 ^ k) (h : a = c * 2 ^ k) (ha : a + b < 18446744073709551616) : bits .or .u64 (a : Int) (b : Int) = ((a + b : Nat) : Int) := by
  have e : a ||| b = a + b := by
    rw [h, Nat.mul_comm]
    exact (Nat.two_pow_add_eq_or_of_lt hb c).symm
  show IntKind.u64.wrap ((BitVec.ofInt 64 (a : Int) ||| BitVec.ofInt 64 (b : Int)).toNat : Int) = _
  rw [BitVec.toNat_or, BitVec.ofInt_natCast, BitVec.ofInt_natCast, BitVec.toNat_ofNat, BitVec.toNat_ofNat, Nat.mod_eq_of_lt (by omega : a < 2 ^ 64), Nat.mod_eq_of_lt (by omega : b < 2 ^ 64), e, IntKind.wrap_u64]
  omega
theorem or_u64_add' (a b c : Nat) (k : Nat) (hb : b < 2 ^ k) (h : a = c * 2 ^ k) (ha : a + b < 18446744073709551616) : bits .or .u64 (b : Int) (a : Int) = ((b + a : Nat) : Int) := by
  have e : b ||| a = b + a := by
    rw [h, Nat.mul_comm, Nat.or_comm, ← Nat.two_pow_add_eq_or_of_lt hb c, Nat.add_comm]
  show IntKind.u64.wrap ((BitVec.ofInt 64 (b : Int) ||| BitVec.ofInt 64 (a : Int)).toNat : Int) = _
  rw [BitVec.toNat_or, BitVec.ofInt_natCast, BitVec.ofInt_natCast, BitVec.toNat_ofNat, BitVec.toNat_ofNat, Nat.mod_eq_of_lt (by omega : a < 2 ^ 64), Nat.mod_eq_of_lt (by omega : b < 2 ^ 64), e, IntKind.wrap_u64]
  omega
theorem pow256_le {k : Nat} (h : k ≤ 8) : 256 ^ k ≤ 18446744073709551616 := by
  have : 256 ^ k ≤ 256 ^ 8 := Nat.pow_le_pow_right (by omega) h
  simpa using this

theorem highest_any (A : Option Addr) (B cap n : Nat) (l : List UInt8) (w : World) (hn : l.length = n) (hr : Rd w B A l) (h8 : n ≤ 8) :
    Calls Tryd.prog 63 #[.slice A n cap] w fun e w' => e = .returned (.int .u64 (beN l : Nat)) ∧ w = w' := by
  have HL : Hid (l.length = n) := hn
  clear hn
  go_enter Tryd.func63, Tryd.ntmps63
  go_wp2
  go_loop [3, 5, 8] (fun x _ i => ∃ k : Nat, k ≤ n ∧ i = .int .i64 k ∧ x = .int .u64 (beN (l.take k) : Nat)) (fun _ _ i => n - (intOf i).toNat)
  case atStart => exact ⟨0, Nat.zero_le _, rfl, rfl⟩
  case round =>
    obtain ⟨k, hk, rfl, rfl⟩ := hrel
    by_cases hlt : k < n
    · obtain ⟨b, off, z, rfl, hb, hc, hz, HZ⟩ := hr.atz (k := k) (by rw [HL.out]; exact hlt)
      have hy := beN_lt (l.take k)
      have hlen : (l.take k).length = k := by rw [List.length_take, HL.out]; omega
      have h7 : 256 ^ k ≤ 256 ^ 7 := Nat.pow_le_pow_right (by omega) (by omega)
      have HN : Hid (beN (l.take (k + 1)) = beN (l.take k) * 256 + z) := by
        show _ = _
        rw [take_snoc8 l k (by rw [HL.out]; exact hlt), beN_snoc, HZ.out]
      rw [hlen] at hy
      clear hlen
      obtain ⟨y, hy'⟩ : ∃ y, Hid (beN (l.take k) = y) := ⟨_, rfl⟩
      rw [hy'.out] at hy HN ⊢
      have hyb : y ≤ 72057594037927935 := by
        have : (256 : Nat) ^ 7 = 72057594037927936 := by decide
        omega
      clear h7 hy
      have HO : Hid (bits .or .u64 ((y : Int) * 256) (z : Int) = ((y * 256 + z : Nat) : Int)) :=
        or_u64_add (y * 256) z y 8 (by omega) (by omega) (by omega)
      go_wp2
      go_round
      case rel => exact ⟨k + 1, by omega, by go_num, by rw [HN.out, ← HO.out]⟩
      case measure => simp [intOf]; omega
    · obtain rfl : k = n := by omega
      go_wp2
      go_ret
      exact ⟨by rw [List.take_of_length_le (by rw [HL.out]; omega)]; rfl, rfl⟩
theorem high32_yes (A : Option Addr) (B cap : Nat) (l : List UInt8) (w : World) (hn : l.length = 4) (hr : Rd w B A l) :
    Calls Tryd.prog 83 #[.slice A 4 cap] w fun e w' => e = .returned (.tuple #[.int .u32 (beN l : Nat), .bool true]) ∧ w = w' := by
  have hlt := beN_lt l
  rw [hn] at hlt
  have hb : beN l ≤ 4294967295 := by
    have : (256 : Nat) ^ 4 = 4294967296 := by decide
    omega
  clear hlt
  have c1 := highest_any A B cap 4 l w hn hr (by omega)
  clear hn hr
  go_enter Tryd.func83, Tryd.ntmps83
  go_wp2_with (go_at_call 63; refine c1.mono ?_; rintro e w' ⟨rfl, rfl⟩)
  go_ret2
  exact ⟨rfl, rfl⟩
theorem high32_no (A : Option Addr) (cap n : Nat) (w : World) (hn : n ≠ 4) :
    Calls Tryd.prog 83 #[.slice A n cap] w fun e w' => e = .returned (.tuple #[.int .u32 0, .bool false]) ∧ w = w' := by
  have h1 : ((n : Int) != 4) = true := by simp; omega
  go_enter Tryd.func83, Tryd.ntmps83
  go_wp2
  go_ret2
  exact ⟨rfl, rfl⟩

theorem high64_yes (A : Option Addr) (B cap : Nat) (l : List UInt8) (w : World) (hn : l.length = 8) (hr : Rd w B A l) :
    Calls Tryd.prog 45 #[.slice A 8 cap] w fun e w' => e = .returned (.tuple #[.int .u64 (beN l : Nat), .bool true]) ∧ w = w' := by
  have hlt := beN_lt l
  rw [hn] at hlt
  have hb : beN l ≤ 18446744073709551615 := by
    have : (256 : Nat) ^ 8 = 18446744073709551616 := by decide
    omega
  clear hlt
  have c1 := highest_any A B cap 8 l w hn hr (by omega)
  clear hn hr
  go_enter Tryd.func45, Tryd.ntmps45
  go_wp2_with (go_at_call 63; refine c1.mono ?_; rintro e w' ⟨rfl, rfl⟩)
  go_ret2
  exact ⟨rfl, rfl⟩
theorem high64_no (A : Option Addr) (cap n : Nat) (w : World) (hn : n ≠ 8) :
    Calls Tryd.prog 45 #[.slice A n cap] w fun e w' => e = .returned (.tuple #[.int .u64 0, .bool false]) ∧ w = w' := by
  have h1 : ((n : Int) != 8) = true := by simp; omega
  go_enter Tryd.func45, Tryd.ntmps45
  go_wp2
  go_ret2
  exact ⟨rfl, rfl⟩
end Go.Proofs.YtegfnlnbhhmkjaaDoor
