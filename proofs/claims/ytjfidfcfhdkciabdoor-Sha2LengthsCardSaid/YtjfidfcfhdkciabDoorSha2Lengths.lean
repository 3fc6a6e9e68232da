/-
  Proved: for all counts and bytes Sha2Lengths answers true: of texts of every length around the ends of blocks the digest is told. No condition.
-/
import Derived.Test.YtjfidfcfhdkciabDoorHh
namespace Go.Proofs.YtjfidfcfhdkciabDoor.sha2Lengths
open Go.ChangeShapes Go.WideShapes Go.ChangeAt Go.RowKit
set_option linter.unusedVariables false
set_option linter.unusedSimpArgs false

theorem hid_ {p : Prop} (h : p) : Hid p := h
theorem parts_three {W : World} {h n1 c1 n2 c2 : Nat} {A1 A2 : Option Addr} {X Y : List UInt8} (hb : Bk W h 29 #[.slice A1 n1 c1, .slice none 0 0, .slice A2 n2 c2]) (hn1 : X.length = n1) (hn2 : Y.length = n2) (hX : Rd W W.heap.size A1 X) (hY : Rd W W.heap.size A2 Y) (hc1 : n1 ≤ c1) (hm1 : c1 ≤ 9223372036854775807) (hc2 : n2 ≤ c2) (hm2 : c2 ≤ 9223372036854775807) : Parts W W.heap.size (some ⟨h, 0, none⟩) [X, [], Y] := by
  subst hn1 hn2
  obtain ⟨h0, h1, h2⟩ : W.cell? ⟨h, 0, none⟩ = some (.slice A1 X.length c1) ∧ W.cell? ⟨h, 1, none⟩ = some (.slice none 0 0) ∧ W.cell? ⟨h, 2, none⟩ = some (.slice A2 Y.length c2) := by
    have h0 := hb.cell 0
    have h1 := hb.cell 1
    have h2 := hb.cell 2
    simp only [List.getElem?_toArray, List.getElem?_cons_zero, List.getElem?_cons_succ] at h0 h1 h2
    exact ⟨h0, h1, h2⟩
  refine fun _ => ⟨h, 0, rfl, hb.lt, fun j hj => ?_⟩
  have hj3 : j < 3 := hj
  rcases j with _ | _ | _ | j
  · exact ⟨_, _, h0, hX, hc1, hm1⟩
  · exact ⟨_, _, h1, Rd.nil, Nat.le_refl _, by show 0 ≤ _; omega⟩
  · exact ⟨_, _, h2, hY, hc2, hm2⟩
  · omega
theorem parts_1 {W : World} {h n1 c1 : Nat} {A1 : Option Addr} {X : List UInt8} (hb : Bk W h 29 #[.slice A1 n1 c1]) (hn1 : X.length = n1) (hX : Rd W W.heap.size A1 X) (hc1 : n1 ≤ c1) (hm1 : c1 ≤ 9223372036854775807) : Parts W W.heap.size (some ⟨h, 0, none⟩) [X] := by
  subst hn1
  have h0 := hb.cell 0
  simp only [List.getElem?_toArray, List.getElem?_cons_zero] at h0
  refine fun _ => ⟨h, 0, rfl, hb.lt, fun j hj => ?_⟩
  have hj3 : j < 1 := hj
  obtain rfl : j = 0 := by omega
  exact ⟨_, _, h0, hX, hc1, hm1⟩
theorem u64_nat (z : Int) : ∃ x : Nat, IntKind.u64.wrap z = (x : Int) ∧ x ≤ 18446744073709551615 := by
  have h : IntKind.u64.wrap z = z % 18446744073709551616 := by simp [IntKind.wrap, IntKind.signed, IntKind.bits]
  rw [h]
  exact ⟨(z % 18446744073709551616).toNat, by omega, by omega⟩


/-- What each operation of the line leaves. -/
def LnR (vb v1 v2 : Value) (N k : Nat) (dg : List UInt8) : Nat → Value → World → Prop
  | 0, v, _ => v = vb
  | 1, v, W => ∃ h, v = .slice (some ⟨h, 0, none⟩) 1 1 ∧ Bk W h 29 #[vb]
  | 2, v, _ => v = .agg (rowOf dg)
  | 3, v, _ => v = vb
  | 4, v, _ => v = vb
  | 5, v, _ => v = .int .i64 (N : Int)
  | 6, v, _ => v = .int .i64 (k : Int)
  | 7, v, _ => v = v1
  | 8, v, _ => v = vb
  | 9, v, _ => v = vb
  | 10, v, _ => v = .int .i64 (N : Int)
  | 11, v, _ => v = .int .i64 (k : Int)
  | 12, v, _ => v = v2
  | 13, v, W => ∃ h, v = .slice (some ⟨h, 0, none⟩) 3 3 ∧ Bk W h 29 #[v1, .slice none 0 0, v2]
  | 14, v, _ => v = .agg (rowOf dg)
  | _, _, _ => True
/-- Rows of parts stand. -/
def LnT (W W' : World) : Prop := ∀ q r, Bk W q 29 r → Bk W' q 29 r
theorem LnT.of_below {W W' : World} (hb : Below W.heap.size W W') : LnT W W' := fun q r h => h.below hb h.lt
theorem LnT.put {W W' : World} {p : Nat} {cs : Array Value} (hp : Bk W p 34 cs) (hg : W.grownBy W' (some p)) : LnT W W' := fun q r h => by
  by_cases e : q = p
  · subst e
    have h2 : some (Obj.cells r 29 (0, 0)) = some (Obj.cells cs 34 (0, 0)) := h.symm.trans hp
    injection h2 with h2
    injection h2 with _ h3
    exact absurd h3 (by decide)
  · exact h.grown hg (fun h2 => e (by injection h2 with h2))
theorem LnR.stable {vb v1 v2 : Value} {N k : Nat} {dg : List UInt8} {W W' : World} (hT : LnT W W') : ∀ (j : Nat) (v : Value), LnR vb v1 v2 N k dg j v W → LnR vb v1 v2 N k dg j v W'
  | 0, _, h => h
  | 1, _, h => by
    obtain ⟨q, h1, h2⟩ := h
    exact ⟨q, h1, hT _ _ h2⟩
  | 2, _, h => h
  | 3, _, h => h
  | 4, _, h => h
  | 5, _, h => h
  | 6, _, h => h
  | 7, _, h => h
  | 8, _, h => h
  | 9, _, h => h
  | 10, _, h => h
  | 11, _, h => h
  | 12, _, h => h
  | 13, _, h => by
    obtain ⟨q, h1, h2⟩ := h
    exact ⟨q, h1, hT _ _ h2⟩
  | 14, _, h => h
  | _ + 15, _, _ => trivial
/-- The two new blocks, ahead of the stores and behind them. -/
structure LnJ (B : Nat) (dg : List UInt8) (L : Nat → Bool) (a : Act) (W : World) : Prop where
  p7 : L 15 = true → ∃ p, a.tmps.getD 7 undef = .pointer (some ⟨p, 0, none⟩) ∧ B ≤ p ∧ Bk W p 34 (rowOf (if L 17 = true then dg else zbytes 32))
  p8 : L 16 = true → ∃ p, a.tmps.getD 8 undef = .pointer (some ⟨p, 0, none⟩) ∧ B ≤ p ∧ Bk W p 34 (rowOf (if L 18 = true then dg else zbytes 32))
  ne : ∀ p q, L 15 = true → L 16 = true → a.tmps.getD 7 undef = .pointer (some ⟨p, 0, none⟩) → a.tmps.getD 8 undef = .pointer (some ⟨q, 0, none⟩) → p ≠ q
  o17 : L 17 = true → L 15 = true
  o18 : L 18 = true → L 16 = true
theorem ptr_inj {p q : Nat} (h : Value.pointer (some ⟨p, 0, none⟩) = Value.pointer (some ⟨q, 0, none⟩)) : p = q := by
  injection h with h; injection h with h; injection h
section
variable {B : Nat} {dg : List UInt8} {L : Nat → Bool} {a : Act} {W W' : World}
theorem LnJ.start (B : Nat) (dg : List UInt8) (a : Act) (W : World) : LnJ B dg (fun _ => false) a W :=
  ⟨fun e => Bool.noConfusion e, fun e => Bool.noConfusion e, fun _ _ e => Bool.noConfusion e, fun e => Bool.noConfusion e, fun e => Bool.noConfusion e⟩
theorem LnJ.same (h : LnJ B dg L a W) (hb : Below W.heap.size W W') (i : Nat) (hi : i < 15) (d : Option Nat) (v : Value) (h7 : d ≠ some 7) (h8 : d ≠ some 8) : LnJ B dg (fun j => decide (j = i) || L j) (a.put d v) W' := by
  have e15 := orf_ne (L := L) (i := i) (show 15 ≠ i by omega)
  have e16 := orf_ne (L := L) (i := i) (show 16 ≠ i by omega)
  have e17 := orf_ne (L := L) (i := i) (show 17 ≠ i by omega)
  have e18 := orf_ne (L := L) (i := i) (show 18 ≠ i by omega)
  have s7 := put_getD_ne a d v 7 h7
  have s8 := put_getD_ne a d v 8 h8
  obtain ⟨p7, p8, ne, o17, o18⟩ := h
  refine ⟨?_, ?_, ?_, ?_, ?_⟩ <;> simp only [e15, e16, e17, e18, s7, s8]
  · intro e
    obtain ⟨p, h1, h2, h3⟩ := p7 e
    exact ⟨p, h1, h2, h3.below hb h3.lt⟩
  · intro e
    obtain ⟨p, h1, h2, h3⟩ := p8 e
    exact ⟨p, h1, h2, h3.below hb h3.lt⟩
  · exact ne
  · exact o17
  · exact o18
theorem LnJ.new7 (h : LnJ B dg L a W) (hL : L 15 = false) (hsz : 7 < a.tmps.size) (hB : B ≤ W.heap.size) : LnJ B dg (fun j => decide (j = 15) || L j) (a.put (some 7) (.pointer (some ⟨W.heap.size, 0, none⟩))) (W.alloc (.cells (rowOf (zbytes 32)) 34)) := by
  have e15 := orf_eq (L := L) (i := 15)
  have e16 := orf_ne (L := L) (i := 15) (show 16 ≠ 15 by omega)
  have e17 := orf_ne (L := L) (i := 15) (show 17 ≠ 15 by omega)
  have e18 := orf_ne (L := L) (i := 15) (show 18 ≠ 15 by omega)
  have s7 := put_getD_eq a (.pointer (some ⟨W.heap.size, 0, none⟩)) 7 hsz
  have s8 := put_getD_ne a (some 7) (.pointer (some ⟨W.heap.size, 0, none⟩)) 8 (by decide)
  obtain ⟨p7, p8, ne, o17, o18⟩ := h
  have h17 : L 17 = false := by
    cases hh : L 17 with
    | false => rfl
    | true => rw [hL] at o17; exact absurd (o17 hh) (by decide)
  refine ⟨?_, ?_, ?_, ?_, ?_⟩ <;> simp only [e15, e16, e17, e18, s7, s8]
  · intro _
    refine ⟨_, rfl, hB, ?_⟩
    rw [h17]
    exact Bk.new W _ _
  · intro e
    obtain ⟨p, h1, h2, h3⟩ := p8 e
    exact ⟨p, h1, h2, h3.alloc _⟩
  · intro p q _ h16 hp hq
    obtain ⟨q', h1, h2, h3⟩ := p8 h16
    have := ptr_inj hp
    have := ptr_inj (h1.symm.trans hq)
    have := h3.lt
    omega
  · exact fun _ => by simp
  · exact o18
theorem LnJ.new8 (h : LnJ B dg L a W) (hL : L 16 = false) (hsz : 8 < a.tmps.size) (hB : B ≤ W.heap.size) : LnJ B dg (fun j => decide (j = 16) || L j) (a.put (some 8) (.pointer (some ⟨W.heap.size, 0, none⟩))) (W.alloc (.cells (rowOf (zbytes 32)) 34)) := by
  have e16 := orf_eq (L := L) (i := 16)
  have e15 := orf_ne (L := L) (i := 16) (show 15 ≠ 16 by omega)
  have e17 := orf_ne (L := L) (i := 16) (show 17 ≠ 16 by omega)
  have e18 := orf_ne (L := L) (i := 16) (show 18 ≠ 16 by omega)
  have s8 := put_getD_eq a (.pointer (some ⟨W.heap.size, 0, none⟩)) 8 hsz
  have s7 := put_getD_ne a (some 8) (.pointer (some ⟨W.heap.size, 0, none⟩)) 7 (by decide)
  obtain ⟨p7, p8, ne, o17, o18⟩ := h
  have h18 : L 18 = false := by
    cases hh : L 18 with
    | false => rfl
    | true => rw [hL] at o18; exact absurd (o18 hh) (by decide)
  refine ⟨?_, ?_, ?_, ?_, ?_⟩ <;> simp only [e15, e16, e17, e18, s7, s8]
  · intro e
    obtain ⟨p, h1, h2, h3⟩ := p7 e
    exact ⟨p, h1, h2, h3.alloc _⟩
  · intro _
    refine ⟨_, rfl, hB, ?_⟩
    rw [h18]
    exact Bk.new W _ _
  · intro p q h15 _ hp hq
    obtain ⟨q', h1, h2, h3⟩ := p7 h15
    have := ptr_inj hq
    have := ptr_inj (h1.symm.trans hp)
    have := h3.lt
    omega
  · exact o17
  · exact fun _ => by simp
theorem LnJ.put7 (h : LnJ B dg L a W) (h15 : L 15 = true) {p : Nat} (hp : a.tmps.getD 7 undef = .pointer (some ⟨p, 0, none⟩)) (hk : Bk W' p 34 (rowOf dg)) (hB : B ≤ p) (hg : W.grownBy W' (some p)) : LnJ B dg (fun j => decide (j = 17) || L j) (a.put none undef) W' := by
  have e17 := orf_eq (L := L) (i := 17)
  have e15 := orf_ne (L := L) (i := 17) (show 15 ≠ 17 by omega)
  have e16 := orf_ne (L := L) (i := 17) (show 16 ≠ 17 by omega)
  have e18 := orf_ne (L := L) (i := 17) (show 18 ≠ 17 by omega)
  have s7 := put_getD_ne a none undef 7 (by decide)
  have s8 := put_getD_ne a none undef 8 (by decide)
  obtain ⟨p7, p8, ne, o17, o18⟩ := h
  refine ⟨?_, ?_, ?_, ?_, ?_⟩ <;> simp only [e15, e16, e17, e18, s7, s8]
  · exact fun _ => ⟨p, hp, hB, by simpa using hk⟩
  · intro e
    obtain ⟨q, h1, h2, h3⟩ := p8 e
    exact ⟨q, h1, h2, h3.grown hg (fun h4 => ne p q h15 e hp h1 (by injection h4 with h4; exact h4.symm))⟩
  · exact ne
  · exact fun _ => h15
  · exact o18
theorem LnJ.put8 (h : LnJ B dg L a W) (h16 : L 16 = true) {p : Nat} (hp : a.tmps.getD 8 undef = .pointer (some ⟨p, 0, none⟩)) (hk : Bk W' p 34 (rowOf dg)) (hB : B ≤ p) (hg : W.grownBy W' (some p)) : LnJ B dg (fun j => decide (j = 18) || L j) (a.put none undef) W' := by
  have e18 := orf_eq (L := L) (i := 18)
  have e15 := orf_ne (L := L) (i := 18) (show 15 ≠ 18 by omega)
  have e16 := orf_ne (L := L) (i := 18) (show 16 ≠ 18 by omega)
  have e17 := orf_ne (L := L) (i := 18) (show 17 ≠ 18 by omega)
  have s7 := put_getD_ne a none undef 7 (by decide)
  have s8 := put_getD_ne a none undef 8 (by decide)
  obtain ⟨p7, p8, ne, o17, o18⟩ := h
  refine ⟨?_, ?_, ?_, ?_, ?_⟩ <;> simp only [e15, e16, e17, e18, s7, s8]
  · intro e
    obtain ⟨q, h1, h2, h3⟩ := p7 e
    exact ⟨q, h1, h2, h3.grown hg (fun h4 => ne q p e h16 h1 hp (by injection h4 with h4))⟩
  · exact fun _ => ⟨p, hp, hB, by simpa using hk⟩
  · exact ne
  · exact o17
  · exact fun _ => h16
end
/-- The worlds of the last line. -/
structure LnC (w : World) (g p q : Nat) (b dg : List UInt8) (W : World) : Prop where
  b : Blk8 W g b
  p : Bk W p 34 (rowOf dg)
  q : Bk W q 34 (rowOf dg)
  tab : Tab W
  low : 0 < W.heap.size
  below : Below w.heap.size w W
theorem LnC.keep {w : World} {g p q : Nat} {b dg : List UInt8} {W W' : World} (h : LnC w g p q b dg W) (hb : Below W.heap.size W W') : LnC w g p q b dg W' :=
  ⟨h.b.below hb h.b.lt, h.p.below hb h.p.lt, h.q.below hb h.q.lt, fun t ht => (hb.cell (p := ⟨_, t, none⟩) h.low).trans (h.tab t ht), Nat.lt_of_lt_of_le h.low hb.size, h.below.trans (hb.mono h.below.size)⟩
theorem add_go (g k3 : Nat) : (⟨g, 0, none⟩ : Addr).add k3 = ⟨g, k3, none⟩ := by unfold Addr.add; split <;> simp_all
theorem add8 (y : Int) (k : Nat) (h0 : 0 ≤ y) (h1 : y ≤ 255) : ∃ v : UInt8, IntKind.u8.wrap (y + IntKind.u8.wrap (k : Int)) = ((v.toNat : Nat) : Int) := by
  refine ⟨UInt8.ofNat ((y + (k : Int) % 256) % 256).toNat, ?_⟩
  simp [IntKind.wrap, IntKind.signed, IntKind.bits]
  omega

set_option maxRecDepth 100000 in
set_option maxHeartbeats 8000000 in
theorem walk (w : World) (z y : Int) (hy0 : 0 ≤ y) (hy1 : y ≤ 255) (ht : Tab w) (hg1 : 0 < w.heap.size) :
    Calls Tryd.prog 5 #[.int .i64 z, .int .u8 y] w fun e w' => e = .returned (.bool true) ∧ Below w.heap.size w w' := by
  obtain ⟨x, hx, hxb⟩ := u64_nat z
  obtain ⟨m, hm⟩ : ∃ m, x % 120 = m := ⟨_, rfl⟩
  have r3 : (x : Int).tmod 120 = (m : Int) := by rw [Int.tmod_eq_emod_of_nonneg (by omega)]; omega
  have r4 : IntKind.u64.wrap (m : Int) = (m : Int) := IntWalk.u64_in _ (by omega)
  have r5 : IntKind.i64.wrap (m : Int) = (m : Int) := IntWalk.i64_in _ (by omega)
  obtain ⟨N, hN⟩ : ∃ N, 40 + m = N := ⟨_, rfl⟩
  have r6 : IntKind.i64.wrap (40 + (m : Int)) = (N : Int) := by rw [IntWalk.i64_in _ (by omega)]; omega
  have hN1 : N ≤ 160 := by omega
  have hN0 : 40 ≤ N := by omega
  have hmk := fun W => mk8 N (by omega) W
  have HT := hid_ ht
  have S0 : Hid (∃ l : List UInt8, l.length = N ∧ Blk8 (w.alloc (.cells (rowOf (List.replicate N 0)) 5)) w.heap.size l) := hid_ ⟨_, by simp, Blk8.new w _⟩
  have B0 := hid_ ((Below.refl w.heap.size w).alloc (Nat.le_refl _) (.cells (rowOf (List.replicate N 0)) 5))
  clear ht hm hN hxb
  go_enter Tryd.func5, Tryd.ntmps5
  go_upto_region 2 with fail
  generalize w.alloc (.cells (rowOf (List.replicate N 0)) 5) = w1 at *
  go_wp2
  go_loopw [6] (fun i wr => ∃ k : Nat, k ≤ N ∧ i = .int .i64 k ∧ Hid (∃ l : List UInt8, l.length = N ∧ Blk8 wr w.heap.size l) ∧ Hid (Below w.heap.size w wr)) (fun i _ => N - (intOf i).toNat)
  case atStart => exact ⟨0, Nat.zero_le _, rfl, S0, B0⟩
  case round =>
    obtain ⟨k, hk, rfl, HS, HB⟩ := hrel
    clear S0 B0
    obtain ⟨l, hl, hb⟩ := HS.out
    by_cases hlt : k < N
    · have hd1 : decide ((k : Int) < (N : Int)) = true := decide_eq_true (by omega)
      have hd2 : decide (k < N) = true := decide_eq_true hlt
      have hcell := hb.cell k (by omega)
      have hfro := hb.frozen k
      obtain ⟨v, hv⟩ := add8 y k hy0 hy1
      have hv2 : (y + (k : Int)) % 256 = ((v.toNat : Nat) : Int) := by
        rw [← hv]
        simp [IntKind.wrap, IntKind.signed, IntKind.bits]
      have HP := hid_ (hb.set_ k v)
      have HL := hid_ hl
      have HB2 := hid_ (HB.out.setCell (p := ⟨w.heap.size, k, none⟩) (Nat.le_refl _) (.int .u8 ((v.toNat : Nat) : Int)))
      have t0 : (0 : Int) ≤ (k : Int) := by omega
      have t1 : (k : Int) < (N : Int) := by omega
      clear hb hl HS
      go_wp2
      go_roundw
      case rel =>
        refine ⟨k + 1, by omega, by go_num, hid_ ⟨l.set k v, by rw [List.length_set]; exact HL.out, ?_⟩, ?_⟩
        · first
            | exact HP.out
            | (rw [hv2]; exact HP.out)
        · first
            | exact HB2
            | (rw [hv2]; exact HB2)
      case measure => simp [intOf]; omega
    · have hd1 : decide ((k : Int) < (N : Int)) = false := decide_eq_false (by omega)
      have hd2 : decide (k < N) = false := decide_eq_false hlt
      have HL := hid_ hl
      have HBB := hid_ hb
      clear hb hl HS
      go_upto_region 6 with fail
      obtain ⟨b, hbl⟩ : ∃ b, l = b := ⟨_, rfl⟩
      rw [hbl] at HL HBB
      clear hbl l
      obtain ⟨g, hg⟩ : ∃ g, w.heap.size = g := ⟨_, rfl⟩
      have HGE := hid_ hg
      have B3 : Hid (Below g w wr) := hg ▸ HB
      rw [hg] at HBB hg1 ⊢
      obtain ⟨k3, hk3⟩ : ∃ k3, N / 3 = k3 := ⟨_, rfl⟩
      have q1 : (N : Int).tdiv 3 = (k3 : Int) := by rw [Int.tdiv_eq_ediv_of_nonneg (by omega)]; omega
      have q1' : (N : Int) / 3 = (k3 : Int) := by omega
      have q2 : IntKind.i64.wrap (k3 : Int) = (k3 : Int) := IntWalk.i64_in _ (by omega)
      have hk3N : k3 < N := by omega
      have hst := fun W => slice_to (some ⟨g, 0, none⟩) N N (k3 : Int) k3 rfl (by omega) W
      have hsf0 := fun W => slice_from (some ⟨g, 0, none⟩) N N k3 (by omega) W
      have hadd := add_go g k3
      rw [if_neg (by omega), Option.map_some, hadd] at hsf0
      have hgw : g < wr.heap.size := HBB.out.lt
      have RB := hid_ (fun (W : World) (h : Blk8 W g b) => (h.rd h.lt : Rd W W.heap.size (some ⟨g, 0, none⟩) b))
      have RD := hid_ (fun (W : World) (h : Blk8 W g b) => (by have h2 := (h.rd h.lt).drop (off := 0) k3; rw [Nat.zero_add] at h2; exact h2 : Rd W W.heap.size (some ⟨g, k3, none⟩) (b.drop k3)))
      have LT := hid_ (show (b.take k3).length = k3 by rw [List.length_take, HL.out]; omega)
      have LD := hid_ (show (b.drop k3).length = N - k3 by rw [List.length_drop, HL.out])
      have T3 := hid_ (show Tab wr from fun t h => (B3.out.cell (p := ⟨_, t, none⟩) hg1).trans (HT.out t h))
      have g3 : 0 < wr.heap.size := by omega
      have HF3 := hid_ (show ([b.take k3, [], b.drop k3] : List (List UInt8)).flatten = b by simp)
      have HF1 := hid_ (show ([b] : List (List UInt8)).flatten = b by simp)
      obtain ⟨dg, hdg⟩ : ∃ dg, sha b = dg := ⟨_, rfl⟩
      have HDG := hid_ hdg
      have DL := hid_ (show dg.length = 32 by rw [← hdg]; exact sha_len _)
      have I := hid_ (show (Tryd.prog.info? 34).map (·.size) = some (rowOf dg).size by rw [rowOf_size, DL.out]; exact i32_)
      have Q := hid_ (show (rowOf (zbytes 32)).size = (rowOf dg).size by rw [rowOf_size, rowOf_size, DL.out, zbytes_len])
      have hz := z32
      clear hg hdg hd1 hd2 hlt hk hadd r3 r4 r5 r6 hx hk3
      refine region_byJF [28, 29, 30, 31, 32, 33, 34, 35, 36, 37, 38, 39, 40, 41, 42, 7, 8] (fun W => Below wr.heap.size wr W) LnT (LnR (.slice (some ⟨g, 0, none⟩) N N) (.slice (some ⟨g, 0, none⟩) k3 N) (.slice (some ⟨g, k3, none⟩) (N - k3) (N - k3)) N k3 dg) (LnJ wr.heap.size dg) (by kernel_rfl) (by kernel_rfl) (by kernel_rfl) (by kernel_rfl) (fun j v w w' hT hr => ?_) (fun j v w hlt hj _ => ?_) (below_drewN (Below.refl _ _) 1) ?_ (LnJ.start _ _ _ _) ?_
      · exact LnR.stable hT j v hr
      · rcases j with _ | _ | _ | _ | _ | _ | _ | _ | _ | _ | _ | _ | _ | _ | _ | _ | _ | _ | _ | j
        all_goals first
          | (exfalso; simp [dstOf] at hj; done)
          | trivial
      · refine ⟨fun D a W hC hd hsz hf hv hJ hL hW K hK => ?_, fun D a W hC hd hsz hf hv hJ hL hW K hK => ?_, fun D a W hC hd hsz hf hv hJ hL hW K hK => ?_, fun D a W hC hd hsz hf hv hJ hL hW K hK => ?_, fun D a W hC hd hsz hf hv hJ hL hW K hK => ?_, fun D a W hC hd hsz hf hv hJ hL hW K hK => ?_, fun D a W hC hd hsz hf hv hJ hL hW K hK => ?_, fun D a W hC hd hsz hf hv hJ hL hW K hK => ?_, fun D a W hC hd hsz hf hv hJ hL hW K hK => ?_, fun D a W hC hd hsz hf hv hJ hL hW K hK => ?_, fun D a W hC hd hsz hf hv hJ hL hW K hK => ?_, fun D a W hC hd hsz hf hv hJ hL hW K hK => ?_, fun D a W hC hd hsz hf hv hJ hL hW K hK => ?_, fun D a W hC hd hsz hf hv hJ hL hW K hK => ?_, fun D a W hC hd hsz hf hv hJ hL hW K hK => ?_, fun D a W hC hd hsz hf hv hJ hL hW K hK => ?_, fun D a W hC hd hsz hf hv hJ hL hW K hK => ?_, fun D a W hC hd hsz hf hv hJ hL hW K hK => ?_, fun D a W hC hd hsz hf hv hJ hL hW K hK => ?_, trivial⟩
        · clear hsz
          have e1 := slot_of (a := a) (s := 5) (v := .slice (some ⟨g, 0, none⟩) N N) (hf 5 (by kernel_rfl))
          refine step_run (wanted_none rfl) (v := .slice (some ⟨g, 0, none⟩) N N) (w' := W) ?_ (hK _ _ hC (LnT.of_below (Below.refl _ _)) rfl (hJ.same (Below.refl _ _) 0 (by decide) _ _ (by decide) (by decide)))
          go_simp
        · clear hsz
          have e1 := slot_of (a := a) (s := 28) (v := .slice (some ⟨g, 0, none⟩) N N) (hv 0 (by kernel_rfl))
          have hbl := (Below.refl W.heap.size W).alloc (Nat.le_refl _) (.cells #[.slice (some ⟨g, 0, none⟩) N N] 29)
          refine step_run (wanted_none rfl) (v := .slice (some ⟨W.heap.size, 0, none⟩) 1 1) (w' := W.alloc (.cells #[.slice (some ⟨g, 0, none⟩) N N] 29)) ?_ (hK _ _ (hC.trans (hbl.mono hC.size)) (LnT.of_below hbl) ⟨_, rfl, Bk.new W _ _⟩ (hJ.same hbl 1 (by decide) _ _ (by decide) (by decide)))
          go_simp
        · clear hsz
          obtain ⟨q, eq, hq⟩ : ∃ q, a.tmps.getD 29 undef = .slice (some ⟨q, 0, none⟩) 1 1 ∧ Bk W q 29 #[.slice (some ⟨g, 0, none⟩) N N] := hv 1 (by kernel_rfl)
          have e1 := slot_of (a := a) (s := 29) eq
          have tW : Tab W := fun t h => (hC.cell (p := ⟨_, t, none⟩) g3).trans (T3.out t h)
          have bW := HBB.out.below hC hgw
          have ch := sum_any (some ⟨q, 0, none⟩) 1 1 [b] W rfl (parts_1 hq HL.out (RB.out W bW) (Nat.le_refl _) (by omega)) (by omega) (by rw [HF1.out, HL.out]; omega) tW (Nat.lt_of_lt_of_le g3 hC.size)
          rw [HF1.out] at ch
          rw [HDG.out] at ch
          refine step_callx 19 #[.slice (some ⟨q, 0, none⟩) 1 1] (wanted_none rfl) (w' := W) ?_ (ch.mono fun e W2 hh => ?_)
          · go_simp
          · obtain ⟨rfl, hbl⟩ := hh
            exact ⟨_, rfl, hK _ _ (hC.trans (hbl.mono hC.size)) (LnT.of_below hbl) rfl (hJ.same hbl 2 (by decide) _ _ (by decide) (by decide))⟩
        · clear hsz
          have e1 := slot_of (a := a) (s := 5) (v := .slice (some ⟨g, 0, none⟩) N N) (hf 5 (by kernel_rfl))
          refine step_run (wanted_none rfl) (v := .slice (some ⟨g, 0, none⟩) N N) (w' := W) ?_ (hK _ _ hC (LnT.of_below (Below.refl _ _)) rfl (hJ.same (Below.refl _ _) 3 (by decide) _ _ (by decide) (by decide)))
          go_simp
        · clear hsz
          have e1 := slot_of (a := a) (s := 5) (v := .slice (some ⟨g, 0, none⟩) N N) (hf 5 (by kernel_rfl))
          refine step_run (wanted_none rfl) (v := .slice (some ⟨g, 0, none⟩) N N) (w' := W) ?_ (hK _ _ hC (LnT.of_below (Below.refl _ _)) rfl (hJ.same (Below.refl _ _) 4 (by decide) _ _ (by decide) (by decide)))
          go_simp
        · clear hsz
          have e1 := slot_of (a := a) (s := 32) (v := .slice (some ⟨g, 0, none⟩) N N) (hv 4 (by kernel_rfl))
          refine step_run (wanted_none rfl) (v := .int .i64 (N : Int)) (w' := W) ?_ (hK _ _ hC (LnT.of_below (Below.refl _ _)) rfl (hJ.same (Below.refl _ _) 5 (by decide) _ _ (by decide) (by decide)))
          go_simp
        · clear hsz
          have e1 := slot_of (a := a) (s := 33) (v := .int .i64 (N : Int)) (hv 5 (by kernel_rfl))
          refine step_run (wanted_none rfl) (v := .int .i64 (k3 : Int)) (w' := W) ?_ (hK _ _ hC (LnT.of_below (Below.refl _ _)) rfl (hJ.same (Below.refl _ _) 6 (by decide) _ _ (by decide) (by decide)))
          go_simp
        · clear hsz
          have e1 := slot_of (a := a) (s := 31) (v := .slice (some ⟨g, 0, none⟩) N N) (hv 3 (by kernel_rfl))
          have e2 := slot_of (a := a) (s := 34) (v := .int .i64 (k3 : Int)) (hv 6 (by kernel_rfl))
          have h := hst W
          refine step_run (wanted_none rfl) (v := .slice (some ⟨g, 0, none⟩) k3 N) (w' := W) ?_ (hK _ _ hC (LnT.of_below (Below.refl _ _)) rfl (hJ.same (Below.refl _ _) 7 (by decide) _ _ (by decide) (by decide)))
          go_simp
        · clear hsz
          have e1 := slot_of (a := a) (s := 5) (v := .slice (some ⟨g, 0, none⟩) N N) (hf 5 (by kernel_rfl))
          refine step_run (wanted_none rfl) (v := .slice (some ⟨g, 0, none⟩) N N) (w' := W) ?_ (hK _ _ hC (LnT.of_below (Below.refl _ _)) rfl (hJ.same (Below.refl _ _) 8 (by decide) _ _ (by decide) (by decide)))
          go_simp
        · clear hsz
          have e1 := slot_of (a := a) (s := 5) (v := .slice (some ⟨g, 0, none⟩) N N) (hf 5 (by kernel_rfl))
          refine step_run (wanted_none rfl) (v := .slice (some ⟨g, 0, none⟩) N N) (w' := W) ?_ (hK _ _ hC (LnT.of_below (Below.refl _ _)) rfl (hJ.same (Below.refl _ _) 9 (by decide) _ _ (by decide) (by decide)))
          go_simp
        · clear hsz
          have e1 := slot_of (a := a) (s := 37) (v := .slice (some ⟨g, 0, none⟩) N N) (hv 9 (by kernel_rfl))
          refine step_run (wanted_none rfl) (v := .int .i64 (N : Int)) (w' := W) ?_ (hK _ _ hC (LnT.of_below (Below.refl _ _)) rfl (hJ.same (Below.refl _ _) 10 (by decide) _ _ (by decide) (by decide)))
          go_simp
        · clear hsz
          have e1 := slot_of (a := a) (s := 38) (v := .int .i64 (N : Int)) (hv 10 (by kernel_rfl))
          refine step_run (wanted_none rfl) (v := .int .i64 (k3 : Int)) (w' := W) ?_ (hK _ _ hC (LnT.of_below (Below.refl _ _)) rfl (hJ.same (Below.refl _ _) 11 (by decide) _ _ (by decide) (by decide)))
          go_simp
        · clear hsz
          have e1 := slot_of (a := a) (s := 36) (v := .slice (some ⟨g, 0, none⟩) N N) (hv 8 (by kernel_rfl))
          have e2 := slot_of (a := a) (s := 39) (v := .int .i64 (k3 : Int)) (hv 11 (by kernel_rfl))
          have h := hsf0 W
          refine step_run (wanted_none rfl) (v := .slice (some ⟨g, k3, none⟩) (N - k3) (N - k3)) (w' := W) ?_ (hK _ _ hC (LnT.of_below (Below.refl _ _)) rfl (hJ.same (Below.refl _ _) 12 (by decide) _ _ (by decide) (by decide)))
          go_simp
        · clear hsz
          have e1 := slot_of (a := a) (s := 35) (v := .slice (some ⟨g, 0, none⟩) k3 N) (hv 7 (by kernel_rfl))
          have e2 := slot_of (a := a) (s := 40) (v := .slice (some ⟨g, k3, none⟩) (N - k3) (N - k3)) (hv 12 (by kernel_rfl))
          have hbl := (Below.refl W.heap.size W).alloc (Nat.le_refl _) (.cells #[.slice (some ⟨g, 0, none⟩) k3 N, .slice none 0 0, .slice (some ⟨g, k3, none⟩) (N - k3) (N - k3)] 29)
          refine step_run (wanted_none rfl) (v := .slice (some ⟨W.heap.size, 0, none⟩) 3 3) (w' := W.alloc (.cells #[.slice (some ⟨g, 0, none⟩) k3 N, .slice none 0 0, .slice (some ⟨g, k3, none⟩) (N - k3) (N - k3)] 29)) ?_ (hK _ _ (hC.trans (hbl.mono hC.size)) (LnT.of_below hbl) ⟨_, rfl, Bk.new W _ _⟩ (hJ.same hbl 13 (by decide) _ _ (by decide) (by decide)))
          go_simp
        · clear hsz
          obtain ⟨q, eq, hq⟩ : ∃ q, a.tmps.getD 41 undef = .slice (some ⟨q, 0, none⟩) 3 3 ∧ Bk W q 29 #[.slice (some ⟨g, 0, none⟩) k3 N, .slice none 0 0, .slice (some ⟨g, k3, none⟩) (N - k3) (N - k3)] := hv 13 (by kernel_rfl)
          have e1 := slot_of (a := a) (s := 41) eq
          have tW : Tab W := fun t h => (hC.cell (p := ⟨_, t, none⟩) g3).trans (T3.out t h)
          have bW := HBB.out.below hC hgw
          have ch := sum_any (some ⟨q, 0, none⟩) 3 3 [b.take k3, [], b.drop k3] W rfl (parts_three hq LT.out LD.out ((RB.out W bW).take k3) (RD.out W bW) (by omega) (by omega) (Nat.le_refl _) (by omega)) (by omega) (by rw [HF3.out, HL.out]; omega) tW (Nat.lt_of_lt_of_le g3 hC.size)
          rw [HF3.out] at ch
          rw [HDG.out] at ch
          refine step_callx 19 #[.slice (some ⟨q, 0, none⟩) 3 3] (wanted_none rfl) (w' := W) ?_ (ch.mono fun e W2 hh => ?_)
          · go_simp
          · obtain ⟨rfl, hbl⟩ := hh
            exact ⟨_, rfl, hK _ _ (hC.trans (hbl.mono hC.size)) (LnT.of_below hbl) rfl (hJ.same hbl 14 (by decide) _ _ (by decide) (by decide))⟩
        · have hbl := (Below.refl W.heap.size W).alloc (Nat.le_refl _) (.cells (rowOf (zbytes 32)) 34)
          refine step_run (wanted_none rfl) (v := .pointer (some ⟨W.heap.size, 0, none⟩)) (w' := W.alloc (.cells (rowOf (zbytes 32)) 34)) ?_ (hK _ _ (hC.trans (hbl.mono hC.size)) (LnT.of_below hbl) trivial (hJ.new7 hL (by rw [hsz]; simp) hC.size))
          clear hsz
          go_simp
        · have hbl := (Below.refl W.heap.size W).alloc (Nat.le_refl _) (.cells (rowOf (zbytes 32)) 34)
          refine step_run (wanted_none rfl) (v := .pointer (some ⟨W.heap.size, 0, none⟩)) (w' := W.alloc (.cells (rowOf (zbytes 32)) 34)) ?_ (hK _ _ (hC.trans (hbl.mono hC.size)) (LnT.of_below hbl) trivial (hJ.new8 hL (by rw [hsz]; simp) hC.size))
          clear hsz
          go_simp
        · clear hsz
          obtain ⟨p, hp, hB, hk⟩ := hJ.p7 (hW 15 (by kernel_rfl))
          rw [hL] at hk
          refine step_put_row rfl 34 (.tmp 7) (.tmp 30) rfl p (rowOf dg) (eval_of hp) (eval_of (hv 2 (by kernel_rfl))) 34 (rowOf (zbytes 32)) hk I.out Q.out (bytes_one _) ?_
          intro W2 k2 g2 s2
          exact hK undef _ (hC.grown g2 hC.size (fun k hk => by injection hk with hk; omega)) (LnT.put hk g2) trivial (hJ.put7 (hW 15 (by kernel_rfl)) hp k2 hB g2)
        · clear hsz
          obtain ⟨p, hp, hB, hk⟩ := hJ.p8 (hW 16 (by kernel_rfl))
          rw [hL] at hk
          refine step_put_row rfl 34 (.tmp 8) (.tmp 42) rfl p (rowOf dg) (eval_of hp) (eval_of (hv 14 (by kernel_rfl))) 34 (rowOf (zbytes 32)) hk I.out Q.out (bytes_one _) ?_
          intro W2 k2 g2 s2
          exact hK undef _ (hC.grown g2 hC.size (fun k hk => by injection hk with hk; omega)) (LnT.put hk g2) trivial (hJ.put8 (hW 16 (by kernel_rfl)) hp k2 hB g2)
      · intro f w6 hC6 hv6 D6 hD6 hJ6
        obtain ⟨a6, hJ, hfa⟩ := hJ6
        obtain ⟨p, hp, _, hkp⟩ := hJ.p7 (hD6 15 (by decide))
        obtain ⟨q, hq, _, hkq⟩ := hJ.p8 (hD6 16 (by decide))
        rw [if_pos (hD6 17 (by decide))] at hkp
        rw [if_pos (hD6 18 (by decide))] at hkq
        rw [hfa] at hp hq
        have S6 : Hid (LnC w g p q b dg w6) := hid_ ⟨HBB.out.below hC6 hgw, hkp, hkq, fun t h => (hC6.cell (p := ⟨_, t, none⟩) g3).trans (T3.out t h), Nat.lt_of_lt_of_le g3 hC6.size, by rw [HGE.out]; exact B3.out.trans (hC6.mono (by omega))⟩
        simp only [framed, List.foldl_cons, List.foldl_nil, List.setIfInBounds_toArray, List.set_cons_succ, List.set_cons_zero]
        rw [hp, hq]
        clear hv6 hD6 hJ hC6 hp hq hkp hkq hfa
        go_upto_region 7 with fail
        have cr := fun W => refSum_any b W (by rw [HL.out]; omega)
        rw [HDG.out] at cr
        have P1 : Hid (∀ W, LnC w g p q b dg W → Calls Tryd.prog 20 #[] W fun e w' => e = .returned (.bool true) ∧ LnC w g p q b dg w') := hid_ (fun W h => (digests_any W h.tab h.low).mono fun e w' hh => ⟨hh.1, h.keep hh.2⟩)
        have P2 : Hid (∀ W, LnC w g p q b dg W → Calls Tryd.prog 21 #[.string (strOf b)] W fun e w' => e = .returned (.string (strOf dg)) ∧ LnC w g p q b dg w') := hid_ (fun W h => (cr W).mono fun e w' hh => ⟨hh.1, h.keep hh.2⟩)
        have V1 : Hid (∀ W, LnC w g p q b dg W → (convert 29 9 (.slice (some ⟨p, 0, none⟩) 32 32)).run Tryd.prog W = .ok (.string (strOf dg)) W) := hid_ (fun W h => conv_strn (h.p.rd h.p.lt) 32 32 DL.out)
        have V2 : Hid (∀ W, LnC w g p q b dg W → (convert 29 9 (.slice (some ⟨g, 0, none⟩) N N)).run Tryd.prog W = .ok (.string (strOf b)) W) := hid_ (fun W h => conv_strn (h.b.rd h.b.lt) N N HL.out)
        have E1 := hid_ (eqIn32 dg dg DL.out DL.out)
        rw [show (dg == dg) = true by simp] at E1
        have hall := dig_all
        have qs := strOf_eq dg dg rfl
        have IA1 := I.out
        clear cr
        refine region_quiet_in (C := fun W => LnC w g p q b dg W) (by kernel_rfl) (by kernel_rfl) (show LnC w g p q b dg { w6 with drawn := w6.drawn + 1 } from ⟨S6.out.b.drew, S6.out.p.drew, S6.out.q.drew, S6.out.tab, S6.out.low, S6.out.below.drew⟩) ?_
        repeat (first | go_big_quiet_skip | (go_big_quiet_want; (first
          | (refine BigFrame.quiet_move _ rfl ?_; go_simp)
          | (refine BigFrame.quiet_assign _ rfl ?_; go_simp)
          | (refine quiet_call (.bool true) 20 #[] ?_ P1.out ?_; (focus (intro W; go_simp; done)); go_simp)
          | (refine quiet_run (.slice (some ⟨p, 0, none⟩) 32 32) ?_ ?_; (focus (intro W hW; go_simp; done)); go_simp)
          | (refine quiet_run (.string (strOf dg)) ?_ ?_; (focus (intro W hW; have h := V1.out W hW; go_simp; done)); go_simp)
          | (refine quiet_run (.string (strOf b)) ?_ ?_; (focus (intro W hW; have h := V2.out W hW; go_simp; done)); go_simp)
          | (refine quiet_call (.string (strOf dg)) 21 #[.string (strOf b)] ?_ P2.out ?_; (focus (intro W; go_simp; done)); go_simp)
          | (refine quiet_load_row 34 (.tmp 7) rfl p rfl 34 (rowOf dg) _ Tryd.underlying34 rfl IA1 (fun W hW => hW.p) ?_; go_simp)
          | (refine quiet_load_row 34 (.tmp 8) rfl q rfl 34 (rowOf dg) _ Tryd.underlying34 rfl IA1 (fun W hW => hW.q) ?_; go_simp)
          | (refine quiet_run (.bool true) ?_ ?_; (focus (intro W hW; have h := E1.out W; go_simp; done)); go_simp)); go_big_quiet_on))
        refine wpQuiet_nil ?_
        intro w7 hw7
        have X7 := hid_ hw7.below
        clear hw7
        go_wp2
        go_ret
        exact ⟨rfl, HGE.out ▸ X7.out⟩

theorem laid_met3 (os : Os) : laidMet Tryd.prog [("casket/sha2.roundWords", Rows.laid_casket_sha2_roundWords)] ((laidWorld os).forCall (fun _ _ => 0) ⟨#[], #[.int .i64 0, .int .u8 0], []⟩).memory :=
  laidMet_of_run' 8 (by kernel_rfl) (by kernel_rfl)

/-- What the walk gives, for every argument and every world in which the constants lie. -/
theorem contract (H : Type) (enc : TypeId × Value → H) (W : World) (base : Nat) (args : Array Value) (ds gs : List (DataW H)) (before : List MemPlace)
    (hval : ∀ (j : Nat) t v, Tryd.f5.params[j]? = some t → args[j]? = some v → Value.okWide Tryd.prog W .any base t v)
    (hW : DataW.Whole enc Tryd.prog Tryd.f5.params.toList Rows.sha2LengthsSpec.vars false W args.toList ds gs before) (hL : laidMetH Tryd.prog Rows.sha2LengthsRow.laid W) :
    Calls Tryd.prog 5 args W fun e W' => ∃ v, e = .returned v ∧ Rows.sha2LengthsSpec.post enc Tryd.prog Tryd.f5 false true false false W args v W' := by
  obtain ⟨ht, hg1⟩ := tab_of hL
  have hW' := hW
  obtain ⟨p, q, hA0, hV, rfl, hfz, hnd⟩ := hW
  have hA : DataW.TrodAll enc Tryd.prog W 0 (fun _ => true) true Tryd.f5.params.toList args.toList ds p := hA0
  rw [Tryd.params5] at hA hval
  obtain ⟨v0, vs0, d0, ds0, p0, q0, hargs, rfl, rfl, h0, r0⟩ := trodAll_cons hA
  obtain ⟨v1, vs1, d1, ds1, p1, q1, rfl, rfl, rfl, h1, r1⟩ := trodAll_cons r0
  obtain ⟨rfl, rfl, rfl⟩ := trodAll_nil r1
  obtain rfl : args = #[v0, v1] := by cases args; simp_all
  obtain ⟨rfl, rfl⟩ := trodVars_none hV
  obtain ⟨a0, rfl, rfl, rfl, w0⟩ := open_int Tryd.underlying3 (hval 0 3 v0 rfl rfl) h0
  obtain ⟨a1, rfl, rfl, rfl, w1⟩ := open_int Tryd.underlying5 (hval 1 5 v1 rfl rfl) h1
  obtain ⟨y0, y1⟩ := bounds_u8 w1
  refine (walk W a0 a1 y0 y1 ht hg1).mono fun e W' ⟨he, hg⟩ => ⟨_, he, ?_⟩
  exact law_post laidOut_ (of_decide_eq_true (by kernel_rfl)) rfl rfl Tryd.underlying4 rfl hW' hg

theorem reads (os : Os) {H : Type} (enc : TypeId × Value → H) : ∃ places, DataW.whole enc Tryd.prog ((laidWorld os).forCall (fun _ _ => 0) ⟨#[], #[.int .i64 0, .int .u8 0], []⟩).memory Tryd.f5.params.toList Rows.sha2LengthsSpec.vars false #[Value.int .i64 0, Value.int .u8 0].toList 8 = some ([.lit (.int .i64 0), .lit (.int .u8 0)], [], places) :=
  ⟨[], by kernel_rfl⟩

set_option maxRecDepth 100000 in
theorem lifted (os : Os) (started : os.Started) (H : Type) (enc : TypeId × Value → H) (F : Stop.Interp) :
    ReturnsInHanded {} Tryd.checked os 5 .any ((OpenSpec.ofChange Rows.sha2LengthsSpec).preRow enc Tryd.prog Tryd.f5 Rows.sha2LengthsRow.domain false Rows.sha2LengthsRow.laid) (((OpenSpec.ofChange Rows.sha2LengthsSpec).at F).post enc Tryd.prog Tryd.f5 false true false false) := by
  obtain ⟨places, hx⟩ := reads os enc
  refine returnsInHanded_of_row (C := Tryd.checked) (s := OpenSpec.ofChange Rows.sha2LengthsSpec) own_ started (by kernel_rfl) Tryd.func5
    (witness_row_at (enc := enc) (C := Tryd.checked) false (laidWorld os) #[.int .i64 0, .int .u8 0] rfl (by kernel_rfl) (by kernel_rfl) (by kernel_rfl)
      (OpenSpec.preRow_of_cond 8 hx (by kernel_rfl) (fun k hk => by cases hk) (by kernel_rfl) (laid_met3 os))) ?_
  intro W base args ds gs before hval hW _ _ _ hL _ _
  exact contract H enc W base args ds gs before hval hW hL

theorem said : Rows.Sha2LengthsSaid :=
  OpenClaim.holds_of_cond 5 Tryd.f5 rfl rfl rfl rfl rfl rfl rfl ⟨rfl, rfl, rfl, rfl, rfl⟩ rfl rfl rfl rfl rfl (by kernel_rfl) Tryd.func5 (by kernel_rfl)
    (of_decide_eq_true (by kernel_rfl)) (by unfold Func.isWrapper; first | (rw [if_pos (by decide +kernel)]; kernel_rfl) | (rw [if_neg (by decide +kernel)]; exact ⟨rfl, rfl⟩))
    (fun os started H enc _ F => by rw [OpenClaim.pre_eq_preRow]; exact lifted os started H enc F)

/-- No parameter wants a stand-in; the program's own looks are off: what the card asks. -/
theorem plain (f : FuncId) (fn : Func) (hf : Tryd.pinned.checked.prog.funcNamed "casket/casketlaw02.Sha2Lengths" = some f) (hfn : Tryd.pinned.checked.prog.funcs[f]? = some fn) :
    false = Tryd.pinned.checked.prog.looks [] ∧ ∀ (j : Nat) t, fn.params[j]? = some t → Tryd.pinned.checked.prog.wantsStandIn t = false := by
  obtain rfl : f = 5 := Option.some.inj ((show Tryd.prog.funcNamed "casket/casketlaw02.Sha2Lengths" = some 5 by kernel_rfl).symm.trans hf) |>.symm
  obtain rfl : fn = Tryd.f5 := (Option.some.inj (Tryd.func5.symm.trans hfn)).symm
  refine ⟨by kernel_rfl, fun j t ht => ?_⟩
  rw [Tryd.params5] at ht
  have hm := Array.mem_of_getElem? ht
  simp only [List.mem_toArray, List.mem_cons, List.not_mem_nil, or_false] at hm
  rcases hm with rfl | rfl
  · exact (show Tryd.prog.wantsStandIn 3 = false by kernel_rfl)
  · exact (show Tryd.prog.wantsStandIn 5 = false by kernel_rfl)

/-- The card. -/
theorem proved : Rows.Sha2LengthsCardSaid :=
  Claim7.holds_tied_plain_at .later [] _ _ _ _ said (fun _ h => by cases h) (by kernel_rfl) (fun _ h => by cases h) sha2Lengths_row_tie rfl ⟨rfl, rfl⟩ (by kernel_rfl) rfl plain (by kernel_rfl)
#print axioms proved
end Go.Proofs.YtjfidfcfhdkciabDoor.sha2Lengths
