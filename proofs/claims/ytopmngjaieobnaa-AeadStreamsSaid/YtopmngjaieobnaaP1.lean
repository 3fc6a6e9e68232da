/-
  Contracts: poly's numbers: numberOf, plus, carried, times, reduced, least.
-/
import Derived.Test.YtopmngjaieobnaaBk
import Derived.Test.YtopmngjaieobnaaP0
namespace Go.Proofs.Ytopmngjaieobnaa
open Go.RowKit
set_option linter.unusedVariables false

/-- The cells of a number. -/
def nRow (n : N5) : Array Value := #[.int .u64 n.a, .int .u64 n.b, .int .u64 n.c, .int .u64 n.d, .int .u64 n.e]
theorem nRow_one (n : N5) : (nRow n).all (·.oneCell') = true := by simp [nRow, Value.oneCell']
theorem nRow_size (n : N5) : (nRow n).size = 5 := rfl
theorem zN (W : World) : (zeroValue 76).run Try.prog W = .ok (.agg (nRow zeroN)) W := by kernel_rfl
theorem i5_ : (Try.prog.info? 76).map (·.size) = some 5 := by kernel_rfl
/-- The cells of a list of words. -/
def lRow (l : List Int) : Array Value := (l.map (Value.int .u64)).toArray
theorem lRow_n (n : N5) : lRow n.list = nRow n := rfl
theorem lRow_size (l : List Int) : (lRow l).size = l.length := by simp [lRow]
theorem lRow_at (l : List Int) (i : Nat) (h : i < l.length) : (lRow l)[i]? = some (.int .u64 (l.getD i 0)) := by
  simp [lRow, List.getD, h]
theorem lRow_set (l : List Int) (i : Nat) (x : Int) : (lRow l).setIfInBounds i (.int .u64 x) = lRow (l.set i x) := by
  simp [lRow, List.map_set]
theorem lRow_one (l : List Int) : (lRow l).all (·.oneCell') = true := by
  rw [Array.all_eq_true_iff_forall_mem]
  intro v hv
  simp [lRow] at hv
  obtain ⟨x, _, rfl⟩ := hv
  rfl
theorem idx5 (n : N5) (k : Nat) (hk : k < 5) (V : World) :
    (Instr.index 76 (.agg (nRow n)) (.int .i64 (k : Int))).run Try.prog V = .ok (.int .u64 (n.list.getD k 0)) V := by
  rcases (by omega : k = 0 ∨ k = 1 ∨ k = 2 ∨ k = 3 ∨ k = 4) with rfl | rfl | rfl | rfl | rfl <;> kernel_rfl

theorem and_mask (x : Int) (k : Nat) (m : Int) (hm : m + 1 = ((2 ^ k : Nat) : Int)) (h0 : 0 ≤ x) (h1 : x ≤ 18446744073709551615) (hk : k ≤ 63) : bits .and .u64 x m = x % (m + 1) := by
  obtain ⟨n, rfl⟩ := Int.eq_ofNat_of_zero_le h0
  have hp : 2 ^ k ≤ 2 ^ 63 := Nat.pow_le_pow_right (by omega) hk
  have hp0 : 0 < 2 ^ k := Nat.pow_pos (by omega)
  have e63 : (2 : Nat) ^ 63 = 9223372036854775808 := by decide
  obtain ⟨q, rfl⟩ : ∃ q : Nat, m = (q : Int) := ⟨2 ^ k - 1, by omega⟩
  have hq : q = 2 ^ k - 1 := by omega
  have e : n &&& q = n % 2 ^ k := by rw [hq]; exact Nat.and_two_pow_sub_one_eq_mod n k
  show IntKind.u64.wrap ((BitVec.ofInt 64 (n : Int) &&& BitVec.ofInt 64 (q : Int)).toNat : Int) = _
  rw [BitVec.toNat_and, BitVec.ofInt_natCast, BitVec.ofInt_natCast, BitVec.toNat_ofNat, BitVec.toNat_ofNat, Nat.mod_eq_of_lt (by omega : n < 2 ^ 64), Nat.mod_eq_of_lt (by omega : q < 2 ^ 64), e, IntKind.wrap_u64, hm]
  have h2 : n % 2 ^ k < 2 ^ k := Nat.mod_lt _ hp0
  omega
theorem and26 (x : Int) (h0 : 0 ≤ x) (h1 : x ≤ 18446744073709551615) : bits .and .u64 x 67108863 = x % 67108864 := and_mask x 26 67108863 (by decide) h0 h1 (by omega)

/-! ### carried -/
def cOver (n : N5) : Nat → Int
  | 0 => 0
  | 1 => c1 n
  | 2 => c2 n
  | 3 => c3 n
  | 4 => c4 n
  | _ => c5 n
def cRow (n : N5) (k : Nat) : List Int := (carryN n).list.take k ++ n.list.drop k
theorem cRow_len (n : N5) (k : Nat) : (cRow n k).length = 5 := by
  have h1 : (carryN n).list.length = 5 := rfl
  have h2 : n.list.length = 5 := rfl
  unfold cRow
  rw [List.length_append, List.length_take, List.length_drop, h1, h2]
  omega
theorem cRow_set (n : N5) (k : Nat) (hk : k < 5) : (cRow n k).set k ((n.list.getD k 0 + cOver n k) % 67108864) = cRow n (k + 1) := by
  match k, hk with
  | 0, _ => simp [cRow, N5.list, carryN, cOver]
  | 1, _ | 2, _ | 3, _ | 4, _ => rfl
theorem cOver_next (n : N5) (k : Nat) (hk : k < 5) : (n.list.getD k 0 + cOver n k) / 67108864 = cOver n (k + 1) := by
  match k, hk with
  | 0, _ => simp [N5.list, cOver, c1]
  | 1, _ | 2, _ | 3, _ | 4, _ => rfl
theorem cOver_bd {n : N5} (h : n.le 1000000000000000000) (k : Nat) : 0 ≤ cOver n k ∧ cOver n k ≤ 15000000000 := by
  obtain ⟨h1, h2, h3, h4, h5⟩ := c_bd h (Int.le_refl _)
  match k with
  | 0 => show (0 : Int) ≤ 0 ∧ (0 : Int) ≤ 15000000000; decide
  | 1 => exact h1
  | 2 => exact h2
  | 3 => exact h3
  | 4 => exact h4
  | k + 5 => exact h5

/-- Two results: one in memory, one in a slot. -/
theorem results_cell_slot {P : Program} {fn : Func} {p q : Tmp} {ty : TypeId} (h : fn.results = #[.cell p ty, .tmp q]) (tmps : Array Value) (w : World) (g : Nat) {v v' : Value}
    (hp : tmps.getD p undef = .pointer (some ⟨g, 0, none⟩)) (hq : tmps.getD q undef = v')
    (h1 : (loadVar ty ⟨g, 0, none⟩).run P w = .ok v w) :
    (results fn tmps).run P w = .ok (.tuple #[v, v']) w := by
  have hp' : tmps[p]?.getD undef = .pointer (some ⟨g, 0, none⟩) := by simpa using hp
  have hq' : tmps[q]?.getD undef = v' := by simpa using hq
  simp [results, h, hp', hq', asAddr, h1]

set_option maxRecDepth 100000 in
set_option maxHeartbeats 1000000 in
theorem carried_any (n : N5) (hn : n.le 1000000000000000000) (w : World) :
    Calls Try.prog 72 #[.agg (nRow n)] w fun e w' => e = .returned (.tuple #[.agg (nRow (carryN n)), .int .u64 (c5 n)]) ∧ Below w.heap.size w w' := by
  have hz := zN
  have HN := hid_ hn
  have e5 : ∀ m : N5, (Try.prog.info? 76).map (·.size) = some (nRow m).size := fun m => i5_
  have E5 := hid_ e5
  have a0 : Bk ((w.alloc (.cells (nRow n) 76)).alloc (.cells (nRow zeroN) 76)) w.heap.size 76 (nRow n) := (Bk.new w _ _).alloc _
  have a1 : Bk ((w.alloc (.cells (nRow n) 76)).alloc (.cells (nRow zeroN) 76)) (w.heap.size + 1) 76 (nRow zeroN) := by simpa using Bk.new (w.alloc (.cells (nRow n) 76)) 76 (nRow zeroN)
  have hb : Below w.heap.size w ((w.alloc (.cells (nRow n) 76)).alloc (.cells (nRow zeroN) 76)) := ((Below.refl _ _).alloc (Nat.le_refl _) _).alloc (by simp) _
  have A0 := hid_ a0
  have A1 := hid_ a1
  have HB := hid_ hb
  clear hn e5 a0 a1 hb
  go_enter Try.func72, Try.ntmps72
  go_wp2_with (refine wpList_load_row rfl 76 (.tmp 1) rfl w.heap.size rfl 76 (nRow n) (0, 0) _ A0.out Try.underlying76 rfl (E5.out n) ?_)
  go_loopw [4, 8] (fun o i wr => ∃ k : Nat, k ≤ 5 ∧ i = .int .i64 k ∧ o = .int .u64 (cOver n k) ∧ Bk wr w.heap.size 76 (lRow (cRow n k)) ∧ Bk wr (w.heap.size + 1) 76 (nRow zeroN) ∧ Below w.heap.size w wr) (fun _ i _ => 5 - (intOf i).toNat)
  case atStart => exact ⟨0, by omega, rfl, rfl, A0.out, A1.out, HB.out⟩
  case round =>
    obtain ⟨k, hk, rfl, rfl, b0, b1, bb⟩ := hrel
    have B0 := hid_ b0
    have B1 := hid_ b1
    have BB := hid_ bb
    clear b0 b1 bb A0 A1 HB
    by_cases hlt : k < 5
    · have hix := idx5 n k hlt
      have hx := HN.out.get (by decide) k
      have ho := cOver_bd HN.out k
      have hc := B0.out.cell k
      rw [lRow_at _ _ (by rw [cRow_len]; exact hlt)] at hc
      have hf := B0.out.frozen k
      have hset := B0.out.set_ k (.int .u64 ((n.list.getD k 0 + cOver n k) % 67108864))
      rw [lRow_set, cRow_set n k hlt] at hset
      have hnx := cOver_next n k hlt
      have hand := and26 (n.list.getD k 0 + cOver n k) (by omega) (by omega)
      obtain ⟨x, hxe⟩ : ∃ x, Hid (n.list.getD k 0 = x) := ⟨_, rfl⟩
      obtain ⟨o, hoe⟩ : ∃ o, Hid (cOver n k = o) := ⟨_, rfl⟩
      rw [hxe.out] at hix hx hset hnx hand
      rw [hoe.out] at ho hset hnx hand ⊢
      have HS := hid_ hset
      have HNX := hid_ hnx
      have t0 : (0 : Int) ≤ (k : Int) := by omega
      have t5 : (k : Int) < 5 := by omega
      clear hset hnx
      go_wp2
      go_roundw
      case rel => exact ⟨k + 1, by omega, by go_num, by rw [← HNX.out], HS.out, B1.out.far (by simp) _, BB.out.setCell (by simp) _⟩
      case measure => simp [intOf]; omega
    · have hk5 : k = 5 := by omega
      have he : lRow (cRow n k) = nRow (carryN n) := by rw [hk5]; rfl
      have ho : cOver n k = c5 n := by rw [hk5]; rfl
      have B2 := B0.out
      rw [he] at B2
      rw [ho]
      clear hk5 he ho
      go_wp2_with (first
        | (refine wpList_load_row rfl 76 (.tmp 1) rfl w.heap.size rfl 76 (nRow (carryN n)) (0, 0) _ B2 Try.underlying76 rfl (E5.out _) ?_)
        | (refine wpList_put_row rfl 76 (.tmp 2) (.tmp 22) rfl (w.heap.size + 1) (nRow (carryN n)) rfl rfl 76 (nRow zeroN) B1.out (E5.out _) rfl (nRow_one _) ?_; intro w9 k9 g9 s9))
      exact bodyPost_ret (results_cell_slot Try.results72 _ _ (w.heap.size + 1) rfl rfl (run_loadVar_row _ _ _ _ _ (0, 0) _ k9 Try.underlying76 rfl (E5.out _))) rfl ⟨rfl, BB.out.grown g9 (by have := B1.out.lt; omega) (fun k hk => by injection hk with hk; omega)⟩

/-! ### plus -/
def pRow (n m : N5) (k : Nat) : List Int := (addN n m).list.take k ++ n.list.drop k
theorem pRow_len (n m : N5) (k : Nat) : (pRow n m k).length = 5 := by
  have h1 : (addN n m).list.length = 5 := rfl
  have h2 : n.list.length = 5 := rfl
  unfold pRow
  rw [List.length_append, List.length_take, List.length_drop, h1, h2]
  omega
theorem pRow_get (n m : N5) (k : Nat) (hk : k < 5) : (pRow n m k).getD k 0 = n.list.getD k 0 := by
  match k, hk with
  | 0, _ | 1, _ | 2, _ | 3, _ | 4, _ => rfl
theorem pRow_set (n m : N5) (k : Nat) (hk : k < 5) : (pRow n m k).set k (n.list.getD k 0 + m.list.getD k 0) = pRow n m (k + 1) := by
  match k, hk with
  | 0, _ | 1, _ | 2, _ | 3, _ | 4, _ => rfl

set_option maxRecDepth 100000 in
set_option maxHeartbeats 1000000 in
theorem plus_any (n m : N5) (hn : n.le 1000000000000000000) (hm : m.le 1000000000000000000) (w : World) :
    Calls Try.prog 44 #[.agg (nRow n), .agg (nRow m)] w fun e w' => e = .returned (.agg (nRow (addN n m))) ∧ Below w.heap.size w w' := by
  have hz := zN
  have HN := hid_ hn
  have HM := hid_ hm
  have e5 : ∀ m : N5, (Try.prog.info? 76).map (·.size) = some (nRow m).size := fun m => i5_
  have E5 := hid_ e5
  have a0 : Bk (((w.alloc (.cells (nRow n) 76)).alloc (.cells (nRow m) 76)).alloc (.cells (nRow zeroN) 76)) w.heap.size 76 (nRow n) := ((Bk.new w _ _).alloc _).alloc _
  have a1 : Bk (((w.alloc (.cells (nRow n) 76)).alloc (.cells (nRow m) 76)).alloc (.cells (nRow zeroN) 76)) (w.heap.size + 1) 76 (nRow m) := by simpa using (Bk.new (w.alloc (.cells (nRow n) 76)) 76 (nRow m)).alloc (.cells (nRow zeroN) 76)
  have a2 : Bk (((w.alloc (.cells (nRow n) 76)).alloc (.cells (nRow m) 76)).alloc (.cells (nRow zeroN) 76)) (w.heap.size + 1 + 1) 76 (nRow zeroN) := by simpa using Bk.new ((w.alloc (.cells (nRow n) 76)).alloc (.cells (nRow m) 76)) 76 (nRow zeroN)
  have hb : Below w.heap.size w (((w.alloc (.cells (nRow n) 76)).alloc (.cells (nRow m) 76)).alloc (.cells (nRow zeroN) 76)) := (((Below.refl _ _).alloc (Nat.le_refl _) _).alloc (by simp) _).alloc (by simp; omega) _
  have A0 := hid_ a0
  have A1 := hid_ a1
  have A2 := hid_ a2
  have HB := hid_ hb
  clear hn hm e5 a0 a1 a2 hb
  go_enter Try.func44, Try.ntmps44
  go_wp2_with (refine wpList_load_row rfl 76 (.tmp 3) rfl (w.heap.size + 1) rfl 76 (nRow m) (0, 0) _ A1.out Try.underlying76 rfl (E5.out m) ?_)
  go_loopw [8] (fun i wr => ∃ k : Nat, k ≤ 5 ∧ i = .int .i64 k ∧ Bk wr w.heap.size 76 (lRow (pRow n m k)) ∧ Bk wr (w.heap.size + 1 + 1) 76 (nRow zeroN) ∧ Below w.heap.size w wr) (fun i _ => 5 - (intOf i).toNat)
  case atStart => exact ⟨0, by omega, rfl, A0.out, A2.out, HB.out⟩
  case round =>
    obtain ⟨k, hk, rfl, b0, b1, bb⟩ := hrel
    have B0 := hid_ b0
    have B1 := hid_ b1
    have BB := hid_ bb
    clear b0 b1 bb A0 A1 A2 HB
    by_cases hlt : k < 5
    · have hix := idx5 m k hlt
      have hx := HN.out.get (by decide) k
      have ho := HM.out.get (by decide) k
      have hc := B0.out.cell k
      rw [lRow_at _ _ (by rw [pRow_len]; exact hlt), pRow_get n m k hlt] at hc
      have hf := B0.out.frozen k
      have hset := B0.out.set_ k (.int .u64 (n.list.getD k 0 + m.list.getD k 0))
      rw [lRow_set, pRow_set n m k hlt] at hset
      obtain ⟨x, hxe⟩ : ∃ x, Hid (n.list.getD k 0 = x) := ⟨_, rfl⟩
      obtain ⟨o, hoe⟩ : ∃ o, Hid (m.list.getD k 0 = o) := ⟨_, rfl⟩
      rw [hxe.out] at hx hc hset
      rw [hoe.out] at ho hix hset
      have HS := hid_ hset
      have t0 : (0 : Int) ≤ (k : Int) := by omega
      have t5 : (k : Int) < 5 := by omega
      clear hset
      go_wp2
      go_roundw
      case rel => exact ⟨k + 1, by omega, by go_num, HS.out, B1.out.far (by simp <;> omega) _, BB.out.setCell (by simp) _⟩
      case measure => simp [intOf]; omega
    · have hk5 : k = 5 := by omega
      have he : lRow (pRow n m k) = nRow (addN n m) := by rw [hk5]; rfl
      have B2 := B0.out
      rw [he] at B2
      clear hk5 he
      go_wp2_with (first
        | (refine wpList_load_row rfl 76 (.tmp 2) rfl w.heap.size rfl 76 (nRow (addN n m)) (0, 0) _ B2 Try.underlying76 rfl (E5.out _) ?_)
        | (refine wpList_put_row rfl 76 (.tmp 4) (.tmp 19) rfl (w.heap.size + 1 + 1) (nRow (addN n m)) rfl rfl 76 (nRow zeroN) B1.out (E5.out _) rfl (nRow_one _) ?_; intro w9 k9 g9 s9))
      exact bodyPost_ret (results_cell_row Try.results44 _ _ (w.heap.size + 1 + 1) 76 _ (0, 0) _ rfl k9 Try.underlying76 rfl (E5.out _)) rfl ⟨rfl, BB.out.grown g9 (by have := B1.out.lt; omega) (fun k hk => by injection hk with hk; omega)⟩

/-! ### reduced -/
def redIter (n : N5) : Nat → N5
  | 0 => n
  | k + 1 => redN1 (redIter n k)
theorem redIter_le {n : N5} (h : n.le 1000000000000000000) : ∀ k, (redIter n k).le 1000000000000000000
  | 0 => h
  | k + 1 => (redN1_le (redIter_le h k)).mono (by decide)

set_option maxRecDepth 100000 in
set_option maxHeartbeats 1000000 in
theorem reduced_any (n : N5) (hn : n.le 1000000000000000000) (w : World) :
    Calls Try.prog 71 #[.agg (nRow n)] w fun e w' => e = .returned (.agg (nRow (redN n))) ∧ Below w.heap.size w w' := by
  have hz := zN
  have HN := hid_ hn
  have e5 : ∀ m : N5, (Try.prog.info? 76).map (·.size) = some (nRow m).size := fun m => i5_
  have E5 := hid_ e5
  have a0 : Bk ((w.alloc (.cells (nRow n) 76)).alloc (.cells (nRow zeroN) 76)) w.heap.size 76 (nRow n) := (Bk.new w _ _).alloc _
  have a1 : Bk ((w.alloc (.cells (nRow n) 76)).alloc (.cells (nRow zeroN) 76)) (w.heap.size + 1) 76 (nRow zeroN) := by simpa using Bk.new (w.alloc (.cells (nRow n) 76)) 76 (nRow zeroN)
  have hb : Below w.heap.size w ((w.alloc (.cells (nRow n) 76)).alloc (.cells (nRow zeroN) 76)) := ((Below.refl _ _).alloc (Nat.le_refl _) _).alloc (by simp) _
  have A0 := hid_ a0
  have A1 := hid_ a1
  have HB := hid_ hb
  clear hn e5 a0 a1 hb
  go_enter Try.func71, Try.ntmps71
  go_wp2
  go_loopw [5] (fun i wr => ∃ k : Nat, k ≤ 2 ∧ i = .int .i64 k ∧ Bk wr w.heap.size 76 (nRow (redIter n k)) ∧ Bk wr (w.heap.size + 1) 76 (nRow zeroN) ∧ Below w.heap.size w wr) (fun i _ => 2 - (intOf i).toNat)
  case atStart => exact ⟨0, by omega, rfl, A0.out, A1.out, HB.out⟩
  case round =>
    obtain ⟨k, hk, rfl, b0, b1, bb⟩ := hrel
    have B0 := hid_ b0
    have B1 := hid_ b1
    have BB := hid_ bb
    clear b0 b1 bb A0 A1 HB
    by_cases hlt : k < 2
    · have hle := redIter_le HN.out k
      have hcl := carryN_le (redIter n k)
      have hc5 := (c_bd hle (Int.le_refl _)).2.2.2.2
      have cc := fun W => carried_any (redIter n k) hle W
      have hrd : redIter n (k + 1) = redN1 (redIter n k) := rfl
      generalize redIter n k = q at B0 hle hcl hc5 cc hrd
      obtain ⟨p, hp⟩ : ∃ p, Hid (carryN q = p) := ⟨_, rfl⟩
      obtain ⟨o, ho⟩ : ∃ o, Hid (c5 q = o) := ⟨_, rfl⟩
      have hnx : redIter n (k + 1) = ⟨p.a + 5 * o, p.b, p.c, p.d, p.e⟩ := by rw [hrd, ← hp.out, ← ho.out]; rfl
      have HNX := hid_ hnx
      rw [hp.out] at cc hcl
      rw [ho.out] at cc hc5
      have hpa := hcl.a
      clear hrd hnx hle hcl
      go_wp2_with (first
        | (refine wpList_load_row rfl 76 (.tmp 1) rfl w.heap.size rfl 76 (nRow q) (0, 0) _ B0.out Try.underlying76 rfl (E5.out _) ?_)
        | (go_at_call 72; ((with_reducible refine (cc _).mono ?_); rintro e w1 ⟨rfl, hb1⟩))
        | (refine wpList_put_row rfl 76 (.tmp 3) (.tmp 10) rfl w1.heap.size (nRow p) rfl rfl 76 (nRow zeroN) (Bk.new w1 _ _) (E5.out _) rfl (nRow_one _) ?_; intro w2 k2 g2 s2; have c0 : w2.cell? ⟨w1.heap.size, 0, none⟩ = some (.int .u64 p.a) := k2.cell 0; have f0 := k2.frozen 0; have q2 : Bk (w2.setCell ⟨w1.heap.size, 0, none⟩ (.int .u64 (p.a + 5 * o))) w1.heap.size 76 (nRow ⟨p.a + 5 * o, p.b, p.c, p.d, p.e⟩) := k2.set_ 0 (.int .u64 (p.a + 5 * o)); have K2 := hid_ q2; clear q2; have hl1 := hb1.size; have hw0 := B0.out.lt; have hw1 := B1.out.lt; have B3 := hid_ ((((B0.out.below hb1 hw0).alloc (.cells (nRow zeroN) 76)).grown g2 (fun e => by injection e with e; omega)).far (p := ⟨w1.heap.size, 0, none⟩) (by show w.heap.size ≠ w1.heap.size; omega) (.int .u64 (p.a + 5 * o))); have B4 := hid_ ((((B1.out.below hb1 hw1).alloc (.cells (nRow zeroN) 76)).grown g2 (fun e => by injection e with e; omega)).far (p := ⟨w1.heap.size, 0, none⟩) (by show w.heap.size + 1 ≠ w1.heap.size; omega) (.int .u64 (p.a + 5 * o)));  have X1 := BB.out.trans (hb1.mono BB.out.size); have X4 := hid_ (((X1.alloc X1.size (.cells (nRow zeroN) 76)).grown g2 (by have := X1.size; simp; omega) (fun i hi => by injection hi with hi; have := X1.size; omega)).setCell (p := ⟨w1.heap.size, 0, none⟩) X1.size (.int .u64 (p.a + 5 * o))); clear X1)
        | (refine wpList_load_row rfl 76 (.tmp 3) rfl w1.heap.size rfl 76 (nRow ⟨p.a + 5 * o, p.b, p.c, p.d, p.e⟩) (0, 0) _ K2.out Try.underlying76 rfl (E5.out _) ?_)
        | (refine wpList_put_row rfl 76 (.tmp 1) (.tmp 18) rfl w.heap.size (nRow ⟨p.a + 5 * o, p.b, p.c, p.d, p.e⟩) rfl rfl 76 (nRow q) B3.out (E5.out _) rfl (nRow_one _) ?_; intro w3 k3 g3 s3))
      rw [← HNX.out] at k3
      go_roundw
      case rel => exact ⟨k + 1, by omega, by go_num, k3, B4.out.grown g3 (fun e => by injection e with e; omega), X4.out.grown g3 (by have := X4.out.size; omega) (fun i hi => by injection hi with hi; omega)⟩
      case measure => simp [intOf]; omega
    · have hk2 : k = 2 := by omega
      have he : nRow (redIter n k) = nRow (redN n) := by rw [hk2]; rfl
      have B2 := B0.out
      rw [he] at B2
      clear hk2 he
      go_wp2_with (first
        | (refine wpList_load_row rfl 76 (.tmp 1) rfl w.heap.size rfl 76 (nRow (redN n)) (0, 0) _ B2 Try.underlying76 rfl (E5.out _) ?_)
        | (refine wpList_put_row rfl 76 (.tmp 2) (.tmp 20) rfl (w.heap.size + 1) (nRow (redN n)) rfl rfl 76 (nRow zeroN) B1.out (E5.out _) rfl (nRow_one _) ?_; intro w9 k9 g9 s9))
      exact bodyPost_ret (results_cell_row Try.results71 _ _ (w.heap.size + 1) 76 _ (0, 0) _ rfl k9 Try.underlying76 rfl (E5.out _)) rfl ⟨rfl, BB.out.grown g9 (by have := B1.out.lt; omega) (fun k hk => by injection hk with hk; omega)⟩
end Go.Proofs.Ytopmngjaieobnaa
