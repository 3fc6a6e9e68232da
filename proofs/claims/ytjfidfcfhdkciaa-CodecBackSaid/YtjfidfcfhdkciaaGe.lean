/-
  A part's kind and its text; the document's bytes of a number, of a byte, of bytes with their count.
-/
import Derived.Test.YtjfidfcfhdkciaaGd
import Derived.Test.YtjfidfcfhdkciaaBr
namespace Go.Proofs.Ytjfidfcfhdkciaa
open Go.ChangeShapes Go.WideShapes Go.ChangeAt Go.RowKit
set_option linter.unusedVariables false
set_option linter.unusedSimpArgs false

/-- The kind: one of four. -/
def PartV.k (p : PartV) : Nat := (p.kind % 4).toNat
theorem PartV.k_lt (p : PartV) : p.k < 4 := by unfold PartV.k; omega
theorem u64_some (z : Int) : ∃ x : Nat, IntKind.u64.wrap z = (x : Int) ∧ x % 4 = (z % 4).toNat ∧ x ≤ 18446744073709551615 := by
  have h : IntKind.u64.wrap z = z % 18446744073709551616 := by simp [IntKind.wrap, IntKind.signed, IntKind.bits]
  rw [h]
  exact ⟨(z % 18446744073709551616).toNat, by omega, by omega, by omega⟩
set_option maxRecDepth 100000 in
set_option maxHeartbeats 1000000 in
theorem kind_any (w : World) (p : PartV) : Calls Try.prog 18 #[p.agg] w fun e w' => e = .returned (.int .i64 (p.k : Int)) ∧ Below w.heap.size w w' := by
  obtain ⟨x, hx, hx4, hxb⟩ := u64_some p.kind
  have hk : x % 4 = p.k := hx4
  have hk4 := p.k_lt
  generalize p.k = k at *
  have r3 : (x : Int).tmod 4 = (k : Int) := by rw [Int.tmod_eq_emod_of_nonneg (by omega)]; omega
  have r4 : IntKind.u64.wrap (k : Int) = (k : Int) := IntWalk.u64_in _ (by omega)
  have r5 : IntKind.i64.wrap (k : Int) = (k : Int) := IntWalk.i64_in _ (by omega)
  have HB := hidg_ ((Below.refl w.heap.size w).alloc (Nat.le_refl _) (.cells #[.int .i64 p.kind, .int .i64 p.num, .slice p.at_ p.text.length p.cap] 36))
  unfold PartV.agg
  generalize p.kind = z at *
  clear hx4 hk
  go_enter Try.func18, Try.ntmps18
  go_wp2
  go_ret
  exact ⟨rfl, HB.out⟩
set_option maxRecDepth 100000 in
set_option maxHeartbeats 1000000 in
theorem text_any (w : World) (p : PartV) (m : Nat) (hp : PartOk w w.heap.size p) (hm : (p.text.take 200).length = m) :
    Calls Try.prog 20 #[p.agg] w (NewP w m (p.text.take 200)) := by
  obtain ⟨k0, k1, n0, n1, hr, hlc, hcm⟩ := hp
  have hmm : m = min p.text.length 200 := by rw [← hm, List.length_take, Nat.min_comm]
  have hm1 := fun W => run_min2 p.text.length 200 m hmm W
  rw [show ((200 : Nat) : Int) = 200 from rfl] at hm1
  have hs1 := fun W => slice_to p.at_ p.text.length p.cap (m : Int) m rfl (by omega) W
  have hr1 := (hr.take 200).alloc (Nat.le_refl _) (.cells #[.int .i64 p.kind, .int .i64 p.num, .slice p.at_ p.text.length p.cap] 36)
  have HB1 := (Below.refl w.heap.size w).alloc (Nat.le_refl _) (.cells #[.int .i64 p.kind, .int .i64 p.num, .slice p.at_ p.text.length p.cap] 36)
  unfold PartV.agg
  generalize p.kind = z at *
  generalize p.num = y at *
  generalize p.text.take 200 = t at *
  generalize p.text.length = n at *
  generalize p.at_ = A at *
  generalize p.cap = c at *
  obtain ⟨w1, hw1⟩ : ∃ w1, w.alloc (.cells #[.int .i64 z, .int .i64 y, .slice A n c] 36) = w1 := ⟨_, rfl⟩
  have HM := hidg_ hm
  have m200 : m ≤ 200 := by omega
  have hbase : w.heap.size ≤ (w.alloc (.cells #[.int .i64 z, .int .i64 y, .slice A n c] 36)).heap.size := by simp
  have hown0 := Own8.lit (w.alloc (.cells #[.int .i64 z, .int .i64 y, .slice A n c] 36)) w.heap.size [] hbase (Nat.zero_le _)
  have hown : Own8 ((w.alloc (.cells #[.int .i64 z, .int .i64 y, .slice A n c] 36)).alloc (.cells (rowOf []) 5)) w.heap.size (.slice (some ⟨w.heap.size + 1, 0, none⟩) 0 0) [] := by simpa using hown0
  have hwal := hidg_ (HB1.alloc hbase (.cells (rowOf []) 5))
  have hrt := hr1.alloc hbase (.cells (rowOf []) 5)
  clear hr hm hmm hw1 hr1 HB1 hown0
  go_enter Try.func20, Try.ntmps20
  have hle0 : ([] : List UInt8).length + m ≤ 140737488355328 := by simp; omega
  have hsz0 : w.heap.size ≤ ((w.alloc (.cells #[.int .i64 z, .int .i64 y, .slice A n c] 36)).alloc (.cells (rowOf []) 5)).heap.size := by simp; omega
  go_wp2_with (first
    | (at_builtin; refine wpList_app rfl (.tmp 3) (.tmp 10) rfl hown rfl m c rfl hrt HM.out hle0 hsz0 ?_; (intro A0 c0 w2 k1 k2 k3; have O2 := hidg_ k1; have X2 := hidg_ (hwal.out.grown k2 hsz0 (fun k hk => by simp [Value.ownBlock] at hk; omega)); clear k1 k2 k3 hrt hown)))
  go_ret
  exact ⟨A0, c0, by simp, by simpa using O2.out, X2.out⟩
end Go.Proofs.Ytjfidfcfhdkciaa
