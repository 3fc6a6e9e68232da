/-
  For MsgCut and MsgWrites (plain mathematics): how much a tamed message is.
-/
import Derived.Test.YtnlipmcnpekifaaMot
import Derived.Test.YtnlipmcnpekifaaMou
import Derived.Test.YtnlipmcnpekifaaMR
namespace Go.Proofs.Ytnlipmcnpekifaa
set_option maxRecDepth 100000
set_option linter.unusedVariables false
set_option linter.unusedSimpArgs false

theorem flatB_le {β : Type} (g : β → List UInt8) (k : Nat) : ∀ (b : List β), (∀ x ∈ b, (g x).length ≤ k) → (b.flatMap g).length ≤ b.length * k
  | [], _ => by simp
  | x :: b, h => by
    have h1 := h x (by simp)
    have h2 := flatB_le g k b fun y hy => h y (by simp [hy])
    rw [List.flatMap_cons, List.length_append, List.length_cons, Nat.add_mul]
    omega
theorem small_le (z : Int) : (smallL z).length ≤ 1 := by unfold smallL; split <;> simp
theorem num_le (z : Int) : (numL z).length ≤ 8 := by unfold numL; split <;> simp [highB_len]
theorem cnt_le {β : Type} (g : β → List UInt8) (k n : Nat) (b : List β) (h : ∀ x ∈ b, (g x).length ≤ k) (hn : b.length ≤ n) : (cntB g b).length ≤ 1 + n * k := by
  unfold cntB
  have h1 := small_le (b.length : Int)
  have h2 := flatB_le g k b h
  have h3 : b.length * k ≤ n * k := Nat.mul_le_mul_right _ hn
  rw [List.length_append]
  omega
/-- Of so little that it may be told. -/
structure Tame (m : MgV) : Prop where
  k32 : K32 m
  set : m.row.set.length ≤ 200
  ats : m.ats.length ≤ 260
  digs : m.digs.length ≤ 260
  rows : m.rows.length ≤ 260
  sets : ∀ r ∈ m.rows, r.set.length ≤ 60
theorem tm_tame (m : MgV) : Tame (tm m) := by
  refine ⟨⟨pad32_len _, fun d hd => ?_, fun r hr => ?_⟩, ?_, ?_, ?_, ?_, fun r hr => ?_⟩
  · obtain ⟨x, _, rfl⟩ := List.mem_map.1 hd
    exact pad32_len _
  · obtain ⟨x, _, rfl⟩ := List.mem_map.1 hr
    exact pad32_len _
  · simp only [tm, List.length_take]; omega
  · simp only [tm, List.length_take]; omega
  · simp only [tm, List.length_map, List.length_take]; omega
  · simp only [tm, List.length_map, List.length_take]; omega
  · obtain ⟨x, _, rfl⟩ := List.mem_map.1 hr
    simp only [tmR, List.length_take]; omega
theorem mgB_le {m : MgV} (h : Tame m) : (mgB m).length ≤ 100000 := by
  have h0 := small_le m.kind
  have h1 := small_le m.frm
  have h2 := num_le m.ask
  have h3 := small_le m.err
  have h4 := small_le m.for_
  have h5 := small_le m.level
  have hr : (krB m.row).length ≤ 236 := by
    have := h.k32.1; have := h.set
    unfold krB bytB
    rw [List.length_append, List.length_append, highB_len]
    omega
  have ha : (cntB numL m.ats).length ≤ 1 + 260 * 8 := cnt_le numL 8 260 m.ats (fun x _ => num_le x) h.ats
  have hd : (cntB id m.digs).length ≤ 1 + 260 * 32 := cnt_le id 32 260 m.digs (fun x hx => by have := h.k32.2.1 x hx; show x.length ≤ 32; omega) h.digs
  have hw : (cntB krB m.rows).length ≤ 1 + 260 * 96 := cnt_le krB 96 260 m.rows (fun x hx => by
    have := h.k32.2.2 x hx; have := h.sets x hx
    unfold krB bytB
    rw [List.length_append, List.length_append, highB_len]
    omega) h.rows
  have hk := h.k32.1
  have hb : (bodyB m).length ≤ 50000 := by
    unfold bodyB
    repeat' split
    all_goals ((try simp only [List.length_append, List.length_nil]); omega)
  unfold mgB
  simp only [List.length_append]
  omega
theorem mgB_pos {m : MgV} (h : MgOk m) : 0 < (mgB m).length := by
  obtain ⟨⟨a1, a2⟩, _⟩ := h
  unfold mgB
  have : (smallL m.kind).length = 1 := by unfold smallL; rw [if_pos (by omega)]; rfl
  rw [List.length_append]
  omega
theorem Tame.few {q : MgA} (h : Tame q.v) : q.Few :=
  ⟨by have := h.set; show q.v.row.set.length ≤ _; omega, by have := h.ats; show q.v.ats.length ≤ _; omega, by have := h.digs; show q.v.digs.length ≤ _; omega, by have := h.rows; have e : q.v.rows.length = q.rows.length := List.length_map ..; omega, fun r hr => by have := h.sets r.r (List.mem_map_of_mem hr); omega⟩
theorem u64_natM (z : Int) : ∃ x : Nat, IntKind.u64.wrap z = (x : Int) ∧ x ≤ 18446744073709551615 := by
  have h : IntKind.u64.wrap z = z % 18446744073709551616 := by simp [IntKind.wrap, IntKind.signed, IntKind.bits]
  have h0 : 0 ≤ z % 18446744073709551616 := Int.emod_nonneg _ (by omega)
  have h1 : z % 18446744073709551616 < 18446744073709551616 := Int.emod_lt_of_pos _ (by omega)
  exact ⟨(z % 18446744073709551616).toNat, by rw [h]; omega, by omega⟩
end Go.Proofs.Ytnlipmcnpekifaa
