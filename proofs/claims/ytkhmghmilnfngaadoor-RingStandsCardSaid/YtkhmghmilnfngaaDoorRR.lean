/-
  Merged: R2 R0 R1.
-/
import Derived.Test.YtkhmghmilnfngaaDoorPT
import Derived.Deep.RegionLaw
import Derived.Laws.OwnMore
import Derived.Test.YtkhmghmilnfngaaDoorSS
import Derived.Test.YtkhmghmilnfngaaDoorAm
namespace Go.Proofs.YtkhmghmilnfngaaDoor
set_option maxRecDepth 100000
open Go.RowKit
set_option linter.unusedVariables false

theorem flatten_take_succ (ls : List (List UInt8)) (k : Nat) (hk : k < ls.length) : (ls.take (k + 1)).flatten = (ls.take k).flatten ++ ls.getD k [] := by
  rw [List.take_succ_eq_append_getElem hk, List.flatten_append]
  simp [List.getD, hk]
theorem flatten_take_le (ls : List (List UInt8)) (k : Nat) : (ls.take k).flatten.length ≤ ls.flatten.length := by
  have h := congrArg (fun l => l.flatten.length) (List.take_append_drop k ls)
  simp only [List.flatten_append, List.length_append] at h
  omega

/-- The cell of a part that doesn't lie in that row. -/
def PartN (w : World) (row : Option Nat) (v : Value) (m : List UInt8) : Prop := ∃ A c, v = .slice A m.length c ∧ m.length ≤ c ∧ c ≤ maxLen ∧ (0 < m.length → ∃ b off, A = some ⟨b, off, none⟩ ∧ b < w.heap.size ∧ some b ≠ row ∧ ∀ j, j < m.length → w.cell? ⟨b, off + j, none⟩ = some (.int .u8 ((m.getD j 0).toNat : Int)))
def OwnQ (w : World) (base : Nat) (v : Value) (ls : List (List UInt8)) : Prop := ∃ vs, w.ownsRow base 38 1 v ls.length vs ∧ vs.length = ls.length ∧ ∀ j, j < ls.length → ∃ u, vs[j]? = some u ∧ PartN w v.ownBlock u (ls.getD j [])

section
variable {w w' : World} {base : Nat} {v : Value} {ls : List (List UInt8)}
theorem PartN.move {row row' : Option Nat} {u : Value} {m : List UInt8} (h : PartN w row u m) (hs : w.heap.size ≤ w'.heap.size) (hk : ∀ b, b < w.heap.size → some b ≠ row → w'.heap[b]? = w.heap[b]?) (hr : ∀ b, b < w.heap.size → some b ≠ row → some b ≠ row') : PartN w' row' u m := by
  obtain ⟨A, c, h1, h2, h3, h4⟩ := h
  refine ⟨A, c, h1, h2, h3, fun hm => ?_⟩
  obtain ⟨b, off, e, hb, hne, hc⟩ := h4 hm
  exact ⟨b, off, e, by omega, hr b hb hne, fun j hj => (World.cell?_of_block (hk b hb hne)).trans (hc j hj)⟩
theorem OwnQ.lt (h : OwnQ w base v ls) : ∀ g, v.ownBlock = some g → base ≤ g ∧ g < w.heap.size := by
  obtain ⟨vs, h1, _⟩ := h
  exact World.ownsRow.lt h1
theorem OwnQ.form (h : OwnQ w base v ls) : ∃ A c, v = .slice A ls.length c := by
  obtain ⟨vs, h1, _⟩ := h
  rcases h1.2 with ⟨hv, h0⟩ | ⟨g, cap, cur, hv, _⟩
  · exact ⟨none, 0, by rw [h0]; exact hv⟩
  · exact ⟨_, cap, hv⟩
theorem OwnQ.nil_ (w : World) (base : Nat) : OwnQ w base (.slice none 0 0) [] := ⟨[], World.ownsRow_nil w base 38 1, rfl, fun j hj => absurd hj (by simp)⟩
theorem OwnQ.drew (h : OwnQ w base v ls) : OwnQ w.drew base v ls := h
theorem OwnQ.kept {row : Option Nat} (h : OwnQ w base v ls) (hg : w.grownBy w' row) (hne : v.ownBlock = none ∨ v.ownBlock ≠ row) (hp : ∀ b, b < w.heap.size → some b ≠ row) : OwnQ w' base v ls := by
  obtain ⟨vs, h1, h2, h3⟩ := h
  refine ⟨vs, World.ownsRow.kept h1 hg hne, h2, fun j hj => ?_⟩
  obtain ⟨u, h4, h5⟩ := h3 j hj
  exact ⟨u, h4, h5.move hg.size (fun b hb _ => hg.block b hb (hp b hb)) (fun b hb h => h)⟩
theorem OwnQ.alloc (h : OwnQ w base v ls) (o : Obj) : OwnQ (w.alloc o) base v ls := h.kept (World.grownBy_alloc w o none) (by cases hv : v.ownBlock <;> simp) (fun b _ => by simp)
theorem OwnQ.parts (h : OwnQ w base v ls) {A : Option Addr} {n c : Nat} (hv : v = .slice A n c) : Parts w w.heap.size A ls := by
  have hlt := h.lt
  obtain ⟨vs, h1, h2, h3⟩ := h
  intro h0
  rcases h1.2 with ⟨hv', h0'⟩ | ⟨g, cap, cur, hv', _⟩
  · omega
  · subst hv
    injection hv' with e1 e2 e3
    subst e1
    refine ⟨g, 0, rfl, (hlt g rfl).2, fun j hj => ?_⟩
    obtain ⟨u, hu, A', c', rfl, hl, hm, hr⟩ := h3 j hj
    subst e2
    subst e3
    have hc := World.ownsRow.cellAt h1 j (by omega)
    refine ⟨A', c', ?_, fun hn => ?_, hl, hm⟩
    · rw [Nat.zero_add, hc, hu]
    · obtain ⟨b, off, e, hb, _, hcc⟩ := hr hn
      exact ⟨b, off, e, hb, hcc⟩
/-- append of one part. -/
theorem run_appQ (h : OwnQ w base v ls) (g : Nat) (u : Value) (hu : u.oneCell' = true) (hc : w.cell? ⟨g, 0, none⟩ = some u) {m : List UInt8} (hm : PartN w v.ownBlock u m) (ty : TypeId) (c : Nat) (hsz : ls.length + 1 ≤ 1000000) (hbase : base ≤ w.heap.size) :
    ∃ v' w', (Builtin.append_ #[65, 65] ty #[v, .slice (some ⟨g, 0, none⟩) 1 c]).run Tryd.prog w = .ok v' w' ∧ OwnQ w' base v' (ls ++ [m]) ∧ w.grownBy w' v.ownBlock := by
  have hlt := h.lt
  obtain ⟨vs, h1, h2, h3⟩ := h
  obtain ⟨i, hi, hz, hsize, hby⟩ := info_parts infoS
  obtain ⟨v', w', hrun, h5, h4, _, h6⟩ := run_append_own_at (P := Tryd.prog) w base 65 ty 38 i (.slice none 0 0) 1 24 Tryd.underlying65 hi hz hsize hby rfl (by decide) v ls.length vs h1 ⟨g, 0, none⟩ 1 c [u]
      rfl (fun j x hx => by
        match j, hx with
        | 0, hx => obtain rfl : u = x := by simpa using hx
                   exact hc) (fun x hx => by obtain rfl : x = u := by simpa using hx
                                             exact hu) (by simp only [maxLen]; omega) (by omega) hbase
  have hrow : ∀ b, b < w.heap.size → some b ≠ v.ownBlock → some b ≠ v'.ownBlock := fun b hb hne => by
    rcases h6 with e | e
    · rw [e]; exact hne
    · rw [e]; intro e2; injection e2 with e2; omega
  refine ⟨v', w', hrun, ⟨vs ++ [u], ?_, by simp [h2], fun j hj => ?_⟩, h4⟩
  · rw [List.length_append]
    exact h5
  · rcases Nat.lt_or_ge j ls.length with h7 | h7
    · obtain ⟨x, h8, h9⟩ := h3 j h7
      refine ⟨x, by rw [List.getElem?_append_left (by rw [h2]; exact h7)]; exact h8, ?_⟩
      have : (ls ++ [m]).getD j [] = ls.getD j [] := by simp [List.getD, List.getElem?_append_left h7]
      rw [this]
      exact h9.move h4.size (fun b hb hne => h4.block b hb hne) hrow
    · simp at hj
      obtain rfl : j = ls.length := by omega
      refine ⟨u, by rw [← h2]; simp, ?_⟩
      have : (ls ++ [m]).getD ls.length [] = m := by simp [List.getD]
      rw [this]
      exact hm.move h4.size (fun b hb hne => h4.block b hb hne) hrow
theorem wp_appQ {o : Oper} {a : Act} {K : Act → World → Prop} {Q : Exit → Act → World → Prop} (s x : Operand)
    (ho : o.op = .call { callee := .builtin .append, args := #[s, x], argTypes := #[65, 65] })
    (h : OwnQ w base v ls) (hs : a.eval s = v) (g c : Nat) (hx : a.eval x = .slice (some ⟨g, 0, none⟩) 1 c) (u : Value) (hu : u.oneCell' = true) (hc : w.cell? ⟨g, 0, none⟩ = some u) {m : List UInt8} (hm : PartN w v.ownBlock u m)
    (nl : Nat) (hnl : ls.length = nl) (hsz : nl + 1 ≤ 1000000) (hbase : base ≤ w.heap.size)
    (hK : ∀ A' c' w', OwnQ w' base (.slice A' (nl + 1) c') (ls ++ [m]) → w.grownBy w' v.ownBlock → K (a.put o.dst (.slice A' (nl + 1) c')) w') : o.wp Tryd.prog a w K Q := by
  subst hnl
  obtain ⟨v', w', hrun, h2, h3⟩ := run_appQ h g u hu hc hm o.type c hsz hbase
  obtain ⟨A', c', hv⟩ := h2.form
  rw [List.length_append, List.length_singleton] at hv
  subst hv
  unfold Oper.wp execOp
  simp only [ho, resolve, invoke, builtin, Sem.run_bind, Sem.run_pure, Result.andThen_ok, List.map_toArray, List.map_cons, List.map_nil, hs, hx, hrun]
  exact hK A' c' w' h2 h3
theorem step_appQ {ops : Array Oper} {o : Oper} {a : Act} {K : Act → World → Prop} {Q : Exit → Act → World → Prop} {E : Prop} (hgd : o.guard = none) (s x : Operand)
    (ho : o.op = .call { callee := .builtin .append, args := #[s, x], argTypes := #[65, 65] })
    (h : OwnQ w base v ls) (hs : a.eval s = v) (g c : Nat) (hx : a.eval x = .slice (some ⟨g, 0, none⟩) 1 c) (u : Value) (hu : u.oneCell' = true) (hc : w.cell? ⟨g, 0, none⟩ = some u) {m : List UInt8} (hm : PartN w v.ownBlock u m)
    (nl : Nat) (hnl : ls.length = nl) (hsz : nl + 1 ≤ 1000000) (hbase : base ≤ w.heap.size)
    (hK : ∀ A' c' w', OwnQ w' base (.slice A' (nl + 1) c') (ls ++ [m]) → w.grownBy w' v.ownBlock → K (a.put o.dst (.slice A' (nl + 1) c')) w') :
    if Region.wanted o (yielded ops a.tmps) = true then Oper.wp Tryd.prog o a w K Q else E := by
  have hw : Region.wanted o (yielded ops a.tmps) = true := by simp [Region.wanted, hgd]
  rw [if_pos hw]
  exact wp_appQ s x ho h hs g c hx u hu hc hm nl hnl hsz hbase hK
/-- A slice of bytes of the call's own as a part: in no row that was there ahead of it. -/
theorem Own8.partN {A : Option Addr} {n c : Nat} {l : List UInt8} (h : Own8 w base (.slice A n c) l) (row : Option Nat) (hr : ∀ g, row = some g → g < base) : PartN w row (.slice A n c) l := by
  rcases h.2 with ⟨hv, h0⟩ | ⟨g, cap, cur, hv, hb, hg, hn, hm, hs, ht⟩
  · injection hv with e1 e2 e3
    subst e1 e2 e3
    refine ⟨none, 0, by rw [h0], by omega, Nat.zero_le _, fun hn => absurd hn (by omega)⟩
  · have hrd := h.rd
    have hlt := World.ownsRow.lt h
    injection hv with e1 e2 e3
    subst e1 e2 e3
    refine ⟨_, _, rfl, hn, hm, fun h0 => ?_⟩
    obtain ⟨b, off, e, hb2, hc⟩ := hrd.1 h0
    injection e with e
    injection e with e4 e5
    subst e4 e5
    exact ⟨g, 0, rfl, hb2, fun e => by have := hr g e.symm; omega, hc⟩
end
theorem slice_to (A : Option Addr) (n c : Nat) (z : Int) (k : Nat) (hz : z = (k : Int)) (hk : k ≤ c) (W : World) :
    (Instr.slice 38 (.slice A n c) none (some (.int .i64 z)) none).run Tryd.prog W = .ok (.slice A k c) W := by
  subst hz
  have he : Tryd.prog.elem 38 = 5 := by kernel_rfl
  rw [run_slice_h W 38 A n c (by rw [he]; exact Tryd.underlying38) .i64 k (by omega) (by omega)]
  have hs : (sizeOf (Tryd.prog.elem 38)).run Tryd.prog W = .ok 1 W := by
    rw [he]
    obtain ⟨i, hi, hz, hsize, hby⟩ := info_parts info8
    simp [sizeOf, typeInfo, hi, hsize]
  rw [hs]
  simp only [Result.andThen, sliced]
  congr 2
  by_cases h : c = 0
  · rw [if_pos h]
  · rw [if_neg h]
    cases A with
    | none => rfl
    | some a => simp [Addr.add]
/-- Behind a new block, and what was written there. -/
theorem grown_skip {a b c : World} {g : Nat} (h : a.grownBy b none) (k : b.grownBy c (some g)) (hg : a.heap.size ≤ g) : a.grownBy c none :=
  ⟨k.os.trans h.os, k.tape.trans h.tape, k.output.trans h.output, Nat.le_trans h.size k.size, fun i hi hne => (k.block i (Nat.lt_of_lt_of_le hi h.size) (fun e => by injection e with e; omega)).trans (h.block i hi hne)⟩
/-- What a round of Few makes of the slice so far. -/
theorem few_step {wr w2 : World} {base : Nat} {v : Value} {ls : List (List UInt8)} {A' : Option Addr} {c' r : Nat} {l : List UInt8} (o : Obj) (h : OwnQ wr base v ls) (hg : (wr.alloc o).grownBy w2 (some wr.heap.size)) (hk : Own8 w2 wr.heap.size (.slice A' r c') l) :
    OwnQ (w2.alloc (.cells #[.slice A' r c'] 38)) base v ls ∧ PartN (w2.alloc (.cells #[.slice A' r c'] 38)) v.ownBlock (.slice A' r c') l ∧ wr.heap.size ≤ w2.heap.size ∧ wr.grownBy w2 none := by
  have hs := grown_skip (World.grownBy_alloc wr o none) hg (Nat.le_refl _)
  have hlt := h.lt
  have h2 : OwnQ w2 base v ls := h.kept hs (by cases hv : v.ownBlock <;> simp) (fun b _ => by simp)
  refine ⟨h2.alloc _, (hk.partN v.ownBlock (fun g hg => (hlt g hg).2)).move (by simp) (fun b hb _ => Below.heap_alloc w2 _ b hb) (fun _ _ h => h), hs.size, hs⟩

/-- What Few answers. -/
def FewPost (w : World) (L : List (List UInt8)) (e : Ending) (w' : World) : Prop := ∃ A' n' c', e = .returned (.slice A' n' c') ∧ L.length = n' ∧ Parts w' w'.heap.size A' L ∧ Below w.heap.size w w'

end Go.Proofs.YtkhmghmilnfngaaDoor

namespace Go.Proofs.YtkhmghmilnfngaaDoor
set_option maxRecDepth 100000
open Go.RowKit

/-- The words behind j whole blocks. -/
def over (P : List UInt8) : Nat → S8
  | 0 => startS
  | j + 1 => comp (over P j) ((P.drop (64 * j)).take 64)
theorem over_ok (P : List UInt8) : ∀ j, (over P j).ok
  | 0 => startS_ok
  | _ + 1 => comp_ok _ _
theorem absorb_over (P : List UInt8) : ∀ j, 64 * j ≤ P.length → ∃ blk, start.absorb (P.take (64 * j)) = ⟨over P j, blk, 0⟩ ∧ blk.length = 64
  | 0, _ => ⟨zbytes 64, rfl, zbytes_len 64⟩
  | j + 1, h => by
    obtain ⟨blk, e, hb⟩ := absorb_over P j (by omega)
    have hl : ((P.drop (64 * j)).take 64).length = 64 := by rw [List.length_take, List.length_drop]; omega
    refine ⟨laid blk 0 ((P.drop (64 * j)).take 64), ?_, by rw [laid_len (by rw [hl, hb]; omega), hb]⟩
    have hp : P.take (64 * (j + 1)) = P.take (64 * j) ++ (P.drop (64 * j)).take 64 := by
      rw [show 64 * (j + 1) = 64 * j + 64 by omega, List.take_add]
    have hlaid : ∀ q : List UInt8, q.length = 64 → laid blk 0 q = q := fun q hq => by
      unfold laid
      rw [List.take_zero, List.nil_append, hq, List.drop_of_length_le (by omega), List.append_nil]
    rw [hp, Msg.absorb_append, e, absorb_full _ _ hb (by rw [hl]; omega) (by rw [hl])]
    simp only
    rw [hlaid _ hl]
    rfl
theorem sha_over (l P : List UInt8) (nb : Nat) (hP : l ++ [128] ++ List.replicate (gap (l.length % 64)) 0 ++ highB 8 (8 * l.length) = P) (hl : P.length = 64 * nb) : sha l = digestOf (over P nb) := by
  have e : l ++ tail (l.length % 64) l.length = P.take (64 * nb) := by
    rw [List.take_of_length_le (by omega), ← hP]
    unfold tail
    simp [List.append_assoc]
  obtain ⟨blk, h, _⟩ := absorb_over P nb (by omega)
  unfold sha
  rw [e, h]
/-- The next word, in the order in which the reference adds. -/
theorem nextW_ref (L : List Int) (a b c d : Int) (ha : L.getD (L.length - 16) 0 = a) (hb : L.getD (L.length - 7) 0 = b) (hc : L.getD (L.length - 15) 0 = c) (hd : L.getD (L.length - 2) 0 = d) :
    (a + ssig0 c + b + ssig1 d) % 4294967296 = nextW L := by
  unfold nextW
  rw [ha, hb, hc, hd]
  congr 1
  omega
end Go.Proofs.YtkhmghmilnfngaaDoor

namespace Go.Proofs.YtkhmghmilnfngaaDoor
set_option maxRecDepth 100000
open Go.RowKit
set_option linter.unusedVariables false

/-- A part of a slice. -/
theorem slice_mid (A : Option Addr) (n c lo hi : Nat) (zl zh : Int) (hzl : zl = (lo : Int)) (hzh : zh = (hi : Int)) (h1 : lo ≤ hi) (h2 : hi ≤ n) (h3 : n ≤ c) (W : World) :
    (Instr.slice 38 (.slice A n c) (some (.int .i64 zl)) (some (.int .i64 zh)) none).run Tryd.prog W = .ok (.slice (if c = lo then A else A.map (·.add lo)) (hi - lo) (c - lo)) W := by
  subst hzl hzh
  have he : Tryd.prog.elem 38 = 5 := by kernel_rfl
  rw [run_slice_lh W 38 A n c (by rw [he]; exact Tryd.underlying38) .i64 .i64 lo hi (by omega) (by omega) (by omega)]
  have hs : (sizeOf (Tryd.prog.elem 38)).run Tryd.prog W = .ok 1 W := by
    rw [he]
    obtain ⟨i, hi, hz, hsize, hby⟩ := info_parts info8
    simp [sizeOf, typeInfo, hi, hsize]
  rw [hs]
  simp only [Result.andThen, sliced, Int.toNat_natCast, Nat.mul_one]
theorem rd_mid {w : World} {B : Nat} {A : Option Addr} {l : List UInt8} (h : Rd w B A l) (c lo hi : Nat) (hlh : lo ≤ hi) (hk : hi ≤ l.length) (hc : l.length ≤ c) : Rd w B (if c = lo then A else A.map (·.add lo)) ((l.drop lo).take (hi - lo)) := by
  by_cases hck : c = lo
  · rw [if_pos hck]
    have : (l.drop lo).take (hi - lo) = [] := by
      rw [List.drop_eq_nil_of_le (by omega), List.take_nil]
    rw [this]
    exact Rd.nil
  · rw [if_neg hck]
    refine Rd.take ?_ _
    intro hn
    have hl : 0 < l.length := by simp at hn; omega
    obtain ⟨b, off, e, _⟩ := h hl
    subst e
    have hadd : (⟨b, off, none⟩ : Addr).add lo = ⟨b, off + lo, none⟩ := by unfold Addr.add; split <;> simp_all
    rw [Option.map_some, hadd]
    exact h.drop lo hn

/-- A slice of the call's own that is not empty. -/
theorem OwnT.some_ {w : World} {base : Nat} {A : Option Addr} {n c : Nat} {l : List UInt8} (h : OwnT w base (.slice A n c) l) (hl : 0 < l.length) : ∃ g, A = some ⟨g, 0, none⟩ := by
  rcases h with ⟨_, rfl⟩ | ⟨g, cap, cur, fz, hv, _⟩
  · simp at hl
  · injection hv with e1
    exact ⟨g, e1⟩
/-- A part of it. -/
theorem slice_mid2 (g n c lo hi : Nat) (zl zh : Int) (hzl : zl = (lo : Int)) (hzh : zh = (hi : Int)) (h1 : lo < hi) (h2 : hi ≤ n) (h3 : n ≤ c) (W : World) :
    (Instr.slice 38 (.slice (some ⟨g, 0, none⟩) n c) (some (.int .i64 zl)) (some (.int .i64 zh)) none).run Tryd.prog W = .ok (.slice (some ⟨g, lo, none⟩) (hi - lo) (c - lo)) W := by
  rw [slice_mid (some ⟨g, 0, none⟩) n c lo hi zl zh hzl hzh (by omega) h2 h3 W, if_neg (by omega)]
  have hadd : (⟨g, 0, none⟩ : Addr).add lo = ⟨g, lo, none⟩ := by unfold Addr.add; split <;> simp_all
  rw [Option.map_some, hadd]
theorem t1_ref (r : S8) (kx wx : Int) : ((r.h + bits BinOp.xor .u32 (bits BinOp.xor .u32 (rotn 26 r.e) (rotn 21 r.e)) (rotn 7 r.e) + bits BinOp.xor .u32 (bits BinOp.and .u32 r.e r.f) (bits BinOp.and .u32 (bits BinOp.xor .u32 (if IntKind.u32.signed = true then -1 else IntKind.u32.max) r.e) r.g) + kx) % 4294967296 + wx) % 4294967296 = t1 r kx wx := by
  rw [Int.emod_add_emod]
  rfl
theorem t2_ref (r : S8) : (bits BinOp.xor .u32 (bits BinOp.xor .u32 (rotn 30 r.a) (rotn 19 r.a)) (rotn 10 r.a) + bits BinOp.xor .u32 (bits BinOp.xor .u32 (bits BinOp.and .u32 r.a r.b) (bits BinOp.and .u32 r.a r.c)) (bits BinOp.and .u32 r.b r.c)) % 4294967296 = t2 r := rfl

theorem wordsRow8 (s : S8) : s.list.length = 8 := rfl

set_option maxRecDepth 100000 in
set_option maxHeartbeats 4000000 in
theorem refSum_any (l : List UInt8) (w : World) (hl : l.length ≤ 1000000) :
    Calls Tryd.prog 43 #[.string (strOf l)] w fun e w' => e = .returned (.string (strOf (sha l))) ∧ Below w.heap.size w w' := by
  have c0 := fun W => constants_any W
  have hz := z64
  have hz8 := z8
  have e64 : (Tryd.prog.info? 90).map (·.size) = some (wordsRow roundK).size := by rw [wordsRow_size, roundK_len]; exact i64_
  have e8 : (Tryd.prog.info? 67).map (·.size) = some (wordsRow startH).size := by rw [wordsRow_size, startH_len]; exact i8_
  have q64 : (wordsRow (zeros 64)).size = (wordsRow roundK).size := by rw [wordsRow_size, wordsRow_size, roundK_len, zeros_len]
  have q8 : (wordsRow (zeros 8)).size = (wordsRow startH).size := by rw [wordsRow_size, wordsRow_size, startH_len, zeros_len]
  have E64 := hid_ e64
  have E8 := hid_ e8
  have Q64 := hid_ q64
  have Q8 := hid_ q8
  clear e64 e8 q64 q8
  have RB : ∀ (W : World) (k : Nat), W.heap.size = k → Rd (W.alloc (.cells #[.int .u8 128] 5)) (k + 1) (some ⟨k, 0, none⟩) [128] := fun W k h => by subst h; exact rd_byte W 128 128 rfl
  go_enter Tryd.func43, Tryd.ntmps43
  go_wp2_with (first
    | (go_at_call 50; ((with_reducible refine (c0 _).mono ?_); rintro e w1 ⟨rfl, hb1⟩))
    | (refine wpList_put_row rfl 90 (.tmp 3) (.tmp 23) rfl w1.heap.size (wordsRow roundK) rfl rfl 90 (wordsRow (zeros 64)) ((Bk.new w1 _ _).alloc _) E64.out Q64.out (words_one _) ?_; intro w2 m2 g2 s2)
    | (refine wpList_put_row rfl 67 (.tmp 4) (.tmp 24) rfl (w1.heap.size + 1) (wordsRow startH) rfl rfl 67 (wordsRow (zeros 8)) (Bk.grown (by simpa using Bk.new (w1.alloc (.cells (wordsRow (zeros 64)) 90)) 67 (wordsRow (zeros 8))) g2 (fun e => by injection e with e; omega)) E8.out Q8.out (words_one _) ?_; intro w3 m3 g3 s3; have l3 : w1.heap.size + 1 + 1 ≤ w3.heap.size := (by rw [s3, s2]; simp); have G2 := hid_ g2; have G3 := hid_ g3; have S2 := hid_ s2; have S3 := hid_ s3; have M2 := hid_ m2; have M3 := hid_ m3; have HB1 := hid_ hb1; clear g2 g3 s2 s3 m2 m3 hb1; have cs := OwnT.of_string w3 (w1.heap.size + 1 + 1) l l3 (by simp only [maxLen]; omega); have cs1 := cs.1; have OW := hid_ cs.2; clear cs)
    | (refine wpList_appT rfl (.tmp 27) (.tmp 28) rfl (OW.out.alloc _) rfl 1 1 rfl (RB _ _ (by simp)) rfl (by omega) (by omega) (by simp; omega) ?_; intro A5 c5 w5 h5 g5))
  have q1 := HB1.out.size
  have hsz1 := HB1.out.size
  obtain ⟨G, hG⟩ : ∃ G, Hid (w1.heap.size = G) := ⟨_, rfl⟩
  have mK : Bk w5 w1.heap.size 90 (wordsRow roundK) := ((((M2.out.grown G3.out (fun e => by injection e with e; omega)).drew).alloc _).alloc _).grown g5 (fun e => by simp [Value.ownBlock] at e; omega)
  have mH : Bk w5 (w1.heap.size + 1) 67 (wordsRow startH) := (((M3.out.drew).alloc _).alloc _).grown g5 (fun e => by simp [Value.ownBlock] at e; omega)
  have bw5 : Below w.heap.size w w5 := ((((((((HB1.out.alloc q1 (.cells (wordsRow (zeros 64)) 90)).alloc (by simp; omega) (.cells (wordsRow (zeros 8)) 67)).grown G2.out (by simp; omega) (fun k hk => by injection hk with hk; omega)).grown G3.out (by rw [S2.out]; simp; omega) (fun k hk => by injection hk with hk; omega)).drew).alloc (by show _ ≤ w3.heap.size; omega) _).alloc (by simp; omega) _).grown g5 (by simp; omega) (fun k hk => by simp [Value.ownBlock] at hk; omega))
  rw [hG.out] at mK mH h5 ⊢
  have MK := hid_ mK
  have MH := hid_ mH
  have BW := hid_ bw5
  have HO := hid_ h5
  clear mK mH bw5 h5 g5 M2 M3 G2 G3 S2 S3 HB1 cs1 OW l3 q1
  have HGw : Hid (w.heap.size ≤ G) := by rw [← hG.out]; exact hsz1
  obtain ⟨n, hn⟩ : ∃ n, Hid (l.length = n) := ⟨_, rfl⟩
  rw [hn.out] at HO hl ⊢
  go_loopw [5] (fun v wr => ∃ (k : Nat) (A : Option Addr) (c : Nat), k ≤ gap (n % 64) ∧ v = .slice A (n + 1 + k) c ∧ Hid (OwnT wr (G + 1 + 1) (.slice A (n + 1 + k) c) (l ++ [128] ++ List.replicate k 0)) ∧ Bk wr G 90 (wordsRow roundK) ∧ Bk wr (G + 1) 67 (wordsRow startH) ∧ Below w.heap.size w wr) (fun v _ => gap (n % 64) + n + 1 - lenOf v)
  case atStart => exact ⟨0, A5, c5, Nat.zero_le _, rfl, by simpa using HO, MK.out, MH.out, BW.out⟩
  case round =>
    obtain ⟨k, A, c, hk, rfl, ho, mk, mh, hb⟩ := hrel
    have HO2 := ho
    have MK2 := hid_ mk
    have MH2 := hid_ mh
    have BW2 := hid_ hb
    clear ho mk mh hb MK MH BW HO
    have hgl : gap (n % 64) < 64 := by unfold gap; omega
    by_cases hlt : k < gap (n % 64)
    · have hne : ¬ ((n : Int) + 1 + (k : Int)) % 64 = 56 := by unfold gap at hlt; omega
      have d1 : (((n : Int) + 1 + (k : Int)) % 64 != 56) = true := by simpa using hne
      have RZ : ∀ (W : World) (k : Nat), W.heap.size = k → Rd (W.alloc (.cells #[.int .u8 0] 5)) (k + 1) (some ⟨k, 0, none⟩) [0] := fun W k h => by subst h; exact rd_byte W 0 0 rfl
      have hll : (l ++ [128] ++ List.replicate k 0).length = n + 1 + k := by simp [hn.out]; omega
      have HLL := hid_ hll
      clear hll
      go_wp2_with (first
        | (refine wpList_appT rfl (.tmp 34) (.tmp 35) rfl (HO2.out.alloc _) rfl 1 1 rfl (RZ _ _ rfl) rfl (by omega) (by rw [HLL.out]; omega) (by have := MH2.out.lt; simp; omega) ?_; intro A6 c6 w6 h6 g6; rw [HLL.out] at *))
      have hlt2 := HO2.out.lt
      have q3 := MH2.out.lt
      have q4 := BW2.out.size
      have hne1 : ∀ i, (Value.slice A (n + 1 + k) c).ownBlock = some i → G + 1 + 1 ≤ i := fun i hi => (hlt2 i hi).1
      have kG : Bk w6 G 90 (wordsRow roundK) := (MK2.out.alloc _).grown g6 (fun e => by have := hne1 G e.symm; omega)
      have kH : Bk w6 (G + 1) 67 (wordsRow startH) := (MH2.out.alloc _).grown g6 (fun e => by have := hne1 (G + 1) e.symm; omega)
      have hGw : w.heap.size ≤ G := HGw.out
      have kB := (BW2.out.alloc q4 (.cells #[.int .u8 0] 5)).grown g6 (by simp; omega) (fun i hi => by have := hne1 i hi; omega)
      have hrep : l ++ [128] ++ List.replicate k 0 ++ [0] = l ++ [128] ++ List.replicate (k + 1) 0 := by rw [List.append_assoc, ← List.replicate_succ']
      rw [hrep] at h6
      exact ⟨⟨k + 1, A6, c6, by omega, rfl, h6, kG, kH, kB⟩, by simp only [lenOf]; omega⟩
    · obtain rfl : k = gap (n % 64) := by omega
      have heq : ((n : Int) + 1 + ((gap (n % 64) : Nat) : Int)) % 64 = 56 := by unfold gap; omega
      generalize hgk0 : gap (n % 64) = k at *
      have d1 : (((n : Int) + 1 + (k : Int)) % 64 != 56) = false := by simpa using heq
      have hs : (strOf l).size = n := by rw [strOf_size, hn.out]
      have cp : ∀ W : World, Calls Tryd.prog 51 #[.int .u64 ((n : Int) * 8), .int .i64 8, .bool true] W fun e w' => e = .returned (.string (strOf (highB 8 (8 * n)))) ∧ Below W.heap.size W w' := fun W => by
        have h := refPut_any (8 * n) 8 8 true (by omega) (by omega) (by omega) (by omega) W
        rw [show ((8 * n : Nat) : Int) = (n : Int) * 8 by omega] at h
        exact h
      have hll : (l ++ [128] ++ List.replicate k 0).length = n + 1 + k := by simp [hn.out]; omega
      have HLL := hid_ hll
      clear hll
      obtain ⟨ts, hts⟩ : ∃ ts, Hid (highB 8 (8 * n) = ts) := ⟨_, rfl⟩
      have htl : Hid (ts.length = 8) := by rw [← hts.out]; exact highB_len 8 _
      rw [hts.out] at cp
      have hgk : Hid (gap (n % 64) = k) := hgk0
      clear heq hgk0
      go_wp2_with (first
        | (go_at_call 51; ((with_reducible refine (cp _).mono ?_); rintro e w6 ⟨rfl, b6⟩);
           have HO3 := HO2.out.below b6 (Nat.le_refl _))
        | (refine wpList_appS rfl (.tmp 37) (.tmp 42) rfl HO3 rfl ts 8 rfl htl.out (by rw [HLL.out]; omega) (by have := MH2.out.lt; have := b6.size; omega) ?_; intro A7 c7 w7 h7 g7; rw [HLL.out] at h7; rw [HLL.out]))
      have hPl : ∃ nb : Nat, n + 1 + k + 8 = 64 * nb := ⟨(n + 1 + k + 8) / 64, by have h := hgk.out; unfold gap at h; omega⟩
      obtain ⟨nb, hnb⟩ := hPl
      have hnbb : nb ≤ 20000 := by have h := hgk.out; unfold gap at h; omega
      obtain ⟨P, hP⟩ : ∃ P, Hid (l ++ [128] ++ List.replicate k 0 ++ ts = P) := ⟨l ++ [128] ++ List.replicate k 0 ++ ts, hid_ rfl⟩
      rw [hP.out] at h7
      have hPlen : Hid (P.length = 64 * nb) := by rw [← hP.out, List.length_append, HLL.out, htl.out]; exact hnb
      have hlt3 := HO3.lt
      have hne3 : ∀ i, (Value.slice A (n + 1 + k) c).ownBlock = some i → G + 1 + 1 ≤ i := fun i hi => (hlt3 i hi).1
      have q5 := MH2.out.lt
      have q6 := b6.size
      have kG : Bk w7 G 90 (wordsRow roundK) := (MK2.out.below b6 MK2.out.lt).grown g7 (fun e => by have := hne3 G e.symm; omega)
      have kH : Bk w7 (G + 1) 67 (wordsRow startH) := (MH2.out.below b6 MH2.out.lt).grown g7 (fun e => by have := hne3 (G + 1) e.symm; omega)
      have hGw : w.heap.size ≤ G := HGw.out
      have kB := (BW2.out.trans (b6.mono BW2.out.size)).grown g7 (by have := BW2.out.size; omega) (fun i hi => by have := hne3 i hi; omega)
      have KG := hid_ kG
      have KH := hid_ kH
      have KB := hid_ kB
      obtain ⟨gP, rfl⟩ := h7.some_ (by rw [hPlen.out]; omega)
      have H7 := hid_ h7
      clear kG kH kB h7 hlt3 hne3 q5 q6 g7 b6 HO3 HO2 MK2 MH2 BW2 cp HLL hgl d1
      rw [hnb] at H7 ⊢
      go_loopw [6] (fun i wr => ∃ j : Nat, j ≤ nb ∧ i = .int .i64 (64 * (j : Int)) ∧ Hid (OwnT wr (G + 1 + 1) (.slice (some ⟨gP, 0, none⟩) (64 * nb) c7) P) ∧ Bk wr G 90 (wordsRow roundK) ∧ Bk wr (G + 1) 67 (wordsRow (over P j).list) ∧ Below w.heap.size w wr) (fun i _ => 64 * nb - (intOf i).toNat)
      case atStart => exact ⟨0, Nat.zero_le _, rfl, H7, KG.out, KH.out, KB.out⟩
      case round =>
        obtain ⟨j, hj, rfl, oP, jK, jH, jB⟩ := hrel
        have JK := hid_ jK
        have JH := hid_ jH
        have JB := hid_ jB
        clear jK jH jB KG KH KB H7
        by_cases hjn : j < nb
        · go_wp2
          obtain ⟨g, hg⟩ : ∃ g, Hid (wr.heap.size = g) := ⟨_, rfl⟩
          have wB : Bk (wr.alloc (.cells (wordsRow (zeros 64)) 90)) wr.heap.size 90 (wordsRow (zeros 64)) := Bk.new wr _ _
          have aK := JK.out.alloc (.cells (wordsRow (zeros 64)) 90)
          have aH := JH.out.alloc (.cells (wordsRow (zeros 64)) 90)
          have aB := JB.out.alloc JB.out.size (.cells (wordsRow (zeros 64)) 90)
          have aP := oP.out.alloc (.cells (wordsRow (zeros 64)) 90)
          have gH := JH.out.lt
          have hown := oP.out.lt
          rw [hg.out] at wB gH hown ⊢
          have HOWN := hid_ hown
          clear hown
          obtain ⟨b, hb⟩ : ∃ b, Hid ((P.drop (64 * j)).take 64 = b) := ⟨(P.drop (64 * j)).take 64, hid_ rfl⟩
          have hbl : Hid (b.length = 64) := by rw [← hb.out]; show _ = _; rw [List.length_take, List.length_drop, hPlen.out]; omega
          have WB := hid_ wB
          have AK := hid_ aK
          have AH := hid_ aH
          have AB := hid_ aB
          have AP := hid_ aP
          clear wB aK aH aB aP oP JK JH JB
          go_loopw [8] (fun i wq => ∃ t : Nat, t ≤ 16 ∧ i = .int .i64 t ∧ Hid (OwnT wq (G + 1 + 1) (.slice (some ⟨gP, 0, none⟩) (64 * nb) c7) P) ∧ Bk wq G 90 (wordsRow roundK) ∧ Bk wq (G + 1) 67 (wordsRow (over P j).list) ∧ Bk wq g 90 (wordsRow (schedRow b t)) ∧ Below w.heap.size w wq) (fun i _ => 16 - (intOf i).toNat)
          case atStart => exact ⟨0, by omega, rfl, AP, AK.out, AH.out, WB.out, AB.out⟩
          case round =>
            obtain ⟨t, ht, rfl, oP, jK, jH, jW, jB⟩ := hrel
            have JK := hid_ jK
            have JH := hid_ jH
            have JW := hid_ jW
            have JB := hid_ jB
            clear jK jH jW jB AK AH WB AB AP
            by_cases htt : t < 16
            · have hcap : 64 * nb ≤ c7 := oP.out.rd.2.2.1
              have hm := (oP.out.rd.1.drop (64 * j + 4 * t)).take 4
              rw [Nat.zero_add] at hm
              have hsl := slice_mid2 gP (64 * nb) c7 (64 * j + 4 * t) (64 * j + 4 * t + 4) (64 * (j : Int) + 4 * (t : Int)) (64 * (j : Int) + 4 * (t : Int) + 4) (by omega) (by omega) (by omega) (by omega) hcap
              rw [show 64 * j + 4 * t + 4 - (64 * j + 4 * t) = 4 by omega] at hsl
              have hml : ((P.drop (64 * j + 4 * t)).take 4).length = 4 := by rw [List.length_take, List.length_drop, hPlen.out]; omega
              have hcv := conv_strn hm 4 (c7 - (64 * j + 4 * t)) hml
              have cw := fun W => refWord_high ((P.drop (64 * j + 4 * t)).take 4) 4 hml (by omega) W
              have hbm : (P.drop (64 * j + 4 * t)).take 4 = (b.drop (4 * t)).take 4 := by
                rw [← hb.out, List.drop_take, List.take_take, List.drop_drop, Nat.min_eq_left (by omega)]
              have hwk : ((beN ((P.drop (64 * j + 4 * t)).take 4) : Nat) : Int) = wordAt b t := by rw [hbm]; rfl
              rw [hwk] at cw
              obtain ⟨x, hx⟩ : ∃ x, Hid (wordAt b t = x) := ⟨_, hid_ rfl⟩
              have hxo := wordAt_ok b t
              rw [hx.out] at cw hxo
              obtain ⟨hx0, hx1⟩ := hxo
              have hw32 : IntKind.u32.wrap x = x := IntWalk.u32_in _ (by omega)
              have hc := JW.out.cell t
              rw [wordsRow_at _ _ (by rw [schedRow_len b t (by omega)]; omega)] at hc
              have hf := JW.out.frozen t
              have hset := JW.out.set_ t (.int .u32 x)
              rw [wordsRow_set, schedRow_set b t (by omega) x (by rw [if_pos htt, hx.out])] at hset
              have HS := hid_ hset
              clear hset hm hml hbm hwk
              obtain ⟨y, hy⟩ : ∃ y, Hid ((schedRow b t).getD t 0 = y) := ⟨_, hid_ rfl⟩
              rw [hy.out] at hc
              go_wp2_with (go_at_call 36; ((with_reducible refine (cw _).mono ?_); rintro e w' ⟨rfl, rfl⟩))
              have hgPl := HOWN.out gP rfl
              go_roundw
              case rel => exact ⟨t + 1, by omega, by go_num, hid_ (oP.out.kept (grown_put (World.grownBy.refl _ (some g)) t _) (.inr (fun e => by simp [Value.ownBlock] at e; omega))), JK.out.far (by simp <;> omega) _, JH.out.far (by simp <;> omega) _, HS.out, JB.out.setCell (by simp <;> omega) _⟩
              case measure => simp [intOf]; omega
            · have ht16 : t = 16 := by omega
              rw [ht16] at JW
              go_wp2
              go_loopw [9] (fun i wq => ∃ t : Nat, 16 ≤ t ∧ t ≤ 64 ∧ i = .int .i64 t ∧ Hid (OwnT wq (G + 1 + 1) (.slice (some ⟨gP, 0, none⟩) (64 * nb) c7) P) ∧ Bk wq G 90 (wordsRow roundK) ∧ Bk wq (G + 1) 67 (wordsRow (over P j).list) ∧ Bk wq g 90 (wordsRow (schedRow b t)) ∧ Below w.heap.size w wq) (fun i _ => 64 - (intOf i).toNat)
              case atStart => exact ⟨16, by omega, by omega, rfl, oP, JK.out, JH.out, JW.out, JB.out⟩
              case round =>
                obtain ⟨t, ht1, ht2, rfl, oP2, jK, jH, jW, jB⟩ := hrel
                have K2 := hid_ jK
                have H2 := hid_ jH
                have G2 := hid_ jW
                have B2 := hid_ jB
                clear jK jH jW jB JK JH JW JB oP htt ht
                by_cases hlt : t < 64
                · have hrl := schedRow_len b t (by omega)
                  have l2 := G2.out.cell (t - 2)
                  have l7 := G2.out.cell (t - 7)
                  have l15 := G2.out.cell (t - 15)
                  have l16 := G2.out.cell (t - 16)
                  have lt := G2.out.cell t
                  have ft := G2.out.frozen t
                  rw [wordsRow_at _ _ (by omega), schedRow_get b t _ (by omega)] at l2 l7 l15 l16
                  rw [wordsRow_at _ _ (by omega)] at lt
                  have o2 := getD_ok (sched_ok b t) (t - 2)
                  have o7 := getD_ok (sched_ok b t) (t - 7)
                  have o15 := getD_ok (sched_ok b t) (t - 15)
                  have o16 := getD_ok (sched_ok b t) (t - 16)
                  have hN := nextW_ref (sched b t) _ _ _ _ rfl rfl rfl rfl
                  rw [sched_len] at hN
                  have HN := hid_ hN
                  clear hN
                  generalize (sched b t).getD (t - 2) 0 = x2 at l2 o2 HN
                  generalize (sched b t).getD (t - 7) 0 = x7 at l7 o7 HN
                  generalize (sched b t).getD (t - 15) 0 = x15 at l15 o15 HN
                  generalize (sched b t).getD (t - 16) 0 = x16 at l16 o16 HN
                  generalize (schedRow b t).getD t 0 = y at lt
                  obtain ⟨o2a, o2b⟩ := o2
                  obtain ⟨o7a, o7b⟩ := o7
                  obtain ⟨o15a, o15b⟩ := o15
                  obtain ⟨o16a, o16b⟩ := o16
                  have c1 : ∀ W : World, Calls Tryd.prog 52 #[.int .u32 x15, .int .i64 7] W fun e w' => e = .returned (.int .u32 (rotn 25 x15)) ∧ W = w' := fun W => right_any x15 7 o15a o15b (by decide) W
                  have c2 : ∀ W : World, Calls Tryd.prog 52 #[.int .u32 x15, .int .i64 18] W fun e w' => e = .returned (.int .u32 (rotn 14 x15)) ∧ W = w' := fun W => right_any x15 18 o15a o15b (by decide) W
                  have c3 : ∀ W : World, Calls Tryd.prog 52 #[.int .u32 x2, .int .i64 17] W fun e w' => e = .returned (.int .u32 (rotn 15 x2)) ∧ W = w' := fun W => right_any x2 17 o2a o2b (by decide) W
                  have c4 : ∀ W : World, Calls Tryd.prog 52 #[.int .u32 x2, .int .i64 19] W fun e w' => e = .returned (.int .u32 (rotn 13 x2)) ∧ W = w' := fun W => right_any x2 19 o2a o2b (by decide) W
                  clear hrl
                  go_wp2
                  have w2 : IntKind.i64.wrap ((t : Int) - 2) = (t : Int) - 2 := IntWalk.i64_in _ (by omega)
                  have b2 : (0 : Int) ≤ (t : Int) - 2 := by omega
                  have d2 : (2 : Int) ≤ (t : Int) := by omega
                  have u2 : (t : Int) - 2 < 64 := by omega
                  have n2 : ((t : Int) - 2).toNat = t - 2 := by omega
                  have w7 : IntKind.i64.wrap ((t : Int) - 7) = (t : Int) - 7 := IntWalk.i64_in _ (by omega)
                  have b7 : (0 : Int) ≤ (t : Int) - 7 := by omega
                  have d7 : (7 : Int) ≤ (t : Int) := by omega
                  have u7 : (t : Int) - 7 < 64 := by omega
                  have n7 : ((t : Int) - 7).toNat = t - 7 := by omega
                  have w15 : IntKind.i64.wrap ((t : Int) - 15) = (t : Int) - 15 := IntWalk.i64_in _ (by omega)
                  have b15 : (0 : Int) ≤ (t : Int) - 15 := by omega
                  have d15 : (15 : Int) ≤ (t : Int) := by omega
                  have u15 : (t : Int) - 15 < 64 := by omega
                  have n15 : ((t : Int) - 15).toNat = t - 15 := by omega
                  have w16 : IntKind.i64.wrap ((t : Int) - 16) = (t : Int) - 16 := IntWalk.i64_in _ (by omega)
                  have b16 : (0 : Int) ≤ (t : Int) - 16 := by omega
                  have d16 : (16 : Int) ≤ (t : Int) := by omega
                  have u16 : (t : Int) - 16 < 64 := by omega
                  have n16 : ((t : Int) - 16).toNat = t - 16 := by omega
                  have t0 : (0 : Int) ≤ (t : Int) := by omega
                  have t64 : (t : Int) < 64 := by omega
                  go_quiet (fail)
                  go_wp2
                  obtain ⟨wd, hwd⟩ : ∃ wd, wr.drewN nq = wd := ⟨_, rfl⟩
                  rw [hwd]
                  have K3 := hid_ (K2.out.drewN nq)
                  have H3 := hid_ (H2.out.drewN nq)
                  have G3 := hid_ (G2.out.drewN nq)
                  have B3 := hid_ (below_drewN B2.out nq)
                  have oP3 := hid_ (oP2.out.drewN nq)
                  replace l7 : (wr.drewN nq).cell? _ = _ := l7
                  replace l16 : (wr.drewN nq).cell? _ = _ := l16
                  replace lt : (wr.drewN nq).cell? _ = _ := lt
                  replace ft : (wr.drewN nq).frozen? _ = _ := ft
                  rw [hwd] at K3 H3 G3 B3 oP3 l7 l16 lt ft
                  clear hwd K2 H2 G2 B2 oP2 l2 l15
                  refine region_quiet_tail_lit 29 (by kernel_rfl) (by kernel_rfl) ?_
                  simp only [List.take_succ_cons, List.take_zero]
                  repeat (go_big_quiet_step ((first | (go_at_call 52; with_reducible exact q_left (c1 _)) | (go_at_call 52; with_reducible exact q_left (c2 _)) | (go_at_call 52; with_reducible exact q_left (c3 _)) | (go_at_call 52; with_reducible exact q_left (c4 _)))))
                  refine wpQuiet_nil ?_
                  intro w' hw'
                  obtain ⟨nq2, rfl⟩ := hw'
                  simp only [List.drop_succ_cons, List.drop_zero]
                  clear w2 w7 w15 w16 b2 b7 b15 b16 d2 d7 d15 d16 u2 u7 u15 u16 n2 n7 n15 n16 t0 t64 l7 l16
                  have hset := (G3.out.drewN nq2).set_ t (.int .u32 (nextW (sched b t)))
                  rw [wordsRow_set, schedRow_set b t hlt _ (by rw [if_neg (by omega)])] at hset
                  rw [← HN.out] at hset
                  have HS := hid_ hset
                  clear hset
                  go_wp2
                  have hgPl := HOWN.out gP rfl
                  go_roundw
                  case rel => exact ⟨t + 1, by omega, by omega, by go_num, hid_ ((oP3.out.drewN nq2).kept (grown_put (World.grownBy.refl _ (some g)) t _) (.inr (fun e => by simp [Value.ownBlock] at e; omega))), (K3.out.drewN nq2).far (by simp <;> omega) _, (H3.out.drewN nq2).far (by simp <;> omega) _, HS.out, (below_drewN B3.out nq2).setCell (by simp <;> omega) _⟩
                  case measure => simp [intOf]; omega
                · have ht64 : t = 64 := by omega
                  have hr64 : schedRow b 64 = sched b 64 := by unfold schedRow; simp [zeros]
                  have G3 := G2.out
                  rw [ht64, hr64] at G3
                  obtain ⟨W, hW⟩ : ∃ W, Hid (sched b 64 = W) := ⟨_, hid_ rfl⟩
                  rw [hW.out] at G3
                  have hWl : Hid (W.length = 64) := by rw [← hW.out]; exact sched_len b 64
                  have hWo : Hid (∀ x ∈ W, ok32 x) := by rw [← hW.out]; exact sched_ok b 64
                  have GW := hid_ G3
                  clear G3 G2
                  have es : (Tryd.prog.info? 67).map (·.size) = some (wordsRow (over P j).list).size := by rw [wordsRow_size, wordsRow8]; exact i8_
                  have qs : (wordsRow (zeros 8)).size = (wordsRow (over P j).list).size := by rw [wordsRow_size, wordsRow_size, wordsRow8, zeros_len]
                  have ES := hid_ es
                  have QS := hid_ qs
                  clear es qs
                  go_wp2_with (first
                    | (refine wpList_load_row rfl 67 (.tmp 4) rfl (G + 1) rfl 67 (wordsRow (over P j).list) (0, 0) _ H2.out Tryd.underlying67 rfl ES.out ?_)
                    | (refine wpList_put_row rfl 67 (.tmp 12) (.tmp 111) rfl wr.heap.size (wordsRow (over P j).list) rfl rfl 67 (wordsRow (zeros 8)) (Bk.new wr _ _) ES.out QS.out (words_one _) ?_; intro w8 m8 g8 s8))
                  have hgPl := HOWN.out gP rfl
                  have glt := GW.out.lt
                  have gK := K2.out.lt
                  have gH := H2.out.lt
                  have k8 := (K2.out.alloc (.cells (wordsRow (zeros 8)) 67)).grown g8 (fun e => by injection e with e; omega)
                  have h8 := (H2.out.alloc (.cells (wordsRow (zeros 8)) 67)).grown g8 (fun e => by injection e with e; omega)
                  have gw8 := (GW.out.alloc (.cells (wordsRow (zeros 8)) 67)).grown g8 (fun e => by injection e with e; omega)
                  have o8 := hid_ ((oP2.out.alloc (.cells (wordsRow (zeros 8)) 67)).kept g8 (.inr (fun e => by simp [Value.ownBlock] at e; omega)))
                  have b8 := (B2.out.alloc B2.out.size (.cells (wordsRow (zeros 8)) 67)).grown g8 (by have := B2.out.size; simp; omega) (fun i hi => by injection hi with hi; have := B2.out.size; omega)
                  obtain ⟨V, hV⟩ : ∃ V, Hid (wr.heap.size = V) := ⟨_, rfl⟩
                  rw [hV.out] at m8 glt gK gH ⊢
                  have GV : Hid (g < V) := glt
                  have M8 := hid_ m8
                  have K8 := hid_ k8
                  have H8 := hid_ h8
                  have W8 := hid_ gw8
                  have B8 := hid_ b8
                  clear m8 k8 h8 gw8 b8 g8 s8 glt gK K2 H2 GW B2 oP2 hlt
                  have HOV := over_ok P j
                  go_loopw [13] (fun i wq => ∃ t : Nat, t ≤ 64 ∧ i = .int .i64 t ∧ Hid (OwnT wq (G + 1 + 1) (.slice (some ⟨gP, 0, none⟩) (64 * nb) c7) P) ∧ Bk wq G 90 (wordsRow roundK) ∧ Bk wq (G + 1) 67 (wordsRow (over P j).list) ∧ Bk wq g 90 (wordsRow W) ∧ Bk wq V 67 (wordsRow (rounds (over P j) W t).list) ∧ Below w.heap.size w wq) (fun i _ => 64 - (intOf i).toNat)
                  case atStart => exact ⟨0, by omega, rfl, o8, K8.out, H8.out, W8.out, M8.out, B8.out⟩
                  case round =>
                    obtain ⟨tt, htt2, rfl, oP2, jK, jH, jW, jV, jB⟩ := hrel
                    have K9 := hid_ jK
                    have H9 := hid_ jH
                    have W9 := hid_ jW
                    have V9 := hid_ jV
                    have B9 := hid_ jB
                    clear jK jH jW jV jB o8 K8 H8 W8 M8 B8
                    by_cases hlt : tt < 64
                    · have hk := K9.out.cell tt
                      rw [wordsRow_at _ _ (by rw [roundK_len]; exact hlt)] at hk
                      have hw := W9.out.cell tt
                      rw [wordsRow_at _ _ (by rw [hWl.out]; exact hlt)] at hw
                      obtain ⟨kx, hkx⟩ : ∃ x, Hid (roundK.getD tt 0 = x) := ⟨_, rfl⟩
                      obtain ⟨wx, hwx⟩ : ∃ x, Hid (W.getD tt 0 = x) := ⟨_, rfl⟩
                      rw [hkx.out] at hk
                      rw [hwx.out] at hw
                      have hro := rounds_ok HOV W tt
                      obtain ⟨r, hr⟩ : ∃ r, Hid (rounds (over P j) W tt = r) := ⟨_, rfl⟩
                      have v9 := V9.out
                      rw [hr.out] at hro v9
                      obtain ⟨oe0, oe1⟩ := hro.e
                      obtain ⟨oa0, oa1⟩ := hro.a
                      have c1 : ∀ W : World, Calls Tryd.prog 52 #[.int .u32 r.e, .int .i64 6] W fun e w' => e = .returned (.int .u32 (rotn 26 r.e)) ∧ W = w' := fun W => right_any r.e 6 oe0 oe1 (by decide) W
                      have c2 : ∀ W : World, Calls Tryd.prog 52 #[.int .u32 r.e, .int .i64 11] W fun e w' => e = .returned (.int .u32 (rotn 21 r.e)) ∧ W = w' := fun W => right_any r.e 11 oe0 oe1 (by decide) W
                      have c3 : ∀ W : World, Calls Tryd.prog 52 #[.int .u32 r.e, .int .i64 25] W fun e w' => e = .returned (.int .u32 (rotn 7 r.e)) ∧ W = w' := fun W => right_any r.e 25 oe0 oe1 (by decide) W
                      have c4 : ∀ W : World, Calls Tryd.prog 52 #[.int .u32 r.a, .int .i64 2] W fun e w' => e = .returned (.int .u32 (rotn 30 r.a)) ∧ W = w' := fun W => right_any r.a 2 oa0 oa1 (by decide) W
                      have c5 : ∀ W : World, Calls Tryd.prog 52 #[.int .u32 r.a, .int .i64 13] W fun e w' => e = .returned (.int .u32 (rotn 19 r.a)) ∧ W = w' := fun W => right_any r.a 13 oa0 oa1 (by decide) W
                      have c6 : ∀ W : World, Calls Tryd.prog 52 #[.int .u32 r.a, .int .i64 22] W fun e w' => e = .returned (.int .u32 (rotn 10 r.a)) ∧ W = w' := fun W => right_any r.a 22 oa0 oa1 (by decide) W
                      clear hro
                      have ea := v9.cell 0
                      have eb := v9.cell 1
                      have ec := v9.cell 2
                      have ed := v9.cell 3
                      have ee := v9.cell 4
                      have ef := v9.cell 5
                      have eg := v9.cell 6
                      have eh := v9.cell 7
                      rw [wordsRow_at _ _ (by rw [wordsRow8]; omega)] at ea eb ec ed ee ef eg eh
                      replace ea : wr.cell? ⟨V, 0, none⟩ = some (.int .u32 r.a) := ea
                      replace eb : wr.cell? ⟨V, 1, none⟩ = some (.int .u32 r.b) := eb
                      replace ec : wr.cell? ⟨V, 2, none⟩ = some (.int .u32 r.c) := ec
                      replace ed : wr.cell? ⟨V, 3, none⟩ = some (.int .u32 r.d) := ed
                      replace ee : wr.cell? ⟨V, 4, none⟩ = some (.int .u32 r.e) := ee
                      replace ef : wr.cell? ⟨V, 5, none⟩ = some (.int .u32 r.f) := ef
                      replace eg : wr.cell? ⟨V, 6, none⟩ = some (.int .u32 r.g) := eg
                      replace eh : wr.cell? ⟨V, 7, none⟩ = some (.int .u32 r.h) := eh
                      have t0 : (0 : Int) ≤ (tt : Int) := by omega
                      have t64 : (tt : Int) < 64 := by omega
                      go_wp2
                      go_quiet (fail)
                      go_wp2
                      obtain ⟨wd, hwd⟩ : ∃ wd, wr.drewN nq = wd := ⟨_, rfl⟩
                      rw [hwd]
                      replace hk : (wr.drewN nq).cell? _ = _ := hk
                      replace hw : (wr.drewN nq).cell? _ = _ := hw
                      replace ea : (wr.drewN nq).cell? _ = _ := ea
                      replace eb : (wr.drewN nq).cell? _ = _ := eb
                      replace ec : (wr.drewN nq).cell? _ = _ := ec
                      replace ed : (wr.drewN nq).cell? _ = _ := ed
                      replace ef : (wr.drewN nq).cell? _ = _ := ef
                      replace eg : (wr.drewN nq).cell? _ = _ := eg
                      replace eh : (wr.drewN nq).cell? _ = _ := eh
                      replace ee : (wr.drewN nq).cell? _ = _ := ee
                      have K10 := hid_ (K9.out.drewN nq)
                      have H10 := hid_ (H9.out.drewN nq)
                      have W10 := hid_ (W9.out.drewN nq)
                      have V10 := hid_ (v9.drewN nq)
                      have B10 := hid_ (below_drewN B9.out nq)
                      have oP10 := hid_ (oP2.out.drewN nq)
                      rw [hwd] at hk hw ea eb ec ed ee ef eg eh K10 H10 W10 V10 B10 oP10
                      clear hwd K9 H9 W9 V9 B9 oP2 v9
                      go_quiet ((first | (go_at_call 52; with_reducible exact q_left (c1 _)) | (go_at_call 52; with_reducible exact q_left (c2 _)) | (go_at_call 52; with_reducible exact q_left (c3 _))))
                      rw [t1_ref]
                      obtain ⟨x1, hx1⟩ : ∃ x, Hid (t1 r kx wx = x) := ⟨_, rfl⟩
                      rw [hx1.out]
                      obtain ⟨we, hwe⟩ : ∃ we, wd.drewN nq = we := ⟨_, rfl⟩
                      rw [hwe]
                      replace ea : (wd.drewN nq).cell? _ = _ := ea
                      replace eb : (wd.drewN nq).cell? _ = _ := eb
                      replace ec : (wd.drewN nq).cell? _ = _ := ec
                      replace ed : (wd.drewN nq).cell? _ = _ := ed
                      replace ee : (wd.drewN nq).cell? _ = _ := ee
                      replace ef : (wd.drewN nq).cell? _ = _ := ef
                      replace eg : (wd.drewN nq).cell? _ = _ := eg
                      have K11 := hid_ (K10.out.drewN nq)
                      have H11 := hid_ (H10.out.drewN nq)
                      have W11 := hid_ (W10.out.drewN nq)
                      have V11 := hid_ (V10.out.drewN nq)
                      have B11 := hid_ (below_drewN B10.out nq)
                      have oP11 := hid_ (oP10.out.drewN nq)
                      rw [hwe] at ea eb ec ed ee ef eg K11 H11 W11 V11 B11 oP11
                      clear hwe K10 H10 W10 V10 B10 oP10 hk hw c1 c2 c3 oe0 oe1 eh
                      go_upto_region 26 with fail
                      go_quiet ((first | (go_at_call 52; with_reducible exact q_left (c4 _)) | (go_at_call 52; with_reducible exact q_left (c5 _)) | (go_at_call 52; with_reducible exact q_left (c6 _))))
                      rw [t2_ref]
                      obtain ⟨x2, hx2⟩ : ∃ x, Hid (t2 r = x) := ⟨_, rfl⟩
                      rw [hx2.out]
                      obtain ⟨wf, hwf⟩ : ∃ wf, we.drewN nq = wf := ⟨_, rfl⟩
                      rw [hwf]
                      replace ea : (we.drewN nq).cell? _ = _ := ea
                      replace eb : (we.drewN nq).cell? _ = _ := eb
                      replace ec : (we.drewN nq).cell? _ = _ := ec
                      replace ed : (we.drewN nq).cell? _ = _ := ed
                      replace ee : (we.drewN nq).cell? _ = _ := ee
                      replace ef : (we.drewN nq).cell? _ = _ := ef
                      replace eg : (we.drewN nq).cell? _ = _ := eg
                      have K12 := hid_ (K11.out.drewN nq)
                      have H12 := hid_ (H11.out.drewN nq)
                      have W12 := hid_ (W11.out.drewN nq)
                      have V12 := hid_ (V11.out.drewN nq)
                      have B12 := hid_ (below_drewN B11.out nq)
                      have oP12 := hid_ (oP11.out.drewN nq)
                      rw [hwf] at ea eb ec ed ee ef eg K12 H12 W12 V12 B12 oP12
                      clear hwf K11 H11 W11 V11 B11 oP11 c4 c5 c6 oa0 oa1
                      have en : (Tryd.prog.info? 67).map (·.size) = some (wordsRow (rnd r kx wx).list).size := by rw [wordsRow_size, wordsRow8]; exact i8_
                      have qn : (wordsRow r.list).size = (wordsRow (rnd r kx wx).list).size := by rw [wordsRow_size, wordsRow_size, wordsRow8, wordsRow8]
                      have EN := hid_ en
                      have QN := hid_ qn
                      clear en qn
                      have hrow : wordsRow (rnd r kx wx).list = #[.int .u32 ((x1 + x2) % 4294967296), .int .u32 r.a, .int .u32 r.b, .int .u32 r.c, .int .u32 ((r.d + x1) % 4294967296), .int .u32 r.e, .int .u32 r.f, .int .u32 r.g] := by
                        rw [← hx1.out, ← hx2.out]
                        rfl
                      have HROW := hid_ hrow
                      clear hrow
                      go_upto_region 27 with fail
                      clear hgPl
                      go_wp2_with (first
                        | (refine wpList_built rfl 67 _ rfl (wordsRow (rnd r kx wx).list) (by rw [HROW.out]; kernel_rfl) ?_)
                        | (refine wpList_put_row rfl 67 (.tmp 12) (.tmp 193) rfl V (wordsRow (rnd r kx wx).list) rfl (by rw [HROW.out]; rfl) 67 (wordsRow r.list) V12.out EN.out QN.out (words_one _) ?_; intro w9 m9 g9 s9))
                      have hgPl := HOWN.out gP rfl
                      have gvl := GV.out
                      have hgw := HGw.out
                      have hrn : rnd r kx wx = rounds (over P j) W (tt + 1) := by
                        show _ = rnd (rounds (over P j) W tt) _ _
                        rw [hr.out, hkx.out, hwx.out]
                      rw [hrn] at m9
                      exact ⟨⟨tt + 1, by omega, by go_num, hid_ (oP12.out.kept g9 (.inr (fun e => by simp [Value.ownBlock] at e; omega))), K12.out.grown g9 (fun e => by injection e with e; omega), H12.out.grown g9 (fun e => by injection e with e; omega), W12.out.grown g9 (fun e => by injection e with e; omega), m9, B12.out.grown g9 B12.out.size (fun i hi => by injection hi with hi; omega)⟩, by simp [intOf]; omega⟩
                    · have htt64 : tt = 64 := by omega
                      obtain ⟨r, hr⟩ : ∃ r, Hid (rounds (over P j) W tt = r) := ⟨_, rfl⟩
                      have v9 := V9.out
                      rw [hr.out] at v9
                      have V10 := hid_ v9
                      clear v9 V9 W9
                      go_wp2
                      go_loopw [18] (fun i wq => ∃ k2 : Nat, k2 ≤ 8 ∧ i = .int .i64 k2 ∧ Hid (OwnT wq (G + 1 + 1) (.slice (some ⟨gP, 0, none⟩) (64 * nb) c7) P) ∧ Bk wq G 90 (wordsRow roundK) ∧ Bk wq (G + 1) 67 (wordsRow (mixed (over P j) r k2)) ∧ Bk wq V 67 (wordsRow r.list) ∧ Below w.heap.size w wq) (fun i _ => 8 - (intOf i).toNat)
                      case atStart => exact ⟨0, by omega, rfl, oP2, K9.out, H9.out, V10.out, B9.out⟩
                      case round =>
                        obtain ⟨k2, hk2, rfl, oP3, jK, jH, jV, jB⟩ := hrel
                        have K10 := hid_ jK
                        have H10 := hid_ jH
                        have V11 := hid_ jV
                        have B10 := hid_ jB
                        clear jK jH jV jB K9 H9 V10 B9 oP2
                        by_cases hlt2 : k2 < 8
                        · have hc := H10.out.cell k2
                          rw [wordsRow_at _ _ (by rw [mixed_len]; exact hlt2), mixed_get _ _ _ hlt2] at hc
                          have hv := V11.out.cell k2
                          rw [wordsRow_at _ _ (by rw [wordsRow8]; exact hlt2)] at hv
                          have hf := H10.out.frozen k2
                          have hset := H10.out.set_ k2 (.int .u32 (((over P j).list.getD k2 0 + r.list.getD k2 0) % 4294967296))
                          rw [wordsRow_set, mixed_set _ _ _ hlt2] at hset
                          obtain ⟨x, hx⟩ : ∃ x, Hid (r.list.getD k2 0 = x) := ⟨_, rfl⟩
                          obtain ⟨y, hy⟩ : ∃ y, Hid ((over P j).list.getD k2 0 = y) := ⟨_, rfl⟩
                          rw [hx.out] at hv hset
                          rw [hy.out] at hc hset
                          have HS := hid_ hset
                          clear hset
                          have t0 : (0 : Int) ≤ (k2 : Int) := by omega
                          have t8 : (k2 : Int) < 8 := by omega
                          have hgPl := HOWN.out gP rfl
                          have gvl := GV.out
                          have hgw := HGw.out
                          go_wp2
                          go_region
                          all_goals
                            go_wp2
                            go_roundw
                            case rel => exact ⟨k2 + 1, by omega, by go_num, hid_ (oP3.out.drew.kept (grown_put (World.grownBy.refl _ (some (G + 1))) k2 _) (.inr (fun e => by simp [Value.ownBlock] at e; omega))), K10.out.drew.far (by simp <;> omega) _, HS.out, V11.out.drew.far (by simp <;> omega) _, B10.out.drew.setCell (by simp <;> omega) _⟩
                            case measure => simp [intOf]; omega
                        · have hk8 : k2 = 8 := by omega
                          have he : mixed (over P j) r 8 = (over P (j + 1)).list := by
                            rw [← hr.out, htt64, ← hW.out, ← hb.out]
                            rfl
                          have H11 := H10.out
                          rw [hk8, he] at H11
                          go_wp2
                          go_roundw
                          case rel => exact ⟨j + 1, by omega, by go_num, oP3, K10.out, H11, B10.out⟩
                          case measure => simp [intOf]; omega
        · have hjn2 : Hid (j = nb) := by show _ = _; omega
          rw [hjn2.out] at JH
          go_wp2
          go_loopw [19, 20] (fun s i wq => ∃ k2 : Nat, k2 ≤ 8 ∧ i = .int .i64 k2 ∧ s = .string (strOf ((digestOf (over P nb)).take (4 * k2))) ∧ Bk wq (G + 1) 67 (wordsRow (over P nb).list) ∧ Below w.heap.size w wq) (fun _ i _ => 8 - (intOf i).toNat)
          case atStart => exact ⟨0, by omega, rfl, rfl, JH.out, JB.out⟩
          case round =>
            obtain ⟨k2, hk2, rfl, rfl, jH, jB⟩ := hrel
            have H10 := hid_ jH
            have B10 := hid_ jB
            clear jH jB JH JB JK oP
            have hdl : ∀ q, q ≤ 8 → ((digestOf (over P nb)).take (4 * q)).length = 4 * q := fun q hq => by rw [List.length_take, digestOf_len]; omega
            have HDL := hid_ hdl
            clear hdl
            by_cases hlt2 : k2 < 8
            · have hc := H10.out.cell k2
              rw [wordsRow_at _ _ (by rw [wordsRow8]; exact hlt2)] at hc
              have hxo := getD_ok (S8.list_ok (over_ok P nb)) k2
              have hdw := dig_word (over P nb) k2 hlt2
              obtain ⟨X, hX⟩ := Int.eq_ofNat_of_zero_le hxo.1
              have hX1 := hxo.2
              rw [hX] at hc hdw hX1
              rw [Int.toNat_natCast] at hdw
              have htk : (digestOf (over P nb)).take (4 * (k2 + 1)) = (digestOf (over P nb)).take (4 * k2) ++ highB 4 X := by
                rw [show 4 * (k2 + 1) = 4 * k2 + 4 by omega, List.take_add, hdw]
              have HTK := hid_ htk
              have cp : ∀ W : World, Calls Tryd.prog 51 #[.int .u64 (X : Int), .int .i64 4, .bool true] W fun e w' => e = .returned (.string (strOf (highB 4 X))) ∧ Below W.heap.size W w' := fun W => refPut_any X 4 4 true (by omega) (by omega) (by omega) (by omega) W
              have hap := strOf_append ((digestOf (over P nb)).take (4 * k2)) (highB 4 X)
              have hs1 : (strOf ((digestOf (over P nb)).take (4 * k2))).size ≤ 32 := by rw [strOf_size, HDL.out k2 hk2]; omega
              have hs2 : (strOf (highB 4 X)).size ≤ 4 := by rw [strOf_size, highB_len]; omega
              have hw64 : IntKind.u64.wrap (X : Int) = (X : Int) := IntWalk.u64_in _ (by omega)
              clear hxo hdw htk hX
              rw [← HTK.out] at hap
              go_wp2_with (go_at_call 51; ((with_reducible refine (cp _).mono ?_); rintro e w6 ⟨rfl, b6⟩))
              have hsz := B10.out.size
              go_roundw
              case rel => exact ⟨k2 + 1, by omega, by go_num, rfl, H10.out.below b6 H10.out.lt, B10.out.trans (b6.mono hsz)⟩
              case measure => simp [intOf]; omega
            · have hk8 : k2 = 8 := by omega
              have hsha := sha_over l P nb (by rw [hn.out, hgk.out, hts.out]; exact hP.out) hPlen.out
              have hall : (digestOf (over P nb)).take (4 * k2) = sha l := by
                rw [hsha, hk8, List.take_of_length_le (by rw [digestOf_len]; omega)]
              rw [hall]
              go_wp2
              go_ret
              exact ⟨rfl, B10.out⟩
end Go.Proofs.YtkhmghmilnfngaaDoor
