/-
  Merged: R2 R0 R1.
-/
import Derived.Test.YtegfnlnbhhmkjaaDoorPT
import Derived.Deep.RegionLaw
import Derived.Laws.OwnMore
import Derived.Test.YtegfnlnbhhmkjaaDoorSS
import Derived.Test.YtegfnlnbhhmkjaaDoorAm
namespace Go.Proofs.YtegfnlnbhhmkjaaDoor
set_option maxRecDepth 100000
open Go.RowKit
set_option linter.unusedVariables false

theorem flatten_take_succ (ls : List (List UInt8)) (k : Nat) (hk : k < ls.length) : (ls.take (k + 1)).flatten = (ls.take k).flatten ++ ls.getD k [] := by
  rw [List.take_succ_eq_append_getElem hk, List.flatten_append]
  simp [List.getD, hk]
theorem flatten_take_le (ls : List (List UInt8)) (k : Nat) : (ls.take k).flatten.length ≤ ls.flatten.length := by
  have h := congrArg (fun l => l.flatten.length) (List.take_append_drop k ls)
  simp only [List.flatten_append, List.length_append] at h
  omega

/-- The cell of a part that doesn't lie in that row. -/
def PartN (w : World) (row : Option Nat) (v : Value) (m : List UInt8) : Prop := ∃ A c, v = .slice A m.length c ∧ m.length ≤ c ∧ c ≤ maxLen ∧ (0 < m.length → ∃ b off, A = some ⟨b, off, none⟩ ∧ b < w.heap.size ∧ some b ≠ row ∧ ∀ j, j < m.length → w.cell? ⟨b, off + j, none⟩ = some (.int .u8 ((m.getD j 0).toNat : Int)))
def OwnQ (w : World) (base : Nat) (v : Value) (ls : List (List UInt8)) : Prop := ∃ vs, w.ownsRow base 39 1 v ls.length vs ∧ vs.length = ls.length ∧ ∀ j, j < ls.length → ∃ u, vs[j]? = some u ∧ PartN w v.ownBlock u (ls.getD j [])

section
variable {w w' : World} {base : Nat} {v : Value} {ls : List (List UInt8)}
theorem PartN.move {row row' : Option Nat} {u : Value} {m : List UInt8} (h : PartN w row u m) (hs : w.heap.size ≤ w'.heap.size) (hk : ∀ b, b < w.heap.size → some b ≠ row → w'.heap[b]? = w.heap[b]?) (hr : ∀ b, b < w.heap.size → some b ≠ row → some b ≠ row') : PartN w' row' u m := by
  obtain ⟨A, c, h1, h2, h3, h4⟩ := h
  refine ⟨A, c, h1, h2, h3, fun hm => ?_⟩
  obtain ⟨b, off, e, hb, hne, hc⟩ := h4 hm
  exact ⟨b, off, e, by omega, hr b hb hne, fun j hj => (World.cell?_of_block (hk b hb hne)).trans (hc j hj)⟩
theorem OwnQ.lt (h : OwnQ w base v ls) : ∀ g, v.ownBlock = some g → base ≤ g ∧ g < w.heap.size := by
  obtain ⟨vs, h1, _⟩ := h
  exact World.ownsRow.lt h1
theorem OwnQ.form (h : OwnQ w base v ls) : ∃ A c, v = .slice A ls.length c := by
  obtain ⟨vs, h1, _⟩ := h
  rcases h1.2 with ⟨hv, h0⟩ | ⟨g, cap, cur, hv, _⟩
  · exact ⟨none, 0, by rw [h0]; exact hv⟩
  · exact ⟨_, cap, hv⟩
theorem OwnQ.nil_ (w : World) (base : Nat) : OwnQ w base (.slice none 0 0) [] := ⟨[], World.ownsRow_nil w base 39 1, rfl, fun j hj => absurd hj (by simp)⟩
theorem OwnQ.drew (h : OwnQ w base v ls) : OwnQ w.drew base v ls := h
theorem OwnQ.kept {row : Option Nat} (h : OwnQ w base v ls) (hg : w.grownBy w' row) (hne : v.ownBlock = none ∨ v.ownBlock ≠ row) (hp : ∀ b, b < w.heap.size → some b ≠ row) : OwnQ w' base v ls := by
  obtain ⟨vs, h1, h2, h3⟩ := h
  refine ⟨vs, World.ownsRow.kept h1 hg hne, h2, fun j hj => ?_⟩
  obtain ⟨u, h4, h5⟩ := h3 j hj
  exact ⟨u, h4, h5.move hg.size (fun b hb _ => hg.block b hb (hp b hb)) (fun b hb h => h)⟩
theorem OwnQ.alloc (h : OwnQ w base v ls) (o : Obj) : OwnQ (w.alloc o) base v ls := h.kept (World.grownBy_alloc w o none) (by cases hv : v.ownBlock <;> simp) (fun b _ => by simp)
theorem OwnQ.parts (h : OwnQ w base v ls) {A : Option Addr} {n c : Nat} (hv : v = .slice A n c) : Parts w w.heap.size A ls := by
  have hlt := h.lt
  obtain ⟨vs, h1, h2, h3⟩ := h
  intro h0
  rcases h1.2 with ⟨hv', h0'⟩ | ⟨g, cap, cur, hv', _⟩
  · omega
  · subst hv
    injection hv' with e1 e2 e3
    subst e1
    refine ⟨g, 0, rfl, (hlt g rfl).2, fun j hj => ?_⟩
    obtain ⟨u, hu, A', c', rfl, hl, hm, hr⟩ := h3 j hj
    subst e2
    subst e3
    have hc := World.ownsRow.cellAt h1 j (by omega)
    refine ⟨A', c', ?_, fun hn => ?_, hl, hm⟩
    · rw [Nat.zero_add, hc, hu]
    · obtain ⟨b, off, e, hb, _, hcc⟩ := hr hn
      exact ⟨b, off, e, hb, hcc⟩
/-- append of one part. -/
theorem run_appQ (h : OwnQ w base v ls) (g : Nat) (u : Value) (hu : u.oneCell' = true) (hc : w.cell? ⟨g, 0, none⟩ = some u) {m : List UInt8} (hm : PartN w v.ownBlock u m) (ty : TypeId) (c : Nat) (hsz : ls.length + 1 ≤ 1000000) (hbase : base ≤ w.heap.size) :
    ∃ v' w', (Builtin.append_ #[89, 89] ty #[v, .slice (some ⟨g, 0, none⟩) 1 c]).run Tryd.prog w = .ok v' w' ∧ OwnQ w' base v' (ls ++ [m]) ∧ w.grownBy w' v.ownBlock := by
  have hlt := h.lt
  obtain ⟨vs, h1, h2, h3⟩ := h
  obtain ⟨i, hi, hz, hsize, hby⟩ := info_parts infoS
  obtain ⟨v', w', hrun, h5, h4, _, h6⟩ := run_append_own_at (P := Tryd.prog) w base 89 ty 39 i (.slice none 0 0) 1 24 Tryd.underlying89 hi hz hsize hby rfl (by decide) v ls.length vs h1 ⟨g, 0, none⟩ 1 c [u]
      rfl (fun j x hx => by
        match j, hx with
        | 0, hx => obtain rfl : u = x := by simpa using hx
                   exact hc) (fun x hx => by obtain rfl : x = u := by simpa using hx
                                             exact hu) (by simp only [maxLen]; omega) (by omega) hbase
  have hrow : ∀ b, b < w.heap.size → some b ≠ v.ownBlock → some b ≠ v'.ownBlock := fun b hb hne => by
    rcases h6 with e | e
    · rw [e]; exact hne
    · rw [e]; intro e2; injection e2 with e2; omega
  refine ⟨v', w', hrun, ⟨vs ++ [u], ?_, by simp [h2], fun j hj => ?_⟩, h4⟩
  · rw [List.length_append]
    exact h5
  · rcases Nat.lt_or_ge j ls.length with h7 | h7
    · obtain ⟨x, h8, h9⟩ := h3 j h7
      refine ⟨x, by rw [List.getElem?_append_left (by rw [h2]; exact h7)]; exact h8, ?_⟩
      have : (ls ++ [m]).getD j [] = ls.getD j [] := by simp [List.getD, List.getElem?_append_left h7]
      rw [this]
      exact h9.move h4.size (fun b hb hne => h4.block b hb hne) hrow
    · simp at hj
      obtain rfl : j = ls.length := by omega
      refine ⟨u, by rw [← h2]; simp, ?_⟩
      have : (ls ++ [m]).getD ls.length [] = m := by simp [List.getD]
      rw [this]
      exact hm.move h4.size (fun b hb hne => h4.block b hb hne) hrow
theorem wp_appQ {o : Oper} {a : Act} {K : Act → World → Prop} {Q : Exit → Act → World → Prop} (s x : Operand)
    (ho : o.op = .call { callee := .builtin .append, args := #[s, x], argTypes := #[89, 89] })
    (h : OwnQ w base v ls) (hs : a.eval s = v) (g c : Nat) (hx : a.eval x = .slice (some ⟨g, 0, none⟩) 1 c) (u : Value) (hu : u.oneCell' = true) (hc : w.cell? ⟨g, 0, none⟩ = some u) {m : List UInt8} (hm : PartN w v.ownBlock u m)
    (nl : Nat) (hnl : ls.length = nl) (hsz : nl + 1 ≤ 1000000) (hbase : base ≤ w.heap.size)
    (hK : ∀ A' c' w', OwnQ w' base (.slice A' (nl + 1) c') (ls ++ [m]) → w.grownBy w' v.ownBlock → K (a.put o.dst (.slice A' (nl + 1) c')) w') : o.wp Tryd.prog a w K Q := by
  subst hnl
  obtain ⟨v', w', hrun, h2, h3⟩ := run_appQ h g u hu hc hm o.type c hsz hbase
  obtain ⟨A', c', hv⟩ := h2.form
  rw [List.length_append, List.length_singleton] at hv
  subst hv
  unfold Oper.wp execOp
  simp only [ho, resolve, invoke, builtin, Sem.run_bind, Sem.run_pure, Result.andThen_ok, List.map_toArray, List.map_cons, List.map_nil, hs, hx, hrun]
  exact hK A' c' w' h2 h3
theorem step_appQ {ops : Array Oper} {o : Oper} {a : Act} {K : Act → World → Prop} {Q : Exit → Act → World → Prop} {E : Prop} (hgd : o.guard = none) (s x : Operand)
    (ho : o.op = .call { callee := .builtin .append, args := #[s, x], argTypes := #[89, 89] })
    (h : OwnQ w base v ls) (hs : a.eval s = v) (g c : Nat) (hx : a.eval x = .slice (some ⟨g, 0, none⟩) 1 c) (u : Value) (hu : u.oneCell' = true) (hc : w.cell? ⟨g, 0, none⟩ = some u) {m : List UInt8} (hm : PartN w v.ownBlock u m)
    (nl : Nat) (hnl : ls.length = nl) (hsz : nl + 1 ≤ 1000000) (hbase : base ≤ w.heap.size)
    (hK : ∀ A' c' w', OwnQ w' base (.slice A' (nl + 1) c') (ls ++ [m]) → w.grownBy w' v.ownBlock → K (a.put o.dst (.slice A' (nl + 1) c')) w') :
    if Region.wanted o (yielded ops a.tmps) = true then Oper.wp Tryd.prog o a w K Q else E := by
  have hw : Region.wanted o (yielded ops a.tmps) = true := by simp [Region.wanted, hgd]
  rw [if_pos hw]
  exact wp_appQ s x ho h hs g c hx u hu hc hm nl hnl hsz hbase hK
/-- A slice of bytes of the call's own as a part: in no row that was there ahead of it. -/
theorem Own8.partN {A : Option Addr} {n c : Nat} {l : List UInt8} (h : Own8 w base (.slice A n c) l) (row : Option Nat) (hr : ∀ g, row = some g → g < base) : PartN w row (.slice A n c) l := by
  rcases h.2 with ⟨hv, h0⟩ | ⟨g, cap, cur, hv, hb, hg, hn, hm, hs, ht⟩
  · injection hv with e1 e2 e3
    subst e1 e2 e3
    refine ⟨none, 0, by rw [h0], by omega, Nat.zero_le _, fun hn => absurd hn (by omega)⟩
  · have hrd := h.rd
    have hlt := World.ownsRow.lt h
    injection hv with e1 e2 e3
    subst e1 e2 e3
    refine ⟨_, _, rfl, hn, hm, fun h0 => ?_⟩
    obtain ⟨b, off, e, hb2, hc⟩ := hrd.1 h0
    injection e with e
    injection e with e4 e5
    subst e4 e5
    exact ⟨g, 0, rfl, hb2, fun e => by have := hr g e.symm; omega, hc⟩
end
theorem slice_to (A : Option Addr) (n c : Nat) (z : Int) (k : Nat) (hz : z = (k : Int)) (hk : k ≤ c) (W : World) :
    (Instr.slice 39 (.slice A n c) none (some (.int .i64 z)) none).run Tryd.prog W = .ok (.slice A k c) W := by
  subst hz
  have he : Tryd.prog.elem 39 = 5 := by kernel_rfl
  rw [run_slice_h W 39 A n c (by rw [he]; exact Tryd.underlying39) .i64 k (by omega) (by omega)]
  have hs : (sizeOf (Tryd.prog.elem 39)).run Tryd.prog W = .ok 1 W := by
    rw [he]
    obtain ⟨i, hi, hz, hsize, hby⟩ := info_parts info8
    simp [sizeOf, typeInfo, hi, hsize]
  rw [hs]
  simp only [Result.andThen, sliced]
  congr 2
  by_cases h : c = 0
  · rw [if_pos h]
  · rw [if_neg h]
    cases A with
    | none => rfl
    | some a => simp [Addr.add]
/-- Behind a new block, and what was written there. -/
theorem grown_skip {a b c : World} {g : Nat} (h : a.grownBy b none) (k : b.grownBy c (some g)) (hg : a.heap.size ≤ g) : a.grownBy c none :=
  ⟨k.os.trans h.os, k.tape.trans h.tape, k.output.trans h.output, Nat.le_trans h.size k.size, fun i hi hne => (k.block i (Nat.lt_of_lt_of_le hi h.size) (fun e => by injection e with e; omega)).trans (h.block i hi hne)⟩
/-- What a round of Few makes of the slice so far. -/
theorem few_step {wr w2 : World} {base : Nat} {v : Value} {ls : List (List UInt8)} {A' : Option Addr} {c' r : Nat} {l : List UInt8} (o : Obj) (h : OwnQ wr base v ls) (hg : (wr.alloc o).grownBy w2 (some wr.heap.size)) (hk : Own8 w2 wr.heap.size (.slice A' r c') l) :
    OwnQ (w2.alloc (.cells #[.slice A' r c'] 39)) base v ls ∧ PartN (w2.alloc (.cells #[.slice A' r c'] 39)) v.ownBlock (.slice A' r c') l ∧ wr.heap.size ≤ w2.heap.size ∧ wr.grownBy w2 none := by
  have hs := grown_skip (World.grownBy_alloc wr o none) hg (Nat.le_refl _)
  have hlt := h.lt
  have h2 : OwnQ w2 base v ls := h.kept hs (by cases hv : v.ownBlock <;> simp) (fun b _ => by simp)
  refine ⟨h2.alloc _, (hk.partN v.ownBlock (fun g hg => (hlt g hg).2)).move (by simp) (fun b hb _ => Below.heap_alloc w2 _ b hb) (fun _ _ h => h), hs.size, hs⟩

/-- What Few answers. -/
def FewPost (w : World) (L : List (List UInt8)) (e : Ending) (w' : World) : Prop := ∃ A' n' c', e = .returned (.slice A' n' c') ∧ L.length = n' ∧ Parts w' w'.heap.size A' L ∧ Below w.heap.size w w'

end Go.Proofs.YtegfnlnbhhmkjaaDoor

namespace Go.Proofs.YtegfnlnbhhmkjaaDoor
set_option maxRecDepth 100000
open Go.RowKit

/-- The words behind j whole blocks. -/
def over (P : List UInt8) : Nat → S8
  | 0 => startS
  | j + 1 => comp (over P j) ((P.drop (64 * j)).take 64)
theorem over_ok (P : List UInt8) : ∀ j, (over P j).ok
  | 0 => startS_ok
  | _ + 1 => comp_ok _ _
theorem absorb_over (P : List UInt8) : ∀ j, 64 * j ≤ P.length → ∃ blk, start.absorb (P.take (64 * j)) = ⟨over P j, blk, 0⟩ ∧ blk.length = 64
  | 0, _ => ⟨zbytes 64, rfl, zbytes_len 64⟩
  | j + 1, h => by
    obtain ⟨blk, e, hb⟩ := absorb_over P j (by omega)
    have hl : ((P.drop (64 * j)).take 64).length = 64 := by rw [List.length_take, List.length_drop]; omega
    refine ⟨laid blk 0 ((P.drop (64 * j)).take 64), ?_, by rw [laid_len (by rw [hl, hb]; omega), hb]⟩
    have hp : P.take (64 * (j + 1)) = P.take (64 * j) ++ (P.drop (64 * j)).take 64 := by
      rw [show 64 * (j + 1) = 64 * j + 64 by omega, List.take_add]
    have hlaid : ∀ q : List UInt8, q.length = 64 → laid blk 0 q = q := fun q hq => by
      unfold laid
      rw [List.take_zero, List.nil_append, hq, List.drop_of_length_le (by omega), List.append_nil]
    rw [hp, Msg.absorb_append, e, absorb_full _ _ hb (by rw [hl]; omega) (by rw [hl])]
    simp only
    rw [hlaid _ hl]
    rfl
theorem sha_over (l P : List UInt8) (nb : Nat) (hP : l ++ [128] ++ List.replicate (gap (l.length % 64)) 0 ++ highB 8 (8 * l.length) = P) (hl : P.length = 64 * nb) : sha l = digestOf (over P nb) := by
  have e : l ++ tail (l.length % 64) l.length = P.take (64 * nb) := by
    rw [List.take_of_length_le (by omega), ← hP]
    unfold tail
    simp [List.append_assoc]
  obtain ⟨blk, h, _⟩ := absorb_over P nb (by omega)
  unfold sha
  rw [e, h]
/-- The next word, in the order in which the reference adds. -/
theorem nextW_ref (L : List Int) (a b c d : Int) (ha : L.getD (L.length - 16) 0 = a) (hb : L.getD (L.length - 7) 0 = b) (hc : L.getD (L.length - 15) 0 = c) (hd : L.getD (L.length - 2) 0 = d) :
    (a + ssig0 c + b + ssig1 d) % 4294967296 = nextW L := by
  unfold nextW
  rw [ha, hb, hc, hd]
  congr 1
  omega
end Go.Proofs.YtegfnlnbhhmkjaaDoor

namespace Go.Proofs.YtegfnlnbhhmkjaaDoor
set_option maxRecDepth 100000
open Go.RowKit
set_option linter.unusedVariables false

/-- A part of a slice. -/
theorem slice_mid (A : Option Addr) (n c lo hi : Nat) (zl zh : Int) (hzl : zl = (lo : Int)) (hzh : zh = (hi : Int)) (h1 : lo ≤ hi) (h2 : hi ≤ n) (h3 : n ≤ c) (W : World) :
    (Instr.slice 39 (.slice A n c) (some (.int .i64 zl)) (some (.int .i64 zh)) none).run Tryd.prog W = .ok (.slice (if c = lo then A else A.map (·.add lo)) (hi - lo) (c - lo)) W := by
  subst hzl hzh
  have he : Tryd.prog.elem 39 = 5 := by kernel_rfl
  rw [run_slice_lh W 39 A n c (by rw [he]; exact Tryd.underlying39) .i64 .i64 lo hi (by omega) (by omega) (by omega)]
  have hs : (sizeOf (Tryd.prog.elem 39)).run Tryd.prog W = .ok 1 W := by
    rw [he]
    obtain ⟨i, hi, hz, hsize, hby⟩ := info_parts info8
    simp [sizeOf, typeInfo, hi, hsize]
  rw [hs]
  simp only [Result.andThen, sliced, Int.toNat_natCast, Nat.mul_one]
theorem rd_mid {w : World} {B : Nat} {A : Option Addr} {l : List UInt8} (h : Rd w B A l) (c lo hi : Nat) (hlh : lo ≤ hi) (hk : hi ≤ l.length) (hc : l.length ≤ c) : Rd w B (if c = lo then A else A.map (·.add lo)) ((l.drop lo).take (hi - lo)) := by
  by_cases hck : c = lo
  · rw [if_pos hck]
    have : (l.drop lo).take (hi - lo) = [] := by
      rw [List.drop_eq_nil_of_le (by omega), List.take_nil]
    rw [this]
    exact Rd.nil
  · rw [if_neg hck]
    refine Rd.take ?_ _
    intro hn
    have hl : 0 < l.length := by simp at hn; omega
    obtain ⟨b, off, e, _⟩ := h hl
    subst e
    have hadd : (⟨b, off, none⟩ : Addr).add lo = ⟨b, off + lo, none⟩ := by unfold Addr.add; split <;> simp_all
    rw [Option.map_some, hadd]
    exact h.drop lo hn

/-- A slice of the call's own that is not empty. -/
theorem OwnT.some_ {w : World} {base : Nat} {A : Option Addr} {n c : Nat} {l : List UInt8} (h : OwnT w base (.slice A n c) l) (hl : 0 < l.length) : ∃ g, A = some ⟨g, 0, none⟩ := by
  rcases h with ⟨_, rfl⟩ | ⟨g, cap, cur, fz, hv, _⟩
  · simp at hl
  · injection hv with e1
    exact ⟨g, e1⟩
/-- A part of it. -/
theorem slice_mid2 (g n c lo hi : Nat) (zl zh : Int) (hzl : zl = (lo : Int)) (hzh : zh = (hi : Int)) (h1 : lo < hi) (h2 : hi ≤ n) (h3 : n ≤ c) (W : World) :
    (Instr.slice 39 (.slice (some ⟨g, 0, none⟩) n c) (some (.int .i64 zl)) (some (.int .i64 zh)) none).run Tryd.prog W = .ok (.slice (some ⟨g, lo, none⟩) (hi - lo) (c - lo)) W := by
  rw [slice_mid (some ⟨g, 0, none⟩) n c lo hi zl zh hzl hzh (by omega) h2 h3 W, if_neg (by omega)]
  have hadd : (⟨g, 0, none⟩ : Addr).add lo = ⟨g, lo, none⟩ := by unfold Addr.add; split <;> simp_all
  rw [Option.map_some, hadd]
theorem t1_ref (r : S8) (kx wx : Int) : ((r.h + bits BinOp.xor .u32 (bits BinOp.xor .u32 (rotn 26 r.e) (rotn 21 r.e)) (rotn 7 r.e) + bits BinOp.xor .u32 (bits BinOp.and .u32 r.e r.f) (bits BinOp.and .u32 (bits BinOp.xor .u32 (if IntKind.u32.signed = true then -1 else IntKind.u32.max) r.e) r.g) + kx) % 4294967296 + wx) % 4294967296 = t1 r kx wx := by
  rw [Int.emod_add_emod]
  rfl
theorem t2_ref (r : S8) : (bits BinOp.xor .u32 (bits BinOp.xor .u32 (rotn 30 r.a) (rotn 19 r.a)) (rotn 10 r.a) + bits BinOp.xor .u32 (bits BinOp.xor .u32 (bits BinOp.and .u32 r.a r.b) (bits BinOp.and .u32 r.a r.c)) (bits BinOp.and .u32 r.b r.c)) % 4294967296 = t2 r := rfl

theorem wordsRow8 (s : S8) : s.list.length = 8 := rfl

end Go.Proofs.YtegfnlnbhhmkjaaDoor
