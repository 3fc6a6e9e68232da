/-
  Contract: the message's take: bytes go into it, block by block.
-/
import Derived.Test.YteijlgifcmlkoaaDoorS3
import Derived.Laws.CopyRow
namespace Go.Proofs.YteijlgifcmlkoaaDoor
open Go.RowKit

/-! ### The message, as a plain datum -/
structure Msg where
  s : S8
  blk : List UInt8
  held : Nat
structure Msg.ok (m : Msg) : Prop where
  s : m.s.ok
  blk : m.blk.length = 64
  held : m.held < 64
def Msg.push (m : Msg) (c : UInt8) : Msg :=
  if m.held + 1 = 64 then ⟨comp m.s (m.blk.set m.held c), m.blk.set m.held c, 0⟩ else ⟨m.s, m.blk.set m.held c, m.held + 1⟩
def Msg.absorb (m : Msg) (l : List UInt8) : Msg := l.foldl Msg.push m
theorem comp_ok (s : S8) (b : List UInt8) : (comp s b).ok := addS_ok _ _
theorem Msg.push_ok {m : Msg} (h : m.ok) (c : UInt8) : (m.push c).ok := by
  unfold Msg.push
  split
  · exact ⟨comp_ok _ _, by simp [h.blk], by simp⟩
  · exact ⟨h.s, by simp [h.blk], by have := h.held; simp; omega⟩
theorem Msg.absorb_ok {m : Msg} (h : m.ok) (l : List UInt8) : (m.absorb l).ok := by
  induction l generalizing m with
  | nil => exact h
  | cons c l ih => exact ih (Msg.push_ok h c)
theorem Msg.absorb_append (m : Msg) (l k : List UInt8) : m.absorb (l ++ k) = (m.absorb l).absorb k := by simp [Msg.absorb]
/-- The block with l laid from 'at' on. -/
def laid (blk : List UInt8) (i : Nat) (l : List UInt8) : List UInt8 := blk.take i ++ l ++ blk.drop (i + l.length)
theorem laid_len {blk : List UInt8} {i : Nat} {l : List UInt8} (h : i + l.length ≤ blk.length) : (laid blk i l).length = blk.length := by
  unfold laid; simp; omega
theorem laid_cons {blk : List UInt8} {i : Nat} (c : UInt8) {l : List UInt8} (h : i + (c :: l).length ≤ blk.length) : laid (blk.set i c) (i + 1) l = laid blk i (c :: l) := by
  simp only [List.length_cons] at h
  have hi : i < blk.length := by omega
  unfold laid
  have h1 : (blk.set i c).take (i + 1) = blk.take i ++ [c] := by
    rw [List.take_set, List.take_succ_eq_append_getElem hi, List.set_append_right _ _ (by simp; omega)]
    simp [Nat.min_eq_left (Nat.le_of_lt hi)]
  have h2 : (blk.set i c).drop (i + 1 + l.length) = blk.drop (i + (c :: l).length) := by
    rw [List.drop_set, if_pos (by omega), List.length_cons, show i + 1 + l.length = i + (l.length + 1) by omega]
  rw [h1, h2]
  simp
theorem absorb_fit : ∀ (l : List UInt8) (m : Msg), m.blk.length = 64 → m.held + l.length < 64 → m.absorb l = ⟨m.s, laid m.blk m.held l, m.held + l.length⟩
  | [], m, _, _ => by simp [Msg.absorb, laid]
  | c :: l, m, hb, h => by
    simp only [List.length_cons] at h
    have e : m.push c = ⟨m.s, m.blk.set m.held c, m.held + 1⟩ := by unfold Msg.push; rw [if_neg (by omega)]
    show (m.push c).absorb l = _
    rw [e, absorb_fit l _ (by simp [hb]) (by simp; omega)]
    simp only
    rw [laid_cons c (by simp [hb]; omega)]
    simp
    omega
theorem absorb_full : ∀ (l : List UInt8) (m : Msg), m.blk.length = 64 → 0 < l.length → m.held + l.length = 64 → m.absorb l = ⟨comp m.s (laid m.blk m.held l), laid m.blk m.held l, 0⟩
  | [], m, _, h0, _ => absurd h0 (by simp)
  | c :: l, m, hb, _, h => by
    simp only [List.length_cons] at h
    show (m.push c).absorb l = _
    rcases Nat.eq_zero_or_pos l.length with h0 | h0
    · have hl : l = [] := List.eq_nil_of_length_eq_zero h0
      subst hl
      have e : m.push c = ⟨comp m.s (m.blk.set m.held c), m.blk.set m.held c, 0⟩ := by unfold Msg.push; rw [if_pos (by simpa using h)]
      have hs : m.blk.set m.held c = laid m.blk m.held [c] := by
        rw [← laid_cons c (by simp [hb]; omega)]
        simp [laid]
      rw [e, hs]
      rfl
    · have e : m.push c = ⟨m.s, m.blk.set m.held c, m.held + 1⟩ := by unfold Msg.push; rw [if_neg (by omega)]
      rw [e, absorb_full l _ (by simp [hb]) h0 (by simp; omega)]
      simp only
      rw [laid_cons c (by simp [hb]; omega)]

/-! ### In memory -/
def Msg.cells (m : Msg) (count : Int) : Array Value := msgCells m.s.list m.blk (m.held : Int) count

/-- A slice that reads as l; its memory is not block g. -/
def RdN (w : World) (g : Nat) (A : Option Addr) (l : List UInt8) : Prop :=
  0 < l.length → ∃ b off, A = some ⟨b, off, none⟩ ∧ b ≠ g ∧ b < w.heap.size ∧ ∀ j, j < l.length → w.cell? ⟨b, off + j, none⟩ = some (.int .u8 ((l.getD j 0).toNat : Int))
section
variable {w w' : World} {g : Nat} {A : Option Addr} {l : List UInt8}
theorem Rd.rdn {B : Nat} (h : Rd w B A l) (hB : B ≤ g) (hg : g ≤ w.heap.size) : RdN w g A l := fun hn => by
  obtain ⟨b, off, e, hb, hc⟩ := h hn
  exact ⟨b, off, e, by omega, by omega, hc⟩
theorem RdN.grown (h : RdN w g A l) (hg : w.grownBy w' (some g)) : RdN w' g A l := fun hn => by
  obtain ⟨b, off, e, hb, hlt, hc⟩ := h hn
  exact ⟨b, off, e, hb, Nat.lt_of_lt_of_le hlt hg.size, fun j hj => (World.cell?_of_block (hg.block b hlt (fun e => by injection e with e; exact hb e))).trans (hc j hj)⟩
theorem RdN.drop {b off : Nat} (h : RdN w g (some ⟨b, off, none⟩) l) (n : Nat) : RdN w g (some ⟨b, off + n, none⟩) (l.drop n) := fun hn => by
  simp at hn
  obtain ⟨b', off', e, hb, hlt, hc⟩ := h (by omega)
  injection e with e
  injection e with e1 e2
  subst e1 e2
  refine ⟨b, off + n, rfl, hb, hlt, fun j hj => ?_⟩
  simp at hj
  rw [Nat.add_assoc, hc (n + j) (by omega)]
  simp [List.getD]
theorem Blk8.rdn {g' : Nat} (h : Blk8 w g' l) (hne : g' ≠ g) : RdN w g (some ⟨g', 0, none⟩) l := fun _ =>
  ⟨g', 0, rfl, hne, h.lt, fun j hj => by rw [Nat.zero_add]; exact h.cell j hj⟩
end
theorem Tab.grown {w w' : World} {g : Nat} (h : Tab w) (hg : w.grownBy w' (some g)) (hg0 : g ≠ 1) (hg1 : 1 < w.heap.size) : Tab w' := fun t ht => by
  rw [← h t ht]
  exact World.cell?_of_block (hg.block _ hg1 (fun e => by injection e with e; exact hg0 e.symm))

/-- The cells behind a copy. -/
theorem msg_laid {ws : List Int} {blk : List UInt8} (held count : Int) (i : Nat) (l : List UInt8) (h8 : ws.length = 8) (h : i + l.length ≤ blk.length) :
    ((msgCells ws blk held count).toList.take (8 + i) ++ (rowOf l).toList ++ (msgCells ws blk held count).toList.drop (8 + i + (rowOf l).toList.length)).toArray = msgCells ws (laid blk i l) held count := by
  have hw : (wordsRow ws).toList.length = 8 := by simp [wordsRow, h8]
  have hr : (rowOf blk).toList.length = blk.length := by simp [rowOf]
  have hl : (rowOf l).toList.length = l.length := by simp [rowOf]
  apply Array.ext'
  unfold msgCells laid
  simp only [Array.toList_append, hl]
  rw [List.take_append, hw, List.take_of_length_le (by omega), Nat.add_sub_cancel_left, List.take_append, hr, show i - blk.length = 0 by omega, List.take_zero, List.append_nil]
  rw [List.drop_append, hw, List.drop_of_length_le (by omega), List.nil_append, show 8 + i + l.length - 8 = i + l.length by omega, List.drop_append, hr, show i + l.length - blk.length = 0 by omega, List.drop_zero]
  simp [rowOf, List.map_take, List.map_drop]

/-- The rest of the block, as a slice. -/
theorem slice_blk (g i : Nat) (hi : i < 64) (W : World) :
    (Instr.sliceAt 68 (.pointer (some ⟨g, 8, none⟩)) (some (.int .i64 (i : Int))) none none).run Tryd.prog W = .ok (.slice (some ⟨g, 8 + i, none⟩) (64 - i) (64 - i)) W := by
  have he : Tryd.prog.elem 68 = 5 := by kernel_rfl
  have hn : Tryd.prog.arrayLen 68 = 64 := by kernel_rfl
  have ht : Tryd.prog.underlying 68 = some (.array (Tryd.prog.arrayLen 68) (Tryd.prog.elem 68)) := by rw [he, hn]; exact Tryd.underlying68
  rw [run_sliceAt_array_l W 68 ⟨g, 8, none⟩ ht .i64 i (by omega) (by rw [hn]; omega)]
  have hs : (sizeOf (Tryd.prog.elem 68)).run Tryd.prog W = .ok 1 W := by
    rw [he]
    obtain ⟨i, hi, hz, hsize, hby⟩ := info_parts info8
    simp [sizeOf, typeInfo, hi, hsize]
  rw [hs, hn]
  simp only [Result.andThen, slicedAt, Int.toNat_natCast, Nat.mul_one]
  rw [if_neg (by omega)]
  congr 3
  unfold Addr.add
  split
  · congr 1; omega
  · simp
/-- The rest of a slice. -/
theorem slice_from (A : Option Addr) (n c k : Nat) (hk : k ≤ n) (W : World) :
    (Instr.slice 22 (.slice A n c) (some (.int .i64 (k : Int))) none none).run Tryd.prog W = .ok (.slice (if c = k then A else A.map (·.add k)) (n - k) (c - k)) W := by
  have he : Tryd.prog.elem 22 = 5 := by kernel_rfl
  rw [run_slice_l W 22 A n c (by rw [he]; exact Tryd.underlying22) .i64 k (by omega) (by omega)]
  have hs : (sizeOf (Tryd.prog.elem 22)).run Tryd.prog W = .ok 1 W := by
    rw [he]
    obtain ⟨i, hi, hz, hsize, hby⟩ := info_parts info8
    simp [sizeOf, typeInfo, hi, hsize]
  rw [hs]
  simp only [Result.andThen, sliced, Int.toNat_natCast, Nat.mul_one]
theorem rdn_from {w : World} {g : Nat} {A : Option Addr} {l : List UInt8} (h : RdN w g A l) (c k : Nat) (hk : k ≤ l.length) (hc : l.length ≤ c) : RdN w g (if c = k then A else A.map (·.add k)) (l.drop k) := by
  by_cases hck : c = k
  · rw [if_pos hck]
    have : l.drop k = [] := List.drop_eq_nil_of_le (by omega)
    rw [this]
    exact fun hn => absurd hn (by simp)
  · rw [if_neg hck]
    intro hn
    have hl : 0 < l.length := by simp at hn; omega
    obtain ⟨b, off, e, _⟩ := h hl
    subst e
    have := h.drop k hn
    simp only [Option.map_some]
    have hp : (⟨b, off, none⟩ : Addr).add k = ⟨b, off + k, none⟩ := by unfold Addr.add; split <;> simp_all
    rw [hp]
    exact this

section
variable {ops : Array Oper} {rest : List Oper} {o : Oper} {a : Act} {w : World} {Q : Exit → Act → World → Prop}
/-- copy into a block known whole. -/
theorem wp_copy8 {K : Act → World → Prop} (d x : Operand) (ho : o.op = .call { callee := .builtin .copy, args := #[d, x], argTypes := #[22, 22] })
    (g i dl dc : Nat) (hd : a.eval d = .slice (some ⟨g, i, none⟩) dl dc) (A : Option Addr) (n c : Nat) (hx : a.eval x = .slice A n c) (l : List UInt8) (r : Nat) (hlr : l.length = r) (hl : 0 < r) (hln : r = Nat.min n dl)
    (h : Nat) (hr : RdN w h A l) (t : TypeId) (cur : Array Value) (hg : Bk w g t cur) (hfit : i + r ≤ cur.size)
    (hK : ∀ w', Bk w' g t (cur.toList.take i ++ (rowOf l).toList ++ cur.toList.drop (i + (rowOf l).toList.length)).toArray → w.grownBy w' (some g) → w'.heap.size = w.heap.size → K (a.put o.dst (.int .i64 (r : Int))) w') : o.wp Tryd.prog a w K Q := by
  subst hlr
  obtain ⟨b, off, rfl, _, _, hc⟩ := hr hl
  have hrl : (rowOf l).toList.length = l.length := by simp [rowOf]
  have hsrc : ∀ j v, (rowOf l).toList[j]? = some v → w.cell? ((⟨b, off, none⟩ : Addr).add j) = some v := by
    intro j v hj
    have hjl : j < l.length := by
      have := (List.getElem?_eq_some_iff.1 hj).1
      omega
    have hp : (⟨b, off, none⟩ : Addr).add j = ⟨b, off + j, none⟩ := by unfold Addr.add; split <;> simp_all
    have h2 := rowOf_at l j hjl
    have h3 : (rowOf l).toList[j]? = (rowOf l)[j]? := by simp
    rw [hp, hc j hjl, ← hj, h3, h2]
  have hrun := run_copy_row (P := Tryd.prog) w 22 22 o.type 5 g i dl dc ⟨b, off, none⟩ n c cur t (rowOf l).toList Tryd.underlying22 (by kernel_rfl) hg (by rw [hrl]; exact hln) hsrc (by rw [hrl]; exact hfit) (one_of_row l)
  unfold Oper.wp execOp
  simp only [ho, resolve, invoke, builtin, Sem.run_bind, Sem.run_pure, Result.andThen_ok, List.map_toArray, List.map_cons, List.map_nil, hd, hx, hrun]
  have := hK _ (hg.rowed _) (grown_row (World.grownBy.refl w _) _) (by simp)
  rw [hrl] at this ⊢
  exact this
theorem wpList_copy8 (hgd : o.guard = none) (d x : Operand) (ho : o.op = .call { callee := .builtin .copy, args := #[d, x], argTypes := #[22, 22] })
    (g i dl dc : Nat) (hd : a.eval d = .slice (some ⟨g, i, none⟩) dl dc) (A : Option Addr) (n c : Nat) (hx : a.eval x = .slice A n c) (l : List UInt8) (r : Nat) (hlr : l.length = r) (hl : 0 < r) (hln : r = Nat.min n dl)
    (h : Nat) (hr : RdN w h A l) (t : TypeId) (cur : Array Value) (hg : Bk w g t cur) (hfit : i + r ≤ cur.size)
    (hK : ∀ w', Bk w' g t (cur.toList.take i ++ (rowOf l).toList ++ cur.toList.drop (i + (rowOf l).toList.length)).toArray → w.grownBy w' (some g) → w'.heap.size = w.heap.size → wpList Tryd.prog ops Q rest (a.put o.dst (.int .i64 (r : Int))) w') : wpList Tryd.prog ops Q (o :: rest) a w :=
  wpList_plain hgd fun _ hk => wp_copy8 d x ho g i dl dc hd A n c hx l r hlr hl hln h hr t cur hg hfit fun w' h1 h2 h3 => hk _ _ (hK w' h1 h2 h3)
theorem step_copy8 {K : Act → World → Prop} {E : Prop} (hgd : o.guard = none) (d x : Operand) (ho : o.op = .call { callee := .builtin .copy, args := #[d, x], argTypes := #[22, 22] })
    (g i dl dc : Nat) (hd : a.eval d = .slice (some ⟨g, i, none⟩) dl dc) (A : Option Addr) (n c : Nat) (hx : a.eval x = .slice A n c) (l : List UInt8) (r : Nat) (hlr : l.length = r) (hl : 0 < r) (hln : r = Nat.min n dl)
    (h : Nat) (hr : RdN w h A l) (t : TypeId) (cur : Array Value) (hg : Bk w g t cur) (hfit : i + r ≤ cur.size)
    (hK : ∀ w', Bk w' g t (cur.toList.take i ++ (rowOf l).toList ++ cur.toList.drop (i + (rowOf l).toList.length)).toArray → w.grownBy w' (some g) → w'.heap.size = w.heap.size → K (a.put o.dst (.int .i64 (r : Int))) w') :
    if Region.wanted o (yielded ops a.tmps) = true then Oper.wp Tryd.prog o a w K Q else E := by
  have hw : Region.wanted o (yielded ops a.tmps) = true := by simp [Region.wanted, hgd]
  rw [if_pos hw]
  exact wp_copy8 d x ho g i dl dc hd A n c hx l r hlr hl hln h hr t cur hg hfit hK
end

def lenOf : Value → Nat | .slice _ n _ => n | _ => 0

set_option maxRecDepth 100000 in
set_option maxHeartbeats 1000000 in
theorem take_any (g : Nat) (m : Msg) (count : Nat) (hok : m.ok) (w : World) (hm : Bk w g 70 (m.cells count)) (ht : Tab w) (hg0 : g ≠ 1) (hg1 : 1 < w.heap.size)
    (A : Option Addr) (l : List UInt8) (n c : Nat) (hn : l.length = n) (hr : RdN w g A l) (hc : n ≤ c) (hcm : c ≤ 9223372036854775807) (hcount : count + n ≤ 18446744073709551615) :
    Calls Tryd.prog 38 #[.pointer (some ⟨g, 0, none⟩), .slice A n c] w fun e w' => e = .returned (.tuple #[]) ∧ Bk w' g 70 ((m.absorb l).cells ((count + n : Nat) : Int)) ∧ w.grownBy w' (some g) := by
  have h73 : w.cell? ⟨g, 73, none⟩ = some (.int .u64 (count : Int)) := by
    rw [hm.cell]; exact msg_count _ _ rfl hok.blk
  have f73 := hm.frozen 73
  have hset := hm.set_ 73 (.int .u64 ((count : Int) + (n : Int)))
  have hcells : (m.cells count).setIfInBounds 73 (.int .u64 ((count : Int) + (n : Int))) = m.cells ((count + n : Nat) : Int) := by
    unfold Msg.cells
    exact msg_setcount _ _ _ rfl hok.blk
  rw [hcells] at hset
  have HM := hid_ hset
  have HT := hid_ (ht.grown (grown_put (World.grownBy.refl w (some g)) 73 (.int .u64 ((count : Int) + (n : Int)))) hg0 hg1)
  have HR := hid_ (hr.grown (grown_put (World.grownBy.refl w (some g)) 73 (.int .u64 ((count : Int) + (n : Int)))))
  have HL := hid_ hn
  have HOK := hid_ hok
  clear hset hcells hm ht hr hn hok
  go_enter Tryd.func38, Tryd.ntmps38
  go_wp2
  clear h73 f73
  go_loopw [1, 4] (fun v _ wr => ∃ (A' : Option Addr) (k : List UInt8) (n' c' : Nat) (q : Msg), v = .slice A' n' c' ∧ k.length = n' ∧ n' ≤ c' ∧ c' ≤ 9223372036854775807 ∧ q.ok ∧ m.absorb l = q.absorb k ∧ RdN wr g A' k ∧ Bk wr g 70 (q.cells ((count + n : Nat) : Int)) ∧ Tab wr ∧ w.grownBy wr (some g)) (fun v _ _ => lenOf v)
  case atStart => exact ⟨A, l, n, c, m, rfl, HL.out, hc, hcm, HOK.out, rfl, HR.out, HM.out, HT.out, grown_put (World.grownBy.refl w (some g)) _ _⟩
  case round =>
    obtain ⟨A', k, n', c', q, rfl, hkl, hnc, hcm', hq, habs, hr, hmq, htq, hgr⟩ := hrel
    have HKL := hid_ hkl
    have HQ := hid_ hq
    have HA := hid_ habs
    have HR1 := hid_ hr
    have HM1 := hid_ hmq
    have HT1 := hid_ htq
    have HG1 := hid_ hgr
    clear hkl hq habs hr hmq htq hgr HM HT HR HL
    by_cases h0 : n' = 0
    · subst h0
      go_wp2
      go_end0
      have hk0 : k = [] := List.eq_nil_of_length_eq_zero HKL.out
      rw [HA.out, hk0]
      exact ⟨rfl, HM1.out, HG1.out⟩
    · obtain ⟨r, hr1, hr2, hr3, hrm⟩ : ∃ r : Nat, 1 ≤ r ∧ r ≤ n' ∧ q.held + r ≤ 64 ∧ r = Nat.min n' (64 - q.held) := by
        have := HQ.out.held
        rcases Nat.le_total n' (64 - q.held) with h | h
        · exact ⟨n', by omega, by omega, by omega, (Nat.min_eq_left h).symm⟩
        · exact ⟨64 - q.held, by omega, by omega, by omega, (Nat.min_eq_right h).symm⟩
      have HRM := hid_ hrm
      have hheld := HQ.out.held
      have hpl : (k.take r).length = r := by rw [List.length_take, HKL.out]; omega
      have PL := hid_ hpl
      have hsb := slice_blk g q.held hheld
      have hsf := slice_from A' n' c' r hr2
      have c72 : wr.cell? ⟨g, 72, none⟩ = some (.int .i64 (q.held : Int)) := by
        rw [HM1.out.cell]; exact msg_held _ _ rfl HQ.out.blk
      have hrp : RdN wr g A' (k.take r) := fun hn => by
        rw [hpl] at hn
        obtain ⟨b, off, e, hb, hlt, hcc⟩ := HR1.out (by rw [HKL.out]; omega)
        refine ⟨b, off, e, hb, hlt, fun j hj => ?_⟩
        rw [hpl] at hj
        rw [hcc j (by rw [HKL.out]; omega)]
        simp [List.getD, hj]
      have HRP := hid_ hrp
      clear hrm hpl hrp
      go_wp2
      refine region_quiet_tail_lit 9 (by kernel_rfl) (by kernel_rfl) ?_
      simp only [List.take_succ_cons, List.take_zero]
      repeat (go_big_quiet_step (fail))
      refine wpQuiet_nil ?_
      intro w' hw'
      obtain ⟨nq, rfl⟩ := hw'
      simp only [List.drop_succ_cons, List.drop_zero]
      have hpos : ((q.held : Int) + (r : Int)) ≤ 64 := by omega
      have hblk : (laid q.blk q.held (k.take r)).length = 64 := by
        rw [laid_len (by rw [PL.out, HQ.out.blk]; omega), HQ.out.blk]
      have HBL := hid_ hblk
      have hml := msg_laid (ws := q.s.list) (blk := q.blk) (q.held : Int) ((count + n : Nat) : Int) q.held (k.take r) rfl (by rw [PL.out, HQ.out.blk]; omega)
      have HML := hid_ hml
      have hrest := rdn_from HR1.out c' r (by rw [HKL.out]; exact hr2) (by rw [HKL.out]; exact hnc)
      have HRS := hid_ hrest
      have hkd : (k.drop r).length = n' - r := by rw [List.length_drop, HKL.out]
      have HKD := hid_ hkd
      have hka : q.absorb k = (q.absorb (k.take r)).absorb (k.drop r) := by rw [← Msg.absorb_append, List.take_append_drop]
      have HKA := hid_ hka
      have hfit : 8 + q.held + r ≤ (msgCells q.s.list q.blk (q.held : Int) ((count + n : Nat) : Int)).size := by rw [msg_size _ _ rfl HQ.out.blk]; omega
      have HFT := hid_ hfit
      have hmd := HM1.out.drewN nq
      have HMD := hid_ hmd
      have hrd : RdN (wr.drewN nq) g A' (k.take r) := HRP.out
      have HRD := hid_ hrd
      clear hblk hml hrest hkd hka hfit hmd hrd c72 hsb
      by_cases hfull : q.held + r = 64
      · have heq : ((q.held : Int) + (r : Int) == 64) = true := by simp; omega
        have HF := hid_ hfull
        clear hfull
        refine wpList_copy8 rfl (.tmp 25) (.tmp 26) rfl g (8 + q.held) (64 - q.held) (64 - q.held) rfl A' n' c' rfl (k.take r) r PL.out hr1 HRM.out g HRD.out 70 (msgCells q.s.list q.blk (q.held : Int) ((count + n : Nat) : Int)) HMD.out HFT.out ?_
        intro w5 k5 g5 s5
        rw [HML.out] at k5
        have c72 := k5.cell 72
        rw [msg_held _ _ rfl HBL.out] at c72
        have f72 := k5.frozen 72
        have k6 := (k5.set_ 72 (.int .i64 ((q.held : Int) + (r : Int)))).set_ 72 (.int .i64 0)
        rw [msg_setheld _ _ _ rfl HBL.out, msg_setheld _ _ _ rfl HBL.out] at k6
        have g6 := grown_put (grown_put ((grown_drewN HG1.out nq).trans g5) 72 (.int .i64 ((q.held : Int) + (r : Int)))) 72 (.int .i64 0)
        have K5 := hid_ k5
        have K6 := hid_ k6
        have G6 := hid_ g6
        have hz0 : 1 < (wr.drewN nq).heap.size := Nat.lt_of_lt_of_le hg1 HG1.out.size
        have t6 : Tab ((w5.setCell ⟨g, 72, none⟩ (.int .i64 ((q.held : Int) + (r : Int)))).setCell ⟨g, 72, none⟩ (.int .i64 0)) :=
          Tab.grown (w := wr.drewN nq) HT1.out (grown_put (grown_put g5 72 (.int .i64 ((q.held : Int) + (r : Int)))) 72 (.int .i64 0)) hg0 hz0
        have z6 : 1 < ((w5.setCell ⟨g, 72, none⟩ (.int .i64 ((q.held : Int) + (r : Int)))).setCell ⟨g, 72, none⟩ (.int .i64 0)).heap.size := Nat.lt_of_lt_of_le hg1 g6.size
        have cm := mix_any g q.s (laid q.blk q.held (k.take r)) 0 ((count + n : Nat) : Int) HQ.out.s HBL.out _ k6 t6 hg0 z6
        clear k5 k6 g6 s5 t6 z6 hz0
        go_wp2_with (go_at_call 44; ((with_reducible refine cm.mono ?_); rintro e w7 ⟨rfl, m7, g7⟩))
        go_roundw
        case rel =>
          have hab : m.absorb l = (⟨comp q.s (laid q.blk q.held (k.take r)), laid q.blk q.held (k.take r), 0⟩ : Msg).absorb (k.drop r) := by
            rw [HA.out, HKA.out, absorb_full (k.take r) q HQ.out.blk (by rw [PL.out]; exact hr1) (by rw [PL.out]; exact HF.out)]
          have gch := (grown_put (grown_put g5 72 (.int .i64 ((q.held : Int) + (r : Int)))) 72 (.int .i64 0)).trans g7
          have hz0 : 1 < (wr.drewN nq).heap.size := Nat.lt_of_lt_of_le hg1 HG1.out.size
          exact ⟨_, k.drop r, n' - r, c' - r, ⟨comp q.s (laid q.blk q.held (k.take r)), laid q.blk q.held (k.take r), 0⟩, rfl, HKD.out, by omega, by omega, ⟨comp_ok _ _, HBL.out, by simp⟩, hab,
            RdN.grown (w := wr.drewN nq) HRS.out gch, m7, Tab.grown (w := wr.drewN nq) HT1.out gch hg0 hz0, G6.out.trans g7⟩
        case measure => simp [lenOf]; omega
      · have heq : ((q.held : Int) + (r : Int) == 64) = false := by simp; omega
        have hlt64 : q.held + r < 64 := by omega
        have HF := hid_ hlt64
        clear hfull hlt64
        refine wpList_copy8 rfl (.tmp 25) (.tmp 26) rfl g (8 + q.held) (64 - q.held) (64 - q.held) rfl A' n' c' rfl (k.take r) r PL.out hr1 HRM.out g HRD.out 70 (msgCells q.s.list q.blk (q.held : Int) ((count + n : Nat) : Int)) HMD.out HFT.out ?_
        intro w5 k5 g5 s5
        rw [HML.out] at k5
        have c72 := k5.cell 72
        rw [msg_held _ _ rfl HBL.out] at c72
        have f72 := k5.frozen 72
        have k6 := k5.set_ 72 (.int .i64 ((q.held : Int) + (r : Int)))
        rw [msg_setheld _ _ _ rfl HBL.out] at k6
        have K6 := hid_ k6
        clear k5 k6 s5
        go_wp2
        go_roundw
        case rel =>
          have hab : m.absorb l = (⟨q.s, laid q.blk q.held (k.take r), q.held + r⟩ : Msg).absorb (k.drop r) := by
            rw [HA.out, HKA.out, absorb_fit (k.take r) q HQ.out.blk (by rw [PL.out]; exact HF.out), PL.out]
          have gch := grown_put g5 72 (.int .i64 ((q.held : Int) + (r : Int)))
          have hz0 : 1 < (wr.drewN nq).heap.size := Nat.lt_of_lt_of_le hg1 HG1.out.size
          exact ⟨_, k.drop r, n' - r, c' - r, ⟨q.s, laid q.blk q.held (k.take r), q.held + r⟩, rfl, HKD.out, by omega, by omega, ⟨HQ.out.s, HBL.out, HF.out⟩, hab,
            RdN.grown (w := wr.drewN nq) HRS.out gch, K6.out, Tab.grown (w := wr.drewN nq) HT1.out gch hg0 hz0, (grown_drewN HG1.out nq).trans gch⟩
        case measure => simp [lenOf]; omega
end Go.Proofs.YteijlgifcmlkoaaDoor
