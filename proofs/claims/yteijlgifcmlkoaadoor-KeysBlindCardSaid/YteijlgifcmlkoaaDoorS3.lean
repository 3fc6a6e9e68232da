/-
  Contract: the message's mix: the block goes into the words.
-/
import Derived.Test.YteijlgifcmlkoaaDoorS2
namespace Go.Proofs.YteijlgifcmlkoaaDoor
open Go.RowKit

/-! ### The rounds, as plain functions -/
structure S8 where
  a : Int
  b : Int
  c : Int
  d : Int
  e : Int
  f : Int
  g : Int
  h : Int
def S8.list (s : S8) : List Int := [s.a, s.b, s.c, s.d, s.e, s.f, s.g, s.h]
structure S8.ok (s : S8) : Prop where
  a : ok32 s.a
  b : ok32 s.b
  c : ok32 s.c
  d : ok32 s.d
  e : ok32 s.e
  f : ok32 s.f
  g : ok32 s.g
  h : ok32 s.h
theorem S8.list_ok {s : S8} (h : s.ok) : ∀ x ∈ s.list, ok32 x := by
  intro x hx
  simp only [S8.list, List.mem_cons, List.not_mem_nil, or_false] at hx
  rcases hx with rfl | rfl | rfl | rfl | rfl | rfl | rfl | rfl
  · exact h.a
  · exact h.b
  · exact h.c
  · exact h.d
  · exact h.e
  · exact h.f
  · exact h.g
  · exact h.h
def sa (x y : Int) : Int := bits .and .u32 x y
theorem sa_ok (x y : Int) : ok32 (sa x y) := by unfold sa; exact ok32_bits _ _ _
theorem sx_ok (x y : Int) : ok32 (sx x y) := by unfold sx; exact ok32_bits _ _ _
def nt (e : Int) : Int := bits .xor .u32 (if IntKind.u32.signed = true then -1 else IntKind.u32.max) e
def ch (e f g : Int) : Int := sx (sa e f) (sa (nt e) g)
def maj (a b c : Int) : Int := sx (sx (sa a b) (sa a c)) (sa b c)
theorem ch_ok (e f g : Int) : ok32 (ch e f g) := sx_ok _ _
theorem maj_ok (a b c : Int) : ok32 (maj a b c) := sx_ok _ _
def t1 (s : S8) (k w : Int) : Int := (s.h + bsig1 s.e + ch s.e s.f s.g + k + w) % 4294967296
def t2 (s : S8) : Int := (bsig0 s.a + maj s.a s.b s.c) % 4294967296
def rnd (s : S8) (k w : Int) : S8 := ⟨(t1 s k w + t2 s) % 4294967296, s.a, s.b, s.c, (s.d + t1 s k w) % 4294967296, s.e, s.f, s.g⟩
theorem rnd_ok {s : S8} (h : s.ok) (k w : Int) : (rnd s k w).ok := ⟨ok32_mod _, h.a, h.b, h.c, ok32_mod _, h.e, h.f, h.g⟩
def rounds (s : S8) (W : List Int) : Nat → S8
  | 0 => s
  | t + 1 => rnd (rounds s W t) (roundK.getD t 0) (W.getD t 0)
theorem rounds_ok {s : S8} (h : s.ok) (W : List Int) : ∀ t, (rounds s W t).ok
  | 0 => h
  | t + 1 => rnd_ok (rounds_ok h W t) _ _
def addS (s r : S8) : S8 := ⟨(s.a + r.a) % 4294967296, (s.b + r.b) % 4294967296, (s.c + r.c) % 4294967296, (s.d + r.d) % 4294967296, (s.e + r.e) % 4294967296, (s.f + r.f) % 4294967296, (s.g + r.g) % 4294967296, (s.h + r.h) % 4294967296⟩
theorem addS_ok (s r : S8) : (addS s r).ok := ⟨ok32_mod _, ok32_mod _, ok32_mod _, ok32_mod _, ok32_mod _, ok32_mod _, ok32_mod _, ok32_mod _⟩
/-- A block goes into the words. -/
def comp (s : S8) (b : List UInt8) : S8 := addS s (rounds s (sched b 64) 64)

/-! ### The message in memory -/
def msgCells (ws : List Int) (blk : List UInt8) (held count : Int) : Array Value := wordsRow ws ++ (rowOf blk ++ #[.int .i64 held, .int .u64 count])
theorem msg_size {ws : List Int} {blk : List UInt8} (held count : Int) (h8 : ws.length = 8) (h64 : blk.length = 64) : (msgCells ws blk held count).size = 74 := by
  simp [msgCells, wordsRow_size, rowOf_size, h8, h64]
theorem msg_word {ws : List Int} (blk : List UInt8) (held count : Int) (i : Nat) (hi : i < ws.length) : (msgCells ws blk held count)[i]? = some (.int .u32 (ws.getD i 0)) := by
  unfold msgCells
  rw [Array.getElem?_append_left (by rw [wordsRow_size]; exact hi), wordsRow_at _ _ hi]
theorem msg_byte {ws : List Int} {blk : List UInt8} (held count : Int) (i : Nat) (h8 : ws.length = 8) (hi : i < blk.length) : (msgCells ws blk held count)[8 + i]? = (rowOf blk)[i]? := by
  unfold msgCells
  rw [Array.getElem?_append_right (by rw [wordsRow_size, h8]; omega), wordsRow_size, h8, Nat.add_sub_cancel_left, Array.getElem?_append_left (by rw [rowOf_size]; exact hi)]
theorem msg_held {ws : List Int} {blk : List UInt8} (held count : Int) (h8 : ws.length = 8) (h64 : blk.length = 64) : (msgCells ws blk held count)[72]? = some (.int .i64 held) := by
  unfold msgCells
  rw [Array.getElem?_append_right (by rw [wordsRow_size, h8]; omega), wordsRow_size, h8, Array.getElem?_append_right (by rw [rowOf_size, h64]; omega), rowOf_size, h64]
  rfl
theorem msg_count {ws : List Int} {blk : List UInt8} (held count : Int) (h8 : ws.length = 8) (h64 : blk.length = 64) : (msgCells ws blk held count)[73]? = some (.int .u64 count) := by
  unfold msgCells
  rw [Array.getElem?_append_right (by rw [wordsRow_size, h8]; omega), wordsRow_size, h8, Array.getElem?_append_right (by rw [rowOf_size, h64]; omega), rowOf_size, h64]
  rfl
theorem msg_setword {ws : List Int} (blk : List UInt8) (held count : Int) (i : Nat) (x : Int) (hi : i < ws.length) : (msgCells ws blk held count).setIfInBounds i (.int .u32 x) = msgCells (ws.set i x) blk held count := by
  unfold msgCells
  rw [← wordsRow_set, Array.setIfInBounds_append_left (by rw [wordsRow_size]; exact hi)]

theorem msg_setcount {ws : List Int} {blk : List UInt8} (held count x : Int) (h8 : ws.length = 8) (h64 : blk.length = 64) : (msgCells ws blk held count).setIfInBounds 73 (.int .u64 x) = msgCells ws blk held x := by
  unfold msgCells
  rw [Array.setIfInBounds_append_right (by rw [wordsRow_size, h8]; omega), wordsRow_size, h8, Array.setIfInBounds_append_right (by rw [rowOf_size, h64]; omega), rowOf_size, h64]
  rfl
theorem msg_setheld {ws : List Int} {blk : List UInt8} (held count x : Int) (h8 : ws.length = 8) (h64 : blk.length = 64) : (msgCells ws blk held count).setIfInBounds 72 (.int .i64 x) = msgCells ws blk x count := by
  unfold msgCells
  rw [Array.setIfInBounds_append_right (by rw [wordsRow_size, h8]; omega), wordsRow_size, h8, Array.setIfInBounds_append_right (by rw [rowOf_size, h64]; omega), rowOf_size, h64]
  rfl
/-- The table of the program's own. -/
def Tab (w : World) : Prop := ∀ t, t < 64 → w.cell? ⟨1, t, none⟩ = some (.int .u32 (roundK.getD t 0))

section
variable {P : Program} {ops : Array Oper} {rest : List Oper} {o : Oper} {a : Act} {w : World} {Q : Exit → Act → World → Prop}
/-- A part of a block, read as a whole. -/
theorem wpList_load_sub (hgd : o.guard = none) (ty : TypeId) (x : Operand) (ho : o.op = .load ty x)
    (g off : Nat) (hx : a.eval x = .pointer (some ⟨g, off, none⟩)) (cs : Array Value) (hc : ∀ j, j < cs.size → w.cell? ⟨g, off + j, none⟩ = cs[j]?) (d : TypeDesc)
    (hu : P.underlying ty = some d) (hd : (match d with | .struct _ | .array _ _ => true | _ => false) = true) (hi : (P.info? ty).map (·.size) = some cs.size)
    (h : wpList P ops Q rest (a.put o.dst (.agg cs)) w) : wpList P ops Q (o :: rest) a w := by
  have hl : (loadCells ⟨g, off, none⟩ cs.toList.length).run P w = .ok cs.toList.toArray w :=
    run_loadCells_list (P := P) w ⟨g, off, none⟩ cs.toList (fun j v hv => by
      have hadd : (⟨g, off, none⟩ : Addr).add j = ⟨g, off + j, none⟩ := by unfold Addr.add; split <;> simp_all
      have hj : j < cs.size := by
        have := (List.getElem?_eq_some_iff.1 hv).1
        simpa using this
      rw [hadd, hc j hj]
      simpa using hv)
  have hrun : (loadVar ty ⟨g, off, none⟩).run P w = .ok (.agg cs) w := by
    cases hq : P.info? ty with
    | none => simp [hq] at hi
    | some i =>
      have hs : i.size = cs.size := by simpa [hq] using hi
      have hagg : (isAgg ty).run P w = .ok true w := by
        unfold isAgg
        rw [Sem.run_bind, run_underlying hu w]
        cases d <;> simp_all
      simp only [Array.length_toList, Array.toArray_toList] at hl
      simp [loadVar, Sem.run_bind, hagg, sizeOf, typeInfo, hq, hs, hl]
  refine wpList_plain hgd fun _ hK => ?_
  unfold Oper.wp execOp
  simp only [ho, hx, Instr.loadAt, Instr.sureAddr, Sem.run_bind, Sem.run_pure, Result.andThen_ok, hrun]
  exact hK _ _ h
end

/-- The words behind k additions. -/
def mixed (s r : S8) (k : Nat) : List Int := (addS s r).list.take k ++ s.list.drop k
theorem mixed_len (s r : S8) (k : Nat) : (mixed s r k).length = 8 := by
  have h1 : (addS s r).list.length = 8 := rfl
  have h2 : s.list.length = 8 := rfl
  unfold mixed
  rw [List.length_append, List.length_take, List.length_drop, h1, h2]
  omega
theorem mixed_get (s r : S8) (k : Nat) (hk : k < 8) : (mixed s r k).getD k 0 = s.list.getD k 0 := by
  match k, hk with
  | 0, _ | 1, _ | 2, _ | 3, _ | 4, _ | 5, _ | 6, _ | 7, _ => rfl
theorem mixed_set (s r : S8) (k : Nat) (hk : k < 8) : (mixed s r k).set k ((s.list.getD k 0 + r.list.getD k 0) % 4294967296) = mixed s r (k + 1) := by
  match k, hk with
  | 0, _ | 1, _ | 2, _ | 3, _ | 4, _ | 5, _ | 6, _ | 7, _ => rfl
theorem idx8 (r : S8) (k : Nat) (hk : k < 8) (V : World) :
    (Instr.index 58 (.agg #[.int .u32 r.a, .int .u32 r.b, .int .u32 r.c, .int .u32 r.d, .int .u32 r.e, .int .u32 r.f, .int .u32 r.g, .int .u32 r.h]) (.int .i64 (k : Int))).run Tryd.prog V = .ok (.int .u32 (r.list.getD k 0)) V := by
  rcases (by omega : k = 0 ∨ k = 1 ∨ k = 2 ∨ k = 3 ∨ k = 4 ∨ k = 5 ∨ k = 6 ∨ k = 7) with rfl | rfl | rfl | rfl | rfl | rfl | rfl | rfl <;> kernel_rfl

theorem i64b_ : (Tryd.prog.info? 68).map (·.size) = some 64 := by kernel_rfl

set_option maxRecDepth 100000 in
set_option maxHeartbeats 1000000 in
theorem mix_any (g : Nat) (s : S8) (blk : List UInt8) (held count : Int) (hs : s.ok) (h64 : blk.length = 64) (w : World) (hm : Bk w g 70 (msgCells s.list blk held count)) (ht : Tab w) (hg0 : g ≠ 1) (hg1 : 1 < w.heap.size) :
    Calls Tryd.prog 44 #[.pointer (some ⟨g, 0, none⟩)] w fun e w' => e = .returned (.tuple #[]) ∧ Bk w' g 70 (msgCells (comp s blk).list blk held count) ∧ w.grownBy w' (some g) := by
  have hz := z64
  have e64b : (Tryd.prog.info? 68).map (·.size) = some (rowOf blk).size := by rw [rowOf_size, h64]; exact i64b_
  have hcb : ∀ j, j < (rowOf blk).size → w.cell? ⟨g, 8 + j, none⟩ = (rowOf blk)[j]? := fun j hj => by
    rw [rowOf_size] at hj
    rw [hm.cell, msg_byte held count j rfl hj]
  have HM := hid_ hm
  have HT := hid_ ht
  have HCB := hid_ hcb
  have HE := hid_ e64b
  clear hm ht hcb e64b
  have c0 := sched_any blk h64 w
  obtain ⟨W, hW⟩ : ∃ W, Hid (sched blk 64 = W) := ⟨_, rfl⟩
  have hWl := sched_len blk 64
  have hWo := sched_ok blk 64
  rw [hW.out] at c0 hWl hWo
  have e64 : (Tryd.prog.info? 57).map (·.size) = some (wordsRow W).size := by rw [wordsRow_size, hWl]; exact i64_
  have q64 : (wordsRow (zeros 64)).size = (wordsRow W).size := by rw [wordsRow_size, wordsRow_size, hWl, zeros_len]
  have E64 := hid_ e64
  have Q64 := hid_ q64
  have HWL := hid_ hWl
  have HWO := hid_ hWo
  clear e64 q64 hWl hWo
  go_enter Tryd.func44, Tryd.ntmps44
  go_wp2_with (first
    | (refine wpList_load_sub rfl 68 (.tmp 18) rfl g 8 rfl (rowOf blk) HCB.out _ Tryd.underlying68 rfl HE.out ?_)
    | (go_at_call 47; ((with_reducible refine c0.mono ?_); rintro e w1 ⟨rfl, hb1⟩))
    | (refine wpList_put_row rfl 57 (.tmp 2) (.tmp 20) rfl w1.heap.size (wordsRow W) rfl rfl 57 (wordsRow (zeros 64)) (Bk.new w1 _ _) E64.out Q64.out (words_one _) ?_; intro w2 k2 g2 s2))
  have sz1 := hb1.size
  have gw2 : w.grownBy w2 (some g) := by
    have x1 := grown_alloc (grown_of_below (World.grownBy.refl w (some g)) hb1) (.cells (wordsRow (zeros 64)) 57)
    exact ⟨g2.os.trans x1.os, g2.tape.trans x1.tape, g2.output.trans x1.output, Nat.le_trans x1.size g2.size, fun i hi hne => (g2.block i (by simp; omega) (fun e => by injection e with e; omega)).trans (x1.block i hi hne)⟩
  have M2 : Bk w2 g 70 (msgCells s.list blk held count) := ((HM.out.below hb1 HM.out.lt).alloc _).grown g2 (fun e => by injection e with e; have := HM.out.lt; omega)
  have T2 : Tab w2 := fun t h => by
    have h0 := HT.out t h
    rw [← h0]
    exact World.cell?_of_block (gw2.block _ hg1 (fun e => by injection e with e; exact hg0 e.symm))
  have hgn : g ≠ w1.heap.size := by have := HM.out.lt; omega
  have ea : w2.cell? ⟨g, 0, none⟩ = some (.int .u32 s.a) := by rw [M2.cell, msg_word _ _ _ 0 (by simp [S8.list])]; rfl
  have eb : w2.cell? ⟨g, 1, none⟩ = some (.int .u32 s.b) := by rw [M2.cell, msg_word _ _ _ 1 (by simp [S8.list])]; rfl
  have ec : w2.cell? ⟨g, 2, none⟩ = some (.int .u32 s.c) := by rw [M2.cell, msg_word _ _ _ 2 (by simp [S8.list])]; rfl
  have ed : w2.cell? ⟨g, 3, none⟩ = some (.int .u32 s.d) := by rw [M2.cell, msg_word _ _ _ 3 (by simp [S8.list])]; rfl
  have ee : w2.cell? ⟨g, 4, none⟩ = some (.int .u32 s.e) := by rw [M2.cell, msg_word _ _ _ 4 (by simp [S8.list])]; rfl
  have ef : w2.cell? ⟨g, 5, none⟩ = some (.int .u32 s.f) := by rw [M2.cell, msg_word _ _ _ 5 (by simp [S8.list])]; rfl
  have eg : w2.cell? ⟨g, 6, none⟩ = some (.int .u32 s.g) := by rw [M2.cell, msg_word _ _ _ 6 (by simp [S8.list])]; rfl
  have eh : w2.cell? ⟨g, 7, none⟩ = some (.int .u32 s.h) := by rw [M2.cell, msg_word _ _ _ 7 (by simp [S8.list])]; rfl
  have HM2 := hid_ M2
  have HT2 := hid_ T2
  have HG2 := hid_ gw2
  have HK2 := hid_ k2
  have HW1 := hid_ sz1
  clear M2 T2 gw2 k2 g2 s2 hb1 sz1 c0 HM HT HCB
  go_quiet (fail)
  go_wp2
  go_quiet (fail)
  go_wp2
  clear ea eb ec ed ee ef eg eh
  go_loopw [3, 4, 5, 6, 7, 8, 9, 10, 61] (fun va vb vc vd ve vf vg vh i wr => ∃ (t : Nat) (r : S8), t ≤ 64 ∧ i = .int .i64 t ∧ r = rounds s W t ∧ va = .int .u32 r.a ∧ vb = .int .u32 r.b ∧ vc = .int .u32 r.c ∧ vd = .int .u32 r.d ∧ ve = .int .u32 r.e ∧ vf = .int .u32 r.f ∧ vg = .int .u32 r.g ∧ vh = .int .u32 r.h ∧ Bk wr g 70 (msgCells s.list blk held count) ∧ Bk wr w1.heap.size 57 (wordsRow W) ∧ Tab wr ∧ w.grownBy wr (some g)) (fun _ _ _ _ _ _ _ _ i _ => 64 - (intOf i).toNat)
  case atStart => exact ⟨0, s, by omega, rfl, rfl, rfl, rfl, rfl, rfl, rfl, rfl, rfl, rfl, HM2.out, HK2.out, HT2.out, grown_drewN (grown_drewN HG2.out _) _⟩
  case round =>
    obtain ⟨t, r, htl, rfl, hr, rfl, rfl, rfl, rfl, rfl, rfl, rfl, rfl, m3, k3, t3, g3⟩ := hrel
    have HR := hid_ hr
    have HM3 := hid_ m3
    have HK3 := hid_ k3
    have HT3 := hid_ t3
    have HG3 := hid_ g3
    clear hr m3 k3 t3 g3
    by_cases hlt : t < 64
    · have hk := HT3.out t hlt
      have hw := HK3.out.cell t
      rw [wordsRow_at _ _ (by rw [HWL.out]; exact hlt)] at hw
      obtain ⟨kx, hkx⟩ : ∃ x, Hid (roundK.getD t 0 = x) := ⟨_, rfl⟩
      obtain ⟨wx, hwx⟩ : ∃ x, Hid (W.getD t 0 = x) := ⟨_, rfl⟩
      rw [hkx.out] at hk
      rw [hwx.out] at hw
      have hro := rounds_ok hs W t
      rw [← HR.out] at hro
      obtain ⟨oe0, oe1⟩ := hro.e
      obtain ⟨oa0, oa1⟩ := hro.a
      have c1 : ∀ V : World, Calls Tryd.prog 48 #[.int .u32 r.e, .int .i64 6, .int .i64 11, .int .i64 25] V fun e w' => e = .returned (.int .u32 (bsig1 r.e)) ∧ V = w' := fun V => turned_any r.e 6 11 25 oe0 oe1 (by decide) (by decide) (by decide) V
      have c2 : ∀ V : World, Calls Tryd.prog 48 #[.int .u32 r.a, .int .i64 2, .int .i64 13, .int .i64 22] V fun e w' => e = .returned (.int .u32 (bsig0 r.a)) ∧ V = w' := fun V => turned_any r.a 2 13 22 oa0 oa1 (by decide) (by decide) (by decide) V
      have t0 : (0 : Int) ≤ (t : Int) := by omega
      have t64 : (t : Int) < 64 := by omega
      clear hro
      go_wp2
      go_quiet ((go_at_call 48; with_reducible exact q_left (c1 _)))
      clear hk hw t0 t64 oe0 oe1 oa0 oa1 c1
      go_wp2_with (go_at_call 48; ((with_reducible refine (c2 _).mono ?_); rintro e w' ⟨rfl, rfl⟩))
      go_roundw
      case rel => exact ⟨t + 1, rnd r kx wx, by omega, by go_num, (by show _ = rnd (rounds s W t) _ _; rw [← HR.out, hkx.out, hwx.out]), rfl, rfl, rfl, rfl, rfl, rfl, rfl, rfl, HM3.out.drewN nq, HK3.out.drewN nq, HT3.out, grown_drewN HG3.out nq⟩
      case measure => simp [intOf]; omega
    · obtain rfl : t = 64 := by omega
      clear HK3 HT3 HM2 HT2 HG2 HK2 HW1 hlt hgn
      go_wp2
      go_loopw [14, 15, 121] (fun _ _ i wv => ∃ k : Nat, k ≤ 8 ∧ i = .int .i64 k ∧ Bk wv g 70 (msgCells (mixed s r k) blk held count) ∧ w.grownBy wv (some g)) (fun _ _ i _ => 8 - (intOf i).toNat)
      case atStart => exact ⟨0, by omega, rfl, HM3.out, HG3.out⟩
      case round =>
        obtain ⟨k, hk8, rfl, m4, g4⟩ := hrel
        have HM4 := hid_ m4
        have HG4 := hid_ g4
        clear m4 g4 HM3 HG3
        by_cases hlt : k < 8
        · have hix := idx8 r k hlt
          have hc := HM4.out.cell k
          rw [msg_word _ _ _ k (by rw [mixed_len]; exact hlt), mixed_get s r k hlt] at hc
          have hf := HM4.out.frozen k
          have hset := HM4.out.set_ k (.int .u32 ((s.list.getD k 0 + r.list.getD k 0) % 4294967296))
          rw [msg_setword _ _ _ _ _ (by rw [mixed_len]; exact hlt), mixed_set s r k hlt] at hset
          have HS := hid_ hset
          clear hset
          obtain ⟨x, hx⟩ : ∃ x, Hid (r.list.getD k 0 = x) := ⟨_, rfl⟩
          obtain ⟨y, hy⟩ : ∃ y, Hid (s.list.getD k 0 = y) := ⟨_, rfl⟩
          rw [hx.out] at hix HS
          rw [hy.out] at hc HS
          have t0 : (0 : Int) ≤ (k : Int) := by omega
          have t8 : (k : Int) < 8 := by omega
          go_wp2
          go_region
          all_goals
            go_wp2
            go_roundw
            case rel => exact ⟨k + 1, by omega, by go_num, HS.out, grown_drew (grown_put HG4.out _ _)⟩
            case measure => simp [intOf]; omega
        · obtain rfl : k = 8 := by omega
          go_wp2
          go_end0
          have he : mixed s r 8 = (comp s blk).list := by
            unfold comp
            rw [hW.out, ← HR.out]
            rfl
          rw [← he]
          exact ⟨rfl, HM4.out, HG4.out⟩
end Go.Proofs.YteijlgifcmlkoaaDoor
