/-
  Proved: PolySums: for every key, every other end and all bytes: by keys with the same beginning the tags of one text lie as far apart as the keys' ends. No condition.
-/
import Derived.Test.YtilgpblfdfhioaaP7
import Derived.Test.YtilgpblfdfhioaaPs
import Derived.Test.YtilgpblfdfhioaaOa
import Derived.Test.YtilgpblfdfhioaaQj
namespace Go.Proofs.Ytilgpblfdfhioaa.polySums
open Go.ChangeShapes Go.WideShapes Go.ChangeAt Go.RowKit
set_option linter.unusedVariables false
set_option linter.unusedSimpArgs false

theorem step_run {P : Program} {ops : Array Oper} {o : Oper} {a : Act} {w w' : World} {v : Value} {K : Act → World → Prop} {Q : Exit → Act → World → Prop} {E : Prop} (hw : Region.wanted o (yielded ops a.tmps) = true) (h : (execOp a.eval o).run P w = .ok (.value v) w') (hk : K (a.put o.dst v) w') : if Region.wanted o (yielded ops a.tmps) = true then Oper.wp P o a w K Q else E := by
  rw [if_pos hw]
  unfold Oper.wp
  rw [h]
  exact hk
theorem step_call {P : Program} {ops : Array Oper} {o : Oper} {a : Act} {w w' : World} {K : Act → World → Prop} {Q : Exit → Act → World → Prop} {E : Prop} (f : FuncId) (args : Array Value) (v : Value) (hw : Region.wanted o (yielded ops a.tmps) = true) (h : (execOp a.eval o).run P w = .ok (.enter f args) w') (hc : Calls P f args w' fun e w2 => e = .returned v ∧ K (a.put o.dst v) w2) : if Region.wanted o (yielded ops a.tmps) = true then Oper.wp P o a w K Q else E := by
  rw [if_pos hw]
  unfold Oper.wp
  rw [h]
  exact hc.mono fun e w2 hh => by
    obtain ⟨rfl, hk⟩ := hh
    exact hk
theorem wanted_none {ops : Array Oper} {o : Oper} {a : Act} (hg : o.guard = none) : Region.wanted o (yielded ops a.tmps) = true := by simp [Region.wanted, hg]
theorem slot_of {a : Act} {s : Nat} {v : Value} (h : a.tmps.getD s undef = v) : a.tmps[s]?.getD undef = v := by simpa using h
theorem eval_of {a : Act} {s : Nat} {v : Value} (h : a.tmps.getD s undef = v) : a.eval (.tmp s) = v := h

/-- What the operations leave, each for itself. -/
def SumR (N : Nat) (t : TypeId) (key other T U : List UInt8) (A : Option Addr) (n c : Nat) : Nat → Value → World → Prop
  | 0, v, _ => v = .agg (rowOf key)
  | 1, v, _ => v = .slice A n c
  | 2, v, _ => v = .agg (rowOf T)
  | 3, v, _ => v = .agg (rowOf other)
  | 4, v, _ => v = .slice A n c
  | 5, v, _ => v = .agg (rowOf U)
  | 6, v, w => ∃ q r, v = .pointer (some ⟨q, 0, none⟩) ∧ N ≤ q ∧ Bk w q t r ∧ r.size = 16
  | 7, v, w => ∃ q r, v = .pointer (some ⟨q, 0, none⟩) ∧ N ≤ q ∧ Bk w q t r ∧ r.size = 16
  | _, _, _ => True
/-- Blocks of sixteen cells stay such. -/
def SumT (t : TypeId) (w w' : World) : Prop := ∀ q r, Bk w q t r → r.size = 16 → ∃ r', Bk w' q t r' ∧ r'.size = 16
theorem SumT.refl (t : TypeId) (w : World) : SumT t w w := fun q r h hr => ⟨r, h, hr⟩
theorem SumT.of_below {t : TypeId} {w w' : World} (h : Below w.heap.size w w') : SumT t w w' := fun q r hb hr => ⟨r, hb.below h hb.lt, hr⟩
theorem SumT.put {t : TypeId} {w w' : World} {p : Nat} {cs : Array Value} (h : Bk w' p t cs) (hs : cs.size = 16) (hg : w.grownBy w' (some p)) : SumT t w w' := fun q r hb hr => by
  by_cases e : q = p
  · subst e; exact ⟨cs, h, hs⟩
  · exact ⟨r, hb.grown hg (fun e2 => by injection e2 with e2; omega), hr⟩
theorem SumR.stable {N : Nat} {t : TypeId} {key other T U : List UInt8} {A : Option Addr} {n c : Nat} {w w' : World} (h : SumT t w w') : ∀ (j : Nat) (v : Value), SumR N t key other T U A n c j v w → SumR N t key other T U A n c j v w'
  | 0, _, hr => hr
  | 1, _, hr => hr
  | 2, _, hr => hr
  | 3, _, hr => hr
  | 4, _, hr => hr
  | 5, _, hr => hr
  | 6, _, hr => by
    obtain ⟨q, r, e, hq, hb, hz⟩ := hr
    obtain ⟨r', hb', hz'⟩ := h q r hb hz
    exact ⟨q, r', e, hq, hb', hz'⟩
  | 7, _, hr => by
    obtain ⟨q, r, e, hq, hb, hz⟩ := hr
    obtain ⟨r', hb', hz'⟩ := h q r hb hz
    exact ⟨q, r', e, hq, hb', hz'⟩
  | _ + 8, _, _ => trivial
/-- What holds of the two new blocks together. -/
structure SumJ (t : TypeId) (T U : List UInt8) (L : Nat → Bool) (a : Act) (w : World) : Prop where
  o1 : L 8 = true → L 6 = true
  o2 : L 9 = true → L 8 = true
  o3 : L 8 = true → L 7 = true
  b6 : L 6 = true → ∀ q, a.tmps.getD 8 undef = .pointer (some ⟨q, 0, none⟩) → q < w.heap.size
  b7 : L 7 = true → ∀ q, a.tmps.getD 9 undef = .pointer (some ⟨q, 0, none⟩) → q < w.heap.size
  ne : L 6 = true → L 7 = true → ∀ q q2, a.tmps.getD 8 undef = .pointer (some ⟨q, 0, none⟩) → a.tmps.getD 9 undef = .pointer (some ⟨q2, 0, none⟩) → q ≠ q2
  t8 : L 8 = true → ∀ q, a.tmps.getD 8 undef = .pointer (some ⟨q, 0, none⟩) → Bk w q t (rowOf T)
  t9 : L 9 = true → ∀ q, a.tmps.getD 9 undef = .pointer (some ⟨q, 0, none⟩) → Bk w q t (rowOf U)
theorem SumJ.start (t : TypeId) (T U : List UInt8) (a : Act) (w : World) : SumJ t T U (fun _ => false) a w :=
  by constructor <;> intro h <;> cases h
theorem or_ne {L : Nat → Bool} {i j : Nat} (h : j ≠ i) : (decide (j = i) || L j) = L j := by simp [h]
theorem or_eq {L : Nat → Bool} {i : Nat} : (decide (i = i) || L i) = true := by simp
theorem ptr_inj {p q : Nat} (h : Value.pointer (some ⟨p, 0, none⟩) = Value.pointer (some ⟨q, 0, none⟩)) : p = q := by
  injection h with h; injection h with h; injection h
theorem SumJ.same {t : TypeId} {T U : List UInt8} {L : Nat → Bool} {a : Act} {w w' : World} (h : SumJ t T U L a w) (i : Nat) (hi : i < 6) (d : Option Nat) (v : Value) (h8 : d ≠ some 8) (h9 : d ≠ some 9)
    (hb : ∀ q r, Bk w q t r → Bk w' q t r) (hs : w.heap.size ≤ w'.heap.size) : SumJ t T U (fun j => decide (j = i) || L j) (a.put d v) w' := by
  have s8 := put_getD_ne a d v 8 h8
  have s9 := put_getD_ne a d v 9 h9
  have e6 := or_ne (L := L) (show 6 ≠ i by omega)
  have e7 := or_ne (L := L) (show 7 ≠ i by omega)
  have e8 := or_ne (L := L) (show 8 ≠ i by omega)
  have e9 := or_ne (L := L) (show 9 ≠ i by omega)
  obtain ⟨o1, o2, o3, b6, b7, ne, t8, t9⟩ := h
  refine ⟨?_, ?_, ?_, ?_, ?_, ?_, ?_, ?_⟩ <;> simp only [e6, e7, e8, e9, s8, s9]
  · exact o1
  · exact o2
  · exact o3
  · exact fun hl q hq => Nat.lt_of_lt_of_le (b6 hl q hq) hs
  · exact fun hl q hq => Nat.lt_of_lt_of_le (b7 hl q hq) hs
  · exact ne
  · exact fun hl q hq => hb _ _ (t8 hl q hq)
  · exact fun hl q hq => hb _ _ (t9 hl q hq)
theorem SumJ.new6 {t : TypeId} {T U : List UInt8} {L : Nat → Bool} {a : Act} {w : World} (h : SumJ t T U L a w) (ob : Obj) (hL : L 6 = false) (hsz : 8 < a.tmps.size) :
    SumJ t T U (fun j => decide (j = 6) || L j) (a.put (some 8) (.pointer (some ⟨w.heap.size, 0, none⟩))) (w.alloc ob) := by
  have s8 := put_getD_eq a (.pointer (some ⟨w.heap.size, 0, none⟩)) 8 hsz
  have s9 := put_getD_ne a (some 8) (.pointer (some ⟨w.heap.size, 0, none⟩)) 9 (by decide)
  have e6 := or_eq (L := L) (i := 6)
  have e7 := or_ne (L := L) (show 7 ≠ 6 by omega)
  have e8 := or_ne (L := L) (show 8 ≠ 6 by omega)
  have e9 := or_ne (L := L) (show 9 ≠ 6 by omega)
  have hz : (w.alloc ob).heap.size = w.heap.size + 1 := by simp
  obtain ⟨o1, o2, o3, b6, b7, ne, t8, t9⟩ := h
  refine ⟨?_, ?_, ?_, ?_, ?_, ?_, ?_, ?_⟩ <;> simp only [e7, e8, e9, s8, s9]
  · exact fun _ => by simp
  · exact o2
  · exact o3
  · intro _ q hq; have := ptr_inj hq; omega
  · intro hl q hq; have := b7 hl q hq; omega
  · intro _ hl q q2 hq hq2; have h1 := ptr_inj hq; have := b7 hl q2 hq2; omega
  · intro hl; rw [hL] at o1; exact absurd (o1 hl) (by decide)
  · exact fun hl q hq => (t9 hl q hq).alloc _
theorem SumJ.new7 {t : TypeId} {T U : List UInt8} {L : Nat → Bool} {a : Act} {w : World} (h : SumJ t T U L a w) (ob : Obj) (hL : L 7 = false) (hsz : 9 < a.tmps.size) :
    SumJ t T U (fun j => decide (j = 7) || L j) (a.put (some 9) (.pointer (some ⟨w.heap.size, 0, none⟩))) (w.alloc ob) := by
  have s9 := put_getD_eq a (.pointer (some ⟨w.heap.size, 0, none⟩)) 9 hsz
  have s8 := put_getD_ne a (some 9) (.pointer (some ⟨w.heap.size, 0, none⟩)) 8 (by decide)
  have e7 := or_eq (L := L) (i := 7)
  have e6 := or_ne (L := L) (show 6 ≠ 7 by omega)
  have e8 := or_ne (L := L) (show 8 ≠ 7 by omega)
  have e9 := or_ne (L := L) (show 9 ≠ 7 by omega)
  have hz : (w.alloc ob).heap.size = w.heap.size + 1 := by simp
  obtain ⟨o1, o2, o3, b6, b7, ne, t8, t9⟩ := h
  refine ⟨?_, ?_, ?_, ?_, ?_, ?_, ?_, ?_⟩ <;> simp only [e6, e8, e9, s8, s9]
  · exact o1
  · exact o2
  · exact fun _ => by simp
  · intro hl q hq; have := b6 hl q hq; omega
  · intro _ q hq; have := ptr_inj hq; omega
  · intro hl _ q q2 hq hq2; have h1 := ptr_inj hq2; have := b6 hl q hq; omega
  · exact fun hl q hq => (t8 hl q hq).alloc _
  · intro hl; rw [hL] at o3; exact absurd (o3 (o2 hl)) (by decide)
theorem SumJ.put8 {t : TypeId} {T U : List UInt8} {L : Nat → Bool} {a : Act} {w w' : World} (h : SumJ t T U L a w) (p : Nat) (hp : a.tmps.getD 8 undef = .pointer (some ⟨p, 0, none⟩)) (hL : L 8 = false) (h6 : L 6 = true) (h7 : L 7 = true) (hk : Bk w' p t (rowOf T)) (hs : w'.heap.size = w.heap.size) :
    SumJ t T U (fun j => decide (j = 8) || L j) (a.put none undef) w' := by
  have s8 := put_getD_ne a none undef 8 (by decide)
  have s9 := put_getD_ne a none undef 9 (by decide)
  have e8 := or_eq (L := L) (i := 8)
  have e6 := or_ne (L := L) (show 6 ≠ 8 by omega)
  have e7 := or_ne (L := L) (show 7 ≠ 8 by omega)
  have e9 := or_ne (L := L) (show 9 ≠ 8 by omega)
  obtain ⟨o1, o2, o3, b6, b7, ne, t8, t9⟩ := h
  refine ⟨?_, ?_, ?_, ?_, ?_, ?_, ?_, ?_⟩ <;> simp only [e6, e7, e9, s8, s9]
  · exact fun _ => h6
  · exact fun _ => by simp
  · exact fun _ => h7
  · intro hl q hq; rw [hs]; exact b6 hl q hq
  · intro hl q hq; rw [hs]; exact b7 hl q hq
  · exact ne
  · intro _ q hq; rw [hp] at hq; rw [← ptr_inj hq]; exact hk
  · intro hl; rw [hL] at o2; exact absurd (o2 hl) (by decide)
theorem SumJ.put9 {t : TypeId} {T U : List UInt8} {L : Nat → Bool} {a : Act} {w w' : World} (h : SumJ t T U L a w) (p : Nat) (hp : a.tmps.getD 9 undef = .pointer (some ⟨p, 0, none⟩)) (h6 : L 6 = true) (h7 : L 7 = true) (h8 : L 8 = true) (hk : Bk w' p t (rowOf U)) (hg : w.grownBy w' (some p)) (hs : w'.heap.size = w.heap.size) :
    SumJ t T U (fun j => decide (j = 9) || L j) (a.put none undef) w' := by
  have s8 := put_getD_ne a none undef 8 (by decide)
  have s9 := put_getD_ne a none undef 9 (by decide)
  have e9 := or_eq (L := L) (i := 9)
  have e6 := or_ne (L := L) (show 6 ≠ 9 by omega)
  have e7 := or_ne (L := L) (show 7 ≠ 9 by omega)
  have e8 := or_ne (L := L) (show 8 ≠ 9 by omega)
  obtain ⟨o1, o2, o3, b6, b7, ne, t8, t9⟩ := h
  refine ⟨?_, ?_, ?_, ?_, ?_, ?_, ?_, ?_⟩ <;> simp only [e6, e7, e8, s8, s9]
  · exact o1
  · exact fun _ => h8
  · exact o3
  · intro hl q hq; rw [hs]; exact b6 hl q hq
  · intro hl q hq; rw [hs]; exact b7 hl q hq
  · exact ne
  · intro hl q hq; have := ne h6 h7 q p hq hp; exact (t8 hl q hq).grown hg (fun e => by injection e with e; omega)
  · intro _ q hq; rw [hp] at hq; rw [← ptr_inj hq]; exact hk

theorem arr_of (a : Array Value) (n : Nat) (h : a.size = n) : a = ((List.range n).map fun s => a[s]?.getD undef).toArray := by
  apply Array.ext
  · simp [h]
  · intro i h1 h2
    simp [h1]
theorem arr67 (a : Array Value) (h : a.size = 67) : a = #[a[0]?.getD undef, a[1]?.getD undef, a[2]?.getD undef, a[3]?.getD undef, a[4]?.getD undef, a[5]?.getD undef, a[6]?.getD undef, a[7]?.getD undef, a[8]?.getD undef, a[9]?.getD undef, a[10]?.getD undef, a[11]?.getD undef, a[12]?.getD undef, a[13]?.getD undef, a[14]?.getD undef, a[15]?.getD undef, a[16]?.getD undef, a[17]?.getD undef, a[18]?.getD undef, a[19]?.getD undef, a[20]?.getD undef, a[21]?.getD undef, a[22]?.getD undef, a[23]?.getD undef, a[24]?.getD undef, a[25]?.getD undef, a[26]?.getD undef, a[27]?.getD undef, a[28]?.getD undef, a[29]?.getD undef, a[30]?.getD undef, a[31]?.getD undef, a[32]?.getD undef, a[33]?.getD undef, a[34]?.getD undef, a[35]?.getD undef, a[36]?.getD undef, a[37]?.getD undef, a[38]?.getD undef, a[39]?.getD undef, a[40]?.getD undef, a[41]?.getD undef, a[42]?.getD undef, a[43]?.getD undef, a[44]?.getD undef, a[45]?.getD undef, a[46]?.getD undef, a[47]?.getD undef, a[48]?.getD undef, a[49]?.getD undef, a[50]?.getD undef, a[51]?.getD undef, a[52]?.getD undef, a[53]?.getD undef, a[54]?.getD undef, a[55]?.getD undef, a[56]?.getD undef, a[57]?.getD undef, a[58]?.getD undef, a[59]?.getD undef, a[60]?.getD undef, a[61]?.getD undef, a[62]?.getD undef, a[63]?.getD undef, a[64]?.getD undef, a[65]?.getD undef, a[66]?.getD undef] := arr_of a 67 h

set_option maxRecDepth 100000 in
set_option maxHeartbeats 4000000 in
theorem walk (key e : List UInt8) (A : Option Addr) (c : Nat) (b0 : List UInt8) (w : World) (hk : key.length = 32) (he : e.length = 16) (hr : Rd w w.heap.size A b0) (hc : b0.length ≤ c) (hcm : c ≤ maxLen) :
    Calls Try.prog 10 #[.agg (rowOf key), .agg (rowOf e), .slice A b0.length c] w fun x w' => x = .returned (.bool true) ∧ Below w.heap.size w w' := by
  have hz := z32
  have hz16 := z16
  have e32 : ∀ l : List UInt8, l.length = 32 → (Try.prog.info? 27).map (·.size) = some (rowOf l).size := fun l h => by rw [rowOf_size, h]; exact i32_
  have E32 := hid_ e32
  have e16 : ∀ l : List UInt8, l.length = 16 → (Try.prog.info? 42).map (·.size) = some (rowOf l).size := fun l h => by rw [rowOf_size, h]; exact i16_
  have E16 := hid_ e16
  obtain ⟨n, hn⟩ : ∃ n, n = min 200 b0.length := ⟨_, rfl⟩
  have hbl : Hid ((b0.take 200).length = n) := by show _ = _; rw [List.length_take, hn]
  have hmn : (if (200 : Int) < (b0.length : Int) then (200 : Int) else (b0.length : Int)) = (n : Int) := by split <;> omega
  have hnc : n ≤ c := by omega
  have hn200 : n ≤ 200 := by omega
  have hsl := slice_to A b0.length c (n : Int) n rfl hnc
  have hrb := hr.take 200
  obtain ⟨b, hb⟩ : ∃ b, Hid (b0.take 200 = b) := ⟨_, rfl⟩
  rw [hb.out] at hbl hrb
  have HK := hid_ hk
  have HE := hid_ he
  have HR := hid_ hrb
  obtain ⟨g, hg⟩ : ∃ g, Hid (w.heap.size = g) := ⟨_, rfl⟩
  obtain ⟨w0, hw0⟩ : ∃ W, Hid ((w.alloc (.cells (rowOf key) 27)).alloc (.cells (rowOf e) 42) = W) := ⟨_, rfl⟩
  have A0 : Hid (Bk w0 g 27 (rowOf key)) := hid_ (by rw [← hw0.out, ← hg.out]; exact (Bk.new w _ _).alloc _)
  have E0 : Hid (Bk w0 (g + 1) 42 (rowOf e)) := hid_ (by
    have h := Bk.new (w.alloc (.cells (rowOf key) 27)) 42 (rowOf e)
    rw [← hw0.out, ← hg.out]
    simpa using h)
  have X0 : Hid (Below g w w0) := hid_ (by rw [← hw0.out, ← hg.out]; exact ((Below.refl _ _).alloc (Nat.le_refl _) _).alloc (by simp) _)
  have HS0 : Hid (w0.heap.size = g + 1 + 1) := hid_ (by rw [← hw0.out, ← hg.out]; simp)
  have HLA := hid_ (otherK_laid key e hk he)
  have HOL := hid_ (otherK_len key e hk he)
  have hfit : 16 + 16 ≤ (rowOf key).size := by rw [rowOf_size, hk]; omega
  have HF := hid_ hfit
  have s1 := slice_from32 (g + 1 + 1) 16 (by omega)
  have s2 := slice_all16 (g + 1)
  clear e32 e16 hn hr hrb hk he hfit
  go_enter Try.func10, Try.ntmps10
  go_upto_region 1 with fail
  rw [hw0.out, hg.out]
  go_upto_region 3 with (first
    | (refine wpList_load_row rfl 27 (.tmp 3) rfl g rfl 27 (rowOf key) (0, 0) _ A0.out Try.underlying27 rfl (E32.out _ HK.out) ?_)
    | (refine wpList_put_row rfl 27 (.tmp 7) (.tmp 20) rfl w0.heap.size (rowOf key) rfl rfl 27 (rowOf (zbytes 32)) (Bk.new w0 _ _) (E32.out _ HK.out) (by rw [rowOf_size, rowOf_size, HK.out, zbytes_len]) (bytes_one _) ?_; intro w3 k3 g3 s3))
  rw [HS0.out] at k3 ⊢
  have A3 := hid_ ((A0.out.alloc (.cells (rowOf (zbytes 32)) 27)).grown g3 (fun e => by injection e with e; have := HS0.out; omega))
  have E3 := hid_ ((E0.out.alloc (.cells (rowOf (zbytes 32)) 27)).grown g3 (fun e => by injection e with e; have := HS0.out; omega))
  have X3 := hid_ ((X0.out.alloc (by have := HS0.out; omega) (.cells (rowOf (zbytes 32)) 27)).grown g3 (by have := HS0.out; simp; omega) (fun i hi => by injection hi with hi; have := HS0.out; omega))
  have K3 := hid_ k3
  have hl1 := A3.out.lt
  have hl2 := E3.out.lt
  have hl3 := K3.out.lt
  clear k3 g3 s3 A0 E0 X0
  try rw [put_none]
  go_cut [7] (fun s7 wx => s7 = .pointer (some ⟨g + 1 + 1, 0, none⟩) ∧ Hid (Bk wx (g + 1 + 1) 27 (rowOf (otherK key e))) ∧ Hid (Bk wx (g + 1) 42 (rowOf e)) ∧ Hid (Bk wx g 27 (rowOf key)) ∧ Hid (Below g w wx))
  case first =>
    go_region_law (refine step_copy8 rfl (.tmp 21) (.tmp 22) rfl (g + 1 + 1) 16 16 16 rfl (some ⟨g + 1, 0, none⟩) 16 16 rfl e 16 HE.out (by omega) rfl (g + 1 + 1) ((rd_of_bk E3.out.drew (Nat.lt_succ_self _)).rdn (Nat.le_refl _) (Nat.le_of_lt hl3)) 27 (rowOf key) K3.out.drew HF.out ?_; intro w9 k9 g9 s9; rw [row_laid, HLA.out] at k9)
    all_goals
      go_wp2
      go_meet
      exact ⟨rfl, k9, E3.out.drew.grown g9 (fun e => by injection e with e; omega), A3.out.drew.grown g9 (fun e => by injection e with e; omega), X3.out.drew.grown g9 (by show g ≤ w3.heap.size; omega) (fun i hi => by injection hi with hi; omega)⟩
  case rest =>
    obtain ⟨rfl, K4, E4, A4, X4⟩ := hcut
    clear A3 E3 X3 K3 hl1 hl2 hl3
    go_upto_region 4 with fail
    have hl4 := K4.out.lt
    have hn0 := hnc
    obtain ⟨T, hT⟩ : ∃ x, Hid (polyTag key b = x) := ⟨_, rfl⟩
    obtain ⟨U, hU⟩ : ∃ x, Hid (polyTag (otherK key e) b = x) := ⟨_, rfl⟩
    obtain ⟨z, hzz⟩ : ∃ x, Hid (key.drop 16 = x) := ⟨_, rfl⟩
    have hTl : T.length = 16 := by rw [← hT.out]; exact polyTag_len _ _
    have hUl : U.length = 16 := by rw [← hU.out]; exact polyTag_len _ _
    have hzl : z.length = 16 := by rw [← hzz.out, List.length_drop, HK.out]
    have DG : Hid (∀ k, k < 16 → ((T.getD k 0).toNat + (e.getD k 0).toNat + carr T e k) % 256 = ((U.getD k 0).toNat + (z.getD k 0).toNat + carr U z k) % 256) := hid_ (by
      intro k h
      have h1 := sums_digit key e b k HK.out HE.out h
      rwa [hT.out, hU.out, hzz.out] at h1)
    go_cut [8, 9] (fun s8 s9 wx => ∃ D D2, s8 = .pointer (some ⟨D, 0, none⟩) ∧ s9 = .pointer (some ⟨D2, 0, none⟩) ∧ Hid (Bk wx D 42 (rowOf T)) ∧ Hid (Bk wx D2 42 (rowOf U)) ∧ Hid (Bk wx (g + 1) 42 (rowOf e)) ∧ Hid (Bk wx g 27 (rowOf key)) ∧ Hid (Below g w wx))
    case first =>
      have hA4 := A4.out.lt
      have hE4 := E4.out.lt
      have HRg : Rd w g A b := by rw [← hg.out]; exact HR.out
      have HRc : Hid (Rd wc g A b) := hid_ (HRg.below X4.out)
      clear HRg
      have ct : ∀ (kk : List UInt8) (W : World), kk.length = 32 → Below wc.heap.size wc W → Calls Try.prog 32 #[.agg (rowOf kk), .slice A n c] W fun e w' => e = .returned (.agg (rowOf (polyTag kk b))) ∧ Below W.heap.size W w' := fun kk W hkk h => tag_any kk A n c b W hkk hbl.out hn0 (by unfold maxLen at hcm; omega) ((HRc.out.below (h.mono (by omega))).more (by have := h.size; omega))
      have ct1 := fun W h => ct key W HK.out h
      have ct2 := fun W h => ct (otherK key e) W HOL.out h
      rw [hT.out] at ct1
      rw [hU.out] at ct2
      clear ct
      refine region_byJ (fun W => Below wc.heap.size wc W) (SumT 42) (SumR wc.heap.size 42 key (otherK key e) T U A n c) (SumJ 42 T U) (by kernel_rfl) (by kernel_rfl) (by kernel_rfl) (fun j v w w' hT h => SumR.stable hT j v h) (fun j v w hlt hj _ => by
        rcases j with _ | _ | _ | _ | _ | _ | _ | _ | j
        all_goals first
          | (exfalso; simp [dstOf] at hj; done)
          | trivial) ((Below.refl _ _).drew) ?_ (SumJ.start _ _ _ _ _) ?_
      · refine ⟨fun L a w hC hd hsz hf hv hJ hL hW K hK => ?_, fun L a w hC hd hsz hf hv hJ hL hW K hK => ?_, fun L a w hC hd hsz hf hv hJ hL hW K hK => ?_, fun L a w hC hd hsz hf hv hJ hL hW K hK => ?_, fun L a w hC hd hsz hf hv hJ hL hW K hK => ?_, fun L a w hC hd hsz hf hv hJ hL hW K hK => ?_, fun L a w hC hd hsz hf hv hJ hL hW K hK => ?_, fun L a w hC hd hsz hf hv hJ hL hW K hK => ?_, fun L a w hC hd hsz hf hv hJ hL hW K hK => ?_, fun L a w hC hd hsz hf hv hJ hL hW K hK => ?_,  trivial⟩
        · refine step_load_row rfl 27 (.tmp 3) rfl g (eval_of (v := .pointer (some ⟨g, 0, none⟩)) (hf 3 (by kernel_rfl))) 27 (rowOf key) (A4.out.below hC hA4) _ Try.underlying27 rfl (E32.out _ HK.out) ?_
          exact hK _ _ hC (SumT.refl _ _) rfl (hJ.same 0 (by decide) _ _ (by decide) (by decide) (fun _ _ h => h) (Nat.le_refl _))
        · clear hsz
          have e1 := slot_of (a := a) (s := 2) (v := .slice A n c) (hf 2 (by kernel_rfl))
          refine step_run (wanted_none rfl) (v := .slice A n c) (w' := w) ?_ (hK _ _ hC (SumT.refl _ _) rfl (hJ.same 1 (by decide) _ _ (by decide) (by decide) (fun _ _ h => h) (Nat.le_refl _)))
          go_simp
        · clear hsz
          have e1 := slot_of (a := a) (s := 24) (v := .agg (rowOf key)) (hv 0 (by kernel_rfl))
          have e2 := slot_of (a := a) (s := 25) (v := .slice A n c) (hv 1 (by kernel_rfl))
          refine step_call 32 #[.agg (rowOf key), .slice A n c] (.agg (rowOf T)) (wanted_none rfl) (w' := w) ?_ ((ct1 w hC).mono fun e w2 hh => ⟨hh.1, hK _ _ (hC.trans (hh.2.mono hC.size)) (SumT.of_below hh.2) rfl (hJ.same 2 (by decide) _ _ (by decide) (by decide) (fun _ _ h => h.below hh.2 h.lt) hh.2.size)⟩)
          go_simp
        · refine step_load_row rfl 27 (.tmp 7) rfl (g + 1 + 1) (eval_of (v := .pointer (some ⟨g + 1 + 1, 0, none⟩)) (hf 7 (by kernel_rfl))) 27 (rowOf (otherK key e)) (K4.out.below hC hl4) _ Try.underlying27 rfl (E32.out _ HOL.out) ?_
          exact hK _ _ hC (SumT.refl _ _) rfl (hJ.same 3 (by decide) _ _ (by decide) (by decide) (fun _ _ h => h) (Nat.le_refl _))
        · clear hsz
          have e1 := slot_of (a := a) (s := 2) (v := .slice A n c) (hf 2 (by kernel_rfl))
          refine step_run (wanted_none rfl) (v := .slice A n c) (w' := w) ?_ (hK _ _ hC (SumT.refl _ _) rfl (hJ.same 4 (by decide) _ _ (by decide) (by decide) (fun _ _ h => h) (Nat.le_refl _)))
          go_simp
        · clear hsz
          have e1 := slot_of (a := a) (s := 27) (v := .agg (rowOf (otherK key e))) (hv 3 (by kernel_rfl))
          have e2 := slot_of (a := a) (s := 28) (v := .slice A n c) (hv 4 (by kernel_rfl))
          refine step_call 32 #[.agg (rowOf (otherK key e)), .slice A n c] (.agg (rowOf U)) (wanted_none rfl) (w' := w) ?_ ((ct2 w hC).mono fun e w2 hh => ⟨hh.1, hK _ _ (hC.trans (hh.2.mono hC.size)) (SumT.of_below hh.2) rfl (hJ.same 5 (by decide) _ _ (by decide) (by decide) (fun _ _ h => h.below hh.2 h.lt) hh.2.size)⟩)
          go_simp
        · refine step_run (wanted_none rfl) (v := .pointer (some ⟨w.heap.size, 0, none⟩)) (w' := w.alloc (.cells (rowOf (zbytes 16)) 42)) ?_ (hK _ _ (hC.alloc hC.size _) (SumT.of_below ((Below.refl _ _).alloc (Nat.le_refl _) _)) ⟨w.heap.size, _, rfl, hC.size, Bk.new w _ _, by rw [rowOf_size, zbytes_len]⟩ (hJ.new6 _ hL (by rw [hsz]; simp)))
          go_simp
        · refine step_run (wanted_none rfl) (v := .pointer (some ⟨w.heap.size, 0, none⟩)) (w' := w.alloc (.cells (rowOf (zbytes 16)) 42)) ?_ (hK _ _ (hC.alloc hC.size _) (SumT.of_below ((Below.refl _ _).alloc (Nat.le_refl _) _)) ⟨w.heap.size, _, rfl, hC.size, Bk.new w _ _, by rw [rowOf_size, zbytes_len]⟩ (hJ.new7 _ hL (by rw [hsz]; simp)))
          go_simp
        · obtain ⟨q, r, e8, hq, hb8, hr8⟩ : ∃ q r, a.tmps.getD 8 undef = .pointer (some ⟨q, 0, none⟩) ∧ wc.heap.size ≤ q ∧ Bk w q 42 r ∧ r.size = 16 := hv 6 (by kernel_rfl)
          refine step_put_row rfl 42 (.tmp 8) (.tmp 26) rfl q (rowOf T) (eval_of e8) (eval_of (hv 2 (by kernel_rfl))) 42 r hb8 (E16.out _ hTl) (by rw [hr8, rowOf_size, hTl]) (bytes_one _) ?_
          intro w' k' g' s'
          exact hK _ _ (hC.grown g' hC.size (fun i hi => by injection hi with hi; omega)) (SumT.put k' (by rw [rowOf_size, hTl]) g') trivial (hJ.put8 q e8 hL (hW 6 (by kernel_rfl)) (hW 7 (by kernel_rfl)) k' s')
        · obtain ⟨q, r, e9, hq, hb9, hr9⟩ : ∃ q r, a.tmps.getD 9 undef = .pointer (some ⟨q, 0, none⟩) ∧ wc.heap.size ≤ q ∧ Bk w q 42 r ∧ r.size = 16 := hv 7 (by kernel_rfl)
          refine step_put_row rfl 42 (.tmp 9) (.tmp 29) rfl q (rowOf U) (eval_of e9) (eval_of (hv 5 (by kernel_rfl))) 42 r hb9 (E16.out _ hUl) (by rw [hr9, rowOf_size, hUl]) (bytes_one _) ?_
          intro w' k' g' s'
          exact hK _ _ (hC.grown g' hC.size (fun i hi => by injection hi with hi; omega)) (SumT.put k' (by rw [rowOf_size, hUl]) g') trivial (hJ.put9 q e9 (hW 6 (by kernel_rfl)) (hW 7 (by kernel_rfl)) (hW 8 (by kernel_rfl)) k' g' s')
      · intro a W hC hd hsz hf hv L hL hJ
        obtain ⟨q, r, e8, hq, hx1, hx2⟩ : ∃ q r, a.tmps.getD 8 undef = .pointer (some ⟨q, 0, none⟩) ∧ wc.heap.size ≤ q ∧ Bk W q 42 r ∧ r.size = 16 := hv 6 (by decide)
        obtain ⟨q2, r2, e9, hq2, hx3, hx4⟩ : ∃ q r, a.tmps.getD 9 undef = .pointer (some ⟨q, 0, none⟩) ∧ wc.heap.size ≤ q ∧ Bk W q 42 r ∧ r.size = 16 := hv 7 (by decide)
        have B8 := hid_ (hJ.t8 (hL 8 (by decide)) q e8)
        have B9 := hid_ (hJ.t9 (hL 9 (by decide)) q2 e9)
        have B1 := hid_ (E4.out.below hC hE4)
        have B2 := hid_ (A4.out.below hC hA4)
        have B3 := hid_ (X4.out.trans (hC.mono (by omega)))
        obtain ⟨tm, df⟩ := a
        obtain rfl : df = [] := hd
        have hz67 : tm.size = 67 := hsz
        have f0 := hf 0 (by kernel_rfl)
        simp only [Array.getD_eq_getD_getElem?, List.getElem?_toArray, List.getElem?_cons_succ, List.getElem?_cons_zero, Option.getD_some] at f0
        have f1 := hf 1 (by kernel_rfl)
        simp only [Array.getD_eq_getD_getElem?, List.getElem?_toArray, List.getElem?_cons_succ, List.getElem?_cons_zero, Option.getD_some] at f1
        have f2 := hf 2 (by kernel_rfl)
        simp only [Array.getD_eq_getD_getElem?, List.getElem?_toArray, List.getElem?_cons_succ, List.getElem?_cons_zero, Option.getD_some] at f2
        have f3 := hf 3 (by kernel_rfl)
        simp only [Array.getD_eq_getD_getElem?, List.getElem?_toArray, List.getElem?_cons_succ, List.getElem?_cons_zero, Option.getD_some] at f3
        have f4 := hf 4 (by kernel_rfl)
        simp only [Array.getD_eq_getD_getElem?, List.getElem?_toArray, List.getElem?_cons_succ, List.getElem?_cons_zero, Option.getD_some] at f4
        have f5 := hf 5 (by kernel_rfl)
        simp only [Array.getD_eq_getD_getElem?, List.getElem?_toArray, List.getElem?_cons_succ, List.getElem?_cons_zero, Option.getD_some] at f5
        have f6 := hf 6 (by kernel_rfl)
        simp only [Array.getD_eq_getD_getElem?, List.getElem?_toArray, List.getElem?_cons_succ, List.getElem?_cons_zero, Option.getD_some] at f6
        have f7 := hf 7 (by kernel_rfl)
        simp only [Array.getD_eq_getD_getElem?, List.getElem?_toArray, List.getElem?_cons_succ, List.getElem?_cons_zero, Option.getD_some] at f7
        have f10 := hf 10 (by kernel_rfl)
        simp only [Array.getD_eq_getD_getElem?, List.getElem?_toArray, List.getElem?_cons_succ, List.getElem?_cons_zero, Option.getD_some] at f10
        have f11 := hf 11 (by kernel_rfl)
        simp only [Array.getD_eq_getD_getElem?, List.getElem?_toArray, List.getElem?_cons_succ, List.getElem?_cons_zero, Option.getD_some] at f11
        have f12 := hf 12 (by kernel_rfl)
        simp only [Array.getD_eq_getD_getElem?, List.getElem?_toArray, List.getElem?_cons_succ, List.getElem?_cons_zero, Option.getD_some] at f12
        have f13 := hf 13 (by kernel_rfl)
        simp only [Array.getD_eq_getD_getElem?, List.getElem?_toArray, List.getElem?_cons_succ, List.getElem?_cons_zero, Option.getD_some] at f13
        have f14 := hf 14 (by kernel_rfl)
        simp only [Array.getD_eq_getD_getElem?, List.getElem?_toArray, List.getElem?_cons_succ, List.getElem?_cons_zero, Option.getD_some] at f14
        have f15 := hf 15 (by kernel_rfl)
        simp only [Array.getD_eq_getD_getElem?, List.getElem?_toArray, List.getElem?_cons_succ, List.getElem?_cons_zero, Option.getD_some] at f15
        have f16 := hf 16 (by kernel_rfl)
        simp only [Array.getD_eq_getD_getElem?, List.getElem?_toArray, List.getElem?_cons_succ, List.getElem?_cons_zero, Option.getD_some] at f16
        have f17 := hf 17 (by kernel_rfl)
        simp only [Array.getD_eq_getD_getElem?, List.getElem?_toArray, List.getElem?_cons_succ, List.getElem?_cons_zero, Option.getD_some] at f17
        have f18 := hf 18 (by kernel_rfl)
        simp only [Array.getD_eq_getD_getElem?, List.getElem?_toArray, List.getElem?_cons_succ, List.getElem?_cons_zero, Option.getD_some] at f18
        have f19 := hf 19 (by kernel_rfl)
        simp only [Array.getD_eq_getD_getElem?, List.getElem?_toArray, List.getElem?_cons_succ, List.getElem?_cons_zero, Option.getD_some] at f19
        have f20 := hf 20 (by kernel_rfl)
        simp only [Array.getD_eq_getD_getElem?, List.getElem?_toArray, List.getElem?_cons_succ, List.getElem?_cons_zero, Option.getD_some] at f20
        have f21 := hf 21 (by kernel_rfl)
        simp only [Array.getD_eq_getD_getElem?, List.getElem?_toArray, List.getElem?_cons_succ, List.getElem?_cons_zero, Option.getD_some] at f21
        have f22 := hf 22 (by kernel_rfl)
        simp only [Array.getD_eq_getD_getElem?, List.getElem?_toArray, List.getElem?_cons_succ, List.getElem?_cons_zero, Option.getD_some] at f22
        have f23 := hf 23 (by kernel_rfl)
        simp only [Array.getD_eq_getD_getElem?, List.getElem?_toArray, List.getElem?_cons_succ, List.getElem?_cons_zero, Option.getD_some] at f23
        have f30 := hf 30 (by kernel_rfl)
        simp only [Array.getD_eq_getD_getElem?, List.getElem?_toArray, List.getElem?_cons_succ, List.getElem?_cons_zero, Option.getD_some] at f30
        have f31 := hf 31 (by kernel_rfl)
        simp only [Array.getD_eq_getD_getElem?, List.getElem?_toArray, List.getElem?_cons_succ, List.getElem?_cons_zero, Option.getD_some] at f31
        have f32 := hf 32 (by kernel_rfl)
        simp only [Array.getD_eq_getD_getElem?, List.getElem?_toArray, List.getElem?_cons_succ, List.getElem?_cons_zero, Option.getD_some] at f32
        have f33 := hf 33 (by kernel_rfl)
        simp only [Array.getD_eq_getD_getElem?, List.getElem?_toArray, List.getElem?_cons_succ, List.getElem?_cons_zero, Option.getD_some] at f33
        have f34 := hf 34 (by kernel_rfl)
        simp only [Array.getD_eq_getD_getElem?, List.getElem?_toArray, List.getElem?_cons_succ, List.getElem?_cons_zero, Option.getD_some] at f34
        have f35 := hf 35 (by kernel_rfl)
        simp only [Array.getD_eq_getD_getElem?, List.getElem?_toArray, List.getElem?_cons_succ, List.getElem?_cons_zero, Option.getD_some] at f35
        have f36 := hf 36 (by kernel_rfl)
        simp only [Array.getD_eq_getD_getElem?, List.getElem?_toArray, List.getElem?_cons_succ, List.getElem?_cons_zero, Option.getD_some] at f36
        have f37 := hf 37 (by kernel_rfl)
        simp only [Array.getD_eq_getD_getElem?, List.getElem?_toArray, List.getElem?_cons_succ, List.getElem?_cons_zero, Option.getD_some] at f37
        have f38 := hf 38 (by kernel_rfl)
        simp only [Array.getD_eq_getD_getElem?, List.getElem?_toArray, List.getElem?_cons_succ, List.getElem?_cons_zero, Option.getD_some] at f38
        have f39 := hf 39 (by kernel_rfl)
        simp only [Array.getD_eq_getD_getElem?, List.getElem?_toArray, List.getElem?_cons_succ, List.getElem?_cons_zero, Option.getD_some] at f39
        have f40 := hf 40 (by kernel_rfl)
        simp only [Array.getD_eq_getD_getElem?, List.getElem?_toArray, List.getElem?_cons_succ, List.getElem?_cons_zero, Option.getD_some] at f40
        have f41 := hf 41 (by kernel_rfl)
        simp only [Array.getD_eq_getD_getElem?, List.getElem?_toArray, List.getElem?_cons_succ, List.getElem?_cons_zero, Option.getD_some] at f41
        have f42 := hf 42 (by kernel_rfl)
        simp only [Array.getD_eq_getD_getElem?, List.getElem?_toArray, List.getElem?_cons_succ, List.getElem?_cons_zero, Option.getD_some] at f42
        have f43 := hf 43 (by kernel_rfl)
        simp only [Array.getD_eq_getD_getElem?, List.getElem?_toArray, List.getElem?_cons_succ, List.getElem?_cons_zero, Option.getD_some] at f43
        have f44 := hf 44 (by kernel_rfl)
        simp only [Array.getD_eq_getD_getElem?, List.getElem?_toArray, List.getElem?_cons_succ, List.getElem?_cons_zero, Option.getD_some] at f44
        have f45 := hf 45 (by kernel_rfl)
        simp only [Array.getD_eq_getD_getElem?, List.getElem?_toArray, List.getElem?_cons_succ, List.getElem?_cons_zero, Option.getD_some] at f45
        have f46 := hf 46 (by kernel_rfl)
        simp only [Array.getD_eq_getD_getElem?, List.getElem?_toArray, List.getElem?_cons_succ, List.getElem?_cons_zero, Option.getD_some] at f46
        have f47 := hf 47 (by kernel_rfl)
        simp only [Array.getD_eq_getD_getElem?, List.getElem?_toArray, List.getElem?_cons_succ, List.getElem?_cons_zero, Option.getD_some] at f47
        have f48 := hf 48 (by kernel_rfl)
        simp only [Array.getD_eq_getD_getElem?, List.getElem?_toArray, List.getElem?_cons_succ, List.getElem?_cons_zero, Option.getD_some] at f48
        have f49 := hf 49 (by kernel_rfl)
        simp only [Array.getD_eq_getD_getElem?, List.getElem?_toArray, List.getElem?_cons_succ, List.getElem?_cons_zero, Option.getD_some] at f49
        have f50 := hf 50 (by kernel_rfl)
        simp only [Array.getD_eq_getD_getElem?, List.getElem?_toArray, List.getElem?_cons_succ, List.getElem?_cons_zero, Option.getD_some] at f50
        have f51 := hf 51 (by kernel_rfl)
        simp only [Array.getD_eq_getD_getElem?, List.getElem?_toArray, List.getElem?_cons_succ, List.getElem?_cons_zero, Option.getD_some] at f51
        have f52 := hf 52 (by kernel_rfl)
        simp only [Array.getD_eq_getD_getElem?, List.getElem?_toArray, List.getElem?_cons_succ, List.getElem?_cons_zero, Option.getD_some] at f52
        have f53 := hf 53 (by kernel_rfl)
        simp only [Array.getD_eq_getD_getElem?, List.getElem?_toArray, List.getElem?_cons_succ, List.getElem?_cons_zero, Option.getD_some] at f53
        have f54 := hf 54 (by kernel_rfl)
        simp only [Array.getD_eq_getD_getElem?, List.getElem?_toArray, List.getElem?_cons_succ, List.getElem?_cons_zero, Option.getD_some] at f54
        have f55 := hf 55 (by kernel_rfl)
        simp only [Array.getD_eq_getD_getElem?, List.getElem?_toArray, List.getElem?_cons_succ, List.getElem?_cons_zero, Option.getD_some] at f55
        have f56 := hf 56 (by kernel_rfl)
        simp only [Array.getD_eq_getD_getElem?, List.getElem?_toArray, List.getElem?_cons_succ, List.getElem?_cons_zero, Option.getD_some] at f56
        have f57 := hf 57 (by kernel_rfl)
        simp only [Array.getD_eq_getD_getElem?, List.getElem?_toArray, List.getElem?_cons_succ, List.getElem?_cons_zero, Option.getD_some] at f57
        have f58 := hf 58 (by kernel_rfl)
        simp only [Array.getD_eq_getD_getElem?, List.getElem?_toArray, List.getElem?_cons_succ, List.getElem?_cons_zero, Option.getD_some] at f58
        have f59 := hf 59 (by kernel_rfl)
        simp only [Array.getD_eq_getD_getElem?, List.getElem?_toArray, List.getElem?_cons_succ, List.getElem?_cons_zero, Option.getD_some] at f59
        have f60 := hf 60 (by kernel_rfl)
        simp only [Array.getD_eq_getD_getElem?, List.getElem?_toArray, List.getElem?_cons_succ, List.getElem?_cons_zero, Option.getD_some] at f60
        have f61 := hf 61 (by kernel_rfl)
        simp only [Array.getD_eq_getD_getElem?, List.getElem?_toArray, List.getElem?_cons_succ, List.getElem?_cons_zero, Option.getD_some] at f61
        have f62 := hf 62 (by kernel_rfl)
        simp only [Array.getD_eq_getD_getElem?, List.getElem?_toArray, List.getElem?_cons_succ, List.getElem?_cons_zero, Option.getD_some] at f62
        have f63 := hf 63 (by kernel_rfl)
        simp only [Array.getD_eq_getD_getElem?, List.getElem?_toArray, List.getElem?_cons_succ, List.getElem?_cons_zero, Option.getD_some] at f63
        have f64 := hf 64 (by kernel_rfl)
        simp only [Array.getD_eq_getD_getElem?, List.getElem?_toArray, List.getElem?_cons_succ, List.getElem?_cons_zero, Option.getD_some] at f64
        have f65 := hf 65 (by kernel_rfl)
        simp only [Array.getD_eq_getD_getElem?, List.getElem?_toArray, List.getElem?_cons_succ, List.getElem?_cons_zero, Option.getD_some] at f65
        have f66 := hf 66 (by kernel_rfl)
        simp only [Array.getD_eq_getD_getElem?, List.getElem?_toArray, List.getElem?_cons_succ, List.getElem?_cons_zero, Option.getD_some] at f66
        have g8 := slot_of e8
        have g9 := slot_of e9
        rw [arr67 tm hz67]
        simp only [g8, g9, f0, f1, f2, f3, f4, f5, f6, f7, f10, f11, f12, f13, f14, f15, f16, f17, f18, f19, f20, f21, f22, f23, f30, f31, f32, f33, f34, f35, f36, f37, f38, f39, f40, f41, f42, f43, f44, f45, f46, f47, f48, f49, f50, f51, f52, f53, f54, f55, f56, f57, f58, f59, f60, f61, f62, f63, f64, f65, f66]
        generalize tm[24]?.getD undef = u24
        generalize tm[25]?.getD undef = u25
        generalize tm[26]?.getD undef = u26
        generalize tm[27]?.getD undef = u27
        generalize tm[28]?.getD undef = u28
        generalize tm[29]?.getD undef = u29
        clear hf hv hJ hC ct1 ct2 hL
        rename_i K' hK'
        refine hK' _ _ ?_
        go_meet
        exact ⟨_, _, rfl, rfl, B8, B9, B1, B2, B3⟩
    case rest =>
      obtain ⟨D, D2, rfl, rfl, T5, U5, E5, A5, X5⟩ := hcut
      clear K4 E4 A4 X4 hl4 HLA HF s1 s2 hT hU
      go_wp2
      go_loopw [10, 11, 12] (fun o u i wr => ∃ k : Nat, k ≤ 16 ∧ i = .int .i64 k ∧ o = .int .i64 ((carr T e k : Nat) : Int) ∧ u = .int .i64 ((carr U z k : Nat) : Int) ∧ Hid (Bk wr D 42 (rowOf T)) ∧ Hid (Bk wr D2 42 (rowOf U)) ∧ Hid (Bk wr (g + 1) 42 (rowOf e)) ∧ Hid (Bk wr g 27 (rowOf key)) ∧ Hid (Below g w wr)) (fun _ _ i _ => 16 - (intOf i).toNat)
      case atStart => exact ⟨0, by omega, rfl, by simp [carr, leN, beN], by simp [carr, leN, beN], T5, U5, E5, A5, X5⟩
      case round =>
        obtain ⟨k, hk, rfl, rfl, rfl, T6, U6, E6, A6, X6⟩ := hrel
        clear T5 U5 E5 A5 X5
        by_cases hlt : k < 16
        · have cT := T6.out.cell k
          rw [rowOf_at _ _ (by rw [hTl]; exact hlt)] at cT
          have cU := U6.out.cell k
          rw [rowOf_at _ _ (by rw [hUl]; exact hlt)] at cU
          have ce := E6.out.cell k
          rw [rowOf_at _ _ (by rw [HE.out]; exact hlt)] at ce
          have ck := A6.out.cell (16 + k)
          rw [rowOf_at _ _ (by rw [HK.out]; omega)] at ck
          have hzk : (key.getD (16 + k) 0) = z.getD k 0 := by rw [← hzz.out]; simp [List.getD]
          rw [hzk] at ck
          have hdg := DG.out k hlt
          have hcT := carr_next T e k (by rw [hTl]; exact hlt) (by rw [HE.out]; exact hlt)
          have hcU := carr_next U z k (by rw [hUl]; exact hlt) (by rw [hzl]; exact hlt)
          have hlT := carr_le T e k (by rw [hTl]; omega) (by rw [HE.out]; omega)
          have hlU := carr_le U z k (by rw [hUl]; omega) (by rw [hzl]; omega)
          have h1 := (T.getD k 0).toNat_lt
          have h2 := (U.getD k 0).toNat_lt
          have h3 := (e.getD k 0).toNat_lt
          have h4 := (z.getD k 0).toNat_lt
          obtain ⟨t, ht⟩ : ∃ x, Hid ((T.getD k 0).toNat = x) := ⟨_, rfl⟩
          obtain ⟨u, hu⟩ : ∃ x, Hid ((U.getD k 0).toNat = x) := ⟨_, rfl⟩
          obtain ⟨x, hx⟩ : ∃ x, Hid ((e.getD k 0).toNat = x) := ⟨_, rfl⟩
          obtain ⟨y, hy⟩ : ∃ x, Hid ((z.getD k 0).toNat = x) := ⟨_, rfl⟩
          obtain ⟨o, ho⟩ : ∃ x, Hid (carr T e k = x) := ⟨_, rfl⟩
          obtain ⟨v, hv⟩ : ∃ x, Hid (carr U z k = x) := ⟨_, rfl⟩
          rw [ht.out] at cT hdg hcT h1
          rw [hu.out] at cU hdg hcU h2
          rw [hx.out] at ce hdg hcT h3
          rw [hy.out] at ck hdg hcU h4
          rw [ho.out] at hdg hcT hlT ⊢
          rw [hv.out] at hdg hcU hlU ⊢
          have CT := hid_ hcT
          have CU := hid_ hcU
          have t0 : (0 : Int) ≤ (k : Int) := by omega
          have t16 : (k : Int) < 16 := by omega
          have hdi : ((t : Int) + (x : Int) + (o : Int)).tmod 256 = ((u : Int) + (y : Int) + (v : Int)).tmod 256 := by
            rw [Int.tmod_eq_emod_of_nonneg (by omega), Int.tmod_eq_emod_of_nonneg (by omega)]; omega
          clear hcT hcU hdg
          go_upto_region 9 with fail
          go_quiet (fail)
          obtain ⟨wd, hwd⟩ : ∃ wd, wr.drewN nq = wd := ⟨_, rfl⟩
          have HWD := hid_ hwd
          replace cU : (wr.drewN nq).cell? _ = _ := cU
          replace ck : (wr.drewN nq).cell? _ = _ := ck
          have T7 := hid_ (T6.out.drewN nq)
          have U7 := hid_ (U6.out.drewN nq)
          have E7 := hid_ (E6.out.drewN nq)
          have A7 := hid_ (A6.out.drewN nq)
          have X7 := hid_ (below_drewN X6.out nq)
          rw [hwd] at cU ck T7 U7 E7 A7 X7
          rw [hwd]
          clear hwd cT ce T6 U6 E6 A6 X6 HWD
          go_upto_region 10 with fail
          go_quiet (fail)
          go_wp2
          exact ⟨⟨k + 1, by omega, by go_num, by rw [CT.out]; congr 1, by rw [CU.out]; congr 1, T7.out.drewN nq, U7.out.drewN nq, E7.out.drewN nq, A7.out.drewN nq, below_drewN X7.out nq⟩, by simp [intOf]; omega⟩
        · go_wp2_with (go_at_call 33; ((with_reducible refine (tags_any _).mono ?_); rintro e w9 ⟨rfl, b9⟩))
          go_ret
          exact ⟨rfl, by rw [hg.out]; exact X6.out.trans (b9.mono (by have := A6.out.lt; omega))⟩

set_option maxRecDepth 100000 in
theorem lifted (os : Os) (started : os.Started) (H : Type) (enc : TypeId × Value → H) :
    ReturnsInHanded {} Try.checked os 10 .any (Rows.polySumsSpec.pre6 enc Try.prog Try.f10 Rows.polySumsRow.domain false) (Rows.polySumsSpec.post enc Try.prog Try.f10 false true false false) := by
  refine returnsInHanded_of_change (C := Try.checked) own_ started (by kernel_rfl) Try.func10
    (ChangeSpec.witness6 (enc := enc) (C := Try.checked) false ⟨#[], #[.agg (rowOf (zbytes 32)), .agg (rowOf (zbytes 16)), .slice none 0 0], []⟩ 8 (by kernel_rfl) (by kernel_rfl) (by kernel_rfl) (by kernel_rfl)) ?_
  intro W base args ds gs before hval0 hW hcnd _
  have hval : ∀ (j : Nat) t v, Try.f10.params[j]? = some t → args[j]? = some v → Value.okWide Try.prog W .any base t v := hval0
  have hW' := hW
  obtain ⟨p, q, hA0, hV, rfl, hfz, hnd⟩ := hW
  have hA : DataW.TrodAll enc Try.prog W 0 (fun _ => true) true Try.f10.params.toList args.toList ds p := hA0
  rw [Try.params10] at hA hval
  obtain ⟨v0, vs0, d0, ds0, p0, q0, hargs, rfl, rfl, h0, r0⟩ := trodAll_cons hA
  obtain ⟨v1, vs1, d1, ds1, p1, q1, rfl, rfl, rfl, h1, r1⟩ := trodAll_cons r0
  obtain ⟨v2, vs2, d2, ds2, p2, q2, rfl, rfl, rfl, h2, r2⟩ := trodAll_cons r1
  obtain ⟨rfl, rfl, rfl⟩ := trodAll_nil r2
  obtain rfl : args = #[v0, v1, v2] := by cases args; simp_all
  obtain ⟨rfl, rfl⟩ := trodVars_none hV
  obtain ⟨l0, rfl, hl0⟩ := open_arr8 Try.underlying27 Try.underlying5 (by kernel_rfl) (by kernel_rfl) (hval 0 27 v0 rfl rfl) h0
  obtain ⟨l1, rfl, hl1⟩ := open_arr8 Try.underlying42 Try.underlying5 (by kernel_rfl) (by kernel_rfl) (hval 1 42 v1 rfl rfl) h1
  obtain ⟨A2, l2, c2, rfl, hr2, hlc2, hcm2⟩ := open_bytes Try.underlying22 Try.underlying5 (by kernel_rfl) (hval 2 22 v2 rfl rfl) h2
  refine (walk l0 l1 A2 c2 l2 W hl0 hl1 hr2 hlc2 hcm2).mono fun e W' ⟨he, hg⟩ => ⟨_, he, ?_⟩
  exact law_post laidOut_ (of_decide_eq_true (by kernel_rfl)) rfl rfl Try.underlying4 rfl hW' hg

theorem over : Rows.polySumsRow.holds Try.pinned (OpenSpec.ofChange Rows.polySumsSpec) :=
  OpenClaim.holds_of_wide 10 Try.f10 rfl rfl rfl rfl rfl rfl rfl ⟨rfl, rfl, rfl, rfl, rfl⟩ rfl rfl rfl rfl rfl (by kernel_rfl) Try.func10 (by kernel_rfl)
    (of_decide_eq_true (by kernel_rfl)) (by unfold Func.isWrapper; first | (rw [if_pos (by decide +kernel)]; kernel_rfl) | (rw [if_neg (by decide +kernel)]; exact ⟨rfl, rfl⟩))
    (fun os started H enc _ => lifted os started H enc)

theorem proved : Rows.PolySumsSaid := over
#print axioms proved
end Go.Proofs.Ytilgpblfdfhioaa.polySums
