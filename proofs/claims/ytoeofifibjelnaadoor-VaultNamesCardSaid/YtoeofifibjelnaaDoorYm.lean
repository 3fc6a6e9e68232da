/-
  Two vaults side by side; what Blind and Seal come to, whatever they are asked; a slice of acts.
-/
import Derived.Test.YtoeofifibjelnaaDoorYk
import Derived.Stop.BytesEq
namespace Go.Proofs.YtoeofifibjelnaaDoor
set_option maxRecDepth 100000
open Go.ChangeShapes Go.WideShapes Go.ChangeAt Go.RowKit
set_option linter.unusedVariables false
set_option linter.unusedSimpArgs false

theorem put_otherY {a : Act} {s t : Nat} {v : Value} (h : s ≠ t) : (a.put (some t) v).tmps.getD s undef = a.tmps.getD s undef := by
  simp only [Act.put]
  simp [Array.getD_eq_getD_getElem?, Array.getElem?_setIfInBounds, Ne.symm h]
theorem put_selfY {a : Act} {t : Nat} {v : Value} (h : t < a.tmps.size) : (a.put (some t) v).tmps.getD t undef = v := by
  simp [Act.put, h]
/-- Bytes, each changed by the same one. -/
def xorU (u : UInt8) (l : List UInt8) : List UInt8 := l.map (· ^^^ u)
theorem xorU_len (u : UInt8) (l : List UInt8) : (xorU u l).length = l.length := by simp [xorU]
theorem xorU_inj {u : UInt8} {l m : List UInt8} (h : xorU u l = xorU u m) : l = m := by
  have e : ∀ k : List UInt8, xorU u (xorU u k) = k := fun k => by
    unfold xorU
    rw [List.map_map]
    conv => rhs; rw [← List.map_id k]
    apply List.map_congr_left
    intro x _
    simp [UInt8.xor_assoc]
  rw [← e l, h, e]
theorem idxOf_xorU (u : UInt8) (s : List UInt8) : ∀ N : List (List UInt8), (N.map (xorU u)).idxOf (xorU u s) = N.idxOf s
  | [] => rfl
  | x :: N => by
    rw [List.map_cons, List.idxOf_cons, List.idxOf_cons, idxOf_xorU u s N]
    by_cases h : x = s
    · subst h; simp
    · have h2 : xorU u x ≠ xorU u s := fun e => h (xorU_inj e)
      rw [show (xorU u x == xorU u s) = false from beq_false_of_ne h2, show (x == s) = false from beq_false_of_ne h]
theorem ordN_xorU (u : UInt8) (N : List (List UInt8)) (s : List UInt8) : ordN (N.map (xorU u)) (xorU u s) = ordN N s := by
  unfold ordN
  rw [idxOf_xorU]
theorem mem_xorU (u : UInt8) (N : List (List UInt8)) (s : List UInt8) : xorU u s ∈ N.map (xorU u) ↔ s ∈ N := by
  constructor
  · intro h
    obtain ⟨t, ht, e⟩ := List.mem_map.1 h
    rw [← xorU_inj e]
    exact ht
  · intro h
    exact List.mem_map.2 ⟨s, h, rfl⟩
theorem addNm_xorU (u : UInt8) (N : List (List UInt8)) (s : List UInt8) : addNm (N.map (xorU u)) (xorU u s) = (addNm N s).map (xorU u) := by
  unfold addNm
  by_cases h : s ∈ N
  · rw [if_pos h, if_pos ((mem_xorU u N s).2 h)]
  · rw [if_neg h, if_neg (fun e => h ((mem_xorU u N s).1 e))]
    simp
theorem addNm_len (N : List (List UInt8)) (s : List UInt8) : (addNm N s).length ≤ N.length + 1 := by
  unfold addNm
  split
  · omega
  · simp
/-! What the calls come to. -/
def blOk (n : Nat) : Prop := 1 ≤ n ∧ n ≤ 64
instance (n : Nat) : Decidable (blOk n) := by unfold blOk; infer_instance
def blB (K : List UInt8) (N : List (List UInt8)) (s : List UInt8) : List UInt8 := if blOk s.length then drawB K 0 (ordN N s) 24 else zbytes 32
def blE (s : List UInt8) : Int := if blOk s.length then 0 else 1
def blN (N : List (List UInt8)) (s : List UInt8) : List (List UInt8) := if blOk s.length then addNm N s else N
theorem blB_len (K : List UInt8) (N : List (List UInt8)) (s : List UInt8) : (blB K N s).length = 32 := by
  unfold blB
  split
  · exact drawB_len _ _ _ _
  · exact zbytes_len 32
theorem blB_xorU (K : List UInt8) (u : UInt8) (N : List (List UInt8)) (s : List UInt8) : blB K (N.map (xorU u)) (xorU u s) = blB K N s := by
  unfold blB
  rw [xorU_len, ordN_xorU]
theorem blE_xorU (u : UInt8) (s : List UInt8) : blE (xorU u s) = blE s := by unfold blE; rw [xorU_len]
theorem blN_xorU (u : UInt8) (N : List (List UInt8)) (s : List UInt8) : blN (N.map (xorU u)) (xorU u s) = (blN N s).map (xorU u) := by
  unfold blN
  rw [xorU_len, addNm_xorU]
  split <;> rfl
theorem blN_len (N : List (List UInt8)) (s : List UInt8) : (blN N s).length ≤ N.length + 1 := by
  unfold blN
  split
  · exact addNm_len N s
  · omega
theorem vblind_out {w : World} {v sp nm kn : Nat} {K : List UInt8} {N : List (List UInt8)} {S : List (Nat × Nat)} {L : List SealV} {F : List Nat} (h : VltI w v sp nm kn K N S L F) (A : Option Addr) (n c : Nat) (name : List UInt8) (hn : name.length = n) (hc : n ≤ c) (hcm : c ≤ 9223372036854775807) (hr : Rd w w.heap.size A name) (hN : N.length ≤ 100000) (ht : Tab w) (hg1 : 1 < w.heap.size) :
    Calls Tryd.prog 10 #[.pointer (some ⟨v, 0, none⟩), .slice A n c] w fun e w' => e = .returned (.tuple #[.agg (rowOf (blB K N name)), .int .i64 (blE name)]) ∧ LeavesI w w' v sp nm kn K (blN N name) S L F F := by
  unfold blB blE blN
  rw [hn]
  by_cases hk : blOk n
  · rw [if_pos hk, if_pos hk, if_pos hk]
    exact vblind_yes h A n c name hn hk.1 hk.2 hc hcm hr hN ht hg1
  · rw [if_neg hk, if_neg hk, if_neg hk]
    refine (vblind_no h.blk h.len A n c (by unfold blOk at hk; omega)).mono ?_
    rintro e w' ⟨rfl, hb⟩
    exact ⟨rfl, h.below hb, Grew.refl _ _, .of_below hb⟩
def slOk (e c n : Int) : Prop := (1 ≤ e ∧ e ≤ 1048576) ∧ NonceOk c n
instance (e c n : Int) : Decidable (slOk e c n) := by unfold slOk NonceOk; infer_instance
def slE (S : List (Nat × Nat)) (e c n : Int) : Int := if slOk e c n then (if (c.toNat, n.toNat) ∈ S then 13 else 0) else 1
def slB (K : List UInt8) (S : List (Nat × Nat)) (e c n : Int) (m : Nat) : List UInt8 := if slOk e c n then (if (c.toNat, n.toNat) ∈ S then [] else drawB K 1 (S.length + 1) (m + 8)) else []
def slS (S : List (Nat × Nat)) (e c n : Int) : List (Nat × Nat) := if slOk e c n then (if (c.toNat, n.toNat) ∈ S then S else S ++ [(c.toNat, n.toNat)]) else S
theorem slS_len (S : List (Nat × Nat)) (e c n : Int) : (slS S e c n).length ≤ S.length + 1 := by
  unfold slS
  split
  · split
    · omega
    · simp
  · omega
/-- What a sealing comes to. -/
def SealOut (w : World) (v sp nm kn : Nat) (K : List UInt8) (N : List (List UInt8)) (S : List (Nat × Nat)) (L : List SealV) (F : List Nat) (e c n : Int) (m : Nat) (r : Ending) (w' : World) : Prop :=
  ∃ A d L' F', r = .returned (.tuple #[.slice A (slB K S e c n m).length d, .int .i64 (slE S e c n)]) ∧ Rd w' w'.heap.size A (slB K S e c n m) ∧ LeavesI w w' v sp nm kn K N (slS S e c n) L' F F' ∧ L'.length ≤ L.length + 1 ∧ ∀ a, A = some a → w.heap.size ≤ a.block
theorem vseal_out {w : World} {v sp nm kn : Nat} {K : List UInt8} {N : List (List UInt8)} {S : List (Nat × Nat)} {L : List SealV} {F : List Nat} (h : VltI w v sp nm kn K N S L F) (Aw B : Option Addr) (na ca nb cb : Nat) (x b : List UInt8) (hx : x.length = na) (hb : b.length = nb) (hrx : Rd w w.heap.size Aw x) (hrb : Rd w w.heap.size B b) (hna : na ≤ 100000) (hnb : nb ≤ 100000)
    (e c n : Int) (hSl : S.length ≤ 100000) (hLl : L.length ≤ 100000) (ht : Tab w) (hg1 : 1 < w.heap.size) :
    Calls Tryd.prog 11 #[.pointer (some ⟨v, 0, none⟩), .int .i64 e, .int .i64 c, .int .i64 n, .slice Aw na ca, .slice B nb cb] w (SealOut w v sp nm kn K N S L F e c n nb) := by
  unfold SealOut slB slE slS
  by_cases hok : slOk e c n
  · simp only [if_pos hok]
    obtain ⟨⟨he1, he2⟩, hc1, hc2, hn1, hn2⟩ := hok
    obtain ⟨e, rfl⟩ : ∃ k : Nat, e = (k : Int) := ⟨e.toNat, by omega⟩
    obtain ⟨c, rfl⟩ : ∃ k : Nat, c = (k : Int) := ⟨c.toNat, by omega⟩
    obtain ⟨n, rfl⟩ : ∃ k : Nat, n = (k : Int) := ⟨n.toNat, by omega⟩
    have ck := keysOf_yes h.blk h.len e c n (by omega) (by omega) (by omega) (by omega) (by omega) (by omega) ht hg1
    simp only [Int.toNat_natCast]
    by_cases hin : (c, n) ∈ S
    · simp only [if_pos hin]
      refine (vseal_spent h.blk h.len h.spent Aw B na ca nb cb e c n (by omega) (by omega) hin ck).mono ?_
      rintro r w' ⟨rfl, hb⟩
      exact ⟨none, 0, L, F, rfl, Rd.nil, ⟨h.below hb, Grew.refl _ _, .of_below hb⟩, by omega, fun a e => by cases e⟩
    · simp only [if_neg hin]
      refine (vseal_ideal h Aw B na ca nb cb x b hx hb hrx hrb hna hnb e c n (by omega) (by omega) (by omega) hin hSl hLl ck).mono ?_
      rintro r w' ⟨A, d, F', rfl, ho, hni, hl⟩
      have hrd := ho.rd
      exact ⟨A, d, _, F', by rw [drawB_len, show 8 + (nb + 8) = nb + 16 by omega], hrd.1, hl, by simp, fun a e => (World.ownsRow.lt ho a.block (by rw [e]; rfl)).1⟩
  · simp only [if_neg hok]
    have ck : Calls Tryd.prog 19 #[.pointer (some ⟨v, 0, none⟩), .int .i64 e, .int .i64 c, .int .i64 n] w fun r w' => r = .returned noKeys ∧ Below w.heap.size w w' := by
      by_cases he : 1 ≤ e ∧ e ≤ 1048576
      · obtain ⟨e, rfl⟩ : ∃ k : Nat, e = (k : Int) := ⟨e.toNat, by omega⟩
        exact keysOf_no2 h.blk h.len e c n (by omega) (by omega) (fun h => hok ⟨he, h⟩) ht hg1
      · exact keysOf_no1 h.blk h.len e c n he
    refine (vseal_no Aw B na ca nb cb e c n ck).mono ?_
    rintro r w' ⟨rfl, hb⟩
    exact ⟨none, 0, L, F, rfl, Rd.nil, ⟨h.below hb, Grew.refl _ _, .of_below hb⟩, by omega, fun a e => by cases e⟩
/-- Two of the call's own: in one all names are changed by u. -/
structure TwoV (w : World) (va spa nma kna vb spb nmb knb : Nat) (K : List UInt8) (u : UInt8) (N : List (List UInt8)) (S : List (Nat × Nat)) (La Lb : List SealV) (Fa Fb : List Nat) (W : World) : Prop where
  a : Mine w va spa nma kna K N S La Fa W
  b : Mine w vb spb nmb knb K (N.map (xorU u)) S Lb Fb W
  dis : ∀ k ∈ Fa, k ∉ Fb
section
variable {w W W' : World} {va spa nma kna vb spb nmb knb : Nat} {K : List UInt8} {u : UInt8} {N N' : List (List UInt8)} {S S' : List (Nat × Nat)} {La Lb L' : List SealV} {Fa Fb F' : List Nat}
theorem TwoV.then_ (h : TwoV w va spa nma kna vb spb nmb knb K u N S La Lb Fa Fb W) (hb : Below W.heap.size W W') : TwoV w va spa nma kna vb spb nmb knb K u N S La Lb Fa Fb W' := ⟨h.a.then_ hb, h.b.then_ hb, h.dis⟩
/-- While one acts the other stays. -/
theorem Mine.other {v sp nm kn : Nat} {L : List SealV} {F G : List Nat} (h : Mine w v sp nm kn K N S L F W) (hu : Untouched G W W') (hG : ∀ k ∈ G, k ∉ F) (hb : Below w.heap.size w W') : Mine w v sp nm kn K N S L F W' :=
  ⟨h.vlt.untouched hu (fun k hk hm => hG k hm hk), h.own, hb⟩
end
theorem Rd.untouchedF {w W : World} {G : List Nat} {B : Nat} {A : Option Addr} {l : List UInt8} (h : Rd w B A l) (hu : Untouched G w W) (hA : ∀ a, A = some a → a.block ∉ G) : Rd W B A l := fun hn => by
  obtain ⟨g, off, e, hb, hr⟩ := h hn
  refine ⟨g, off, e, hb, fun j hj => ?_⟩
  have hrj := hr j hj
  exact (World.cell?_of_block (hu.block g (cell_lt hrj) (hA _ e))).trans hrj
theorem VAct.row_one (q : VAct) : q.row.all (·.oneCell') = true := by simp [VAct.row, Value.oneCell']
theorem iActY (q : VAct) : (Tryd.prog.info? 39).map (·.size) = some q.row.size := by kernel_rfl
theorem eqInBY (l : List UInt8) (hl : l.length = 32) (W : World) : (Op.equalIn 10000 31 (.agg (rowOf l)) (.agg (rowOf l))).run Tryd.prog W = .ok true W := by
  have hs : ∀ W : World, (sizeOf 5).run Tryd.prog W = .ok 1 W := fun W => by
    obtain ⟨i, hi, hz, hsize, hby⟩ := info_parts info8
    simp [sizeOf, typeInfo, hi, hsize]
  have h : (Op.equalIn 10000 31 (.agg (rowOf l)) (.agg (rowOf l))).run Tryd.prog W = .ok (l == l) W := run_equalIn_bytes W 9998 31 5 32 Tryd.underlying31 Tryd.underlying5 hs l l hl hl
  rw [h, beq_self_eq_true]
theorem neqBY (l : List UInt8) (hl : l.length = 32) (W : World) : (binOp .neq 31 (.agg (rowOf l)) (.agg (rowOf l))).run Tryd.prog W = .ok (.bool false) W := by
  simp only [binOp]
  simp [Op.equal, Op.maxDepth, eqInBY l hl W, Result.andThen]
theorem xorU_step (u : UInt8) (l : List UInt8) (a : Nat) (h : a < l.length) : (xorU u (l.take a) ++ l.drop a).set a (l.getD a 0 ^^^ u) = xorU u (l.take (a + 1)) ++ l.drop (a + 1) := by
  have hl : (xorU u (l.take a)).length = a := by rw [xorU_len, List.length_take]; omega
  rw [List.set_append_right _ _ (by omega), hl, Nat.sub_self, List.drop_eq_getElem_cons h, List.set_cons_zero, List.take_succ_eq_append_getElem h]
  unfold xorU
  rw [List.map_append, List.append_assoc]
  simp [List.getD, h]
theorem xorU_get (u : UInt8) (l : List UInt8) (a : Nat) (h : a < l.length) : (xorU u (l.take a) ++ l.drop a).getD a 0 = l.getD a 0 := by
  have hl : (xorU u (l.take a)).length = a := by rw [xorU_len, List.length_take]; omega
  simp [List.getD, List.getElem?_append_right (show (xorU u (l.take a)).length ≤ a by omega), hl, List.getElem?_drop]
/-! A slice of acts. -/
def RdV (w : World) (B : Nat) (A : Option Addr) (l : List VAct) : Prop :=
  0 < l.length → ∃ b off, A = some ⟨b, off, none⟩ ∧ b < B ∧ ∀ j (h : j < l.length), (∀ t, t < 8 → w.cell? ⟨b, off + j * 8 + t, none⟩ = (l[j]).row[t]?) ∧ VActOk w B l[j]
theorem RdV.below {w w' : World} {B : Nat} {A : Option Addr} {l : List VAct} (h : RdV w B A l) (hb : Below B w w') : RdV w' B A l := fun hn => by
  obtain ⟨b, off, e, hlt, hc⟩ := h hn
  refine ⟨b, off, e, hlt, fun j hj => ?_⟩
  obtain ⟨h1, h2⟩ := hc j hj
  exact ⟨fun t ht => (hb.cell (p := ⟨b, _, none⟩) hlt).trans (h1 t ht), h2.below hb⟩
theorem RdV.more {w : World} {B C : Nat} {A : Option Addr} {l : List VAct} (h : RdV w B A l) (hB : B ≤ C) : RdV w C A l := fun hn => by
  obtain ⟨b, off, e, hlt, hc⟩ := h hn
  exact ⟨b, off, e, Nat.lt_of_lt_of_le hlt hB, fun j hj => ⟨(hc j hj).1, (hc j hj).2.more hB⟩⟩
end Go.Proofs.YtoeofifibjelnaaDoor
