/-
  The document's ring: Walk.
-/
import Derived.Test.YtkhmghmilnfngaaDoorRgq
import Derived.Test.YtkhmghmilnfngaaDoorRgu
import Derived.Test.YtkhmghmilnfngaaDoorFj
import Derived.OneCell
import Derived.Laws.OwnMore
namespace Go.Proofs.YtkhmghmilnfngaaDoor
set_option maxRecDepth 100000
open Go.ChangeShapes Go.WideShapes Go.ChangeAt Go.RowKit
set_option linter.unusedVariables false
set_option linter.unusedSectionVars false
set_option linter.unusedSimpArgs false

/-- Two stores under way: nothing stored; the first; both. -/
def StW (wA : World) (p1 : Addr) (v1 : Value) (p2 : Addr) (v2 : Value) (s1 s2 L1 L2 : Nat) (D : Nat → Bool) (W : World) : Prop :=
  (D s1 = false ∧ D s2 = false ∧ wA = W) ∨ (D s1 = true ∧ D s2 = false ∧ D L1 = true ∧ D L2 = true ∧ wA.setCell p1 v1 = W) ∨ (D s1 = true ∧ D s2 = true ∧ D L1 = true ∧ D L2 = true ∧ (wA.setCell p1 v1).setCell p2 v2 = W)
section
variable {wA W W1 : World} {p1 p2 : Addr} {v1 v2 : Value} {s1 s2 L1 L2 : Nat} {D : Nat → Bool}
theorem StW.same (h : StW wA p1 v1 p2 v2 s1 s2 L1 L2 D W) (i : Nat) (h1 : i ≠ s1) (h2 : i ≠ s2) : StW wA p1 v1 p2 v2 s1 s2 L1 L2 (fun j => decide (j = i) || D j) W := by
  rcases h with ⟨a, b, c⟩ | ⟨a, b, c, d, e⟩ | ⟨a, b, c, d, e⟩
  · exact .inl ⟨by simp [a, Ne.symm h1], by simp [b, Ne.symm h2], c⟩
  · exact .inr (.inl ⟨by simp [a], by simp [b, Ne.symm h2], by simp [c], by simp [d], e⟩)
  · exact .inr (.inr ⟨by simp [a], by simp [b], by simp [c], by simp [d], e⟩)
theorem StW.early (h : StW wA p1 v1 p2 v2 s1 s2 L1 L2 D W) {i : Nat} (hi : i = L1 ∨ i = L2) (hL : D i = false) : W = wA := by
  rcases h with ⟨a, b, c⟩ | ⟨a, b, c, d, e⟩ | ⟨a, b, c, d, e⟩
  · exact c.symm
  · rcases hi with rfl | rfl
    · rw [c] at hL; cases hL
    · rw [d] at hL; cases hL
  · rcases hi with rfl | rfl
    · rw [c] at hL; cases hL
    · rw [d] at hL; cases hL
theorem StW.at1 (h : StW wA p1 v1 p2 v2 s1 s2 L1 L2 D W) (hL : D s1 = false) (h1 : D L1 = true) (h2 : D L2 = true) : W = wA := by
  rcases h with ⟨a, b, c⟩ | ⟨a, b, c, d, e⟩ | ⟨a, b, c, d, e⟩
  · exact c.symm
  · rw [a] at hL; cases hL
  · rw [a] at hL; cases hL
theorem StW.no2 (h : StW wA p1 v1 p2 v2 s1 s2 L1 L2 D W) (hL : D s1 = false) : D s2 = false := by
  rcases h with ⟨a, b, c⟩ | ⟨a, b, c, d, e⟩ | ⟨a, b, c, d, e⟩
  · exact b
  · rw [a] at hL; cases hL
  · rw [a] at hL; cases hL
theorem StW.one (h1 : D L1 = true) (h2 : D L2 = true) (hne : s2 ≠ s1) (h3 : D s2 = false) : StW wA p1 v1 p2 v2 s1 s2 L1 L2 (fun j => decide (j = s1) || D j) (wA.setCell p1 v1) :=
  .inr (.inl ⟨by simp, by simp [hne, h3], by simp [h1], by simp [h2], rfl⟩)
theorem StW.at2 (h : StW wA p1 v1 p2 v2 s1 s2 L1 L2 D W) (hL : D s2 = false) (h1 : D s1 = true) : W = wA.setCell p1 v1 := by
  rcases h with ⟨a, b, c⟩ | ⟨a, b, c, d, e⟩ | ⟨a, b, c, d, e⟩
  · rw [a] at h1; cases h1
  · exact e.symm
  · rw [b] at hL; cases hL
theorem StW.two (h : StW wA p1 v1 p2 v2 s1 s2 L1 L2 D W) (h1 : D s1 = true) (hne : s1 ≠ s2) : StW wA p1 v1 p2 v2 s1 s2 L1 L2 (fun j => decide (j = s2) || D j) ((wA.setCell p1 v1).setCell p2 v2) := by
  rcases h with ⟨a, b, c⟩ | ⟨a, b, c, d, e⟩ | ⟨a, b, c, d, e⟩
  · rw [a] at h1; cases h1
  · exact .inr (.inr ⟨by simp [a], by simp, by simp [c], by simp [d], rfl⟩)
  · exact .inr (.inr ⟨by simp [a], by simp, by simp [c], by simp [d], rfl⟩)
theorem StW.end_ (h : StW wA p1 v1 p2 v2 s1 s2 L1 L2 D W) (h2 : D s2 = true) : W = (wA.setCell p1 v1).setCell p2 v2 := by
  rcases h with ⟨a, b, c⟩ | ⟨a, b, c, d, e⟩ | ⟨a, b, c, d, e⟩
  · rw [b] at h2; cases h2
  · rw [b] at h2; cases h2
  · exact e.symm
end
def WkR (b1 b2 q c6 c8 a s x y : Nat) : Nat → Value → World → Prop
  | 0, v, _ => v = .slice (some ⟨b1, 0, none⟩) q c6
  | 1, v, _ => v = .int .i64 (a : Int)
  | 2, v, _ => v = .slice (some ⟨b2, 0, none⟩) q c8
  | 3, v, _ => v = .int .i64 (a : Int)
  | 4, v, _ => v = .slice (some ⟨b1, 0, none⟩) q c6
  | 5, v, _ => v = .int .i64 (a : Int)
  | 6, v, _ => v = .int .i64 (s : Int)
  | 7, v, _ => v = .pointer (some ⟨b1, s, none⟩)
  | 8, v, _ => v = .int .i64 (x : Int)
  | 9, v, _ => v = .slice (some ⟨b2, 0, none⟩) q c8
  | 10, v, _ => v = .int .i64 (a : Int)
  | 11, v, _ => v = .int .i64 (s : Int)
  | 12, v, _ => v = .pointer (some ⟨b2, s, none⟩)
  | 13, v, _ => v = .int .u64 (y : Int)
  | 14, v, _ => v = .pointer (some ⟨b1, a, none⟩)
  | 16, v, _ => v = .pointer (some ⟨b2, a, none⟩)
  | _, _, _ => True
theorem WkR.any {b1 b2 q c6 c8 a s x y : Nat} {j : Nat} {v : Value} {W W' : World} (hh : WkR b1 b2 q c6 c8 a s x y j v W) : WkR b1 b2 q c6 c8 a s x y j v W' := by
  unfold WkR at hh ⊢
  split at hh <;> first | exact hh | trivial
section
variable {W : World} {base b n c i : Nat} {l : List Nat}
theorem OwnZ.put (h : OwnZ W base (.slice (some ⟨b, 0, none⟩) n c) l) (i x : Nat) : OwnZ (W.setCell ⟨b, i, none⟩ (.int .i64 (x : Int))) base (.slice (some ⟨b, 0, none⟩) n c) (l.set i x) := by
  obtain ⟨_, rfl⟩ := h.rd
  have h2 := (World.ownsRow.stored h i (.int .i64 (x : Int))).1
  have e : (rowZ l).toList.set i (.int .i64 (x : Int)) = (rowZ (l.set i x)).toList := by rw [← rowZ_set, Array.toList_setIfInBounds]
  rw [e] at h2
  unfold OwnZ
  rw [List.length_set]
  exact h2
theorem OwnU.put (h : OwnU W base (.slice (some ⟨b, 0, none⟩) n c) l) (i x : Nat) : OwnU (W.setCell ⟨b, i, none⟩ (.int .u64 (x : Int))) base (.slice (some ⟨b, 0, none⟩) n c) (l.set i x) := by
  obtain ⟨_, rfl⟩ := h.rd
  have h2 := (World.ownsRow.stored h i (.int .u64 (x : Int))).1
  have e : (rowU l).toList.set i (.int .u64 (x : Int)) = (rowU (l.set i x)).toList := by rw [← rowU_set, Array.toList_setIfInBounds]
  rw [e] at h2
  unfold OwnU
  rw [List.length_set]
  exact h2
theorem OwnZ.far (h : OwnZ W base (.slice (some ⟨b, 0, none⟩) n c) l) {p : Addr} (hp : b ≠ p.block) (u : Value) : OwnZ (W.setCell p u) base (.slice (some ⟨b, 0, none⟩) n c) l := ownsRow_setCell_other h (fun e => hp (by injection e)) u
theorem OwnU.far (h : OwnU W base (.slice (some ⟨b, 0, none⟩) n c) l) {p : Addr} (hp : b ≠ p.block) (u : Value) : OwnU (W.setCell p u) base (.slice (some ⟨b, 0, none⟩) n c) l := ownsRow_setCell_other h (fun e => hp (by injection e)) u
theorem OwnZ.cellf (h : OwnZ W base (.slice (some ⟨b, 0, none⟩) n c) l) (hi : i < n) : W.cell? ⟨b, i, none⟩ = some (.int .i64 ((l.getD i 0 : Nat) : Int)) ∧ W.frozen? ⟨b, i, none⟩ = false := by
  obtain ⟨_, rfl⟩ := h.rd
  refine ⟨?_, World.ownsRow.frozenAt h i⟩
  have hc := World.ownsRow.cellAt h i (by omega)
  rw [hc]
  have := rowZ_at l i hi
  simpa using this
theorem OwnU.cellf (h : OwnU W base (.slice (some ⟨b, 0, none⟩) n c) l) (hi : i < n) : W.cell? ⟨b, i, none⟩ = some (.int .u64 ((l.getD i 0 : Nat) : Int)) ∧ W.frozen? ⟨b, i, none⟩ = false := by
  obtain ⟨_, rfl⟩ := h.rd
  refine ⟨?_, World.ownsRow.frozenAt h i⟩
  have hc := World.ownsRow.cellAt h i (by omega)
  rw [hc]
  have := rowU_at l i hi
  simpa using this
end
/-- r put in at a. -/
def outZ (P : List Nat) (r a : Nat) : List Nat := P.take a ++ r :: P.drop a
theorem outZ_len {P : List Nat} {r a : Nat} (h : a ≤ P.length) : (outZ P r a).length = P.length + 1 := by
  unfold outZ
  rw [List.length_append, List.length_cons, List.length_take, List.length_drop]
  omega
theorem outZ_full {P : List Nat} {r a : Nat} (h : P.length = a) : outZ P r a = P ++ [r] := by
  unfold outZ
  rw [List.take_of_length_le (by omega), List.drop_of_length_le (by omega)]
theorem outZ_cut {P : List Nat} {a s : Nat} (ha : s + 1 = a) (h : a ≤ P.length) : P.take a = P.take s ++ [P.getD s 0] ∧ P.drop s = P.getD s 0 :: P.drop a := by
  subst ha
  refine ⟨getD_append_succ (by omega), ?_⟩
  rw [List.drop_eq_getElem_cons (by omega), List.getD_eq_getElem?_getD, List.getElem?_eq_getElem (by omega)]
  rfl
theorem outZ_at {P : List Nat} {r a s : Nat} (ha : s + 1 = a) (h : a ≤ P.length) : (outZ P r a).getD s 0 = P.getD s 0 := by
  unfold outZ
  rw [List.getD_eq_getElem?_getD, List.getElem?_append_left (by rw [List.length_take]; omega), List.getElem?_take, if_pos (by omega), ← List.getD_eq_getElem?_getD]
theorem outZ_step {P : List Nat} {r a s : Nat} (ha : s + 1 = a) (h : a ≤ P.length) : ((outZ P r a).set a (P.getD s 0)).set s r = outZ P r s := by
  obtain ⟨e1, e2⟩ := outZ_cut ha h
  have hl : (P.take s).length = s := by rw [List.length_take]; omega
  unfold outZ
  rw [e1, e2]
  generalize P.take s = T at *
  generalize P.getD s 0 = z at *
  generalize P.drop a = S at *
  subst ha hl
  simp [List.set_append]
theorem outZ_map {P : List Nat} {r a s : Nat} (d : Nat → Nat) (ha : s + 1 = a) (h : a ≤ P.length) : (((outZ P r a).map d).set a (d (P.getD s 0))).set s (d r) = (outZ P r s).map d := by
  rw [← outZ_step ha h, List.map_set, List.map_set]
theorem getD_map {d : Nat → Nat} {l : List Nat} {i : Nat} (h : i < l.length) : (l.map d).getD i 0 = d (l.getD i 0) := by
  rw [List.getD_eq_getElem?_getD, List.getD_eq_getElem?_getD, List.getElem?_map, List.getElem?_eq_getElem h]
  rfl
/-- How far behind a key its replicas' first points are. -/
def nearK (K : List UInt8) (k r : Nat) : Nat := nearR plcS (plB K) r k
/-- Two rows of a world that lie apart. -/
def TwZ (wr : World) (base b1 b2 q c1 c2 : Nat) (l m : List Nat) : Prop := OwnZ wr base (.slice (some ⟨b1, 0, none⟩) q c1) l ∧ OwnU wr base (.slice (some ⟨b2, 0, none⟩) q c2) m
theorem rdu_one (w : World) (x : Nat) : RdU (w.alloc (.cells #[.int .u64 (x : Int)] 43)) (w.alloc (.cells #[.int .u64 (x : Int)] 43)).heap.size (some ⟨w.heap.size, 0, none⟩) [x] := fun _ =>
  ⟨_, 0, rfl, by simp, fun j hj => by
    have : j = 0 := by simpa using hj
    subst this
    exact World.cell?_alloc_mark w #[.int .u64 (x : Int)] 43 _ 0⟩
theorem OwnZ.blk {w : World} {base n c : Nat} {A : Option Addr} {l : List Nat} (h : OwnZ w base (.slice A n c) l) (hn : 0 < n) : ∃ b, A = some ⟨b, 0, none⟩ := by
  rcases h.2 with ⟨hv, _⟩ | ⟨g, cap, cur, hv, _⟩
  · injection hv with e1 e2 e3
    omega
  · injection hv with e1
    exact ⟨g, e1⟩
theorem OwnU.blk {w : World} {base n c : Nat} {A : Option Addr} {l : List Nat} (h : OwnU w base (.slice A n c) l) (hn : 0 < n) : ∃ b, A = some ⟨b, 0, none⟩ := by
  rcases h.2 with ⟨hv, _⟩ | ⟨g, cap, cur, hv, _⟩
  · injection hv with e1 e2 e3
    omega
  · injection hv with e1
    exact ⟨g, e1⟩
theorem apart_swap {a b : Option Nat} (h : a = none ∨ a ≠ b) : b = none ∨ b ≠ a := by
  rcases h with rfl | h
  · cases b
    · exact .inl rfl
    · right; simp
  · exact .inr (Ne.symm h)
set_option maxRecDepth 100000 in
set_option maxHeartbeats 8000000 in
theorem refwalk_any (w : World) (K : List UInt8) (hK : K.length = 32) (n k : Nat) (hn : n ≤ 8) (hk : k ≤ 64) :
    Calls Tryd.prog 13 #[.string (strOf K), .int .i64 (n : Int), .int .i64 (k : Int)] w (NewZ w (refW (nearK K k) n)) := by
  have HK := hidrg_ hK
  obtain ⟨d, hd⟩ : ∃ d, nearK K k = d := ⟨_, rfl⟩
  have HD := hidrg_ (show ∀ (W : World) (r : Nat), r < 256 → Calls Tryd.prog 25 #[.string (strOf K), .int .i64 (r : Int), .int .i64 (k : Int)] W (U64P W (d r)) from fun W r hr => by rw [← hd]; exact near_any W K HK.out r k hr hk)
  rw [hd]
  clear hd hK hk
  go_enter Tryd.func13, Tryd.ntmps13
  go_wp2
  go_loopw [9, 7, 8] (fun i o f wr => ∃ (r : Nat) (A1 : Option Addr) (c1 : Nat) (A2 : Option Addr) (c2 : Nat), i = .int .i64 r ∧ r ≤ n ∧ o = .slice A1 r c1 ∧ f = .slice A2 r c2 ∧ Hid (OwnZ wr w.heap.size (.slice A1 r c1) (refW d r)) ∧ Hid (OwnU wr w.heap.size (.slice A2 r c2) ((refW d r).map d)) ∧ Hid (Below w.heap.size w wr) ∧ Hid ((Value.slice A1 r c1).ownBlock = none ∨ (Value.slice A1 r c1).ownBlock ≠ (Value.slice A2 r c2).ownBlock)) (fun i _ _ _ => n - (intOf i).toNat)
  case atStart => exact ⟨0, none, 0, none, 0, rfl, Nat.zero_le _, rfl, rfl, hidrg_ (OwnZ.nil_ _ _), hidrg_ (OwnU.nil_ _ _), hidrg_ (Below.refl _ _), hidrg_ (.inl rfl)⟩
  case round =>
    obtain ⟨r, A1, c1, A2, c2, rfl, hr, rfl, rfl, HO, HU, HB, HAP⟩ := hrel
    by_cases hlt : r < n
    · have tl : (r : Int) < (n : Int) := by omega
      have cn := HD.out wr r (by omega)
      obtain ⟨e, he⟩ : ∃ e, d r = e := ⟨_, rfl⟩
      have HE := hidrg_ he
      rw [he] at cn
      clear he
      go_upto_region 9 with (first
        | (go_at_call 25; ((with_reducible refine cn.mono ?_); clear cn; rintro e2 w2 ⟨rfl, hb⟩; have B2 := hidrg_ (HB.out.trans (hb.mono HB.out.size)); have O2 := hidrg_ (HO.out.below hb (Nat.le_refl _)); have U2 := hidrg_ (HU.out.below hb (Nat.le_refl _)); have O3 := hidrg_ (O2.out.alloc (.cells #[.int .i64 (r : Int)] 3)); have U3 := hidrg_ (U2.out.alloc (.cells #[.int .i64 (r : Int)] 3)); have RY := hidrg_ (rdz_one w2 r); have hl1 : (refW d r).length + 1 ≤ 1000000 := (by rw [refW_len]; omega); have hb1 : w.heap.size ≤ (w2.alloc (.cells #[.int .i64 (r : Int)] 3)).heap.size := (by simp; have := B2.out.size; omega); clear hb))
        | (at_builtin; (first
          | (refine wpList_appZ rfl (.tmp 23) (.tmp 25) rfl O3.out rfl 1 1 rfl RY.out rfl hl1 hb1 ?_; intro A6 c6 w6 h1 h2 h3; rw [refW_len] at h1 h3 ⊢; have OO := hidrg_ h1; have UU := hidrg_ (OwnU.kept U3.out h2 (apart_swap HAP.out)); have BA := B2.out.alloc B2.out.size (.cells #[.int .i64 (r : Int)] 3); have B6 := hidrg_ (BA.grown h2 BA.size (fun k hk => (World.ownsRow.lt O3.out k hk).1)); have AP6 := hidrg_ (show (Value.slice A6 (r + 1) c6).ownBlock = (Value.slice A1 r c1).ownBlock ∨ (Value.slice A6 (r + 1) c6).ownBlock = some (w2.alloc (.cells #[.int .i64 (r : Int)] 3)).heap.size from h3); have HSZ6 := hidrg_ (show (w2.alloc (.cells #[.int .i64 (r : Int)] 3)).heap.size ≤ w6.heap.size from h2.size); have U7 := hidrg_ (UU.out.alloc (.cells #[.int .u64 (e : Int)] 43)); have O7 := hidrg_ (OO.out.alloc (.cells #[.int .u64 (e : Int)] 43)); have RU := hidrg_ (rdu_one w6 e); have hl2 : ((refW d r).map d).length + 1 ≤ 1000000 := (by rw [List.length_map, refW_len]; omega); have hb2 : w.heap.size ≤ (w6.alloc (.cells #[.int .u64 (e : Int)] 43)).heap.size := (by simp; have := B6.out.size; omega); clear h1 h2 h3 BA hl1 hb1)
          | (refine wpList_appU rfl (.tmp 27) (.tmp 29) rfl U7.out rfl 1 1 rfl RU.out rfl hl2 hb2 ?_; intro A8 c8 w8 h1 h2 h3; rw [List.length_map, refW_len] at h1 h3 ⊢; have U8 := hidrg_ h1; have G8 := hidrg_ h2; have AP8 := hidrg_ h3; have BA := B6.out.alloc B6.out.size (.cells #[.int .u64 (e : Int)] 43); have B8 := hidrg_ (BA.grown h2 BA.size (fun k hk => (World.ownsRow.lt U7.out k hk).1)); clear h1 h2 h3 BA hl2 hb2))))
      have lt2 := World.ownsRow.lt U2.out
      have lt6 := World.ownsRow.lt OO.out
      have szA : (w2.alloc (.cells #[.int .i64 (r : Int)] 3)).heap.size = w2.heap.size + 1 := by simp
      have szB : (w6.alloc (.cells #[.int .u64 (e : Int)] 43)).heap.size = w6.heap.size + 1 := by simp
      obtain ⟨b1, rfl⟩ := OO.out.blk (Nat.succ_pos r)
      obtain ⟨b2, rfl⟩ := U8.out.blk (Nat.succ_pos r)
      have nA : (Value.slice (some ⟨b1, 0, none⟩) (r + 1) c6).ownBlock ≠ (Value.slice A2 r c2).ownBlock := by
        intro e2
        rcases AP6.out with h | h
        · rcases HAP.out with h2 | h2
          · rw [h2] at h; cases h
          · exact h2 (h.symm.trans e2)
        · rw [h] at e2
          have := (lt2 _ e2.symm).2
          omega
      have O8 := hidrg_ (OwnZ.kept O7.out G8.out (.inr nA))
      have NB := hidrg_ (show b1 ≠ b2 from fun e2 => by
        rcases AP8.out with h | h
        · exact nA ((show some b1 = some b2 by rw [e2]).trans h)
        · have h3 : b2 = (w6.alloc (.cells #[.int .u64 (e : Int)] 43)).heap.size := Option.some.inj h
          have := (lt6 b1 rfl).2
          omega)
      have HPL := hidrg_ (refW_len d r)
      have HSU := hidrg_ (refW_cut d r)
      obtain ⟨P, hP⟩ : ∃ P, refW d r = P := ⟨_, rfl⟩
      rw [hP] at O8 U8 HPL HSU
      have O9 := hidrg_ (show OwnZ w8 w.heap.size (.slice (some ⟨b1, 0, none⟩) (r + 1) c6) (outZ P r r) by rw [outZ_full HPL.out]; exact O8.out)
      have U9 := hidrg_ (show OwnU w8 w.heap.size (.slice (some ⟨b2, 0, none⟩) (r + 1) c8) ((outZ P r r).map d) by rw [outZ_full HPL.out, List.map_append, List.map_singleton, HE.out]; exact U8.out)
      have r8 : r ≤ 8 := by omega
      clear HO HU HAP O2 U2 O3 U3 RY OO UU AP6 HSZ6 U7 O7 RU U8 G8 AP8 lt2 lt6 szA szB nA O8 hP B2 B6 HB
      obtain ⟨q, hq⟩ : ∃ q, r + 1 = q := ⟨_, rfl⟩
      have hcast : (r : Int) + 1 = (q : Int) := by omega
      rw [hq] at O9 U9
      have HQ := hidrg_ hq
      simp only [hq]
      go_loopw [11] (fun i wr => ∃ (a : Nat), i = .int .i64 a ∧ a ≤ r ∧ Hid (OwnZ wr w.heap.size (.slice (some ⟨b1, 0, none⟩) q c6) (outZ P r a)) ∧ Hid (OwnU wr w.heap.size (.slice (some ⟨b2, 0, none⟩) q c8) ((outZ P r a).map d)) ∧ Hid (Below w.heap.size w wr) ∧ Hid (∀ j, a ≤ j → j < r → d r < d (P.getD j 0))) (fun i _ => (intOf i).toNat)
      case atStart => exact ⟨r, rfl, Nat.le_refl _, O9, U9, B8, hidrg_ (fun j h1 h2 => absurd h1 (by omega))⟩
      case round =>
        clear O9 U9 hq hcast
        obtain ⟨a, rfl, har, HO, HU, HB, HGT⟩ := hrel
        by_cases ha : a = 0
        · have t0 : ¬ 0 < (a : Int) := by omega
          have HF := hidrg_ (show refW d (r + 1) = outZ P r a from HSU.out a (by omega) (.inl ha) HGT.out)
          go_wp2
          go_roundw
          case rel => exact ⟨r + 1, some ⟨b1, 0, none⟩, c6, some ⟨b2, 0, none⟩, c8, by go_num, by omega, by rw [HQ.out], by rw [HQ.out], hidrg_ (by rw [HF.out, HQ.out]; exact HO.out), hidrg_ (by rw [HF.out, HQ.out]; exact HU.out), HB, hidrg_ (.inr (fun e2 => NB.out (Option.some.inj e2)))⟩
          case measure => simp [intOf]; omega
        · obtain ⟨s, hs⟩ : ∃ s, s + 1 = a := ⟨a - 1, by omega⟩
          have t0 : 0 < (a : Int) := by omega
          have w1 : (a : Int) - 1 = (s : Int) := by omega
          have w2 : IntKind.i64.wrap (s : Int) = (s : Int) := IntWalk.i64_in _ (by omega)
          have tsq : (s : Int) < (q : Int) := by have := HQ.out; omega
          have taq : (a : Int) < (q : Int) := by have := HQ.out; omega
          have sq : s < q := by omega
          have aq : a < q := by have := HQ.out; omega
          have oal : s < (outZ P r a).length := by rw [outZ_len (by rw [HPL.out]; exact har)]; have := HPL.out; omega
          obtain ⟨x, hx⟩ : ∃ x, P.getD s 0 = x := ⟨_, rfl⟩
          obtain ⟨y, hy⟩ : ∃ y, d x = y := ⟨_, rfl⟩
          have hcu := (HU.out.cellf sq).1
          rw [getD_map oal, outZ_at hs (by rw [HPL.out]; exact har), hx, hy] at hcu
          by_cases hye : e < y
          · have te : (e : Int) < (y : Int) := by omega
            go_upto_region 10 with fail
            obtain ⟨wd, hwd⟩ : ∃ W, wr.drew = W := ⟨_, rfl⟩
            have OD := hidrg_ (show OwnZ wd w.heap.size (.slice (some ⟨b1, 0, none⟩) q c6) (outZ P r a) by rw [← hwd]; exact HO.out.drew)
            have UD := hidrg_ (show OwnU wd w.heap.size (.slice (some ⟨b2, 0, none⟩) q c8) ((outZ P r a).map d) by rw [← hwd]; exact HU.out.drew)
            have BD := hidrg_ (show Below w.heap.size w wd by rw [← hwd]; exact below_drewN HB.out 1)
            have CX := hidrg_ (show wd.cell? ⟨b1, s, none⟩ = some (.int .i64 (x : Int)) by rw [(OD.out.cellf sq).1, outZ_at hs (by rw [HPL.out]; exact har), hx])
            have CY := hidrg_ (show wd.cell? ⟨b2, s, none⟩ = some (.int .u64 (y : Int)) by rw [(UD.out.cellf sq).1, getD_map oal, outZ_at hs (by rw [HPL.out]; exact har), hx, hy])
            have CA := hidrg_ (OD.out.cellf aq)
            obtain ⟨W1, hW1⟩ : ∃ W, wd.setCell ⟨b1, a, none⟩ (.int .i64 (x : Int)) = W := ⟨_, rfl⟩
            have O1 := hidrg_ (show OwnZ W1 w.heap.size (.slice (some ⟨b1, 0, none⟩) q c6) ((outZ P r a).set a x) by rw [← hW1]; exact OD.out.put a x)
            have U1 := hidrg_ (show OwnU W1 w.heap.size (.slice (some ⟨b2, 0, none⟩) q c8) ((outZ P r a).map d) by rw [← hW1]; exact UD.out.far (fun e2 => NB.out e2.symm) _)
            have CB := hidrg_ (show (wd.setCell ⟨b1, a, none⟩ (.int .i64 (x : Int))).cell? ⟨b2, a, none⟩ = _ ∧ (wd.setCell ⟨b1, a, none⟩ (.int .i64 (x : Int))).frozen? ⟨b2, a, none⟩ = false by rw [hW1]; exact U1.out.cellf aq)
            obtain ⟨W2, hW2⟩ : ∃ W, W1.setCell ⟨b2, a, none⟩ (.int .u64 (y : Int)) = W := ⟨_, rfl⟩
            have O2 := hidrg_ (show OwnZ W2 w.heap.size (.slice (some ⟨b1, 0, none⟩) q c6) ((outZ P r a).set a x) by rw [← hW2]; exact O1.out.far NB.out _)
            have U2 := hidrg_ (show OwnU W2 w.heap.size (.slice (some ⟨b2, 0, none⟩) q c8) (((outZ P r a).map d).set a y) by rw [← hW2]; exact U1.out.put a y)
            obtain ⟨W3, hW3⟩ : ∃ W, W2.setCell ⟨b1, s, none⟩ (.int .i64 (r : Int)) = W := ⟨_, rfl⟩
            have O3 := hidrg_ (show OwnZ W3 w.heap.size (.slice (some ⟨b1, 0, none⟩) q c6) (((outZ P r a).set a x).set s r) by rw [← hW3]; exact O2.out.put s r)
            have U3 := hidrg_ (show OwnU W3 w.heap.size (.slice (some ⟨b2, 0, none⟩) q c8) (((outZ P r a).map d).set a y) by rw [← hW3]; exact U2.out.far (fun e2 => NB.out e2.symm) _)
            obtain ⟨W4, hW4⟩ : ∃ W, W3.setCell ⟨b2, s, none⟩ (.int .u64 (e : Int)) = W := ⟨_, rfl⟩
            have O4 := hidrg_ (show OwnZ W4 w.heap.size (.slice (some ⟨b1, 0, none⟩) q c6) (outZ P r s) by rw [← hW4, ← outZ_step hs (by rw [HPL.out]; exact har), hx]; exact O3.out.far NB.out _)
            have U4 := hidrg_ (show OwnU W4 w.heap.size (.slice (some ⟨b2, 0, none⟩) q c8) ((outZ P r s).map d) by rw [← hW4, ← outZ_map d hs (by rw [HPL.out]; exact har), hx, hy, HE.out]; exact U3.out.put s e)
            have g1 := (World.ownsRow.lt OD.out b1 rfl).1
            have g2 := (World.ownsRow.lt UD.out b2 rfl).1
            have B4 := hidrg_ (show Below w.heap.size w W4 by rw [← hW4, ← hW3, ← hW2, ← hW1]; exact (((BD.out.setCell g1 _).setCell g2 _).setCell g1 _).setCell g2 _)
            have GT := hidrg_ (show ∀ j, s ≤ j → j < r → d r < d (P.getD j 0) from fun j h1 h2 => by
              rcases Nat.lt_or_ge j a with h | h
              · have : j = s := by omega
                rw [this, hx, hy, HE.out]
                exact hye
              · exact HGT.out j h h2)
            obtain ⟨k1, k2⟩ := O2.out.cellf sq
            obtain ⟨k3, k4⟩ := U3.out.cellf sq
            have H12 := hidrg_ (show (wd.setCell ⟨b1, a, none⟩ (.int .i64 (x : Int))).setCell ⟨b2, a, none⟩ (.int .u64 (y : Int)) = W2 by rw [hW1, hW2])
            clear O1 U1 O2 U2 O3 U3 OD UD BD hW1 hW2 hx hy hcu oal g1 g2 HO HU HB HGT
            rename_i K9 hK9
            refine region_byJF [42, 43, 44, 45, 46, 47, 48, 49, 50, 51, 52, 53, 54, 55, 56, 57] (fun _ => True) (fun _ _ => True) (WkR b1 b2 q c6 c8 a s x y) (fun D _ W => StW wd ⟨b1, a, none⟩ (.int .i64 (x : Int)) ⟨b2, a, none⟩ (.int .u64 (y : Int)) 15 17 8 13 D W) (by kernel_rfl) (by kernel_rfl) (by kernel_rfl) (by kernel_rfl) (fun j v w w' hT hr => hr.any) (fun j v w hlt hj _ => ?_) trivial ?_ ?_ ?_
            · rcases j with _ | _ | _ | _ | _ | _ | _ | _ | _ | _ | _ | _ | _ | _ | _ | _ | _ | _ | j
              all_goals first
                | (exfalso; simp [dstOf] at hj; done)
                | trivial
            · refine ⟨fun D a9 W hC hd hsz hf hv hJ hL hW K9 hK => ?_, fun D a9 W hC hd hsz hf hv hJ hL hW K9 hK => ?_, fun D a9 W hC hd hsz hf hv hJ hL hW K9 hK => ?_, fun D a9 W hC hd hsz hf hv hJ hL hW K9 hK => ?_, fun D a9 W hC hd hsz hf hv hJ hL hW K9 hK => ?_, fun D a9 W hC hd hsz hf hv hJ hL hW K9 hK => ?_, fun D a9 W hC hd hsz hf hv hJ hL hW K9 hK => ?_, fun D a9 W hC hd hsz hf hv hJ hL hW K9 hK => ?_, fun D a9 W hC hd hsz hf hv hJ hL hW K9 hK => ?_, fun D a9 W hC hd hsz hf hv hJ hL hW K9 hK => ?_, fun D a9 W hC hd hsz hf hv hJ hL hW K9 hK => ?_, fun D a9 W hC hd hsz hf hv hJ hL hW K9 hK => ?_, fun D a9 W hC hd hsz hf hv hJ hL hW K9 hK => ?_, fun D a9 W hC hd hsz hf hv hJ hL hW K9 hK => ?_, fun D a9 W hC hd hsz hf hv hJ hL hW K9 hK => ?_, fun D a9 W hC hd hsz hf hv hJ hL hW K9 hK => ?_, fun D a9 W hC hd hsz hf hv hJ hL hW K9 hK => ?_, fun D a9 W hC hd hsz hf hv hJ hL hW K9 hK => ?_, trivial⟩
              · clear hsz
                have e1 := slot_of (a := a9) (s := 7) (v := .slice (some ⟨b1, 0, none⟩) q c6) (hf 7 (by kernel_rfl))
                refine step_run (wanted_none rfl) (v := .slice (some ⟨b1, 0, none⟩) q c6) (w' := W) ?_ (hK _ _ trivial trivial rfl (hJ.same 0 (by decide) (by decide)))
                go_simp
              · clear hsz
                have e1 := slot_of (a := a9) (s := 11) (v := .int .i64 (a : Int)) (hf 11 (by kernel_rfl))
                refine step_run (wanted_none rfl) (v := .int .i64 (a : Int)) (w' := W) ?_ (hK _ _ trivial trivial rfl (hJ.same 1 (by decide) (by decide)))
                go_simp
              · clear hsz
                have e1 := slot_of (a := a9) (s := 8) (v := .slice (some ⟨b2, 0, none⟩) q c8) (hf 8 (by kernel_rfl))
                refine step_run (wanted_none rfl) (v := .slice (some ⟨b2, 0, none⟩) q c8) (w' := W) ?_ (hK _ _ trivial trivial rfl (hJ.same 2 (by decide) (by decide)))
                go_simp
              · clear hsz
                have e1 := slot_of (a := a9) (s := 11) (v := .int .i64 (a : Int)) (hf 11 (by kernel_rfl))
                refine step_run (wanted_none rfl) (v := .int .i64 (a : Int)) (w' := W) ?_ (hK _ _ trivial trivial rfl (hJ.same 3 (by decide) (by decide)))
                go_simp
              · clear hsz
                have e1 := slot_of (a := a9) (s := 7) (v := .slice (some ⟨b1, 0, none⟩) q c6) (hf 7 (by kernel_rfl))
                refine step_run (wanted_none rfl) (v := .slice (some ⟨b1, 0, none⟩) q c6) (w' := W) ?_ (hK _ _ trivial trivial rfl (hJ.same 4 (by decide) (by decide)))
                go_simp
              · clear hsz
                have e1 := slot_of (a := a9) (s := 11) (v := .int .i64 (a : Int)) (hf 11 (by kernel_rfl))
                refine step_run (wanted_none rfl) (v := .int .i64 (a : Int)) (w' := W) ?_ (hK _ _ trivial trivial rfl (hJ.same 5 (by decide) (by decide)))
                go_simp
              · clear hsz
                have e1 := slot_of (a := a9) (s := 47) (v := .int .i64 (a : Int)) (hv 5 (by kernel_rfl))
                refine step_run (wanted_none rfl) (v := .int .i64 (s : Int)) (w' := W) ?_ (hK _ _ trivial trivial rfl (hJ.same 6 (by decide) (by decide)))
                go_simp
              · clear hsz
                have e1 := slot_of (a := a9) (s := 46) (v := .slice (some ⟨b1, 0, none⟩) q c6) (hv 4 (by kernel_rfl))
                have e2 := slot_of (a := a9) (s := 48) (v := .int .i64 (s : Int)) (hv 6 (by kernel_rfl))
                refine step_run (wanted_none rfl) (v := .pointer (some ⟨b1, s, none⟩)) (w' := W) ?_ (hK _ _ trivial trivial rfl (hJ.same 7 (by decide) (by decide)))
                go_simp
              · clear hsz
                have e1 := slot_of (a := a9) (s := 49) (v := .pointer (some ⟨b1, s, none⟩)) (hv 7 (by kernel_rfl))
                have hE := hJ.early (.inl rfl) hL
                have hc := CX.out
                refine step_run (wanted_none rfl) (v := .int .i64 (x : Int)) (w' := W) ?_ (hK _ _ trivial trivial rfl (hJ.same 8 (by decide) (by decide)))
                go_simp
              · clear hsz
                have e1 := slot_of (a := a9) (s := 8) (v := .slice (some ⟨b2, 0, none⟩) q c8) (hf 8 (by kernel_rfl))
                refine step_run (wanted_none rfl) (v := .slice (some ⟨b2, 0, none⟩) q c8) (w' := W) ?_ (hK _ _ trivial trivial rfl (hJ.same 9 (by decide) (by decide)))
                go_simp
              · clear hsz
                have e1 := slot_of (a := a9) (s := 11) (v := .int .i64 (a : Int)) (hf 11 (by kernel_rfl))
                refine step_run (wanted_none rfl) (v := .int .i64 (a : Int)) (w' := W) ?_ (hK _ _ trivial trivial rfl (hJ.same 10 (by decide) (by decide)))
                go_simp
              · clear hsz
                have e1 := slot_of (a := a9) (s := 52) (v := .int .i64 (a : Int)) (hv 10 (by kernel_rfl))
                refine step_run (wanted_none rfl) (v := .int .i64 (s : Int)) (w' := W) ?_ (hK _ _ trivial trivial rfl (hJ.same 11 (by decide) (by decide)))
                go_simp
              · clear hsz
                have e1 := slot_of (a := a9) (s := 51) (v := .slice (some ⟨b2, 0, none⟩) q c8) (hv 9 (by kernel_rfl))
                have e2 := slot_of (a := a9) (s := 53) (v := .int .i64 (s : Int)) (hv 11 (by kernel_rfl))
                refine step_run (wanted_none rfl) (v := .pointer (some ⟨b2, s, none⟩)) (w' := W) ?_ (hK _ _ trivial trivial rfl (hJ.same 12 (by decide) (by decide)))
                go_simp
              · clear hsz
                have e1 := slot_of (a := a9) (s := 54) (v := .pointer (some ⟨b2, s, none⟩)) (hv 12 (by kernel_rfl))
                have hE := hJ.early (.inr rfl) hL
                have hc := CY.out
                refine step_run (wanted_none rfl) (v := .int .u64 (y : Int)) (w' := W) ?_ (hK _ _ trivial trivial rfl (hJ.same 13 (by decide) (by decide)))
                go_simp
              · clear hsz
                have e1 := slot_of (a := a9) (s := 42) (v := .slice (some ⟨b1, 0, none⟩) q c6) (hv 0 (by kernel_rfl))
                have e2 := slot_of (a := a9) (s := 43) (v := .int .i64 (a : Int)) (hv 1 (by kernel_rfl))
                refine step_run (wanted_none rfl) (v := .pointer (some ⟨b1, a, none⟩)) (w' := W) ?_ (hK _ _ trivial trivial rfl (hJ.same 14 (by decide) (by decide)))
                go_simp
              · clear hsz
                have e1 := slot_of (a := a9) (s := 56) (v := .pointer (some ⟨b1, a, none⟩)) (hv 14 (by kernel_rfl))
                have e2 := slot_of (a := a9) (s := 50) (v := .int .i64 (x : Int)) (hv 8 (by kernel_rfl))
                have hE := hJ.at1 hL (hW 8 (by kernel_rfl)) (hW 13 (by kernel_rfl))
                obtain ⟨hc, hz⟩ := CA.out
                refine step_skip (wanted_none rfl) (w' := W.setCell ⟨b1, a, none⟩ (.int .i64 (x : Int))) ?_ (hK _ _ trivial trivial trivial (by rw [hE]; exact StW.one (hW 8 (by kernel_rfl)) (hW 13 (by kernel_rfl)) (by decide) (hJ.no2 hL)))
                go_simp
              · clear hsz
                have e1 := slot_of (a := a9) (s := 44) (v := .slice (some ⟨b2, 0, none⟩) q c8) (hv 2 (by kernel_rfl))
                have e2 := slot_of (a := a9) (s := 45) (v := .int .i64 (a : Int)) (hv 3 (by kernel_rfl))
                refine step_run (wanted_none rfl) (v := .pointer (some ⟨b2, a, none⟩)) (w' := W) ?_ (hK _ _ trivial trivial rfl (hJ.same 16 (by decide) (by decide)))
                go_simp
              · clear hsz
                have e1 := slot_of (a := a9) (s := 57) (v := .pointer (some ⟨b2, a, none⟩)) (hv 16 (by kernel_rfl))
                have e2 := slot_of (a := a9) (s := 55) (v := .int .u64 (y : Int)) (hv 13 (by kernel_rfl))
                have hE := hJ.at2 hL (hW 15 (by kernel_rfl))
                obtain ⟨hc, hz⟩ := CB.out
                refine step_skip (wanted_none rfl) (w' := W.setCell ⟨b2, a, none⟩ (.int .u64 (y : Int))) ?_ (hK _ _ trivial trivial trivial (by rw [hE]; exact hJ.two (hW 15 (by kernel_rfl)) (by decide)))
                go_simp
            · exact .inl ⟨rfl, rfl, hwd.symm⟩
            · intro f wa hCa hva Da hDa hJa
              obtain ⟨aa, hJe, _⟩ := hJa
              have hE := hJe.end_ (hDa 17 (by decide))
              rw [hE]
              clear hva hDa hJe hCa hE
              rw [H12.out]
              simp only [framed, List.foldl_cons, List.foldl_nil, List.setIfInBounds_toArray, List.set_cons_succ, List.set_cons_zero]
              clear CX CY CA CB H12
              refine hK9 _ _ ?_
              go_wp2
              go_roundw
              case rel => exact ⟨s, by go_num, by omega, O4, U4, B4, GT⟩
              case measure => simp [intOf]; omega
          · have te : ¬ (e : Int) < (y : Int) := by omega
            have HF := hidrg_ (show refW d (r + 1) = outZ P r a from HSU.out a har (.inr (by rw [show a - 1 = s by omega, hx, hy, HE.out]; omega)) HGT.out)
            go_wp2
            go_roundw
            case rel => exact ⟨r + 1, some ⟨b1, 0, none⟩, c6, some ⟨b2, 0, none⟩, c8, by go_num, by omega, by rw [HQ.out], by rw [HQ.out], hidrg_ (by rw [HF.out, HQ.out]; exact HO.out), hidrg_ (by rw [HF.out, HQ.out]; exact HU.out), HB, hidrg_ (.inr (fun e2 => NB.out (Option.some.inj e2)))⟩
            case measure => simp [intOf]; omega
    · have tl : ¬ (r : Int) < (n : Int) := by omega
      have HE := hidrg_ (show r = n by omega)
      go_wp2
      go_ret
      refine ⟨A1, c1, ?_, ?_, HB.out⟩
      · rw [refW_len, ← HE.out]
        rfl
      · rw [refW_len, ← HE.out]
        exact HO.out
end Go.Proofs.YtkhmghmilnfngaaDoor
