/-
  log's laws: the document's Few.
-/
import Derived.Test.YtdlciehboimciaaLhc
import Derived.Test.YtdlciehboimciaaLhb
import Derived.Test.YtdlciehboimciaaDD
namespace Go.Proofs.Ytdlciehboimciaa
set_option maxRecDepth 100000
open Go.RowKit
set_option linter.unusedVariables false
set_option linter.unusedSimpArgs false

theorem OwnT.lower {w : World} {b b' : Nat} {v : Value} {l : List UInt8} (h : OwnT w b v l) (hb : b' ≤ b) : OwnT w b' v l := by
  rcases h with hn | ⟨g, cap, cur, fz, rfl, hg, rest⟩
  · exact .inl hn
  · exact .inr ⟨g, cap, cur, fz, rfl, Nat.le_trans hb hg, rest⟩
theorem RecT.blk {w : World} {base : Nat} {v : Value} {L : List (List UInt8)} (h : RecT w base v L) : ∀ g, v.ownBlock = some g → base ≤ g ∧ g < w.heap.size := by
  obtain ⟨vs, h1, _⟩ := h
  exact World.ownsRow.lt h1
def fewL (L : List (List UInt8)) (mo sz : Nat) : List (List UInt8) := (L.take mo).map (·.take sz)
theorem fewL_len (L : List (List UInt8)) (mo sz : Nat) : (fewL L mo sz).length = min mo L.length := by simp [fewL]
/-- What holds in Few's region, by how far it has come. -/
structure FwJ (w wr : World) (nm j : Nat) (mm : List UInt8) (Lj : List (List UInt8)) (D : Nat → Bool) (a : Act) (W : World) : Prop where
  l14 : D 14 = true → D 1 = true
  l15 : D 15 = true → D 14 = true
  l16 : D 16 = true → D 15 = true
  l17 : D 17 = true → D 16 = true
  old : D 16 = false → Below wr.heap.size wr W
  b : D 1 = true → D 14 = false → ∃ g, a.tmps.getD 21 undef = .slice (some ⟨g, 0, none⟩) 0 0 ∧ Own8 W wr.heap.size (.slice (some ⟨g, 0, none⟩) 0 0) []
  c : D 14 = true → D 16 = false → ∃ A c, a.tmps.getD 34 undef = .slice A nm c ∧ OwnT W wr.heap.size (.slice A nm c) mm
  d : D 15 = true → D 16 = false → ∃ g A c, a.tmps.getD 35 undef = .slice (some ⟨g, 0, none⟩) 1 1 ∧ W.cell? ⟨g, 0, none⟩ = some (.slice A nm c) ∧ OwnT W wr.heap.size (.slice A nm c) mm
  f : D 16 = true → ∃ A' c', a.tmps.getD 36 undef = .slice A' (j + 1) c' ∧ RecT W w.heap.size (.slice A' (j + 1) c') (Lj ++ [mm]) ∧ Below w.heap.size w W
  h : D 17 = true → ∃ A' c', a.tmps.getD 7 undef = .slice A' (j + 1) c' ∧ RecT W w.heap.size (.slice A' (j + 1) c') (Lj ++ [mm]) ∧ Below w.heap.size w W
section
variable {w wr : World} {nm j : Nat} {mm : List UInt8} {Lj : List (List UInt8)} {D : Nat → Bool} {a : Act} {W W' : World}
theorem FwJ.no16'' (h : FwJ w wr nm j mm Lj D a W) (e : D 15 = false) : D 16 = false := by cases q : D 16 with | false => rfl | true => rw [h.l16 q] at e; cases e
theorem FwJ.no15' (h : FwJ w wr nm j mm Lj D a W) (e : D 14 = false) : D 15 = false := by cases q : D 15 with | false => rfl | true => rw [h.l15 q] at e; cases e
theorem FwJ.no16' (h : FwJ w wr nm j mm Lj D a W) (e : D 14 = false) : D 16 = false := h.no16'' (h.no15' e)
theorem FwJ.no14 (h : FwJ w wr nm j mm Lj D a W) (e : D 1 = false) : D 14 = false := by cases q : D 14 with | false => rfl | true => rw [h.l14 q] at e; cases e
theorem FwJ.no16 (h : FwJ w wr nm j mm Lj D a W) (e : D 1 = false) : D 16 = false := h.no16' (h.no14 e)
theorem FwJ.keep (h : FwJ w wr nm j mm Lj D a W) {k : Nat} (hk : k < w.heap.size) (hww : Below w.heap.size w wr) : W.heap[k]? = wr.heap[k]? := by
  cases q : D 16 with
  | false => exact (h.old q).block k (Nat.lt_of_lt_of_le hk hww.size)
  | true =>
    obtain ⟨_, _, _, _, hb⟩ := h.f q
    exact (hb.block k hk).trans (hww.block k hk).symm
theorem FwJ.same (h : FwJ w wr nm j mm Lj D a W) (i s : Nat) (v : Value) (hi : 1 ≠ i ∧ 14 ≠ i ∧ 15 ≠ i ∧ 16 ≠ i ∧ 17 ≠ i) (hs : 21 ≠ s ∧ 34 ≠ s ∧ 35 ≠ s ∧ 36 ≠ s ∧ 7 ≠ s) : FwJ w wr nm j mm Lj (fun j => decide (j = i) || D j) (a.put (some s) v) W := by
  obtain ⟨i1, i2, i3, i4, i5⟩ := hi
  obtain ⟨s1, s2, s3, s4, s5⟩ := hs
  refine ⟨?_, ?_, ?_, ?_, ?_, ?_, ?_, ?_, ?_, ?_⟩ <;> (try rw [orf_ne i1]) <;> (try rw [orf_ne i2]) <;> (try rw [orf_ne i3]) <;> (try rw [orf_ne i4]) <;> (try rw [orf_ne i5]) <;> (try rw [put_otherD s1]) <;> (try rw [put_otherD s2]) <;> (try rw [put_otherD s3]) <;> (try rw [put_otherD s4]) <;> (try rw [put_otherD s5])
  · exact h.l14
  · exact h.l15
  · exact h.l16
  · exact h.l17
  · exact h.old
  · exact h.b
  · exact h.c
  · exact h.d
  · exact h.f
  · exact h.h
theorem FwJ.lay (h : FwJ w wr nm j mm Lj D a W) (hL : D 1 = false) (hsz : 21 < a.tmps.size) : FwJ w wr nm j mm Lj (fun j => decide (j = 1) || D j) (a.put (some 21) (.slice (some ⟨W.heap.size, 0, none⟩) 0 0)) (W.alloc (.cells #[] 5)) := by
  have h14 := h.no14 hL
  have h15 := h.no15' h14
  have h16 := h.no16'' h15
  have ho := h.old h16
  refine ⟨fun _ => by simp, fun e => ?_, fun e => ?_, fun e => ?_, fun _ => ho.alloc ho.size _, fun _ _ => ⟨W.heap.size, put_selfD hsz, Own8.lit W _ [] ho.size (Nat.zero_le _)⟩, fun e => ?_, fun e => ?_, fun e => ?_, fun e => ?_⟩
  · rw [orf_ne (by decide)] at e ⊢; exact h.l15 e
  · rw [orf_ne (by decide)] at e ⊢; exact h.l16 e
  · rw [orf_ne (by decide)] at e ⊢; exact h.l17 e
  · rw [orf_ne (by decide), h14] at e; cases e
  · rw [orf_ne (by decide), h15] at e; cases e
  · rw [orf_ne (by decide), h16] at e; cases e
  · rw [orf_ne (by decide)] at e
    obtain ⟨A', c', q1, q2, q3⟩ := h.h e
    rw [put_otherD (by decide)]
    exact ⟨A', c', q1, q2.below ((Below.refl _ _).alloc (Nat.le_refl _) _), q3.alloc q3.size _⟩
theorem FwJ.app (h : FwJ w wr nm j mm Lj D a W) (hL : D 14 = false) (h1 : D 1 = true) (h16 : D 16 = false) (hsz : 34 < a.tmps.size) {A : Option Addr} {c : Nat} (ho : OwnT W' wr.heap.size (.slice A nm c) mm) (hb : Below wr.heap.size wr W') : FwJ w wr nm j mm Lj (fun j => decide (j = 14) || D j) (a.put (some 34) (.slice A nm c)) W' := by
  have h15 := h.no15' hL
  have h7 : D 17 = false := by cases q : D 17 with | false => rfl | true => rw [h.l17 q] at h16; cases h16
  refine ⟨fun _ => by simp [h1], fun _ => by simp, fun e => ?_, fun e => ?_, fun _ => hb, fun _ e => ?_, fun _ _ => ⟨A, c, put_selfD hsz, ho⟩, fun e => ?_, fun e => ?_, fun e => ?_⟩
  · rw [orf_ne (by decide)] at e ⊢; exact h.l16 e
  · rw [orf_ne (by decide)] at e ⊢; exact h.l17 e
  · rw [orf_eq] at e; cases e
  · rw [orf_ne (by decide), h15] at e; cases e
  · rw [orf_ne (by decide), h16] at e; cases e
  · rw [orf_ne (by decide), h7] at e; cases e
theorem FwJ.one (h : FwJ w wr nm j mm Lj D a W) (h14 : D 14 = true) (h16 : D 16 = false) (hsz : 35 < a.tmps.size) {A : Option Addr} {c : Nat} (hs : a.tmps.getD 34 undef = .slice A nm c) (ho : OwnT W wr.heap.size (.slice A nm c) mm) : FwJ w wr nm j mm Lj (fun j => decide (j = 15) || D j) (a.put (some 35) (.slice (some ⟨W.heap.size, 0, none⟩) 1 1)) (W.alloc (.cells #[.slice A nm c] 39)) := by
  have h7 : D 17 = false := by cases q : D 17 with | false => rfl | true => rw [h.l17 q] at h16; cases h16
  have hold := h.old h16
  have hc : (W.alloc (.cells #[.slice A nm c] 39)).cell? ⟨W.heap.size, 0, none⟩ = some (.slice A nm c) := by
    have := (Bk.new W 39 #[.slice A nm c]).cell 0
    simp only [List.getElem?_toArray, List.getElem?_cons_zero] at this
    exact this
  refine ⟨fun _ => by simp [h.l14 h14], fun _ => by simp [h14], fun _ => by simp, fun e => ?_, fun _ => hold.alloc hold.size _, fun _ e => ?_, fun _ _ => ⟨A, c, (put_otherD (by decide)).trans hs, ho.alloc _⟩, fun _ _ => ⟨W.heap.size, A, c, put_selfD hsz, hc, ho.alloc _⟩, fun e => ?_, fun e => ?_⟩
  · rw [orf_ne (by decide)] at e ⊢; exact h.l17 e
  · rw [orf_ne (by decide), h14] at e; cases e
  · rw [orf_ne (by decide), h16] at e; cases e
  · rw [orf_ne (by decide), h7] at e; cases e
theorem FwJ.two (h : FwJ w wr nm j mm Lj D a W) (h15 : D 15 = true) (h16 : D 16 = false) (hsz : 36 < a.tmps.size) {A : Option Addr} {c : Nat} (hR : RecT W' w.heap.size (.slice A (j + 1) c) (Lj ++ [mm])) (hb : Below w.heap.size w W') : FwJ w wr nm j mm Lj (fun j => decide (j = 16) || D j) (a.put (some 36) (.slice A (j + 1) c)) W' := by
  have h7 : D 17 = false := by cases q : D 17 with | false => rfl | true => rw [h.l17 q] at h16; cases h16
  have h14 := h.l15 h15
  refine ⟨fun _ => by simp [h.l14 h14], fun _ => by simp [h14], fun _ => by simp [h15], fun _ => by simp, fun e => ?_, fun _ e => ?_, fun _ e => ?_, fun _ e => ?_, fun _ => ⟨A, c, put_selfD hsz, hR, hb⟩, fun e => ?_⟩
  · rw [orf_eq] at e; cases e
  · rw [orf_ne (by decide), h14] at e; cases e
  · rw [orf_eq] at e; cases e
  · rw [orf_eq] at e; cases e
  · rw [orf_ne (by decide), h7] at e; cases e
theorem FwJ.done (h : FwJ w wr nm j mm Lj D a W) (h16 : D 16 = true) (hsz : 7 < a.tmps.size) {A : Option Addr} {c : Nat} (hs : a.tmps.getD 36 undef = .slice A (j + 1) c) (hR : RecT W w.heap.size (.slice A (j + 1) c) (Lj ++ [mm])) (hb : Below w.heap.size w W) : FwJ w wr nm j mm Lj (fun j => decide (j = 17) || D j) (a.put (some 7) (.slice A (j + 1) c)) W := by
  have h15 := h.l16 h16
  have h14 := h.l15 h15
  refine ⟨fun _ => by simp [h.l14 h14], fun _ => by simp [h14], fun _ => by simp [h15], fun _ => by simp [h16], fun e => ?_, fun _ e => ?_, fun _ e => ?_, fun _ e => ?_, fun _ => ⟨A, c, (put_otherD (by decide)).trans hs, hR, hb⟩, fun _ => ⟨A, c, put_selfD hsz, hR, hb⟩⟩
  · rw [orf_ne (by decide), h16] at e; cases e
  · rw [orf_ne (by decide), h14] at e; cases e
  · rw [orf_ne (by decide), h16] at e; cases e
  · rw [orf_ne (by decide), h16] at e; cases e
end
def FwR (b1 o1 n ca j nx k1 sz nm c0 : Nat) (A0 a1 : Option Addr) : Nat → Value → World → Prop
  | 0, v, _ => v = .slice A0 j c0
  | 2, v, _ => v = .slice (some ⟨b1, o1, none⟩) n ca
  | 3, v, _ => v = .int .i64 (j : Int)
  | 4, v, _ => v = .pointer (some ⟨b1, o1 + j, none⟩)
  | 5, v, _ => v = .slice a1 nx k1
  | 6, v, _ => v = .slice (some ⟨b1, o1, none⟩) n ca
  | 7, v, _ => v = .int .i64 (j : Int)
  | 8, v, _ => v = .pointer (some ⟨b1, o1 + j, none⟩)
  | 9, v, _ => v = .slice a1 nx k1
  | 10, v, _ => v = .int .i64 (nx : Int)
  | 11, v, _ => v = .int .i64 (sz : Int)
  | 12, v, _ => v = .int .i64 (nm : Int)
  | 13, v, _ => v = .slice a1 nm k1
  | _, _, _ => True
theorem FwR.keep {b1 o1 n ca j nx k1 sz nm c0 : Nat} {A0 a1 : Option Addr} {i : Nat} {v : Value} {W W' : World} (hh : FwR b1 o1 n ca j nx k1 sz nm c0 A0 a1 i v W) : FwR b1 o1 n ca j nx k1 sz nm c0 A0 a1 i v W' := by
  unfold FwR at hh ⊢
  split at hh <;> first
    | exact hh
    | trivial
def FewP (w : World) (k : Nat) (L' : List (List UInt8)) (e : Ending) (w' : World) : Prop := ∃ A' c', e = .returned (.slice A' k c') ∧ RecT w' w.heap.size (.slice A' k c') L' ∧ Below w.heap.size w w'
set_option maxRecDepth 100000 in
set_option maxHeartbeats 8000000 in
theorem fewL_any (w : World) (A : Option Addr) (n ca mo sz : Nat) (L : List (List UInt8)) (hn : L.length = n) (hA : PtA w A L) (hn9 : n ≤ 9223372036854775807) (hel : ∀ l ∈ L, l.length ≤ 9223372036854775807) (hcap : ∀ j b off a c, A = some ⟨b, off, none⟩ → w.cell? ⟨b, off + j, none⟩ = some (.slice a (L.getD j []).length c) → j < n → (L.getD j []).length ≤ c) (hmo : mo ≤ 1000) (hsz : sz ≤ 1000) :
    Calls Try.prog 26 #[.slice A n ca, .int .i64 (mo : Int), .int .i64 (sz : Int)] w (FewP w (min mo n) (fewL L mo sz)) := by
  have HA := hidg_ hA
  have HN := hidg_ hn
  have HE := hidg_ hel
  have HC := hidg_ hcap
  clear hA hn hel hcap
  go_enter Try.func26, Try.ntmps26
  go_wp2
  go_loopw [7, 8] (fun v i wr => ∃ (j : Nat) (A0 : Option Addr) (c0 : Nat), j ≤ n ∧ j ≤ mo ∧ i = .int .i64 j ∧ v = .slice A0 j c0 ∧ Hid (RecT wr w.heap.size (.slice A0 j c0) ((L.take j).map (·.take sz))) ∧ Hid (Below w.heap.size w wr)) (fun _ i _ => n - (intOf i).toNat)
  case atStart => exact ⟨0, none, 0, Nat.zero_le _, Nat.zero_le _, rfl, rfl, hidg_ (by simpa using RecT.nil_ w w.heap.size), Below.refl _ _⟩
  case round =>
    obtain ⟨j, A0, c0, hj, hjm, rfl, rfl, HR, HW⟩ := hrel
    by_cases hlt : j < n ∧ j < mo
    · obtain ⟨hl, hl2⟩ := hlt
      have d1 : decide ((j : Int) < (n : Int)) = true := decide_eq_true (by omega)
      have d2 : decide (j < n) = true := decide_eq_true hl
      have d3 : decide ((j : Int) < (mo : Int)) = true := decide_eq_true (by omega)
      have d4 : decide (j < mo) = true := decide_eq_true hl2
      have hjL : j < L.length := by rw [HN.out]; exact hl
      obtain ⟨b1, o1, a1, k1, rfl, hc1, hr1, hl1'⟩ := HA.out j hjL
      have hkc := HC.out j b1 o1 a1 k1 rfl hc1 hl
      have hnx9 := HE.out (L.getD j []) (by simp [List.getD, hjL])
      obtain ⟨x, hx⟩ : ∃ x, L.getD j [] = x := ⟨_, rfl⟩
      rw [hx] at hc1 hr1 hkc hnx9
      obtain ⟨nx, hnx⟩ : ∃ z, x.length = z := ⟨_, rfl⟩
      rw [hnx] at hc1 hkc hnx9
      have CX := hidg_ ((World.cell?_of_block (HW.out.block b1 hl1')).trans hc1)
      obtain ⟨nm, hnm⟩ : ∃ z, min nx sz = z := ⟨_, rfl⟩
      have hmin := fun W ts t => run_minI (nx : Int) (sz : Int) (nm : Int) (by omega) W ts t
      have hsl := fun W => slice_to a1 nx k1 (nm : Int) nm rfl (by omega) W
      obtain ⟨mm, hmm⟩ : ∃ z, x.take sz = z := ⟨_, rfl⟩
      have hml : mm.length = nm := by rw [← hmm, List.length_take, hnx, ← hnm, Nat.min_comm]
      have hmm2 : x.take nm = mm := by
        rw [← hmm, ← hnm]
        rcases Nat.le_total nx sz with h | h
        · rw [Nat.min_eq_left h, List.take_of_length_le (by omega), List.take_of_length_le (by omega)]
        · rw [Nat.min_eq_right h]
      have RX := hidg_ (show Rd wr wr.heap.size a1 mm by rw [← hmm2]; exact ((hr1.below HW.out).more HW.out.size).take nm)
      have HM := hidg_ hml
      obtain ⟨Lj, hLj⟩ : ∃ z, (L.take j).map (·.take sz) = z := ⟨_, rfl⟩
      rw [hLj] at HR
      have HLJ := hidg_ (show Lj.length = j by rw [← hLj]; simp; omega)
      have HNX := hidg_ (show (L.take (j + 1)).map (·.take sz) = Lj ++ [mm] by rw [take_next j hjL, List.map_append, hLj, hx, ← hmm]; rfl)
      have RO := HR
      have hnm9 : nm ≤ 1000 := by omega
      have t0 : (0 : Int) ≤ (j : Int) := by omega
      have tn : (j : Int) < (n : Int) := by omega
      have HLT := hidg_ hl1'
      clear hc1 hr1 hx hnx hnm hmm hml hmm2 hLj HR hl1'
      go_upto_region 5 with fail
      rename_i K9 hK9
      have hl1' := HLT.out
      refine region_byJF [20, 21, 22, 23, 24, 25, 26, 27, 28, 29, 30, 31, 32, 33, 34, 35, 36, 7] (fun _ => True) (fun _ _ => True) (FwR b1 o1 n ca j nx k1 sz nm c0 A0 a1) (fun D a9 W => FwJ w wr nm j mm Lj D a9 W) (by kernel_rfl) (by kernel_rfl) (by kernel_rfl) (by kernel_rfl) (fun j v w w' hT hr => ?_) (fun j v w hlt hj _ => ?_) trivial ?_ ⟨fun e => (by cases e), fun e => (by cases e), fun e => (by cases e), fun e => (by cases e), fun _ => (Below.refl _ _).drew, fun e => (by cases e), fun e => (by cases e), fun e => (by cases e), fun e => (by cases e), fun e => (by cases e)⟩ ?_
      · exact FwR.keep hr
      · rcases j with _ | _ | _ | _ | _ | _ | _ | _ | _ | _ | _ | _ | _ | _ | _ | _ | _ | _ | j
        all_goals first
          | (exfalso; simp [dstOf] at hj; done)
          | trivial
      · refine ⟨fun D a9 W hC hd hsz hf hv hJ hL hW K hK => ?_, fun D a9 W hC hd hsz hf hv hJ hL hW K hK => ?_, fun D a9 W hC hd hsz hf hv hJ hL hW K hK => ?_, fun D a9 W hC hd hsz hf hv hJ hL hW K hK => ?_, fun D a9 W hC hd hsz hf hv hJ hL hW K hK => ?_, fun D a9 W hC hd hsz hf hv hJ hL hW K hK => ?_, fun D a9 W hC hd hsz hf hv hJ hL hW K hK => ?_, fun D a9 W hC hd hsz hf hv hJ hL hW K hK => ?_, fun D a9 W hC hd hsz hf hv hJ hL hW K hK => ?_, fun D a9 W hC hd hsz hf hv hJ hL hW K hK => ?_, fun D a9 W hC hd hsz hf hv hJ hL hW K hK => ?_, fun D a9 W hC hd hsz hf hv hJ hL hW K hK => ?_, fun D a9 W hC hd hsz hf hv hJ hL hW K hK => ?_, fun D a9 W hC hd hsz hf hv hJ hL hW K hK => ?_, fun D a9 W hC hd hsz hf hv hJ hL hW K hK => ?_, fun D a9 W hC hd hsz hf hv hJ hL hW K hK => ?_, fun D a9 W hC hd hsz hf hv hJ hL hW K hK => ?_, fun D a9 W hC hd hsz hf hv hJ hL hW K hK => ?_, trivial⟩
        · clear hsz
          have e1 := slot_of (a := a9) (s := 7) (v := .slice A0 j c0) (hf 7 (by kernel_rfl))
          refine step_run (wanted_none rfl) (v := .slice A0 j c0) (w' := W) ?_ (hK _ _ trivial trivial rfl (hJ.same 0 20 _ (by decide) (by decide)))
          go_simp
        · have h16 : D 16 = false := hJ.no16 hL
          refine step_run (wanted_none rfl) (v := .slice (some ⟨W.heap.size, 0, none⟩) 0 0) (w' := W.alloc (.cells #[] 5)) ?_ (hK _ _ trivial trivial trivial (hJ.lay hL (by rw [hsz]; simp)))
          go_simp
        · clear hsz
          have e1 := slot_of (a := a9) (s := 0) (v := .slice (some ⟨b1, o1, none⟩) n ca) (hf 0 (by kernel_rfl))
          refine step_run (wanted_none rfl) (v := .slice (some ⟨b1, o1, none⟩) n ca) (w' := W) ?_ (hK _ _ trivial trivial rfl (hJ.same 2 22 _ (by decide) (by decide)))
          go_simp
        · clear hsz
          have e1 := slot_of (a := a9) (s := 8) (v := .int .i64 (j : Int)) (hf 8 (by kernel_rfl))
          refine step_run (wanted_none rfl) (v := .int .i64 (j : Int)) (w' := W) ?_ (hK _ _ trivial trivial rfl (hJ.same 3 23 _ (by decide) (by decide)))
          go_simp
        · clear hsz
          have e1 := slot_of (a := a9) (s := 22) (v := .slice (some ⟨b1, o1, none⟩) n ca) (hv 2 (by kernel_rfl))
          have e2 := slot_of (a := a9) (s := 23) (v := .int .i64 (j : Int)) (hv 3 (by kernel_rfl))
          refine step_run (wanted_none rfl) (v := .pointer (some ⟨b1, o1 + j, none⟩)) (w' := W) ?_ (hK _ _ trivial trivial rfl (hJ.same 4 24 _ (by decide) (by decide)))
          go_simp
        · clear hsz
          have e1 := slot_of (a := a9) (s := 24) (v := .pointer (some ⟨b1, o1 + j, none⟩)) (hv 4 (by kernel_rfl))
          have hq : W.cell? ⟨b1, o1 + j, none⟩ = some (.slice a1 nx k1) := (World.cell?_of_block (hJ.keep hl1' HW.out)).trans CX.out
          refine step_run (wanted_none rfl) (v := .slice a1 nx k1) (w' := W) ?_ (hK _ _ trivial trivial rfl (hJ.same 5 25 _ (by decide) (by decide)))
          go_simp
        · clear hsz
          have e1 := slot_of (a := a9) (s := 0) (v := .slice (some ⟨b1, o1, none⟩) n ca) (hf 0 (by kernel_rfl))
          refine step_run (wanted_none rfl) (v := .slice (some ⟨b1, o1, none⟩) n ca) (w' := W) ?_ (hK _ _ trivial trivial rfl (hJ.same 6 26 _ (by decide) (by decide)))
          go_simp
        · clear hsz
          have e1 := slot_of (a := a9) (s := 8) (v := .int .i64 (j : Int)) (hf 8 (by kernel_rfl))
          refine step_run (wanted_none rfl) (v := .int .i64 (j : Int)) (w' := W) ?_ (hK _ _ trivial trivial rfl (hJ.same 7 27 _ (by decide) (by decide)))
          go_simp
        · clear hsz
          have e1 := slot_of (a := a9) (s := 26) (v := .slice (some ⟨b1, o1, none⟩) n ca) (hv 6 (by kernel_rfl))
          have e2 := slot_of (a := a9) (s := 27) (v := .int .i64 (j : Int)) (hv 7 (by kernel_rfl))
          refine step_run (wanted_none rfl) (v := .pointer (some ⟨b1, o1 + j, none⟩)) (w' := W) ?_ (hK _ _ trivial trivial rfl (hJ.same 8 28 _ (by decide) (by decide)))
          go_simp
        · clear hsz
          have e1 := slot_of (a := a9) (s := 28) (v := .pointer (some ⟨b1, o1 + j, none⟩)) (hv 8 (by kernel_rfl))
          have hq : W.cell? ⟨b1, o1 + j, none⟩ = some (.slice a1 nx k1) := (World.cell?_of_block (hJ.keep hl1' HW.out)).trans CX.out
          refine step_run (wanted_none rfl) (v := .slice a1 nx k1) (w' := W) ?_ (hK _ _ trivial trivial rfl (hJ.same 9 29 _ (by decide) (by decide)))
          go_simp
        · clear hsz
          have e1 := slot_of (a := a9) (s := 29) (v := .slice a1 nx k1) (hv 9 (by kernel_rfl))
          refine step_run (wanted_none rfl) (v := .int .i64 (nx : Int)) (w' := W) ?_ (hK _ _ trivial trivial rfl (hJ.same 10 30 _ (by decide) (by decide)))
          go_simp
        · clear hsz
          have e1 := slot_of (a := a9) (s := 2) (v := .int .i64 (sz : Int)) (hf 2 (by kernel_rfl))
          refine step_run (wanted_none rfl) (v := .int .i64 (sz : Int)) (w' := W) ?_ (hK _ _ trivial trivial rfl (hJ.same 11 31 _ (by decide) (by decide)))
          go_simp
        · clear hsz
          have e1 := slot_of (a := a9) (s := 30) (v := .int .i64 (nx : Int)) (hv 10 (by kernel_rfl))
          have e2 := slot_of (a := a9) (s := 31) (v := .int .i64 (sz : Int)) (hv 11 (by kernel_rfl))
          have h := fun ts t => hmin W ts t
          refine step_run (wanted_none rfl) (v := .int .i64 (nm : Int)) (w' := W) ?_ (hK _ _ trivial trivial rfl (hJ.same 12 32 _ (by decide) (by decide)))
          go_simp
        · clear hsz
          have e1 := slot_of (a := a9) (s := 25) (v := .slice a1 nx k1) (hv 5 (by kernel_rfl))
          have e2 := slot_of (a := a9) (s := 32) (v := .int .i64 (nm : Int)) (hv 12 (by kernel_rfl))
          have h := hsl W
          refine step_run (wanted_none rfl) (v := .slice a1 nm k1) (w' := W) ?_ (hK _ _ trivial trivial rfl (hJ.same 13 33 _ (by decide) (by decide)))
          go_simp
        · have h1 := hW 1 (by kernel_rfl)
          have h16 : D 16 = false := hJ.no16' hL
          obtain ⟨g, hg, hO⟩ := hJ.b h1 hL
          have e2 := slot_of (a := a9) (s := 33) (v := .slice a1 nm k1) (hv 13 (by kernel_rfl))
          refine step_app rfl (.tmp 21) (.tmp 33) rfl hO (eval_of hg) nm k1 (eval_of (hv 13 (by kernel_rfl))) ((RX.out.below (hJ.old h16)).more (hJ.old h16).size) HM.out (by simp; omega) (hJ.old h16).size ?_
          simp only [List.length_nil, Nat.zero_add, List.nil_append]
          intro A' c' w' hO' hgr _
          exact hK _ _ trivial trivial trivial (hJ.app hL h1 h16 (by rw [hsz]; simp) (OwnT.of_own hO') (hJ.old h16 |>.grown hgr (hJ.old h16).size (fun k e => (hO.form.choose_spec.choose_spec.2.2 k e).1)))
        · have H35 := hidg_ (show 35 < a9.tmps.size by rw [hsz]; simp)
          clear hsz
          have h14 := hW 14 (by kernel_rfl)
          have h16 : D 16 = false := hJ.no16'' hL
          obtain ⟨A', c', hs, hO⟩ := hJ.c h14 h16
          have e1 := slot_of hs
          refine step_run (wanted_none rfl) (v := .slice (some ⟨W.heap.size, 0, none⟩) 1 1) (w' := W.alloc (.cells #[.slice A' nm c'] 39)) ?_ (hK _ _ trivial trivial trivial (hJ.one h14 h16 H35.out hs hO))
          go_simp
        · obtain ⟨g, A', c', hs, hc, hO⟩ := hJ.d (hW 15 (by kernel_rfl)) hL
          have hold := hJ.old hL
          refine step_appRT rfl (.tmp 20) (.tmp 35) rfl ((RO.out.below hold)) (eval_of (hv 0 (by kernel_rfl))) 1 1 (eval_of hs) (M := [mm]) rfl (SrcR.one g HM.out (hO.lower (HW.out.size)) hc) j HLJ.out (by omega) (Nat.le_trans HW.out.size hold.size) ?_
          intro A2 c2 w' hR hgr
          exact hK _ _ trivial trivial trivial (hJ.two (hW 15 (by kernel_rfl)) hL (by rw [hsz]; simp) hR ((HW.out.trans (hold.mono HW.out.size)).grown hgr (HW.out.trans (hold.mono HW.out.size)).size (fun k e => (RO.out.blk k e).1)))
        · obtain ⟨A', c', hs, hR, hB⟩ := hJ.f (hW 16 (by kernel_rfl))
          have e1 := slot_of hs
          refine step_run (wanted_none rfl) (v := .slice A' (j + 1) c') (w' := W) ?_ (hK _ _ trivial trivial trivial (hJ.done (hW 16 (by kernel_rfl)) (by rw [hsz]; simp) hs hR hB))
          go_simp
      · intro f5 w5 hC5 hv5 D5 hD5 hJ5
        obtain ⟨aE, hJ, hfr⟩ := hJ5
        obtain ⟨A5, c5, hs, hR, hB⟩ := hJ.h (hD5 17 (by decide))
        rw [hfr] at hs
        simp only [framed, List.foldl_cons, List.foldl_nil, List.setIfInBounds_toArray, List.set_cons_succ, List.set_cons_zero]
        rw [hs]
        have R5 := hidg_ hR
        have B5 := hidg_ hB
        clear hv5 hC5 hJ hfr hD5 hs hR hB
        refine hK9 _ _ ?_
        go_wp2
        go_roundw
        case rel => exact ⟨j + 1, A5, c5, by omega, by omega, by go_num, rfl, hidg_ (by rw [HNX.out]; exact R5.out), B5⟩
        case measure => simp [intOf]; omega
    · have d0 : (decide ((j : Int) < (n : Int)) && decide ((j : Int) < (mo : Int))) = false := by
        rw [Bool.and_eq_false_iff]
        by_cases h : j < n
        · exact .inr (decide_eq_false (by omega))
        · exact .inl (decide_eq_false (by omega))
      have hjk : j = min mo n := by omega
      have he : (L.take j).map (·.take sz) = fewL L mo sz := by
        unfold fewL
        rw [hjk]
        rcases Nat.le_total mo n with h | h
        · rw [Nat.min_eq_left h]
        · rw [Nat.min_eq_right h, List.take_of_length_le (by rw [HN.out]; omega), List.take_of_length_le (by rw [HN.out]; omega)]
      rw [he] at HR
      by_cases h : j < n
      · have d1 : decide ((j : Int) < (n : Int)) = true := decide_eq_true (by omega)
        have d2 : decide (j < n) = true := decide_eq_true h
        have d3 : decide ((j : Int) < (mo : Int)) = false := decide_eq_false (by omega)
        have d4 : decide (j < mo) = false := decide_eq_false (by omega)
        have HJK := hidg_ hjk
        clear d0 hjk he hlt
        go_wp2
        go_ret
        rw [HJK.out] at HR ⊢
        exact ⟨_, _, rfl, HR.out, HW.out⟩
      · have d1 : decide ((j : Int) < (n : Int)) = false := decide_eq_false (by omega)
        have d2 : decide (j < n) = false := decide_eq_false h
        have HJK := hidg_ hjk
        clear d0 hjk he hlt
        go_wp2
        go_ret
        rw [HJK.out] at HR ⊢
        exact ⟨_, _, rfl, HR.out, HW.out⟩
end Go.Proofs.Ytdlciehboimciaa
