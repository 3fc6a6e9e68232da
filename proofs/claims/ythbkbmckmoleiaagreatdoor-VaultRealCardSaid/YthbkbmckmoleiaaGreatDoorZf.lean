/-
  An act, done to a vault and to the document's: both answer the same.
-/
import Derived.Test.YthbkbmckmoleiaaGreatDoorZe
namespace Go.Proofs.YthbkbmckmoleiaaGreatDoor
set_option maxRecDepth 100000
open Go.ChangeShapes Go.WideShapes Go.ChangeAt Go.RowKit
set_option linter.unusedVariables false
set_option linter.unusedSimpArgs false

theorem hidzf_ {p : Prop} (h : p) : Hid p := h
theorem str_neqz (l : List UInt8) (W : World) : (binOp .neq 9 (.string (strOf l)) (.string (strOf l))).run Tryz.prog W = .ok (.bool false) W := by simp [go_sem]
theorem xor_onez (x : UInt8) : bits .xor .u8 (x.toNat : Int) 1 = (((x ^^^ 1).toNat : Nat) : Int) := xor8 x 1
/-- Two own slices that share nothing. -/
def OA2 (b n m : Nat) (l k : List UInt8) (u u' : Value) (W : World) : Prop := ∃ A c A' c', u = .slice A n c ∧ Own8 W b (.slice A n c) l ∧ u' = .slice A' m c' ∧ Own8 W b (.slice A' m c') k ∧ ∀ a a', A = some a → A' = some a' → a.block ≠ a'.block
theorem OA2.of {b n m : Nat} {l k : List UInt8} {u u' : Value} {W W' : World} (h : OW1 b n l u W) (hb : Below W.heap.size W W') (h' : OW1 W.heap.size m k u' W') (hW : b ≤ W.heap.size) : OA2 b n m l k u u' W' := by
  obtain ⟨A, c, rfl, ho⟩ := h
  obtain ⟨A', c', rfl, ho'⟩ := h'
  refine ⟨A, c, A', c', rfl, ho.below hb (Nat.le_refl _), rfl, ho'.lower hW, fun a a' ea ea' e => ?_⟩
  have h1 := (World.ownsRow.lt ho a.block (by rw [ea]; rfl)).2
  have h2 := (World.ownsRow.lt ho' a'.block (by rw [ea']; rfl)).1
  omega
def DoR (B : Nat) (q : VAct) : Nat → Value → World → Prop
  | 0, u, _ => u = .pointer (some ⟨B, 4, none⟩)
  | 1, u, _ => u = .slice q.wa q.wl.length q.wc
  | 3, u, _ => u = .pointer (some ⟨B, 5, none⟩)
  | 4, u, _ => u = .slice q.ba q.bl.length q.bc
  | _, _, _ => True
theorem DoR.any {B : Nat} {q : VAct} {j : Nat} {v : Value} {W W' : World} (h : DoR B q j v W) : DoR B q j v W' := by
  unfold DoR at h ⊢
  split at h <;> first | exact h | trivial
/-- The blocks that an act's walk keeps for itself. -/
def DoX (B : Nat) (A8 A9 : Option Addr) (k : Nat) : Prop := k = B ∨ (∃ a, A8 = some a ∧ a.block = k) ∨ ∃ a, A9 = some a ∧ a.block = k
/-- What an act leaves. -/
def DoP (w0 : World) (id : Bool) (v sp nm kn g : Nat) (K : List UInt8) (N : List (List UInt8)) (L : List SealV) (r : Ending) (w' : World) : Prop :=
  ∃ N' L', r = .returned (.bool true) ∧ Duo w0 (fun _ => False) (VS id v sp nm kn K N' L') (RS id g K N' L') w' ∧ N'.length ≤ N.length + 1 ∧ L'.length ≤ L.length + 1 ∧ LOk L'
theorem vact_cells {w : World} {B : Nat} {q : VAct} (h : Bk w B 42 q.row) : w.cell? ⟨B, 0, none⟩ = some (.int .i64 q.what) ∧ w.cell? ⟨B, 1, none⟩ = some (.int .i64 q.epoch) ∧ w.cell? ⟨B, 2, none⟩ = some (.int .i64 q.client) ∧ w.cell? ⟨B, 3, none⟩ = some (.int .i64 q.counter) ∧ w.cell? ⟨B, 4, none⟩ = some (.slice q.wa q.wl.length q.wc) ∧ w.cell? ⟨B, 5, none⟩ = some (.slice q.ba q.bl.length q.bc) ∧ w.cell? ⟨B, 6, none⟩ = some (.int .i64 q.which) ∧ w.cell? ⟨B, 7, none⟩ = some (.int .u8 (q.by_.toNat : Int)) := ⟨h.cell 0, h.cell 1, h.cell 2, h.cell 3, h.cell 4, h.cell 5, h.cell 6, h.cell 7⟩
theorem own_keep {w w' : World} {base n c : Nat} {A : Option Addr} {l : List UInt8} (h : Own8 w base (.slice A n c) l) (hk : ∀ a, A = some a → w'.heap[a.block]? = w.heap[a.block]?) : Own8 w' base (.slice A n c) l :=
  ownsRow_heapy h (fun k e => by obtain ⟨a, ea, eb⟩ := ownBlock_some e; rw [← eb]; exact hk a ea)
theorem str_bytes (w : World) (l : List UInt8) (hm : l.length ≤ maxLen) : ∃ W c, (convert 9 30 (.string (strOf l))).run Tryz.prog w = .ok (.slice (some ⟨w.heap.size, 0, none⟩) l.length c) W ∧ OwnT W w.heap.size (.slice (some ⟨w.heap.size, 0, none⟩) l.length c) l ∧ Below w.heap.size w W ∧ W.heap.size = w.heap.size + 1 := by
  obtain ⟨h1, h2⟩ := OwnT.of_string w w.heap.size l (Nat.le_refl _) hm
  exact ⟨_, _, h1, h2, ((Below.refl w.heap.size w).drew).alloc (Nat.le_refl _) _, by simp⟩
def zSl : Array Value := #[.int .i64 0, .int .i64 0, .int .i64 0, .string ⟨#[]⟩, .string ⟨#[]⟩, .string ⟨#[]⟩]
theorem zSLr2 (W : World) : (zeroValue 105).run Tryz.prog W = .ok (.agg zSl) W := zSLr W
/-- A sealing that is laid and told in one drawn region. -/
structure SlJ (t : SealV) (D : Nat → Bool) (a : Act) (W : World) : Prop where
  imp : D 18 = true → D 17 = true
  one : ∀ gS, a.tmps.getD 21 undef = .pointer (some ⟨gS, 0, none⟩) → D 17 = true → D 18 = false → Bk W gS 105 zSl
  two : ∀ gS, a.tmps.getD 21 undef = .pointer (some ⟨gS, 0, none⟩) → D 18 = true → Bk W gS 105 (slR t)
theorem SlJ.other {t : SealV} {D : Nat → Bool} {a : Act} {W : World} (h : SlJ t D a W) (i s : Nat) (v : Value) (hi : 17 ≠ i ∧ 18 ≠ i) (hs : 21 ≠ s) : SlJ t (fun j => decide (j = i) || D j) (a.put (some s) v) W := by
  refine ⟨?_, ?_, ?_⟩
  · rw [orf_ne hi.1, orf_ne hi.2]; exact h.imp
  · rw [orf_ne hi.1, orf_ne hi.2, put_otherY hs]; exact h.one
  · rw [orf_ne hi.2, put_otherY hs]; exact h.two
theorem SlJ.laid {t : SealV} {D : Nat → Bool} {a : Act} {W W' : World} {g : Nat} (h : SlJ t D a W) (hL : D 17 = false) (hsz : 21 < a.tmps.size) (hk : Bk W' g 105 zSl) : SlJ t (fun j => decide (j = 17) || D j) (a.put (some 21) (.pointer (some ⟨g, 0, none⟩))) W' := by
  have h18 : D 18 = false := by
    cases e : D 18 with
    | false => rfl
    | true => rw [h.imp e] at hL; cases hL
  refine ⟨?_, ?_, ?_⟩
  · intro e; rw [orf_ne (by decide)] at e; rw [h18] at e; cases e
  · intro gS e _ _
    rw [put_selfY hsz] at e
    injection e with e
    injection e with e
    injection e with e
    subst e
    exact hk
  · intro gS e e2; rw [orf_ne (by decide), h18] at e2; cases e2
theorem SlJ.told {t : SealV} {D : Nat → Bool} {a : Act} {W W' : World} {g : Nat} (h : SlJ t D a W) (h17 : D 17 = true) (hg : a.tmps.getD 21 undef = .pointer (some ⟨g, 0, none⟩)) (hk : Bk W' g 105 (slR t)) : SlJ t (fun j => decide (j = 18) || D j) a W' := by
  refine ⟨fun _ => by rw [orf_ne (by decide)]; exact h17, ?_, ?_⟩
  · intro gS e _ e2; rw [orf_eq] at e2; cases e2
  · intro gS e _
    rw [hg] at e
    injection e with e
    injection e with e
    injection e with e
    subst e
    exact hk
theorem SlJ.start {t : SealV} {a : Act} {W : World} : SlJ t (fun _ => false) a W := ⟨fun e => Bool.noConfusion e, fun _ _ e => Bool.noConfusion e, fun _ _ e => Bool.noConfusion e⟩
def SlV (b g B gA ls cl i : Nat) (z : Int) (U : Nat) (t : SealV) : Nat → Value → World → Prop
  | 0, u, _ => u = .pointer (some ⟨g, 0, none⟩)
  | 1, u, _ => u = .pointer (some ⟨g, 0, none⟩)
  | 2, u, _ => u = .pointer (some ⟨g, 3, none⟩)
  | 3, u, _ => u = .slice (some ⟨gA, 0, none⟩) ls cl
  | 4, u, _ => u = .pointer (some ⟨B, 6, none⟩)
  | 5, u, _ => u = .int .i64 z
  | 6, u, _ => u = .int .u64 (U : Int)
  | 7, u, _ => u = .pointer (some ⟨g, 0, none⟩)
  | 8, u, _ => u = .pointer (some ⟨g, 0, none⟩)
  | 9, u, _ => u = .pointer (some ⟨g, 3, none⟩)
  | 10, u, _ => u = .slice (some ⟨gA, 0, none⟩) ls cl
  | 11, u, _ => u = .int .i64 (ls : Int)
  | 12, u, _ => u = .int .u64 (ls : Int)
  | 13, u, _ => u = .int .u64 (i : Int)
  | 14, u, _ => u = .int .i64 (i : Int)
  | 15, u, _ => u = .pointer (some ⟨gA, i * 6, none⟩)
  | 16, u, _ => u = .agg (slR t)
  | 17, u, W => ∃ gS, u = .pointer (some ⟨gS, 0, none⟩) ∧ b ≤ gS ∧ gS < W.heap.size
  | _, _, _ => True
theorem SlV.stable {b g B gA ls cl i : Nat} {z : Int} {U : Nat} {t : SealV} {W W' : World} (hT : W.heap.size ≤ W'.heap.size) {j : Nat} {u : Value} (h : SlV b g B gA ls cl i z U t j u W) : SlV b g B gA ls cl i z U t j u W' := by
  unfold SlV at h ⊢
  split at h <;> first | exact h | (obtain ⟨gS, e, h1, h2⟩ := h; exact ⟨gS, e, h1, Nat.lt_of_lt_of_le h2 hT⟩) | trivial
theorem rd_bk {w : World} {g : Nat} {t : TypeId} {l : List UInt8} (h : Bk w g t (rowOf l)) : Rd w w.heap.size (some ⟨g, 0, none⟩) l := fun _ => ⟨g, 0, rfl, h.lt, fun j hj => by rw [Nat.zero_add]; exact (h.cell j).trans (rowOf_at l j hj)⟩
set_option maxRecDepth 100000 in
set_option maxHeartbeats 16000000 in
theorem do_any (id : Bool) {w0 w : World} {v sp nm kn g : Nat} {K0 : List UInt8} {N : List (List UInt8)} {L : List SealV} (hK : K0.length = 32) (T : Duo w0 (fun _ => False) (VS id v sp nm kn K0 N L) (RS id g K0 N L) w) (hN : N.length ≤ 100) (hL : L.length ≤ 100) (hLo : LOk L) (q : VAct) (hq : VActOk w0 w0.heap.size q) (ht : Tab w0) (hg1 : 2 < w0.heap.size) :
    Calls Tryz.prog 17 #[.agg q.row, .pointer (some ⟨v, 0, none⟩), .pointer (some ⟨g, 0, none⟩)] w (DoP w0 id v sp nm kn g K0 N L) := by
  unfold DoP
  obtain ⟨B, hB⟩ : ∃ B, w.heap.size = B := ⟨_, rfl⟩
  obtain ⟨w1, hw1⟩ : ∃ W, w.alloc (.cells q.row 42) = W := ⟨_, rfl⟩
  have BA := hidzf_ (show Below w.heap.size w w1 by rw [← hw1]; exact (Below.refl _ _).alloc (Nat.le_refl _) _)
  have KA := hidzf_ (show Bk w1 B 42 q.row by rw [← hw1, ← hB]; exact Bk.new w _ _)
  have HBB := hidzf_ hB
  have TT := hidzf_ T
  have HB1 := hidzf_ (T.un.trans (BA.out.mono T.un.size))
  have HQ := hidzf_ hq
  have HT := hidzf_ ht
  have KL := hidzf_ hK
  have HLO := hidzf_ hLo
  have RW := hidzf_ hq.wrd
  have LW := hidzf_ hq.wlen
  have CW := hidzf_ hq.wcap
  have RB := hidzf_ hq.brd
  have LB := hidzf_ hq.blen
  have CB := hidzf_ hq.bcap
  obtain ⟨mw, hmw⟩ : ∃ m, m = min q.wl.length 40 := ⟨_, rfl⟩
  obtain ⟨mb, hmb⟩ : ∃ m, m = min q.bl.length 100 := ⟨_, rfl⟩
  have MW := hidzf_ hmw
  have MB := hidzf_ hmb
  have XL := hidzf_ (show (q.wl.take 40).length = mw by rw [List.length_take, hmw, Nat.min_comm])
  have YL := hidzf_ (show (q.bl.take 100).length = mb by rw [List.length_take, hmb, Nat.min_comm])
  have mw40 : mw ≤ 40 := by omega
  have mb100 : mb ≤ 100 := by omega
  have C4 : Hid (∀ W, Below w1.heap.size w1 W → W.cell? ⟨B, 4, none⟩ = some (.slice q.wa q.wl.length q.wc)) := hidzf_ (fun W hW => (KA.out.below hW KA.out.lt).cell 4)
  have C5 : Hid (∀ W, Below w1.heap.size w1 W → W.cell? ⟨B, 5, none⟩ = some (.slice q.ba q.bl.length q.bc)) := hidzf_ (fun W hW => (KA.out.below hW KA.out.lt).cell 5)
  clear hmw hmb hq ht hK T hLo
  go_enter Tryz.func17, Tryz.ntmps17
  go_upto_region 1 with fail
  rename_i K9 hK9
  clear hw1 hB
  refine region_byJF [32, 33, 34, 35, 36, 37, 7, 8] (fun W => Below w1.heap.size w1 W) (fun _ _ => True) (DoR B q) (fun D a W => JT 2 5 6 7 34 37 7 8 (OW1 w1.heap.size mw (q.wl.take 40)) (OA2 w1.heap.size mw mb (q.wl.take 40) (q.bl.take 100)) D a W) (by kernel_rfl) (by kernel_rfl) (by kernel_rfl) (by kernel_rfl) (fun j v w w' hT hr => hr.any) (fun j v w hlt hj _ => ?_) ((Below.refl _ _).drew) ?_ (JT.start _) ?_
  · rcases j with _ | _ | _ | _ | _ | _ | _ | _ | j
    all_goals first
      | (exfalso; simp [dstOf] at hj; done)
      | trivial
  · refine ⟨fun D a W hC hd hsz hf hv hJ hL hW K hK => ?_, fun D a W hC hd hsz hf hv hJ hL hW K hK => ?_, fun D a W hC hd hsz hf hv hJ hL hW K hK => ?_, fun D a W hC hd hsz hf hv hJ hL hW K hK => ?_, fun D a W hC hd hsz hf hv hJ hL hW K hK => ?_, fun D a W hC hd hsz hf hv hJ hL hW K hK => ?_, fun D a W hC hd hsz hf hv hJ hL hW K hK => ?_, fun D a W hC hd hsz hf hv hJ hL hW K hK => ?_, trivial⟩
    · have HSZ := hidzf_ hsz
      clear hsz
      have e1 := slot_of (a := a) (s := 3) (v := .pointer (some ⟨B, 0, none⟩)) (hf 3 (by kernel_rfl))
      refine step_run (wanted_none rfl) (v := .pointer (some ⟨B, 4, none⟩)) (w' := W) ?_ (hK _ _ hC trivial rfl (hJ.other 0 32 _ (by decide) (by decide)))
      go_simp
    · have HSZ := hidzf_ hsz
      clear hsz
      have e1 := slot_of (a := a) (s := 32) (v := .pointer (some ⟨B, 4, none⟩)) (hv 0 (by kernel_rfl))
      have c4 := C4.out W hC
      refine step_run (wanted_none rfl) (v := .slice q.wa q.wl.length q.wc) (w' := W) ?_ (hK _ _ hC trivial rfl (hJ.other 1 33 _ (by decide) (by decide)))
      go_simp
    · have HSZ := hidzf_ hsz
      clear hsz
      have e1 := slot_of (a := a) (s := 33) (v := .slice q.wa q.wl.length q.wc) (hv 1 (by kernel_rfl))
      have cc : Calls Tryz.prog 41 #[.slice q.wa q.wl.length q.wc, .int .i64 40] W (NewP W mw (q.wl.take 40)) := vcut_any W q.wa q.wl q.wl.length _ 40 mw rfl MW.out (by omega) ((RW.out.below (HB1.out.trans (hC.mono HB1.out.size))).more (by have h1 := HB1.out.size; have h2 := hC.size; omega)) LW.out CW.out
      refine step_callx 41 #[.slice q.wa q.wl.length q.wc, .int .i64 40] (wanted_none rfl) (w' := W) ?_ (cc.mono fun e W2 hh => ?_)
      · go_simp
      · obtain ⟨A, d, rfl, ho, hb⟩ := hh
        exact ⟨_, rfl, hK _ _ (hC.trans (hb.mono hC.size)) trivial trivial (hJ.first _ hL (by decide) (by rw [HSZ.out]; exact of_decide_eq_true (by kernel_rfl)) ⟨A, d, rfl, ho.lower hC.size⟩)⟩
    · have HSZ := hidzf_ hsz
      clear hsz
      have e1 := slot_of (a := a) (s := 3) (v := .pointer (some ⟨B, 0, none⟩)) (hf 3 (by kernel_rfl))
      refine step_run (wanted_none rfl) (v := .pointer (some ⟨B, 5, none⟩)) (w' := W) ?_ (hK _ _ hC trivial rfl (hJ.other 3 35 _ (by decide) (by decide)))
      go_simp
    · have HSZ := hidzf_ hsz
      clear hsz
      have e1 := slot_of (a := a) (s := 35) (v := .pointer (some ⟨B, 5, none⟩)) (hv 3 (by kernel_rfl))
      have c5 := C5.out W hC
      refine step_run (wanted_none rfl) (v := .slice q.ba q.bl.length q.bc) (w' := W) ?_ (hK _ _ hC trivial rfl (hJ.other 4 36 _ (by decide) (by decide)))
      go_simp
    · have HSZ := hidzf_ hsz
      clear hsz
      have e1 := slot_of (a := a) (s := 36) (v := .slice q.ba q.bl.length q.bc) (hv 4 (by kernel_rfl))
      have cc : Calls Tryz.prog 41 #[.slice q.ba q.bl.length q.bc, .int .i64 100] W (NewP W mb (q.bl.take 100)) := vcut_any W q.ba q.bl q.bl.length _ 100 mb rfl MB.out (by omega) ((RB.out.below (HB1.out.trans (hC.mono HB1.out.size))).more (by have h1 := HB1.out.size; have h2 := hC.size; omega)) LB.out CB.out
      refine step_callx 41 #[.slice q.ba q.bl.length q.bc, .int .i64 100] (wanted_none rfl) (w' := W) ?_ (cc.mono fun e W2 hh => ?_)
      · go_simp
      · obtain ⟨A, d, rfl, ho, hb⟩ := hh
        exact ⟨_, rfl, hK _ _ (hC.trans (hb.mono hC.size)) trivial trivial (hJ.second _ hL (hW 2 (by kernel_rfl)) (by decide) (by decide) (by rw [HSZ.out]; exact of_decide_eq_true (by kernel_rfl)) (fun h1 => OA2.of h1 hb ⟨A, d, rfl, ho⟩ hC.size))⟩
    · have HSZ := hidzf_ hsz
      clear hsz
      obtain ⟨uu, hu⟩ : ∃ u, a.tmps.getD 34 undef = u := ⟨_, rfl⟩
      have e1 := slot_of (a := a) (s := 34) (v := uu) hu
      refine step_run (wanted_none rfl) (v := uu) (w' := W) ?_ (hK _ _ hC trivial trivial (by rw [← hu]; exact hJ.third (hW 5 (by kernel_rfl)) (by decide) (by decide) (by rw [HSZ.out]; exact of_decide_eq_true (by kernel_rfl))))
      clear hu
      go_simp
    · have HSZ := hidzf_ hsz
      clear hsz
      obtain ⟨uu, hu⟩ : ∃ u, a.tmps.getD 37 undef = u := ⟨_, rfl⟩
      have e1 := slot_of (a := a) (s := 37) (v := uu) hu
      refine step_run (wanted_none rfl) (v := uu) (w' := W) ?_ (hK _ _ hC trivial trivial (by rw [← hu]; exact hJ.fourth (hW 5 (by kernel_rfl)) (by decide) (by decide) (by rw [HSZ.out]; exact of_decide_eq_true (by kernel_rfl))))
      clear hu
      go_simp
  · intro f w2 hC2 hv2 D7 hD7 hJ7
    obtain ⟨a7, hJ, hs⟩ := hJ7
    have h2 := hJ.both (hD7 5 (by decide))
    have e7 := (hJ.e1 (hD7 6 (by decide))).2
    have e8 := (hJ.e2 (hD7 7 (by decide))).2
    rw [hs, hs] at h2 e7 e8
    obtain ⟨A8, c8, A9, c9, h34, ho8, h37, ho9, hdi⟩ := h2
    have f7 := e7.trans h34
    have f8 := e8.trans h37
    simp only [framed, List.foldl_cons, List.foldl_nil, List.setIfInBounds_toArray, List.set_cons_succ, List.set_cons_zero]
    rw [f7, f8]
    have O8 := hidzf_ ho8
    have O9 := hidzf_ ho9
    have DIS := hidzf_ hdi
    have K2 := hidzf_ (KA.out.below hC2 KA.out.lt)
    have T2 := hidzf_ (TT.out.avoid (VS.foot id v sp nm kn K0 N L) (RS.foot id g K0 N L) (Y := DoX B A8 A9) (BA.out.trans (hC2.mono BA.out.size)) (fun k hk => by
      have hs1 := BA.out.size
      rcases hk with rfl | ⟨a, ea, rfl⟩ | ⟨a, ea, rfl⟩
      · exact ⟨K2.out.lt, .inr (by rw [HBB.out]; exact Nat.le_refl _)⟩
      · exact ⟨(ownX ho8 a ea).2, .inr (Nat.le_trans hs1 (ownX ho8 a ea).1)⟩
      · exact ⟨(ownX ho9 a ea).2, .inr (Nat.le_trans hs1 (ownX ho9 a ea).1)⟩))
    clear hv2 hD7 hJ hs e7 e8 h34 h37 ho8 ho9 hdi f7 f8 hC2 C4 C5 TT BA KA
    refine hK9 _ _ ?_
    clear hK9 K9
    go_upto_region 2 with fail
    rename_i K9 hK9
    have V8 : Hid (∀ W, Below w2.heap.size w2 W → (convert 30 9 (.slice A8 mw c8)).run Tryz.prog W = .ok (.string (strOf (q.wl.take 40))) W) := hidzf_ (fun W hW => conv_strn (O8.out.below hW (Nat.le_refl _)).rd.1 mw c8 XL.out)
    have V9 : Hid (∀ W, Below w2.heap.size w2 W → (convert 30 9 (.slice A9 mb c9)).run Tryz.prog W = .ok (.string (strOf (q.bl.take 100))) W) := hidzf_ (fun W hW => conv_strn (O9.out.below hW (Nat.le_refl _)).rd.1 mb c9 YL.out)
    refine region_quiet_in (C := fun W => Below w2.heap.size w2 W) (by kernel_rfl) (by kernel_rfl) ((Below.refl _ _).drew) ?_
    repeat (go_big_quiet_want; (first
      | (refine BigFrame.quiet_move _ rfl ?_; go_simp)
      | (refine BigFrame.quiet_assign _ rfl ?_; go_simp)
      | (refine quiet_run (.string (strOf (q.wl.take 40))) ?_ ?_; (focus (intro W hW; have h := V8.out W hW; go_simp; done)); go_simp)
      | (refine quiet_run (.string (strOf (q.bl.take 100))) ?_ ?_; (focus (intro W hW; have h := V9.out W hW; go_simp; done)); go_simp)); go_big_quiet_on)
    refine wpQuiet_nil ?_
    intro w3 hw3
    have T3 := hidzf_ (T2.out.below (VS.foot id v sp nm kn K0 N L) (RS.foot id g K0 N L) hw3)
    have K3 := hidzf_ (K2.out.below hw3 K2.out.lt)
    have O83 := hidzf_ (O8.out.below hw3 (Nat.le_refl _))
    have O93 := hidzf_ (O9.out.below hw3 (Nat.le_refl _))
    have G8L : Hid (∀ a, A8 = some a → a.block < w3.heap.size) := hidzf_ (fun a ea => (ownX O83.out a ea).2)
    have G9L : Hid (∀ a, A9 = some a → a.block < w3.heap.size) := hidzf_ (fun a ea => (ownX O93.out a ea).2)
    clear hw3 V8 V9 T2 K2 O8 O9
    refine hK9 _ _ ?_
    clear hK9 K9
    generalize hX : q.wl.take 40 = X at *
    generalize hY : q.bl.take 100 = Y at *
    clear hX hY
    obtain ⟨c0, c1, c2, c3, c4, c5, c6, c7⟩ := vact_cells K3.out
    obtain ⟨U, R, hr⟩ := restY q.what 4 (by omega) (by omega)
    obtain ⟨u, t', r', wu', wi', lt⟩ := hr
    have hR : R = 0 ∨ R = 1 ∨ R = 2 ∨ R = 3 := by omega
    rcases hR with rfl | rfl | rfl | rfl
    · have t5 : (U : Int).tmod 4 = 0 := t'
      have r5 : (U : Int) % 4 = 0 := r'
      have q1 : IntKind.u64.wrap 0 = 0 := by decide
      have q2 : IntKind.i64.wrap 0 = 0 := by decide
      clear t' r' wu' wi' lt
      have cb := duo_blind (RS.foot id g K0 N L) T3.out HT.out hg1 A9 mb c9 Y YL.out O93.out.cap.1 O93.out.cap.2 O93.out.rd.1 (by omega)
      have hzB := zB
      by_cases hbad : nmBad Y
      · have eV : bV id K0 N Y = zbytes 32 := by unfold bV; rw [if_pos hbad]
        have eE : bE Y = 1 := by unfold bE; rw [if_pos hbad]
        have eR : rV id K0 N Y = [] := by unfold rV; rw [if_pos hbad]
        rw [eV, eE] at cb
        have IV := hidzf_ (iB (zbytes 32) (zbytes_len 32))
        go_upto_region 6 with (first
          | (go_at_call 10; ((with_reducible refine cb.mono ?_); clear cb; rintro e w4 ⟨rfl, h4, k4⟩; have T4 := hidzf_ h4; clear h4 k4))
          | (refine wpList_put_row rfl 24 (.tmp 11) (.tmp 53) rfl w4.heap.size (rowOf (zbytes 32)) rfl rfl 24 (rowOf (zbytes 32)) (Bk.new w4 _ _) IV.out rfl (bytes_one _) ?_; intro w5 k5 g5 s5; have BX : Below w4.heap.size w4 w5 := (((Below.refl w4.heap.size w4).alloc (Nat.le_refl _) (.cells (rowOf (zbytes 32)) 24)).grown g5 (by simp) (fun k hk => by injection hk with hk; omega)); have K5 := hidzf_ k5; have T5 := hidzf_ (T4.out.avoid (VS.foot id v sp nm kn K0 _ L) (RS.foot id g K0 N L) (Y := fun k => k = w4.heap.size) BX (fun k hk => by subst hk; exact ⟨k5.lt, .inr (Nat.le_refl _)⟩)); clear k5 g5 s5 BX))
        have cr := duo_rblind (VS.foot id v sp nm kn K0 _ L) T5.out KL.out Y (by omega)
        rw [eR, eE] at cr
        clear eV eE eR hbad
        go_upto_region 7 with (go_at_call 42; ((with_reducible refine cr.mono ?_); clear cr; rintro e w6 ⟨rfl, h6, k6⟩; have T6 := hidzf_ h6; have K6 := hidzf_ (K5.out.keepsX k6 rfl); clear h6 k6))
        have eqf := eqInBY (zbytes 32) (zbytes_len 32)
        have hzz : Tryz.prog.built 24 [] = some (rowOf (zbytes 32)) := by kernel_rfl
        have HZZ := hidzf_ hzz
        clear hzz
        go_wp2_with (first
          | (refine wpList_load_rowW (by go_simp) 24 (.tmp 11) rfl w4.heap.size rfl 24 (rowOf (zbytes 32)) K6.out _ Tryz.underlying24 rfl IV.out ?_)
          | (refine wpList_builtW (by go_simp) 24 #[] rfl (rowOf (zbytes 32)) HZZ.out ?_))
        go_ret
        exact ⟨bN id N Y, L, rfl, T6.out.wide (fun k hk => hk.elim), by have := bN_len id N Y; omega, by omega, HLO.out⟩
      · obtain ⟨V, hV⟩ : ∃ V, bB id K0 N Y = V := ⟨_, rfl⟩
        have VL := hidzf_ (show V.length = 32 by rw [← hV]; exact bB_len _ _ _ _)
        have eV : bV id K0 N Y = V := by unfold bV; rw [if_neg hbad, hV]
        have eE : bE Y = 0 := by unfold bE; rw [if_neg hbad]
        have eR : rV id K0 N Y = V := by unfold rV; rw [if_neg hbad, hV]
        rw [eV, eE] at cb
        have IV := hidzf_ (iB V VL.out)
        have QV := hidzf_ (show (rowOf (zbytes 32)).size = (rowOf V).size by rw [rowOf_size, rowOf_size, VL.out, zbytes_len])
        go_upto_region 6 with (first
          | (go_at_call 10; ((with_reducible refine cb.mono ?_); clear cb; rintro e w4 ⟨rfl, h4, k4⟩; have T4 := hidzf_ h4; clear h4 k4))
          | (refine wpList_put_row rfl 24 (.tmp 11) (.tmp 53) rfl w4.heap.size (rowOf V) rfl rfl 24 (rowOf (zbytes 32)) (Bk.new w4 _ _) IV.out QV.out (bytes_one _) ?_; intro w5 k5 g5 s5; have BX : Below w4.heap.size w4 w5 := (((Below.refl w4.heap.size w4).alloc (Nat.le_refl _) (.cells (rowOf (zbytes 32)) 24)).grown g5 (by simp) (fun k hk => by injection hk with hk; omega)); have K5 := hidzf_ k5; have T5 := hidzf_ (T4.out.avoid (VS.foot id v sp nm kn K0 _ L) (RS.foot id g K0 N L) (Y := fun k => k = w4.heap.size) BX (fun k hk => by subst hk; exact ⟨k5.lt, .inr (Nat.le_refl _)⟩)); clear k5 g5 s5 BX))
        have cr := duo_rblind (VS.foot id v sp nm kn K0 _ L) T5.out KL.out Y (by omega)
        rw [eR, eE] at cr
        clear eV eE eR hbad hV
        go_upto_region 7 with (go_at_call 42; ((with_reducible refine cr.mono ?_); clear cr; rintro e w6 ⟨rfl, h6, k6⟩; have T6 := hidzf_ h6; have K6 := hidzf_ (K5.out.keepsX k6 rfl); clear h6 k6))
        have sl := slice_allB w4.heap.size
        have cv := conv_strn (rd_bk K6.out) 32 32 VL.out
        have hse := strOf_eq V V rfl
        go_wp2
        go_ret
        exact ⟨bN id N Y, L, rfl, T6.out.wide (fun k hk => hk.elim), by have := bN_len id N Y; omega, by omega, HLO.out⟩
    · have t5 : (U : Int).tmod 4 = 1 := t'
      have r5 : (U : Int) % 4 = 1 := r'
      have q1 : IntKind.u64.wrap 1 = 1 := by decide
      have q2 : IntKind.i64.wrap 1 = 1 := by decide
      clear t' r' wu' wi' lt
      have cs := duo_seal (RS.foot id g K0 N L) T3.out HT.out hg1 A8 A9 mw c8 mb c9 X Y XL.out YL.out O83.out.rd.1 O93.out.rd.1 (by omega) (by omega) O93.out.cap.1 O93.out.cap.2 q.epoch q.client q.counter (by omega)
      have CR := hidzf_ (fun (W : World) (X0 : Nat → Prop) (P0 : World → List Nat → Prop) (hP0 : Foot P0) (T : Duo w0 X0 P0 (RS id g K0 N L) W) => duo_rseal hP0 T KL.out q.epoch q.client q.counter X Y (by rw [XL.out]; omega) (by rw [YL.out]; omega) (by omega))
      have HL2 := hidzf_ (sL_len id K0 L q.epoch q.client q.counter X Y)
      have HLo2 := hidzf_ (HLO.out.more (id := id) (K := K0) q.epoch q.client q.counter X Y (by rw [XL.out]; omega) (by rw [YL.out]; omega))
      generalize sL id K0 L q.epoch q.client q.counter X Y = L2 at *
      generalize sB id K0 L q.epoch q.client q.counter X Y = D at *
      generalize sE L q.epoch q.client q.counter = z at *
      go_upto_region 12 with (go_at_call 11; ((with_reducible refine cs.mono ?_); clear cs; rintro r w4 ⟨A15, d15, rfl, hrd, hnew, h4, k4⟩; have T4 := hidzf_ h4; have K4 := hidzf_ (K3.out.keepsX k4 (.inl rfl)); have O84 := hidzf_ (own_keep O83.out (fun a ea => k4.2 _ (.inr (.inl ⟨a, ea, rfl⟩)))); have O94 := hidzf_ (own_keep O93.out (fun a ea => k4.2 _ (.inr (.inr ⟨a, ea, rfl⟩)))); have R15 := hidzf_ hrd; have N15 := hidzf_ hnew; have S34 := hidzf_ k4.1; clear h4 k4 hrd hnew))
      clear c0 c1 c2 c3 c4 c5 c6 c7
      obtain ⟨c0, c1, c2, c3, -, -, -, -⟩ := vact_cells K4.out
      have cr := CR.out w4 _ _ (VS.foot id v sp nm kn K0 N L2) T4.out
      go_upto_region 13 with (go_at_call 43; ((with_reducible refine cr.mono ?_); clear cr; rintro r w5 ⟨rfl, h5, k5⟩; have T5 := hidzf_ h5; have O85 := hidzf_ (own_keep O84.out (fun a ea => k5.2 _ (.inl (.inr (.inl ⟨a, ea, rfl⟩))))); have O95 := hidzf_ (own_keep O94.out (fun a ea => k5.2 _ (.inl (.inr (.inr ⟨a, ea, rfl⟩))))); have R5 := hidzf_ (R15.out.keepsX k5 (fun _ a ea => .inr ⟨a, ea, rfl⟩)); clear h5 k5))
      clear c0 c1 c2 c3 K4 T4 O84 O94 R15 CR
      have v1 := conv_strn O85.out.rd.1 mw c8 XL.out
      have v2 := conv_strn O95.out.rd.1 mb c9 YL.out
      have n1 := str_neqz X
      have n2 := str_neqz Y
      have se1 := strOf_eq X X rfl
      have se2 := strOf_eq Y Y rfl
      go_upto_region 15 with fail
      clear v1 v2 n1 n2 se1 se2
      go_upto_region 16 with fail
      have FR := hidzf_ (VS.foot id v sp nm kn K0 N L2)
      have FG := hidzf_ (RS.foot id g K0 N L2)
      go_loopw [19] (fun i wr => ∃ (a : Nat) (ms : List UInt8), a ≤ mw ∧ i = .int .i64 a ∧ Hid (Duo w0 (fun k => DoX B A8 A9 k ∨ ∃ a, A15 = some a ∧ a.block = k) (VS id v sp nm kn K0 N L2) (RS id g K0 N L2) wr) ∧ Hid (Own8 wr w1.heap.size (.slice A8 mw c8) ms) ∧ Hid (Own8 wr w1.heap.size (.slice A9 mb c9) Y) ∧ Hid (Rd wr wr.heap.size A15 D)) (fun i _ => mw - (intOf i).toNat)
      case atStart => exact ⟨0, X, Nat.zero_le _, rfl, T5, O85, O95, R5⟩
      case round =>
        obtain ⟨a, ms, ha, rfl, HQ5, HO, HO9, HR5⟩ := hrel
        by_cases hlt : a < mw
        · have he1 : decide ((a : Int) < (mw : Int)) = true := decide_eq_true (by omega)
          have he2 : decide (a < mw) = true := decide_eq_true hlt
          obtain ⟨g5, hA⟩ := HO.out.block_ (by omega)
          subst hA
          obtain ⟨y, hy⟩ : ∃ y, ms.getD a 0 = y := ⟨_, rfl⟩
          have hcz := HO.out.cellz a hlt
          rw [hy] at hcz
          have hfz := HO.out.frozenz a
          have hx1 := xor_onez y
          obtain ⟨hput, hge⟩ := HO.out.put_ a (y ^^^ 1)
          have HPUT := hidzf_ hput
          have hu : Untouched [g5] wr (wr.setCell ⟨g5, a, none⟩ (.int .u8 ((y ^^^ 1).toNat : Int))) := Untouched.set (w := wr) (F := [g5]) g5 a (by simp) _
          have HW := hidzf_ (HQ5.out.other FR.out FG.out [g5] (fun k hk => by rw [List.mem_singleton.1 hk]; exact .inl (.inr (.inl ⟨_, rfl, rfl⟩))) (fun k hk => by rw [List.mem_singleton.1 hk]; exact Nat.le_trans HB1.out.size hge) hu)
          have HW9 := hidzf_ (own_keep HO9.out (fun a' ea => hu.block _ (ownX HO9.out a' ea).2 (fun hm => by rw [List.mem_singleton] at hm; exact DIS.out _ _ rfl ea hm.symm)))
          have HWR := hidzf_ ((HR5.out.untouchedF hu (fun a' ea hm => by rw [List.mem_singleton] at hm; have h1 := N15.out a' ea; have h2 := G8L.out _ rfl; have h3 : a'.block = g5 := hm; have h4 : g5 < w3.heap.size := h2; omega)).more hu.size)
          have t1 : (0 : Int) ≤ (a : Int) := by omega
          have t2 : (a : Int) < (mw : Int) := by omega
          clear hput hy hu
          go_wp2
          go_roundw
          case rel => exact ⟨a + 1, _, by omega, by go_num, HW, HPUT, HW9, HWR⟩
          case measure => simp [intOf]; omega
        · obtain rfl : a = mw := by omega
          have he1 : decide ((a : Int) < (a : Int)) = false := decide_eq_false (by omega)
          have he2 : decide (a < a) = false := decide_eq_false hlt
          go_upto_region 20 with fail
          clear he1 he2 hlt
          go_loopw [20] (fun i wq => ∃ (b : Nat) (ms2 : List UInt8), b ≤ mb ∧ i = .int .i64 b ∧ Hid (Duo w0 (fun k => DoX B A8 A9 k ∨ ∃ a, A15 = some a ∧ a.block = k) (VS id v sp nm kn K0 N L2) (RS id g K0 N L2) wq) ∧ Hid (Own8 wq w1.heap.size (.slice A9 mb c9) ms2) ∧ Hid (Rd wq wq.heap.size A15 D)) (fun i _ => mb - (intOf i).toNat)
          case atStart => exact ⟨0, Y, Nat.zero_le _, rfl, HQ5, HO9, HR5⟩
          case round =>
            clear HQ5 HO HO9 HR5
            obtain ⟨b, ms2, hb, rfl, HQ6, HO6, HR6⟩ := hrel
            by_cases hlt2 : b < mb
            · have he1 : decide ((b : Int) < (mb : Int)) = true := decide_eq_true (by omega)
              have he2 : decide (b < mb) = true := decide_eq_true hlt2
              obtain ⟨g6, hA⟩ := HO6.out.block_ (by omega)
              subst hA
              obtain ⟨y, hy⟩ : ∃ y, ms2.getD b 0 = y := ⟨_, rfl⟩
              have hcz := HO6.out.cellz b hlt2
              rw [hy] at hcz
              have hfz := HO6.out.frozenz b
              have hx1 := xor_onez y
              obtain ⟨hput, hge⟩ := HO6.out.put_ b (y ^^^ 1)
              have HPUT := hidzf_ hput
              have hu : Untouched [g6] wr (wr.setCell ⟨g6, b, none⟩ (.int .u8 ((y ^^^ 1).toNat : Int))) := Untouched.set (w := wr) (F := [g6]) g6 b (by simp) _
              have HW := hidzf_ (HQ6.out.other FR.out FG.out [g6] (fun k hk => by rw [List.mem_singleton.1 hk]; exact .inl (.inr (.inr ⟨_, rfl, rfl⟩))) (fun k hk => by rw [List.mem_singleton.1 hk]; exact Nat.le_trans HB1.out.size hge) hu)
              have HWR := hidzf_ ((HR6.out.untouchedF hu (fun a' ea hm => by rw [List.mem_singleton] at hm; have h1 := N15.out a' ea; have h2 := G9L.out _ rfl; have h3 : a'.block = g6 := hm; have h4 : g6 < w3.heap.size := h2; omega)).more hu.size)
              have t1 : (0 : Int) ≤ (b : Int) := by omega
              have t2 : (b : Int) < (mb : Int) := by omega
              clear hput hy hu
              go_wp2
              go_roundw
              case rel => exact ⟨b + 1, _, by omega, by go_num, HW, HPUT, HWR⟩
              case measure => simp [intOf]; omega
            · obtain rfl : b = mb := by omega
              have he1 : decide ((b : Int) < (b : Int)) = false := decide_eq_false (by omega)
              have he2 : decide (b < b) = false := decide_eq_false hlt2
              have cv := conv_strn HR6.out D.length d15 rfl
              have hse := strOf_eq D D rfl
              go_wp2
              go_ret
              exact ⟨N, L2, rfl, HQ6.out.wide (fun k hk => hk.elim), by omega, HL2.out, HLo2.out⟩
    · have t5 : (U : Int).tmod 4 = 2 := t'
      have r5 : (U : Int) % 4 = 2 := r'
      have q1 : IntKind.u64.wrap 2 = 2 := by decide
      have q2 : IntKind.i64.wrap 2 = 2 := by decide
      clear t' r' wu' wi' lt
      obtain ⟨F3, G3, hT3⟩ := T3.out
      obtain ⟨vn, vl, hr3⟩ := hT3.two
      obtain ⟨AL, cl, rfl⟩ := OwnSL.form hr3.sls
      have HR3 := hidzf_ hr3
      have g3 : w3.cell? ⟨g, 3, none⟩ = some (.slice AL L.length cl) := hr3.blk.cell 3
      obtain ⟨ls, hls⟩ : ∃ m, L.length = m := ⟨_, rfl⟩
      have HLS := hidzf_ hls
      rw [hls] at g3
      clear hT3 hr3 hls
      by_cases h0 : ls = 0
      · have i0 : ((ls : Int) == 0) = true := beq_iff_eq.2 (by omega)
        have i0n : (ls == 0) = true := beq_iff_eq.2 h0
        clear h0
        go_wp2
        go_ret
        exact ⟨N, L, rfl, T3.out.wide (fun k hk => hk.elim), by omega, by omega, HLO.out⟩
      · have i0 : ((ls : Int) == 0) = false := beq_eq_false_iff_ne.2 (by omega)
        have i0n : (ls == 0) = false := beq_eq_false_iff_ne.2 h0
        have ls100 : ls ≤ 100 := by have := HLS.out; omega
        go_upto_region 27 with fail
        clear i0 i0n g3 c0 c1 c2 c3 c4 c5 c6 c7
        rename_i K9 hK9
        obtain ⟨U6, hU6, hU6b⟩ := u64_natY q.which
        obtain ⟨i, ti, ri, wui, wii, hil⟩ := restU U6 ls (by omega) (by omega)
        have hlsu : IntKind.u64.wrap (ls : Int) = (ls : Int) := IntWalk.u64_in _ (by omega)
        have hl0 : decide ((ls : Int) = 0) = false := decide_eq_false (by omega)
        have hl0n : decide (ls = 0) = false := decide_eq_false h0
        have hl0z : (ls : Int) ≠ 0 := by omega
        have hil2 : (i : Int) < (ls : Int) := by omega
        have hil0 : (0 : Int) ≤ (i : Int) := by omega
        have hiL : i < L.length := by have := HLS.out; omega
        obtain ⟨gA, hgA, hcell⟩ := OwnSL.cells HR3.out.sls i hiL
        subst hgA
        have TB := hidzf_ (HLO.out L[i] (List.getElem_mem hiL))
        generalize L[i] = t at *
        have SZ := hidzf_ (iSLr t)
        have CL : Hid (∀ W, Below w3.heap.size w3 W → W.cell? ⟨g, 3, none⟩ = some (.slice (some ⟨gA, 0, none⟩) ls cl)) := hidzf_ (fun W hW => by have h := (HR3.out.below hW).blk.cell 3; rw [← HLS.out]; exact h)
        have C6 : Hid (∀ W, Below w3.heap.size w3 W → W.cell? ⟨B, 6, none⟩ = some (.int .i64 q.which)) := hidzf_ (fun W hW => (K3.out.below hW K3.out.lt).cell 6)
        have hgl : gA < w3.heap.size := cell_lt (hcell 0 (by omega))
        have HROW : Hid (∀ W, Below w3.heap.size w3 W → ∀ j, j < (slR t).size → W.cell? ⟨gA, i * 6 + j, none⟩ = (slR t)[j]?) := hidzf_ (fun W hW j hj => (hW.cell (p := ⟨gA, i * 6 + j, none⟩) hgl).trans (hcell j hj))
        clear hcell hgl hil hU6b
        have XU := hidzf_ hU6
        have XL6 := hidzf_ hlsu
        have XI := hidzf_ (And.intro ti (And.intro ri (And.intro wui (And.intro wii (And.intro hl0 (And.intro hl0n hl0z))))))
        have XB := hidzf_ (And.intro hil2 hil0)
        clear hU6 hlsu ti ri wui wii hl0 hl0n hl0z hil2 hil0
        refine region_byJF [158, 159, 160, 161, 162, 163, 164, 165, 166, 167, 168, 169, 170, 171, 172, 173, 174, 21] (fun W => Below w3.heap.size w3 W) (fun W W' => W.heap.size ≤ W'.heap.size) (SlV w3.heap.size g B gA ls cl i q.which U6 t) (fun D a W => SlJ t D a W) (by kernel_rfl) (by kernel_rfl) (by kernel_rfl) (by kernel_rfl) (fun j v w w' hT hr => hr.stable hT) (fun j v w hlt hj _ => ?_) ((Below.refl _ _).drew) ?_ SlJ.start ?_
        · rcases j with _ | _ | _ | _ | _ | _ | _ | _ | _ | _ | _ | _ | _ | _ | _ | _ | _ | _ | _ | j
          all_goals first
            | (exfalso; simp [dstOf] at hj; done)
            | trivial
        · refine ⟨fun D a W hC hd hsz hf hv hJ hL hW K hK => ?_, fun D a W hC hd hsz hf hv hJ hL hW K hK => ?_, fun D a W hC hd hsz hf hv hJ hL hW K hK => ?_, fun D a W hC hd hsz hf hv hJ hL hW K hK => ?_, fun D a W hC hd hsz hf hv hJ hL hW K hK => ?_, fun D a W hC hd hsz hf hv hJ hL hW K hK => ?_, fun D a W hC hd hsz hf hv hJ hL hW K hK => ?_, fun D a W hC hd hsz hf hv hJ hL hW K hK => ?_, fun D a W hC hd hsz hf hv hJ hL hW K hK => ?_, fun D a W hC hd hsz hf hv hJ hL hW K hK => ?_, fun D a W hC hd hsz hf hv hJ hL hW K hK => ?_, fun D a W hC hd hsz hf hv hJ hL hW K hK => ?_, fun D a W hC hd hsz hf hv hJ hL hW K hK => ?_, fun D a W hC hd hsz hf hv hJ hL hW K hK => ?_, fun D a W hC hd hsz hf hv hJ hL hW K hK => ?_, fun D a W hC hd hsz hf hv hJ hL hW K hK => ?_, fun D a W hC hd hsz hf hv hJ hL hW K hK => ?_, fun D a W hC hd hsz hf hv hJ hL hW K hK => ?_, fun D a W hC hd hsz hf hv hJ hL hW K hK => ?_, trivial⟩
          · have HSZ := hidzf_ hsz
            clear hsz
            have e1 := slot_of (a := a) (s := 2) (v := .pointer (some ⟨g, 0, none⟩)) (hf 2 (by kernel_rfl))
            refine step_run (wanted_none rfl) (v := .pointer (some ⟨g, 0, none⟩)) (w' := W) ?_ (hK _ _ hC (Nat.le_refl _) rfl (hJ.other 0 158 _ (by decide) (by decide)))
            go_simp
          · have HSZ := hidzf_ hsz
            clear hsz
            have e1 := slot_of (a := a) (s := 158) (v := .pointer (some ⟨g, 0, none⟩)) (hv 0 (by kernel_rfl))
            refine step_run (wanted_none rfl) (v := .pointer (some ⟨g, 0, none⟩)) (w' := W) ?_ (hK _ _ hC (Nat.le_refl _) rfl (hJ.other 1 159 _ (by decide) (by decide)))
            go_simp
          · have HSZ := hidzf_ hsz
            clear hsz
            have e1 := slot_of (a := a) (s := 159) (v := .pointer (some ⟨g, 0, none⟩)) (hv 1 (by kernel_rfl))
            refine step_run (wanted_none rfl) (v := .pointer (some ⟨g, 3, none⟩)) (w' := W) ?_ (hK _ _ hC (Nat.le_refl _) rfl (hJ.other 2 160 _ (by decide) (by decide)))
            go_simp
          · have HSZ := hidzf_ hsz
            clear hsz
            have e1 := slot_of (a := a) (s := 160) (v := .pointer (some ⟨g, 3, none⟩)) (hv 2 (by kernel_rfl))
            have cl3 := CL.out W hC
            refine step_run (wanted_none rfl) (v := .slice (some ⟨gA, 0, none⟩) ls cl) (w' := W) ?_ (hK _ _ hC (Nat.le_refl _) rfl (hJ.other 3 161 _ (by decide) (by decide)))
            go_simp
          · have HSZ := hidzf_ hsz
            clear hsz
            have e1 := slot_of (a := a) (s := 3) (v := .pointer (some ⟨B, 0, none⟩)) (hf 3 (by kernel_rfl))
            refine step_run (wanted_none rfl) (v := .pointer (some ⟨B, 6, none⟩)) (w' := W) ?_ (hK _ _ hC (Nat.le_refl _) rfl (hJ.other 4 162 _ (by decide) (by decide)))
            go_simp
          · have HSZ := hidzf_ hsz
            clear hsz
            have e1 := slot_of (a := a) (s := 162) (v := .pointer (some ⟨B, 6, none⟩)) (hv 4 (by kernel_rfl))
            have cl6 := C6.out W hC
            refine step_run (wanted_none rfl) (v := .int .i64 q.which) (w' := W) ?_ (hK _ _ hC (Nat.le_refl _) rfl (hJ.other 5 163 _ (by decide) (by decide)))
            go_simp
          · have HSZ := hidzf_ hsz
            clear hsz
            have e1 := slot_of (a := a) (s := 163) (v := .int .i64 q.which) (hv 5 (by kernel_rfl))
            have h := XU.out
            refine step_run (wanted_none rfl) (v := .int .u64 (U6 : Int)) (w' := W) ?_ (hK _ _ hC (Nat.le_refl _) rfl (hJ.other 6 164 _ (by decide) (by decide)))
            go_simp
          · have HSZ := hidzf_ hsz
            clear hsz
            have e1 := slot_of (a := a) (s := 2) (v := .pointer (some ⟨g, 0, none⟩)) (hf 2 (by kernel_rfl))
            refine step_run (wanted_none rfl) (v := .pointer (some ⟨g, 0, none⟩)) (w' := W) ?_ (hK _ _ hC (Nat.le_refl _) rfl (hJ.other 7 165 _ (by decide) (by decide)))
            go_simp
          · have HSZ := hidzf_ hsz
            clear hsz
            have e1 := slot_of (a := a) (s := 165) (v := .pointer (some ⟨g, 0, none⟩)) (hv 7 (by kernel_rfl))
            refine step_run (wanted_none rfl) (v := .pointer (some ⟨g, 0, none⟩)) (w' := W) ?_ (hK _ _ hC (Nat.le_refl _) rfl (hJ.other 8 166 _ (by decide) (by decide)))
            go_simp
          · have HSZ := hidzf_ hsz
            clear hsz
            have e1 := slot_of (a := a) (s := 166) (v := .pointer (some ⟨g, 0, none⟩)) (hv 8 (by kernel_rfl))
            refine step_run (wanted_none rfl) (v := .pointer (some ⟨g, 3, none⟩)) (w' := W) ?_ (hK _ _ hC (Nat.le_refl _) rfl (hJ.other 9 167 _ (by decide) (by decide)))
            go_simp
          · have HSZ := hidzf_ hsz
            clear hsz
            have e1 := slot_of (a := a) (s := 167) (v := .pointer (some ⟨g, 3, none⟩)) (hv 9 (by kernel_rfl))
            have cl3 := CL.out W hC
            refine step_run (wanted_none rfl) (v := .slice (some ⟨gA, 0, none⟩) ls cl) (w' := W) ?_ (hK _ _ hC (Nat.le_refl _) rfl (hJ.other 10 168 _ (by decide) (by decide)))
            go_simp
          · have HSZ := hidzf_ hsz
            clear hsz
            have e1 := slot_of (a := a) (s := 168) (v := .slice (some ⟨gA, 0, none⟩) ls cl) (hv 10 (by kernel_rfl))
            refine step_run (wanted_none rfl) (v := .int .i64 (ls : Int)) (w' := W) ?_ (hK _ _ hC (Nat.le_refl _) rfl (hJ.other 11 169 _ (by decide) (by decide)))
            go_simp
          · have HSZ := hidzf_ hsz
            clear hsz
            have e1 := slot_of (a := a) (s := 169) (v := .int .i64 (ls : Int)) (hv 11 (by kernel_rfl))
            have h := XL6.out
            refine step_run (wanted_none rfl) (v := .int .u64 (ls : Int)) (w' := W) ?_ (hK _ _ hC (Nat.le_refl _) rfl (hJ.other 12 170 _ (by decide) (by decide)))
            go_simp
          · have HSZ := hidzf_ hsz
            clear hsz
            have e1 := slot_of (a := a) (s := 164) (v := .int .u64 (U6 : Int)) (hv 6 (by kernel_rfl))
            have e2 := slot_of (a := a) (s := 170) (v := .int .u64 (ls : Int)) (hv 12 (by kernel_rfl))
            obtain ⟨ti, ri, wui, wii, hl0, hl0n, hl0z⟩ := XI.out
            refine step_run (wanted_none rfl) (v := .int .u64 (i : Int)) (w' := W) ?_ (hK _ _ hC (Nat.le_refl _) rfl (hJ.other 13 171 _ (by decide) (by decide)))
            go_simp
          · have HSZ := hidzf_ hsz
            clear hsz
            have e1 := slot_of (a := a) (s := 171) (v := .int .u64 (i : Int)) (hv 13 (by kernel_rfl))
            obtain ⟨ti, ri, wui, wii, hl0, hl0n, hl0z⟩ := XI.out
            refine step_run (wanted_none rfl) (v := .int .i64 (i : Int)) (w' := W) ?_ (hK _ _ hC (Nat.le_refl _) rfl (hJ.other 14 172 _ (by decide) (by decide)))
            go_simp
          · have HSZ := hidzf_ hsz
            clear hsz
            have e1 := slot_of (a := a) (s := 161) (v := .slice (some ⟨gA, 0, none⟩) ls cl) (hv 3 (by kernel_rfl))
            have e2 := slot_of (a := a) (s := 172) (v := .int .i64 (i : Int)) (hv 14 (by kernel_rfl))
            obtain ⟨hil2, hil0⟩ := XB.out
            refine step_run (wanted_none rfl) (v := .pointer (some ⟨gA, i * 6, none⟩)) (w' := W) ?_ (hK _ _ hC (Nat.le_refl _) rfl (hJ.other 15 173 _ (by decide) (by decide)))
            go_simp
          · have HSZ := hidzf_ hsz
            clear hsz
            have e1 := eval_of (a := a) (s := 173) (v := .pointer (some ⟨gA, i * 6, none⟩)) (hv 15 (by kernel_rfl))
            exact step_load_sub (wanted_none rfl) 105 (.tmp 173) rfl gA (i * 6) e1 (slR t) (HROW.out W hC) _ Tryz.underlying105 rfl SZ.out (hK _ _ hC (Nat.le_refl _) rfl (hJ.other 16 174 _ (by decide) (by decide)))
          · have HSZ := hidzf_ hsz
            clear hsz
            have hzS := zSLr2
            have hb : Below W.heap.size W (W.alloc (.cells zSl 105)) := (Below.refl _ _).alloc (Nat.le_refl _) _
            refine step_run (wanted_none rfl) (v := .pointer (some ⟨W.heap.size, 0, none⟩)) (w' := W.alloc (.cells zSl 105)) ?_ (hK _ _ (hC.trans (hb.mono hC.size)) (by simp) ⟨W.heap.size, rfl, hC.size, by simp⟩ (hJ.laid hL (by rw [HSZ.out]; exact of_decide_eq_true (by kernel_rfl)) (Bk.new W _ _)))
            go_simp
          · clear hsz
            obtain ⟨gS, eg, hg1, hg2⟩ : ∃ gS, a.tmps.getD 21 undef = .pointer (some ⟨gS, 0, none⟩) ∧ w3.heap.size ≤ gS ∧ gS < W.heap.size := hv 17 (by kernel_rfl)
            refine step_put_row rfl 105 (.tmp 21) (.tmp 174) rfl gS (slR t) (eval_of eg) (eval_of (hv 16 (by kernel_rfl))) 105 zSl (hJ.one gS eg (hW 17 (by kernel_rfl)) hL) SZ.out rfl (slR_all t) ?_
            intro W2 k2 g2 s2
            exact hK undef _ (hC.grown g2 hC.size (fun k e => by injection e with e; omega)) g2.size trivial (hJ.told (hW 17 (by kernel_rfl)) eg k2)
        · intro f w5 hC5 hv5 D7 hD7 hJ7
          obtain ⟨a7, hJ, hs⟩ := hJ7
          obtain ⟨gS, eg, hsg, hlt⟩ : ∃ gS, f 21 = .pointer (some ⟨gS, 0, none⟩) ∧ w3.heap.size ≤ gS ∧ gS < w5.heap.size := hv5 17 (by decide)
          have K5 := hidzf_ (hJ.two gS (by rw [hs]; exact eg) (hD7 18 (by decide)))
          have B35 := hidzf_ hC5
          have HSG := hidzf_ hsg
          simp only [framed, List.foldl_cons, List.foldl_nil, List.setIfInBounds_toArray, List.set_cons_succ, List.set_cons_zero]
          rw [eg]
          clear hv5 hD7 hJ hs hC5 hsg hlt eg CL C6 HROW XU XL6 XI XB HR3
          refine hK9 _ _ ?_
          clear hK9 K9
          go_upto_region 28 with fail
          have hzS : True := trivial
          clear hzS
          have T5 := hidzf_ (T3.out.below (VS.foot id v sp nm kn K0 N L) (RS.foot id g K0 N L) B35.out)
          have KB5 := hidzf_ (K3.out.below B35.out K3.out.lt)
          have BG := hidzf_ (show B ≠ gS by have h1 := K3.out.lt; have h2 := HSG.out; omega)
          obtain ⟨ns, hns⟩ : ∃ m, t.s.length = m := ⟨_, rfl⟩
          have NSB := hidzf_ (show 16 ≤ ns ∧ ns ≤ 116 by have h1 := TB.out.2.2.2.2; omega)
          obtain ⟨w6, c22, hcv, hown, hb6, hs6⟩ := str_bytes w5 t.s (by unfold maxLen; have := NSB.out; omega)
          rw [hns] at hcv hown
          have s5 := (slR_cells K5.out).2.2.2.2.2
          have NSL := hidzf_ hns
          clear hns
          have H6 := hidzf_ hown
          have B6 := hidzf_ hb6
          have T6 := hidzf_ (T5.out.avoid (VS.foot id v sp nm kn K0 N L) (RS.foot id g K0 N L) (Y := fun k => k = w5.heap.size) hb6 (fun k hk => by subst hk; exact ⟨by omega, .inr (Nat.le_refl _)⟩))
          clear hown hb6 hs6
          go_upto_region 29 with fail
          rename_i K9 hK9
          clear s5 hcv
          have KB6 := hidzf_ (KB5.out.below B6.out KB5.out.lt)
          have KS6 := hidzf_ (K5.out.below B6.out K5.out.lt)
          have LO := hidzf_ (show w0.heap.size ≤ w5.heap.size from T5.out.un.size)
          have NB := hidzf_ (show B ≠ w5.heap.size ∧ gS ≠ w5.heap.size by have h1 := KB5.out.lt; have h2 := K5.out.lt; omega)
          clear K5 T5 KB5
          generalize w5.heap.size = gO at *
          obtain ⟨U3, hU3, hU3b⟩ := u64_natY q.counter
          obtain ⟨k, ti, ri, wui, wii, hil⟩ := restU U3 ns (by have := NSB.out; omega) (by have := NSB.out; omega)
          have hnsu : IntKind.u64.wrap (ns : Int) = (ns : Int) := IntWalk.u64_in _ (by have := NSB.out; omega)
          have hl0 : decide ((ns : Int) = 0) = false := decide_eq_false (by have := NSB.out; omega)
          have hl0n : decide (ns = 0) = false := decide_eq_false (by have := NSB.out; omega)
          have hl0z : (ns : Int) ≠ 0 := by have := NSB.out; omega
          have hil2 : (k : Int) < (ns : Int) := by omega
          have hil0 : (0 : Int) ≤ (k : Int) := by omega
          have hns0 : ns ≠ 0 := by have := NSB.out; omega
          have ns116 : ns ≤ 116 := by have := NSB.out; omega
          have hkl : k < t.s.length := by have := NSL.out; omega
          obtain ⟨y, hy⟩ : ∃ y, t.s.getD k 0 = y := ⟨_, rfl⟩
          obtain ⟨x, hx⟩ : ∃ x, y ^^^ q.by_ = x := ⟨_, rfl⟩
          have HX : bits .xor .u8 ((y.toNat : Nat) : Int) ((q.by_.toNat : Nat) : Int) = ((x.toNat : Nat) : Int) := by rw [← hx]; exact xor8 y q.by_
          have C3 : Hid (∀ W, Below w6.heap.size w6 W → W.cell? ⟨B, 3, none⟩ = some (.int .i64 q.counter)) := hidzf_ (fun W hW => (KB6.out.below hW KB6.out.lt).cell 3)
          have C7 : Hid (∀ W, Below w6.heap.size w6 W → W.cell? ⟨B, 7, none⟩ = some (.int .u8 (q.by_.toNat : Int))) := hidzf_ (fun W hW => (KB6.out.below hW KB6.out.lt).cell 7)
          have CY : Hid (∀ W, Below w6.heap.size w6 W → W.cell? ⟨gO, k, none⟩ = some (.int .u8 ((y.toNat : Nat) : Int))) := hidzf_ (fun W hW => by have h := ((H6.out.below hW (Nat.le_refl _)).at_ k hkl x).1; rw [hy] at h; exact h)
          have HKL := hidzf_ hkl
          have HY := hidzf_ hy
          clear hil hU3b hkl hy hx
          refine region_quiet_tail (C := fun W => Below w6.heap.size w6 W) 15 (by kernel_rfl) (by kernel_rfl) ((Below.refl _ _).drew) ?_
          simp only [List.take_succ_cons, List.take_zero]
          repeat (go_big_quiet_want; (first
            | (refine BigFrame.quiet_move _ rfl ?_; go_simp)
            | (refine quiet_run (.pointer (some ⟨B, 3, none⟩)) ?_ ?_; (focus (intro W hW; go_simp; done)); go_simp)
            | (refine quiet_run (.int .i64 q.counter) ?_ ?_; (focus (intro W hW; have h := C3.out W hW; go_simp; done)); go_simp)
            | (refine quiet_run (.int .u64 (U3 : Int)) ?_ ?_; (focus (intro W hW; go_simp; done)); go_simp)
            | (refine quiet_run (.int .i64 (ns : Int)) ?_ ?_; (focus (intro W hW; go_simp; done)); go_simp)
            | (refine quiet_run (.int .u64 (ns : Int)) ?_ ?_; (focus (intro W hW; go_simp; done)); go_simp)
            | (refine quiet_run (.int .u64 (k : Int)) ?_ ?_; (focus (intro W hW; go_simp; done)); go_simp)
            | (refine quiet_run (.int .i64 (k : Int)) ?_ ?_; (focus (intro W hW; go_simp; done)); go_simp)
            | (refine quiet_run (.pointer (some ⟨gO, k, none⟩)) ?_ ?_; (focus (intro W hW; go_simp; done)); go_simp)
            | (refine quiet_run (.int .u8 ((y.toNat : Nat) : Int)) ?_ ?_; (focus (intro W hW; have h := CY.out W hW; go_simp; done)); go_simp)
            | (refine quiet_run (.pointer (some ⟨B, 7, none⟩)) ?_ ?_; (focus (intro W hW; go_simp; done)); go_simp)
            | (refine quiet_run (.int .u8 ((q.by_.toNat : Nat) : Int)) ?_ ?_; (focus (intro W hW; have h := C7.out W hW; go_simp; done)); go_simp)
            | (refine quiet_run (.int .u8 ((x.toNat : Nat) : Int)) ?_ ?_; (focus (intro W hW; go_simp; done)); go_simp)); go_big_quiet_on)
          refine wpQuiet_nil ?_
          intro w7 hw7
          simp only [List.drop_succ_cons, List.drop_zero]
          have O7 := H6.out.below hw7 (Nat.le_refl _)
          obtain ⟨q7, f7, p7⟩ := O7.at_ k HKL.out x
          rw [HY.out] at q7
          obtain ⟨so, hso⟩ : ∃ l, t.s.set k x = l := ⟨_, rfl⟩
          have SOL := hidzf_ (show so.length = ns by rw [← hso, List.length_set]; exact NSL.out)
          rw [hso] at p7
          obtain ⟨w8, hw8⟩ : ∃ W, w7.setCell ⟨gO, k, none⟩ (.int .u8 ((x.toNat : Nat) : Int)) = W := ⟨_, rfl⟩
          have hu : Untouched [gO] w7 w8 := by rw [← hw8]; exact Untouched.set (w := w7) (F := [gO]) gO k (by simp) _
          rw [hw8] at p7
          have RO8 := hidzf_ p7.rd.1
          have CAPO := hidzf_ (show ns ≤ c22 ∧ c22 ≤ 9223372036854775807 by have h := p7.rd.2; unfold maxLen at h; omega)
          have K8 := hidzf_ ((KB6.out.below hw7 KB6.out.lt).untouched hu (by simp; exact NB.out.1))
          have KS8 := hidzf_ ((KS6.out.below hw7 KS6.out.lt).untouched hu (by simp; exact NB.out.2))
          have T8 := hidzf_ ((T6.out.below (VS.foot id v sp nm kn K0 N L) (RS.foot id g K0 N L) hw7).other (VS.foot id v sp nm kn K0 N L) (RS.foot id g K0 N L) [gO] (fun k hk => by rw [List.mem_singleton.1 hk]) (fun k hk => by rw [List.mem_singleton.1 hk]; exact LO.out) hu)
          clear hu p7 O7 hw7 hso C3 C7 CY HY HKL H6 T6 KB6 KS6 hU3 ti ri wui wii hnsu hl0 hl0n hl0z hil2 hil0 HX hns0 ns116
          obtain ⟨w9, c7w, hcx, ox, b9, hs9⟩ := str_bytes w8 t.x (by unfold maxLen; have := TB.out.2.2.2.1; omega)
          have B9 := hidzf_ b9
          clear b9 hs9
          go_upto_region 30 with fail
          clear q7 f7 hw8
          obtain ⟨s0, -, -, s3, -, -⟩ := slR_cells KS8.out
          obtain ⟨-, c1, -, -, -, -, -, -⟩ := vact_cells K8.out
          obtain ⟨m5, hm5⟩ : ∃ m, q.epoch.tmod 5 = m := ⟨_, rfl⟩
          have wm5 : IntKind.i64.wrap m5 = m5 := by
            have h1 := Int.tmod_lt_of_pos q.epoch (show (0 : Int) < 5 by omega)
            have h2 := Int.lt_tmod_of_pos q.epoch (show (0 : Int) < 5 by omega)
            exact IntWalk.i64_in _ (by omega)
          have TX40 := hidzf_ TB.out.2.2.2.1
          by_cases h5 : m5 = 0
          · have i5 : (m5 == 0) = true := beq_iff_eq.2 h5
            have i5d : decide (m5 = 0) = true := decide_eq_true h5
            clear h5
            go_upto_region 34 with fail
            clear hcx s3
            have K9b := hidzf_ (K8.out.below B9.out K8.out.lt)
            have KS9 := hidzf_ (KS8.out.below B9.out KS8.out.lt)
            have T9 := hidzf_ (T8.out.below (VS.foot id v sp nm kn K0 N L) (RS.foot id g K0 N L) B9.out)
            have O9w := hidzf_ ox
            have RO9 := hidzf_ ((RO8.out.below B9.out).more B9.out.size)
            clear ox
            obtain ⟨-, -, -, -, c4, -, -, -⟩ := vact_cells K9b.out
            by_cases h3 : 3 < q.wl.length
            · have d1 : decide ((3 : Int) < (q.wl.length : Int)) = true := decide_eq_true (by omega)
              have d2 : decide (3 < q.wl.length) = true := decide_eq_true h3
              obtain ⟨w10, hw10⟩ : ∃ W, w9.alloc (.cells #[.int .u8 1] 5) = W := ⟨_, rfl⟩
              have b10 : Below w9.heap.size w9 w10 := by rw [← hw10]; exact (Below.refl _ _).alloc (Nat.le_refl _) _
              have r10 : Rd w10 (w9.heap.size + 1) (some ⟨w9.heap.size, 0, none⟩) [1] := by rw [← hw10]; exact rd_byte w9 1 1 rfl
              have o10 := O9w.out.below b10 (Nat.le_refl _)
              have T10 := hidzf_ (T9.out.below (VS.foot id v sp nm kn K0 N L) (RS.foot id g K0 N L) b10)
              have KS10 := hidzf_ (KS9.out.below b10 KS9.out.lt)
              have RO10 := hidzf_ ((RO9.out.below b10).more b10.size)
              have hb10 : w8.heap.size ≤ w10.heap.size := Nat.le_trans B9.out.size b10.size
              have hle : t.x.length + 1 ≤ 140737488355328 := by have := TX40.out; omega
              clear b10 h3
              go_upto_region 36 with (at_builtin; refine wpList_appT rfl (.tmp 208) (.tmp 209) rfl o10 rfl 1 1 rfl r10 rfl (by omega) hle hb10 ?_; (intro A11 c11 w11 k1 k2; have O11 := hidzf_ k1; have G11 := hidzf_ k2; clear k1 k2))
              have KW : Hid (∀ k, k < w8.heap.size → w11.heap[k]? = w10.heap[k]?) := hidzf_ (fun k hk => G11.out.block k (Nat.lt_of_lt_of_le hk hb10) (fun e => by have h1 := O9w.out.lt k e.symm; omega))
              have B11 := hidzf_ (show Below w8.heap.size w10 w11 from ⟨G11.out.os, G11.out.tape, G11.out.output, G11.out.size, fun k hk => KW.out k hk⟩)
              have KS11 := hidzf_ (show Bk w11 gS 105 (slR t) from (KW.out gS KS8.out.lt).trans KS10.out)
              have RO11 := hidzf_ (show Rd w11 w11.heap.size (some ⟨gO, 0, none⟩) so from (((RO8.out.below B9.out).below ((show Below w8.heap.size w9 w11 from (show Below w8.heap.size w9 w10 by rw [← hw10]; exact ((Below.refl _ _).alloc (Nat.le_refl _) _).mono B9.out.size).trans B11.out)))).more (by have h1 := B9.out.size; have h2 := G11.out.size; omega))
              have T11 := hidzf_ (show Duo w0 (fun _ => False) (VS id v sp nm kn K0 N L) (RS id g K0 N L) w11 from (T8.out.wide (fun k hk => hk.elim)).below (VS.foot id v sp nm kn K0 N L) (RS.foot id g K0 N L) ((B9.out.trans (show Below w8.heap.size w9 w10 by rw [← hw10]; exact ((Below.refl _ _).alloc (Nat.le_refl _) _).mono B9.out.size)).trans B11.out))
              clear hw10 r10 o10 T10 KS10 RO10 c4 d1 d2 G11 KW B11
              have TX41 := hidzf_ (show (t.x ++ [1]).length ≤ 100000 by have h := TX40.out; simp; omega)
              obtain ⟨s0, s1, s2, s3, s4, s5⟩ := slR_cells KS11.out
              have co := duo_open T11.out HT.out hg1 HLO.out A11 (some ⟨gO, 0, none⟩) (t.x.length + 1) c11 ns c22 (t.x ++ [1]) so (by rw [List.length_append]; rfl) SOL.out O11.out.rd.1 RO11.out (by have := TX40.out; omega) (by have := NSB.out; omega) CAPO.out.1 CAPO.out.2 q.epoch (t.c : Int) (t.n : Int)
              have CR := hidzf_ (fun (W : World) (X0 : Nat → Prop) (P0 : World → List Nat → Prop) (T : Duo w0 X0 P0 (RS id g K0 N L) W) => duo_ropen T KL.out q.epoch (t.c : Int) (t.n : Int) (t.x ++ [1]) so TX41.out (by have := NSB.out; have h := SOL.out; omega) (by omega))
              generalize oB id K0 L q.epoch (t.c : Int) (t.n : Int) (t.x ++ [1]) so = D at *
              generalize oE id K0 L q.epoch (t.c : Int) (t.n : Int) (t.x ++ [1]) so = z at *
              go_upto_region 37 with (go_at_call 12; ((with_reducible refine co.mono ?_); clear co; rintro r w20 ⟨A24, d24, rfl, hrd, hb⟩; have R20 := hidzf_ hrd; have B20 := hidzf_ hb; clear hrd hb))
              clear s0 s1 s2 s3 s4 s5
              obtain ⟨s0, s1, s2, s3, s4, s5⟩ := slR_cells (KS11.out.below B20.out KS11.out.lt)
              have T20 := hidzf_ (T11.out.below (VS.foot id v sp nm kn K0 N L) (RS.foot id g K0 N L) B20.out)
              have cr := CR.out w20 _ _ T20.out
              have cw1 := conv_strn ((O11.out.rd.1.below B20.out).more B20.out.size) (t.x.length + 1) c11 (by rw [List.length_append]; rfl)
              have cw2 := conv_strn ((RO11.out.below B20.out).more B20.out.size) ns c22 SOL.out
              go_upto_region 38 with (go_at_call 44; ((with_reducible refine cr.mono ?_); clear cr; rintro r w21 ⟨rfl, hb⟩; have B21 := hidzf_ hb; clear hb))
              have T21 := hidzf_ (T20.out.below (VS.foot id v sp nm kn K0 N L) (RS.foot id g K0 N L) B21.out)
              have cv := conv_strn ((R20.out.below B21.out).more B21.out.size) D.length d24 rfl
              have hse := strOf_eq D D rfl
              clear s0 s1 s2 s3 s4 s5 CR cw1 cw2
              go_wp2
              go_ret
              exact ⟨N, L, rfl, T21.out.wide (fun k hk => hk.elim), by omega, by omega, HLO.out⟩
            · have d1 : decide ((3 : Int) < (q.wl.length : Int)) = false := decide_eq_false (by omega)
              have d2 : decide (3 < q.wl.length) = false := decide_eq_false h3
              go_upto_region 36 with fail
              clear c4 d1 d2 h3
              have TX41 := hidzf_ (show t.x.length ≤ 100000 by have h := TX40.out; simp; omega)
              obtain ⟨s0, s1, s2, s3, s4, s5⟩ := slR_cells KS9.out
              have co := duo_open T9.out HT.out hg1 HLO.out (some ⟨w8.heap.size, 0, none⟩) (some ⟨gO, 0, none⟩) t.x.length c7w ns c22 t.x so rfl SOL.out O9w.out.rd.1 RO9.out (by have := TX40.out; omega) (by have := NSB.out; omega) CAPO.out.1 CAPO.out.2 q.epoch (t.c : Int) (t.n : Int)
              have CR := hidzf_ (fun (W : World) (X0 : Nat → Prop) (P0 : World → List Nat → Prop) (T : Duo w0 X0 P0 (RS id g K0 N L) W) => duo_ropen T KL.out q.epoch (t.c : Int) (t.n : Int) t.x so TX41.out (by have := NSB.out; have h := SOL.out; omega) (by omega))
              generalize oB id K0 L q.epoch (t.c : Int) (t.n : Int) t.x so = D at *
              generalize oE id K0 L q.epoch (t.c : Int) (t.n : Int) t.x so = z at *
              go_upto_region 37 with (go_at_call 12; ((with_reducible refine co.mono ?_); clear co; rintro r w20 ⟨A24, d24, rfl, hrd, hb⟩; have R20 := hidzf_ hrd; have B20 := hidzf_ hb; clear hrd hb))
              clear s0 s1 s2 s3 s4 s5
              obtain ⟨s0, s1, s2, s3, s4, s5⟩ := slR_cells (KS9.out.below B20.out KS9.out.lt)
              have T20 := hidzf_ (T9.out.below (VS.foot id v sp nm kn K0 N L) (RS.foot id g K0 N L) B20.out)
              have cr := CR.out w20 _ _ T20.out
              have cw1 := conv_strn ((O9w.out.rd.1.below B20.out).more B20.out.size) t.x.length c7w rfl
              have cw2 := conv_strn ((RO9.out.below B20.out).more B20.out.size) ns c22 SOL.out
              go_upto_region 38 with (go_at_call 44; ((with_reducible refine cr.mono ?_); clear cr; rintro r w21 ⟨rfl, hb⟩; have B21 := hidzf_ hb; clear hb))
              have T21 := hidzf_ (T20.out.below (VS.foot id v sp nm kn K0 N L) (RS.foot id g K0 N L) B21.out)
              have cv := conv_strn ((R20.out.below B21.out).more B21.out.size) D.length d24 rfl
              have hse := strOf_eq D D rfl
              clear s0 s1 s2 s3 s4 s5 CR cw1 cw2
              go_wp2
              go_ret
              exact ⟨N, L, rfl, T21.out.wide (fun k hk => hk.elim), by omega, by omega, HLO.out⟩
          · have i5 : (m5 == 0) = false := beq_eq_false_iff_ne.2 h5
            have i5d : decide (m5 = 0) = false := decide_eq_false h5
            clear h5
            go_upto_region 34 with fail
            clear hcx s3
            have K9b := hidzf_ (K8.out.below B9.out K8.out.lt)
            have KS9 := hidzf_ (KS8.out.below B9.out KS8.out.lt)
            have T9 := hidzf_ (T8.out.below (VS.foot id v sp nm kn K0 N L) (RS.foot id g K0 N L) B9.out)
            have O9w := hidzf_ ox
            have RO9 := hidzf_ ((RO8.out.below B9.out).more B9.out.size)
            clear ox
            obtain ⟨-, -, -, -, c4, -, -, -⟩ := vact_cells K9b.out
            by_cases h3 : 3 < q.wl.length
            · have d1 : decide ((3 : Int) < (q.wl.length : Int)) = true := decide_eq_true (by omega)
              have d2 : decide (3 < q.wl.length) = true := decide_eq_true h3
              obtain ⟨w10, hw10⟩ : ∃ W, w9.alloc (.cells #[.int .u8 1] 5) = W := ⟨_, rfl⟩
              have b10 : Below w9.heap.size w9 w10 := by rw [← hw10]; exact (Below.refl _ _).alloc (Nat.le_refl _) _
              have r10 : Rd w10 (w9.heap.size + 1) (some ⟨w9.heap.size, 0, none⟩) [1] := by rw [← hw10]; exact rd_byte w9 1 1 rfl
              have o10 := O9w.out.below b10 (Nat.le_refl _)
              have T10 := hidzf_ (T9.out.below (VS.foot id v sp nm kn K0 N L) (RS.foot id g K0 N L) b10)
              have KS10 := hidzf_ (KS9.out.below b10 KS9.out.lt)
              have RO10 := hidzf_ ((RO9.out.below b10).more b10.size)
              have hb10 : w8.heap.size ≤ w10.heap.size := Nat.le_trans B9.out.size b10.size
              have hle : t.x.length + 1 ≤ 140737488355328 := by have := TX40.out; omega
              clear b10 h3
              go_upto_region 36 with (at_builtin; refine wpList_appT rfl (.tmp 208) (.tmp 209) rfl o10 rfl 1 1 rfl r10 rfl (by omega) hle hb10 ?_; (intro A11 c11 w11 k1 k2; have O11 := hidzf_ k1; have G11 := hidzf_ k2; clear k1 k2))
              have KW : Hid (∀ k, k < w8.heap.size → w11.heap[k]? = w10.heap[k]?) := hidzf_ (fun k hk => G11.out.block k (Nat.lt_of_lt_of_le hk hb10) (fun e => by have h1 := O9w.out.lt k e.symm; omega))
              have B11 := hidzf_ (show Below w8.heap.size w10 w11 from ⟨G11.out.os, G11.out.tape, G11.out.output, G11.out.size, fun k hk => KW.out k hk⟩)
              have KS11 := hidzf_ (show Bk w11 gS 105 (slR t) from (KW.out gS KS8.out.lt).trans KS10.out)
              have RO11 := hidzf_ (show Rd w11 w11.heap.size (some ⟨gO, 0, none⟩) so from (((RO8.out.below B9.out).below ((show Below w8.heap.size w9 w11 from (show Below w8.heap.size w9 w10 by rw [← hw10]; exact ((Below.refl _ _).alloc (Nat.le_refl _) _).mono B9.out.size).trans B11.out)))).more (by have h1 := B9.out.size; have h2 := G11.out.size; omega))
              have T11 := hidzf_ (show Duo w0 (fun _ => False) (VS id v sp nm kn K0 N L) (RS id g K0 N L) w11 from (T8.out.wide (fun k hk => hk.elim)).below (VS.foot id v sp nm kn K0 N L) (RS.foot id g K0 N L) ((B9.out.trans (show Below w8.heap.size w9 w10 by rw [← hw10]; exact ((Below.refl _ _).alloc (Nat.le_refl _) _).mono B9.out.size)).trans B11.out))
              clear hw10 r10 o10 T10 KS10 RO10 c4 d1 d2 G11 KW B11
              have TX41 := hidzf_ (show (t.x ++ [1]).length ≤ 100000 by have h := TX40.out; simp; omega)
              obtain ⟨s0, s1, s2, s3, s4, s5⟩ := slR_cells KS11.out
              have co := duo_open T11.out HT.out hg1 HLO.out A11 (some ⟨gO, 0, none⟩) (t.x.length + 1) c11 ns c22 (t.x ++ [1]) so (by rw [List.length_append]; rfl) SOL.out O11.out.rd.1 RO11.out (by have := TX40.out; omega) (by have := NSB.out; omega) CAPO.out.1 CAPO.out.2 (t.e : Int) (t.c : Int) (t.n : Int)
              have CR := hidzf_ (fun (W : World) (X0 : Nat → Prop) (P0 : World → List Nat → Prop) (T : Duo w0 X0 P0 (RS id g K0 N L) W) => duo_ropen T KL.out (t.e : Int) (t.c : Int) (t.n : Int) (t.x ++ [1]) so TX41.out (by have := NSB.out; have h := SOL.out; omega) (by omega))
              generalize oB id K0 L (t.e : Int) (t.c : Int) (t.n : Int) (t.x ++ [1]) so = D at *
              generalize oE id K0 L (t.e : Int) (t.c : Int) (t.n : Int) (t.x ++ [1]) so = z at *
              go_upto_region 37 with (go_at_call 12; ((with_reducible refine co.mono ?_); clear co; rintro r w20 ⟨A24, d24, rfl, hrd, hb⟩; have R20 := hidzf_ hrd; have B20 := hidzf_ hb; clear hrd hb))
              clear s0 s1 s2 s3 s4 s5
              obtain ⟨s0, s1, s2, s3, s4, s5⟩ := slR_cells (KS11.out.below B20.out KS11.out.lt)
              have T20 := hidzf_ (T11.out.below (VS.foot id v sp nm kn K0 N L) (RS.foot id g K0 N L) B20.out)
              have cr := CR.out w20 _ _ T20.out
              have cw1 := conv_strn ((O11.out.rd.1.below B20.out).more B20.out.size) (t.x.length + 1) c11 (by rw [List.length_append]; rfl)
              have cw2 := conv_strn ((RO11.out.below B20.out).more B20.out.size) ns c22 SOL.out
              go_upto_region 38 with (go_at_call 44; ((with_reducible refine cr.mono ?_); clear cr; rintro r w21 ⟨rfl, hb⟩; have B21 := hidzf_ hb; clear hb))
              have T21 := hidzf_ (T20.out.below (VS.foot id v sp nm kn K0 N L) (RS.foot id g K0 N L) B21.out)
              have cv := conv_strn ((R20.out.below B21.out).more B21.out.size) D.length d24 rfl
              have hse := strOf_eq D D rfl
              clear s0 s1 s2 s3 s4 s5 CR cw1 cw2
              go_wp2
              go_ret
              exact ⟨N, L, rfl, T21.out.wide (fun k hk => hk.elim), by omega, by omega, HLO.out⟩
            · have d1 : decide ((3 : Int) < (q.wl.length : Int)) = false := decide_eq_false (by omega)
              have d2 : decide (3 < q.wl.length) = false := decide_eq_false h3
              go_upto_region 36 with fail
              clear c4 d1 d2 h3
              have TX41 := hidzf_ (show t.x.length ≤ 100000 by have h := TX40.out; simp; omega)
              obtain ⟨s0, s1, s2, s3, s4, s5⟩ := slR_cells KS9.out
              have co := duo_open T9.out HT.out hg1 HLO.out (some ⟨w8.heap.size, 0, none⟩) (some ⟨gO, 0, none⟩) t.x.length c7w ns c22 t.x so rfl SOL.out O9w.out.rd.1 RO9.out (by have := TX40.out; omega) (by have := NSB.out; omega) CAPO.out.1 CAPO.out.2 (t.e : Int) (t.c : Int) (t.n : Int)
              have CR := hidzf_ (fun (W : World) (X0 : Nat → Prop) (P0 : World → List Nat → Prop) (T : Duo w0 X0 P0 (RS id g K0 N L) W) => duo_ropen T KL.out (t.e : Int) (t.c : Int) (t.n : Int) t.x so TX41.out (by have := NSB.out; have h := SOL.out; omega) (by omega))
              generalize oB id K0 L (t.e : Int) (t.c : Int) (t.n : Int) t.x so = D at *
              generalize oE id K0 L (t.e : Int) (t.c : Int) (t.n : Int) t.x so = z at *
              go_upto_region 37 with (go_at_call 12; ((with_reducible refine co.mono ?_); clear co; rintro r w20 ⟨A24, d24, rfl, hrd, hb⟩; have R20 := hidzf_ hrd; have B20 := hidzf_ hb; clear hrd hb))
              clear s0 s1 s2 s3 s4 s5
              obtain ⟨s0, s1, s2, s3, s4, s5⟩ := slR_cells (KS9.out.below B20.out KS9.out.lt)
              have T20 := hidzf_ (T9.out.below (VS.foot id v sp nm kn K0 N L) (RS.foot id g K0 N L) B20.out)
              have cr := CR.out w20 _ _ T20.out
              have cw1 := conv_strn ((O9w.out.rd.1.below B20.out).more B20.out.size) t.x.length c7w rfl
              have cw2 := conv_strn ((RO9.out.below B20.out).more B20.out.size) ns c22 SOL.out
              go_upto_region 38 with (go_at_call 44; ((with_reducible refine cr.mono ?_); clear cr; rintro r w21 ⟨rfl, hb⟩; have B21 := hidzf_ hb; clear hb))
              have T21 := hidzf_ (T20.out.below (VS.foot id v sp nm kn K0 N L) (RS.foot id g K0 N L) B21.out)
              have cv := conv_strn ((R20.out.below B21.out).more B21.out.size) D.length d24 rfl
              have hse := strOf_eq D D rfl
              clear s0 s1 s2 s3 s4 s5 CR cw1 cw2
              go_wp2
              go_ret
              exact ⟨N, L, rfl, T21.out.wide (fun k hk => hk.elim), by omega, by omega, HLO.out⟩
    · have t5 : (U : Int).tmod 4 = 3 := t'
      have r5 : (U : Int) % 4 = 3 := r'
      have q1 : IntKind.u64.wrap 3 = 3 := by decide
      have q2 : IntKind.i64.wrap 3 = 3 := by decide
      clear t' r' wu' wi' lt
      have co := duo_open T3.out HT.out hg1 HLO.out A8 A9 mw c8 mb c9 X Y XL.out YL.out O83.out.rd.1 O93.out.rd.1 (by omega) (by omega) O93.out.cap.1 O93.out.cap.2 q.epoch q.client q.counter
      have CR := hidzf_ (fun (W : World) (X0 : Nat → Prop) (P0 : World → List Nat → Prop) (T : Duo w0 X0 P0 (RS id g K0 N L) W) => duo_ropen T KL.out q.epoch q.client q.counter X Y (by rw [XL.out]; omega) (by rw [YL.out]; omega) (by omega))
      generalize oB id K0 L q.epoch q.client q.counter X Y = D at *
      generalize oE id K0 L q.epoch q.client q.counter X Y = z at *
      go_upto_region 40 with (go_at_call 12; ((with_reducible refine co.mono ?_); clear co; rintro r w4 ⟨A28, d28, rfl, hrd, hb⟩; have R4 := hidzf_ hrd; have B4 := hidzf_ hb; clear hrd hb))
      clear c0 c1 c2 c3 c4 c5 c6 c7
      obtain ⟨c0, c1, c2, c3, -, -, -, -⟩ := vact_cells (K3.out.below B4.out K3.out.lt)
      have T4 := hidzf_ (T3.out.below (VS.foot id v sp nm kn K0 N L) (RS.foot id g K0 N L) B4.out)
      have cr := CR.out w4 _ _ T4.out
      go_upto_region 41 with (go_at_call 44; ((with_reducible refine cr.mono ?_); clear cr; rintro r w5 ⟨rfl, hb⟩; have B5 := hidzf_ hb; clear hb))
      have T5 := hidzf_ (T4.out.below (VS.foot id v sp nm kn K0 N L) (RS.foot id g K0 N L) B5.out)
      have cv := conv_strn ((R4.out.below B5.out).more B5.out.size) D.length d28 rfl
      have hse := strOf_eq D D rfl
      clear c0 c1 c2 c3 CR T4
      go_wp2
      go_ret
      exact ⟨N, L, rfl, T5.out.wide (fun k hk => hk.elim), by omega, by omega, HLO.out⟩
end Go.Proofs.YthbkbmckmoleiaaGreatDoor
