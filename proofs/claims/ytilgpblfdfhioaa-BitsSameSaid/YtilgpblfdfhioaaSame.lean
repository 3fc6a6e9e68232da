/-
  Proved: for every two slices of bytes BitsSame answers true: of all bytes it is told whether they are the same; mixed twice they are what they were. No condition.
-/
import Derived.Test.YtilgpblfdfhioaaBs
import Derived.Test.YtilgpblfdfhioaaBf
import Derived.Test.YtilgpblfdfhioaaAm
import Derived.Test.YtilgpblfdfhioaaC4
import Derived.Test.YtilgpblfdfhioaaLp
import Derived.Test.YtilgpblfdfhioaaQd
import Derived.Deep.DeepCutAuto
import Derived.BigCall
namespace Go.Proofs.Ytilgpblfdfhioaa.bitsSame
open Go.ChangeShapes Go.WideShapes Go.ChangeAt Go.RowKit
set_option linter.unusedVariables false
set_option linter.unusedSimpArgs false

theorem hid_ {p : Prop} (h : p) : Hid p := h
/-- '[]byte{}' in whatever world: an own slice of nothing. -/
theorem own_none {W : World} {base g : Nat} (hb : base ≤ g) (h : W.heap[g]? = some (.cells #[] 5 (0, 0))) : Own8 W base (.slice (some ⟨g, 0, none⟩) 0 0) [] :=
  ⟨rfl, .inr ⟨g, 0, #[], rfl, hb, h, Nat.le_refl _, Nat.zero_le _, rfl, rfl⟩⟩

theorem mix_back : ∀ (l m : List UInt8), mixB (mixB l m) m = l.take (min l.length m.length)
  | [], m => by simp [mixB]
  | _ :: _, [] => by simp [mixB]
  | a :: l, b :: m => by
    have ih := mix_back l m
    have e : a ^^^ b ^^^ b = a := by rw [UInt8.xor_assoc, UInt8.xor_self, UInt8.xor_zero]
    have hm : min (a :: l).length (b :: m).length = min l.length m.length + 1 := by simp only [List.length_cons]; omega
    rw [hm, List.take_succ_cons, ← ih]
    show (a ^^^ b ^^^ b) :: mixB (mixB l m) m = _
    rw [e]
def SmC (w : World) (W : World) : Prop := Below w.heap.size w W

set_option maxRecDepth 100000 in
set_option maxHeartbeats 4000000 in
theorem walk (w : World) (A B : Option Addr) (l m : List UInt8) (c d : Nat) (h0 : Rd w w.heap.size A l) (h1 : Rd w w.heap.size B m) (hc : l.length ≤ c) (hcm : c ≤ 9223372036854775807) (hd : m.length ≤ d) (hdm : d ≤ 9223372036854775807) :
    Calls Try.prog 3 #[.slice A l.length c, .slice B m.length d] w fun e w' => e = .returned (.bool true) ∧ Below w.heap.size w w' := by
  obtain ⟨k, hk⟩ : ∃ n, n = min l.length 200 := ⟨_, rfl⟩
  obtain ⟨n, hn⟩ : ∃ n, n = min m.length 200 := ⟨_, rfl⟩
  have hmk := fun W ts t => run_min2 l.length 200 k hk W ts t
  have hmn := fun W ts t => run_min2 m.length 200 n hn W ts t
  have hz : ((200 : Nat) : Int) = 200 := rfl
  rw [hz] at hmk hmn
  have hs1 := fun W => slice_to A l.length c (k : Int) k rfl (by omega) W
  have hs2 := fun W => slice_to B m.length d (n : Int) n rfl (by omega) W
  have hlk : (l.take k).length = k := by rw [List.length_take]; omega
  have hln : (m.take n).length = n := by rw [List.length_take]; omega
  have r1 := h0.take k
  have r2 := h1.take n
  have hk2 : k ≤ 200 := by omega
  have hn2 : n ≤ 200 := by omega
  clear hk hn hz h0 h1 hc hd
  generalize l.take k = x at *
  generalize m.take n = y at *
  generalize l.length = p at *
  generalize m.length = q at *
  have X1 := hid_ r1
  have X2 := hid_ r2
  have L1 := hid_ hlk
  have L2 := hid_ hln
  clear r1 r2 hlk hln
  go_enter Try.func3, Try.ntmps3
  go_upto_region 1 with fail
  go_cut [0, 1] (fun s0 s1 wx => ∃ A' c' B' d', s0 = .slice A' k c' ∧ s1 = .slice B' n d' ∧ Rd wx wx.heap.size A' x ∧ Rd wx wx.heap.size B' y ∧ Below w.heap.size w wx)
  case first =>
    have fin : ∀ (W : World) (A1 : Option Addr) (c1 : Nat) (B1 : Option Addr) (d1 : Nat), Own8 W w.heap.size (.slice A1 k c1) x → Own8 W w.heap.size (.slice B1 n d1) y → Below w.heap.size w W → ∃ A' c' B' d', Value.slice A1 k c1 = .slice A' k c' ∧ Value.slice B1 n d1 = .slice B' n d' ∧ Rd W W.heap.size A' x ∧ Rd W W.heap.size B' y ∧ Below w.heap.size w W :=
      fun W A1 c1 B1 d1 o1 o2 hb => ⟨A1, c1, B1, d1, rfl, rfl, o1.rd.1, o2.rd.1, hb⟩
    have FIN := hid_ fin
    clear fin
    refine wp_region_any (by kernel_rfl) ?_
    change wpAny _ _ _ _ _ _ _ (World.drew _)
    refine wpAny_take (i := 1) (v := .slice A p c) rfl (by kernel_rfl) (by kernel_rfl) (by kernel_rfl) (fun _ _ _ h => h) (Or.inl ⟨by rfl, by intro W; go_simp⟩) ?_
    simp only [Act.put, List.setIfInBounds_toArray, List.set_cons_succ, List.set_cons_zero]
    refine wpAny_take (i := 2) (v := .slice A p c) rfl (by kernel_rfl) (by kernel_rfl) (by kernel_rfl) (fun _ _ _ h => h) (Or.inl ⟨by rfl, by intro W; go_simp⟩) ?_
    simp only [Act.put, List.setIfInBounds_toArray, List.set_cons_succ, List.set_cons_zero]
    refine wpAny_take (i := 3) (v := .int .i64 p) rfl (by kernel_rfl) (by kernel_rfl) (by kernel_rfl) (fun _ _ _ h => h) (Or.inl ⟨by rfl, by intro W; go_simp⟩) ?_
    simp only [Act.put, List.setIfInBounds_toArray, List.set_cons_succ, List.set_cons_zero]
    refine wpAny_take (i := 4) (v := .int .i64 k) rfl (by kernel_rfl) (by kernel_rfl) (by kernel_rfl) (fun _ _ _ h => h) (Or.inl ⟨by rfl, by intro W; go_simp⟩) ?_
    simp only [Act.put, List.setIfInBounds_toArray, List.set_cons_succ, List.set_cons_zero]
    refine wpAny_take (i := 5) (v := .slice A k c) rfl (by kernel_rfl) (by kernel_rfl) (by kernel_rfl) (fun _ _ _ h => h) (Or.inl ⟨by rfl, by intro W; go_simp⟩) ?_
    simp only [Act.put, List.setIfInBounds_toArray, List.set_cons_succ, List.set_cons_zero]
    refine wpAny_take (i := 8) (v := .slice B q d) rfl (by kernel_rfl) (by kernel_rfl) (by kernel_rfl) (fun _ _ _ h => h) (Or.inl ⟨by rfl, by intro W; go_simp⟩) ?_
    simp only [Act.put, List.setIfInBounds_toArray, List.set_cons_succ, List.set_cons_zero]
    refine wpAny_take (i := 9) (v := .slice B q d) rfl (by kernel_rfl) (by kernel_rfl) (by kernel_rfl) (fun _ _ _ h => h) (Or.inl ⟨by rfl, by intro W; go_simp⟩) ?_
    simp only [Act.put, List.setIfInBounds_toArray, List.set_cons_succ, List.set_cons_zero]
    refine wpAny_take (i := 10) (v := .int .i64 q) rfl (by kernel_rfl) (by kernel_rfl) (by kernel_rfl) (fun _ _ _ h => h) (Or.inl ⟨by rfl, by intro W; go_simp⟩) ?_
    simp only [Act.put, List.setIfInBounds_toArray, List.set_cons_succ, List.set_cons_zero]
    refine wpAny_take (i := 11) (v := .int .i64 n) rfl (by kernel_rfl) (by kernel_rfl) (by kernel_rfl) (fun _ _ _ h => h) (Or.inl ⟨by rfl, by intro W; go_simp⟩) ?_
    simp only [Act.put, List.setIfInBounds_toArray, List.set_cons_succ, List.set_cons_zero]
    refine wpAny_take (i := 12) (v := .slice B n d) rfl (by kernel_rfl) (by kernel_rfl) (by kernel_rfl) (fun _ _ _ h => h) (Or.inl ⟨by rfl, by intro W; go_simp⟩) ?_
    simp only [Act.put, List.setIfInBounds_toArray, List.set_cons_succ, List.set_cons_zero]
    refine wpAny_ready (rs := [0, 7]) (by kernel_rfl) (by simp) ?_
    refine AllReady.cons rfl (fun K hK => ?_) (AllReady.cons rfl (fun K hK => ?_) AllReady.nil)
    · go_simp
      refine hK _ _ ?_; clear hK K
      have b1 : Below w.heap.size w (w.drew.alloc (.cells #[] 5)) := ((Below.refl _ _).drew).alloc (Nat.le_refl _) _
      have n1 : (w.drew.alloc (.cells #[] 5)).heap[w.heap.size]? = some (.cells #[] 5 (0, 0)) := heap_alloc_new w.drew _
      have z1 : (w.drew.alloc (.cells #[] 5)).heap.size = w.heap.size + 1 := by simp
      refine wpAny_ready (rs := [6, 7]) (by kernel_rfl) (by simp) ?_
      refine AllReady.cons rfl (fun K hK => ?_) (AllReady.cons rfl (fun K hK => ?_) AllReady.nil)
      · change if _ then Oper.wp _ _ _ (w.drew.alloc (.cells #[] 5)) _ _ else _
        obtain ⟨W1, hW1⟩ : ∃ W, Hid (w.drew.alloc (.cells #[] 5) = W) := ⟨_, rfl⟩
        rw [hW1.out] at b1 n1 z1 ⊢
        refine step_app rfl (.tmp 9) (.tmp 14) rfl (own_none (base := w.heap.size) (Nat.le_refl _) n1) rfl k c rfl (X1.out.below b1) L1.out (by simp; omega) (by omega) ?_
        intro A1 c1 W2 o1 g1 e1
        simp only [List.length_nil, Nat.zero_add, List.nil_append, Value.ownBlock] at o1 g1 e1 ⊢
        refine hK _ _ ?_; clear hK K
        have b2 : Below w.heap.size w W2 := b1.grown g1 b1.size (fun i hi => by injection hi with hi; omega)
        have lt1 := o1.lt
        refine wpAny_ready (rs := [7]) (by kernel_rfl) (by simp) ?_
        refine AllReady.cons rfl (fun K hK => ?_) AllReady.nil
        simp only [Act.put, List.setIfInBounds_toArray, List.set_cons_succ, List.set_cons_zero]
        go_simp
        refine hK _ _ ?_; clear hK K
        have n2 : (W2.alloc (.cells #[] 5)).heap[W2.heap.size]? = some (.cells #[] 5 (0, 0)) := heap_alloc_new W2 _
        have b3 : Below w.heap.size w (W2.alloc (.cells #[] 5)) := b2.alloc b2.size _
        have o3 := o1.alloc (.cells #[] 5)
        obtain ⟨W3, hW3⟩ : ∃ W, Hid (W2.alloc (.cells #[] 5) = W) := ⟨_, rfl⟩
        rw [hW3.out] at n2 b3 o3 ⊢
        refine wpAny_ready (rs := [13]) (by kernel_rfl) (by simp) ?_
        refine AllReady.cons rfl (fun K hK => ?_) AllReady.nil
        refine step_app rfl (.tmp 16) (.tmp 21) rfl (own_none (base := w.heap.size) b2.size n2) rfl n d rfl (X2.out.below b3) L2.out (by simp; omega) b3.size ?_
        intro A2 c2 W4 o4 g4 e4
        simp only [List.length_nil, Nat.zero_add, List.nil_append, Value.ownBlock] at o4 g4 e4 ⊢
        have V1 := hid_ (o3.kept g4 (by
          cases h : (Value.slice A1 k c1).ownBlock with
          | none => exact .inl rfl
          | some j => have := lt1 j h; exact .inr (fun e => by injection e with e; omega)))
        have V2 := hid_ o4
        have HBW := hid_ (b3.grown g4 b3.size (fun i hi => by injection hi with hi; have := b2.size; omega))
        simp only [Act.put, List.setIfInBounds_toArray, List.set_cons_succ, List.set_cons_zero]
        clear o1 g1 e1 o3 o4 g4 e4 n1 n2 b1 b2 b3 z1 lt1
        refine hK _ _ ?_; clear hK K
        refine wpAny_ready (rs := [14]) (by kernel_rfl) (by simp) ?_
        refine AllReady.cons rfl (fun K hK => ?_) AllReady.nil
        go_simp
        refine hK _ _ ?_; clear hK K
        refine wpAny_ready (rs := [15]) (by kernel_rfl) (by simp) ?_
        refine AllReady.cons rfl (fun K hK => ?_) AllReady.nil
        go_simp
        refine hK _ _ ?_; clear hK K
        refine wpAny_done (by kernel_rfl) ?_ _
        go_wp2
        go_meet
        exact FIN.out _ _ _ _ _ V1.out V2.out HBW.out
      · clear b1 n1 z1
        go_simp
        refine hK _ _ ?_; clear hK K
        obtain ⟨W1, hW1⟩ : ∃ W, Hid ((w.drew.alloc (.cells #[] 5)).alloc (.cells #[] 5) = W) := ⟨_, rfl⟩
        have b1 : Below w.heap.size w W1 := by rw [← hW1.out]; exact (((Below.refl _ _).drew).alloc (Nat.le_refl _) _).alloc (by simp) _
        have m1 : W1.heap[w.heap.size]? = some (.cells #[] 5 (0, 0)) := by rw [← hW1.out]; exact (Below.heap_alloc _ _ _ (by simp)).trans (heap_alloc_new w.drew _)
        have m2 : W1.heap[w.heap.size + 1]? = some (.cells #[] 5 (0, 0)) := by
          rw [← hW1.out]
          have h := heap_alloc_new (w.drew.alloc (.cells #[] 5)) (.cells #[] 5)
          have hz : (w.drew.alloc (.cells #[] 5)).heap.size = w.heap.size + 1 := by simp
          rwa [hz] at h
        have z1 : W1.heap.size = w.heap.size + 1 + 1 := by rw [← hW1.out]; simp
        change wpAny _ _ _ _ _ _ _ ((w.drew.alloc (.cells #[] 5)).alloc (.cells #[] 5))
        rw [hW1.out]
        refine wpAny_ready (rs := [6]) (by kernel_rfl) (by simp) ?_
        refine AllReady.cons rfl (fun K hK => ?_) AllReady.nil
        refine step_app rfl (.tmp 9) (.tmp 14) rfl (own_none (base := w.heap.size) (Nat.le_refl _) m1) rfl k c rfl (X1.out.below b1) L1.out (by simp; omega) (by omega) ?_
        intro A1 c1 W2 o1 g1 e1
        simp only [List.length_nil, Nat.zero_add, List.nil_append, Value.ownBlock] at o1 g1 e1 ⊢
        refine hK _ _ ?_; clear hK K
        have b2 : Below w.heap.size w W2 := b1.grown g1 b1.size (fun i hi => by injection hi with hi; omega)
        have n2 : W2.heap[(w.heap.size + 1)]? = some (.cells #[] 5 (0, 0)) := (g1.block (w.heap.size + 1) (by omega) (by intro e; injection e with e; omega)).trans m2
        refine wpAny_ready (rs := [13]) (by kernel_rfl) (by simp) ?_
        refine AllReady.cons rfl (fun K hK => ?_) AllReady.nil
        simp only [Act.put, List.setIfInBounds_toArray, List.set_cons_succ, List.set_cons_zero]
        refine step_app rfl (.tmp 16) (.tmp 21) rfl (own_none (base := w.heap.size) (Nat.le_succ _) n2) rfl n d rfl (X2.out.below b2) L2.out (by simp; omega) b2.size ?_
        intro A2 c2 W4 o4 g4 e4
        simp only [List.length_nil, Nat.zero_add, List.nil_append, Value.ownBlock] at o4 g4 e4 ⊢
        have V1 := hid_ (o1.kept g4 (by
          rcases e1 with e | e
          · exact .inr (fun h => by have e2 := h.symm.trans e; injection e2 with e2; omega)
          · exact .inr (fun h => by have e2 := h.symm.trans e; injection e2 with e2; omega)))
        have V2 := hid_ o4
        have HBW := hid_ (b2.grown g4 b2.size (fun i hi => by injection hi with hi; omega))
        simp only [Act.put, List.setIfInBounds_toArray, List.set_cons_succ, List.set_cons_zero]
        clear o1 g1 e1 o4 g4 e4 m1 m2 n2 b1 b2 z1
        refine hK _ _ ?_; clear hK K
        refine wpAny_ready (rs := [14]) (by kernel_rfl) (by simp) ?_
        refine AllReady.cons rfl (fun K hK => ?_) AllReady.nil
        go_simp
        refine hK _ _ ?_; clear hK K
        refine wpAny_ready (rs := [15]) (by kernel_rfl) (by simp) ?_
        refine AllReady.cons rfl (fun K hK => ?_) AllReady.nil
        go_simp
        refine hK _ _ ?_; clear hK K
        refine wpAny_done (by kernel_rfl) ?_ _
        go_wp2
        go_meet
        exact FIN.out _ _ _ _ _ V1.out V2.out HBW.out
    · go_simp
      refine hK _ _ ?_; clear hK K
      refine wpAny_ready (rs := [0]) (by kernel_rfl) (by simp) ?_
      refine AllReady.cons rfl (fun K hK => ?_) AllReady.nil
      · go_simp
        refine hK _ _ ?_; clear hK K
        obtain ⟨W1, hW1⟩ : ∃ W, Hid ((w.drew.alloc (.cells #[] 5)).alloc (.cells #[] 5) = W) := ⟨_, rfl⟩
        have b1 : Below w.heap.size w W1 := by rw [← hW1.out]; exact (((Below.refl _ _).drew).alloc (Nat.le_refl _) _).alloc (by simp) _
        have m1 : W1.heap[w.heap.size]? = some (.cells #[] 5 (0, 0)) := by rw [← hW1.out]; exact (Below.heap_alloc _ _ _ (by simp)).trans (heap_alloc_new w.drew _)
        have m2 : W1.heap[w.heap.size + 1]? = some (.cells #[] 5 (0, 0)) := by
          rw [← hW1.out]
          have h := heap_alloc_new (w.drew.alloc (.cells #[] 5)) (.cells #[] 5)
          have hz : (w.drew.alloc (.cells #[] 5)).heap.size = w.heap.size + 1 := by simp
          rwa [hz] at h
        have z1 : W1.heap.size = w.heap.size + 1 + 1 := by rw [← hW1.out]; simp
        change wpAny _ _ _ _ _ _ _ ((w.drew.alloc (.cells #[] 5)).alloc (.cells #[] 5))
        rw [hW1.out]
        refine wpAny_ready (rs := [6]) (by kernel_rfl) (by simp) ?_
        refine AllReady.cons rfl (fun K hK => ?_) AllReady.nil
        refine step_app rfl (.tmp 9) (.tmp 14) rfl (own_none (base := w.heap.size) (Nat.le_succ _) m2) rfl k c rfl (X1.out.below b1) L1.out (by simp; omega) (by omega) ?_
        intro A1 c1 W2 o1 g1 e1
        simp only [List.length_nil, Nat.zero_add, List.nil_append, Value.ownBlock] at o1 g1 e1 ⊢
        refine hK _ _ ?_; clear hK K
        have b2 : Below w.heap.size w W2 := b1.grown g1 b1.size (fun i hi => by injection hi with hi; omega)
        have n2 : W2.heap[w.heap.size]? = some (.cells #[] 5 (0, 0)) := (g1.block w.heap.size (by omega) (by intro e; injection e with e; omega)).trans m1
        refine wpAny_ready (rs := [13]) (by kernel_rfl) (by simp) ?_
        refine AllReady.cons rfl (fun K hK => ?_) AllReady.nil
        simp only [Act.put, List.setIfInBounds_toArray, List.set_cons_succ, List.set_cons_zero]
        refine step_app rfl (.tmp 16) (.tmp 21) rfl (own_none (base := w.heap.size) (Nat.le_refl _) n2) rfl n d rfl (X2.out.below b2) L2.out (by simp; omega) b2.size ?_
        intro A2 c2 W4 o4 g4 e4
        simp only [List.length_nil, Nat.zero_add, List.nil_append, Value.ownBlock] at o4 g4 e4 ⊢
        have V1 := hid_ (o1.kept g4 (by
          rcases e1 with e | e
          · exact .inr (fun h => by have e2 := h.symm.trans e; injection e2 with e2; omega)
          · exact .inr (fun h => by have e2 := h.symm.trans e; injection e2 with e2; omega)))
        have V2 := hid_ o4
        have HBW := hid_ (b2.grown g4 b2.size (fun i hi => by injection hi with hi; omega))
        simp only [Act.put, List.setIfInBounds_toArray, List.set_cons_succ, List.set_cons_zero]
        clear o1 g1 e1 o4 g4 e4 m1 m2 n2 b1 b2 z1
        refine hK _ _ ?_; clear hK K
        refine wpAny_ready (rs := [14]) (by kernel_rfl) (by simp) ?_
        refine AllReady.cons rfl (fun K hK => ?_) AllReady.nil
        go_simp
        refine hK _ _ ?_; clear hK K
        refine wpAny_ready (rs := [15]) (by kernel_rfl) (by simp) ?_
        refine AllReady.cons rfl (fun K hK => ?_) AllReady.nil
        go_simp
        refine hK _ _ ?_; clear hK K
        refine wpAny_done (by kernel_rfl) ?_ _
        go_wp2
        go_meet
        exact FIN.out _ _ _ _ _ V1.out V2.out HBW.out
  case rest =>
    obtain ⟨A', c', B', d', rfl, rfl, R1, R2, hb⟩ := hcut
    have HB := hid_ hb
    have HR1 := hid_ R1
    have HR2 := hid_ R2
    clear hmk hmn hs1 hs2 hb X1 X2 R1 R2
    have v1 := fun j => conv_strn (HR1.out.drewN j) k c' L1.out
    have v2 := fun j => conv_strn (HR2.out.drewN j) n d' L2.out
    go_wp2
    go_quiet (fail)
    clear v1 v2
    have W1 := hid_ (HR1.out.drewN nq)
    have W2 := hid_ (HR2.out.drewN nq)
    have HB1 := hid_ (below_drewN HB.out nq)
    have hzz : (wc.drewN nq).heap.size = wc.heap.size := rfl
    rw [← hzz] at W1 W2
    clear hzz HR1 HR2 HB
    generalize wc.drewN nq = w1 at *
    obtain ⟨u, hu⟩ : ∃ u, u = min k n := ⟨_, rfl⟩
    have c1 := mix8_any A' B' c' d' x y u k n w1 L1.out L2.out hu W1.out W2.out (by omega) (by omega) (by omega)
    have lm : (mixB x y).length = u := by rw [mixB_len, L1.out, L2.out, hu]
    have LM := hid_ lm
    have hun : Hid (u = min u n) := hid_ (by omega)
    have HU := hid_ hu
    have hu2 : u ≤ 200 := by omega
    have huk : u ≤ k := by omega
    clear hu
    rename_i K hK
    refine hK _ _ ?_
    go_upto_region 4 with (go_at_call 23; ((with_reducible refine c1.mono ?_); rintro e w2 ⟨rfl, g1, g2⟩))
    have HM := hid_ g2
    have HB2 := hid_ g1
    clear c1 g1 g2 lm
    have c2 := mix8_any (some ⟨w1.heap.size, 0, none⟩) B' u d' (mixB x y) y u u n w2 LM.out L2.out hun.out (HM.out.rd HM.out.lt) ((W2.out.below HB2.out).more HB2.out.size) (by omega) (by omega) (by omega)
    have LN := hid_ (mix_back x y)
    rw [L1.out, L2.out, ← HU.out] at LN
    rw [LN.out] at c2
    have hlx : Hid ((x.take u).length = u) := hid_ (by have := L1.out; rw [List.length_take]; omega)
    clear LN
    go_upto_region 5 with (go_at_call 23; ((with_reducible refine c2.mono ?_); rintro e w3 ⟨rfl, g1, g2⟩))
    have HN := hid_ g2
    have HB3 := hid_ g1
    clear c2 g1 g2
    have b13 : Below w1.heap.size w1 w3 := HB2.out.trans (HB3.out.mono HB2.out.size)
    have Y1 := hid_ ((W1.out.below b13).more b13.size)
    have Y2 := hid_ ((W2.out.below b13).more b13.size)
    have YM := hid_ ((HM.out.below HB3.out HM.out.lt).rd (B := w3.heap.size) (by have := HB2.out.size; have := HB3.out.size; have := HM.out.lt; omega))
    have YN := hid_ (HN.out.rd HN.out.lt)
    have HBB := hid_ (HB1.out.trans (b13.mono HB1.out.size))
    clear b13 HB1 HB2 HB3 HM HN W1 W2
    generalize w1.heap.size = gm at *
    generalize w2.heap.size = gn at *
    obtain ⟨sb, hsb'⟩ : ∃ sb, (x == y) = sb := ⟨_, rfl⟩
    have hsb : ((strOf x).toList == (strOf y).toList) = sb := by rw [strOf_beq, hsb']
    have P1 : Hid (∀ W : World, SmC w3 W → Calls Try.prog 24 #[] W fun e w' => e = .returned (.bool true) ∧ SmC w3 w') := hid_ (fun W h => (turns_any W).mono fun e w' hh => ⟨hh.1, h.trans (hh.2.mono h.size)⟩)
    have P2 : Hid (∀ W : World, SmC w3 W → Calls Try.prog 25 #[.slice A' k c', .slice B' n d'] W fun e w' => e = .returned (.bool sb) ∧ SmC w3 w') := hid_ (fun W h => (same_any A' B' c' d' x y k n W L1.out L2.out ((Y1.out.below h).more h.size) ((Y2.out.below h).more h.size) (by omega) (by omega)).mono fun e w' hh => ⟨by rw [hh.1, hsb'], h.trans (hh.2.mono h.size)⟩)
    refine wp_region_any (by kernel_rfl) ?_
    change wpAny _ _ _ _ _ _ _ (World.drew _)
    refine wpAny_quiet (C := SmC w3) 11 0 11 35 rfl (by decide +kernel) (by decide +kernel) (by decide +kernel) (by decide +kernel) (by decide +kernel) ((Below.refl _ w3).drew) ?_
    simp only [List.drop_zero, List.take_succ_cons, List.take_zero]
    repeat (go_big_quiet_want; (first
      | (refine BigFrame.quiet_move _ rfl ?_; go_simp)
      | (refine quiet_call (.bool true) 24 #[] ?_ P1.out ?_; (focus (intro W; go_simp; done)); go_simp)
      | (refine quiet_call (.bool sb) 25 #[.slice A' k c', .slice B' n d'] ?_ P2.out ?_; (focus (intro W; go_simp; done)); go_simp)
      | (refine quiet_run (.bool sb) ?_ ?_; (focus (intro W hW; go_simp; done)); go_simp)
      | (refine quiet_run (.bool true) ?_ ?_; (focus (intro W hW; go_simp; done)); go_simp)); go_big_quiet_on)
    refine wpQuiet_nil ?_
    intro w4 hw4
    have HW4 := hid_ hw4
    clear hw4
    have cv := OwnT.of_string w4 w4.heap.size x (Nat.le_refl _) (by have := L1.out; unfold maxLen; omega)
    rw [L1.out] at cv
    obtain ⟨cv1, cv2⟩ := cv
    have hg1 := grownCap_ge w4 k 0 5
    generalize grownCap w4 k 0 5 = G at *
    have b5 : Below w4.heap.size w4 (w4.drew.alloc (.cells (bytesRow (strOf x) G) 5 ((bytesRow (strOf x) G).size, (bytesRow (strOf x) G).size + 1))) := ((Below.refl _ _).drew).alloc (Nat.le_refl _) _
    refine wpAny_take (i := 11) (v := .slice A' k c') rfl (by kernel_rfl) (by kernel_rfl) (by kernel_rfl) (fun _ _ _ h => h) (Or.inl ⟨by rfl, by intro W; go_simp⟩) ?_
    simp only [Act.put, List.setIfInBounds_toArray, List.set_cons_succ, List.set_cons_zero]
    refine wpAny_take (i := 12) (v := .string (strOf x)) rfl (by kernel_rfl) (by kernel_rfl) (by kernel_rfl) (fun _ _ _ h => h) (Or.inl ⟨by rfl, by intro W; go_simp⟩) ?_
    simp only [Act.put, List.setIfInBounds_toArray, List.set_cons_succ, List.set_cons_zero]
    refine wpAny_ready (rs := [13]) (by kernel_rfl) (by simp) ?_
    refine AllReady.cons rfl (fun K hK => ?_) AllReady.nil
    go_simp
    refine hK _ _ ?_; clear hK K
    obtain ⟨w5, hw5⟩ : ∃ W, Hid (w4.drew.alloc (.cells (bytesRow (strOf x) G) 5 ((bytesRow (strOf x) G).size, (bytesRow (strOf x) G).size + 1)) = W) := ⟨_, rfl⟩
    change wpAny _ _ _ _ _ _ _ (w4.drew.alloc (.cells (bytesRow (strOf x) G) 5 ((bytesRow (strOf x) G).size, (bytesRow (strOf x) G).size + 1)))
    rw [hw5.out] at cv2 b5 ⊢
    have cS := same_any A' (some ⟨w4.heap.size, 0, none⟩) c' G x x k k w5 L1.out L1.out ((((Y1.out.below HW4.out).more HW4.out.size).below b5).more b5.size) cv2.rd.1 (by omega) (by omega)
    rw [beq_self_eq_true] at cS
    have B5 := hid_ b5
    generalize w4.heap.size = gx at cS ⊢
    clear cv1 cv2 b5 hw5 hg1
    refine wpAny_ready (rs := [14]) (by kernel_rfl) (by simp) ?_
    refine AllReady.cons rfl (fun K hK => ?_) AllReady.nil
    go_simp
    go_at_call 25
    refine cS.mono ?_
    rintro e w6 ⟨rfl, g6⟩
    refine hK _ _ ?_; clear hK K
    have b36 := (HW4.out : Below w3.heap.size w3 w4).trans ((B5.out.trans (g6.mono B5.out.size)).mono HW4.out.size)
    have Z1 := (Y1.out.below b36).more b36.size
    have Z2 := (Y2.out.below b36).more b36.size
    have ZM := (YM.out.below b36).more b36.size
    have ZN := (YN.out.below b36).more b36.size
    have HB6 := hid_ (HBB.out.trans (b36.mono HBB.out.size))
    clear g6 b36 cS HW4 B5
    have V1 : Hid (∀ W : World, SmC w6 W → (convert 22 9 (.slice A' k c')).run Try.prog W = .ok (.string (strOf x)) W) := hid_ (fun W h => conv_strn (Z1.below h) k c' L1.out)
    have V2 : Hid (∀ W : World, SmC w6 W → (convert 22 9 (.slice B' n d')).run Try.prog W = .ok (.string (strOf y)) W) := hid_ (fun W h => conv_strn (Z2.below h) n d' L2.out)
    have V3 : Hid (∀ W : World, SmC w6 W → (convert 22 9 (.slice (some ⟨gm, 0, none⟩) u u)).run Try.prog W = .ok (.string (strOf (mixB x y))) W) := hid_ (fun W h => conv_strn (ZM.below h) u u LM.out)
    have V4 : Hid (∀ W : World, SmC w6 W → (convert 22 9 (.slice (some ⟨gn, 0, none⟩) u u)).run Try.prog W = .ok (.string (strOf (x.take u))) W) := hid_ (fun W h => conv_strn (ZN.below h) u u hlx.out)
    have P3 : Hid (∀ W : World, SmC w6 W → Calls Try.prog 26 #[.string (strOf x), .string (strOf y)] W fun e w' => e = .returned (.string (strOf (mixB x y))) ∧ SmC w6 w') := hid_ (fun W h => (refMix_any x y k n u W L1.out L2.out HU.out (by omega) (by omega)).mono fun e w' hh => ⟨hh.1, h.trans (hh.2.mono h.size)⟩)
    have htk := strOf_take x u
    have hsz : (strOf x).size = k := by rw [strOf_size, L1.out]
    have tu : (u : Int) ≤ (k : Int) := by omega
    clear Z1 Z2 ZM ZN
    refine wpAny_quiet (C := SmC w6) 46 15 31 0 rfl (by decide +kernel) (by decide +kernel) (by decide +kernel) (by decide +kernel) (by decide +kernel) (Below.refl _ w6) ?_
    simp only [List.drop_zero, List.drop_succ_cons, List.take_succ_cons, List.take_zero]
    repeat (go_big_quiet_want; (first
      | (refine BigFrame.quiet_move _ rfl ?_; go_simp)
      | (refine BigFrame.quiet_assign _ rfl ?_; go_simp)
      | (refine quiet_call (.string (strOf (mixB x y))) 26 #[.string (strOf x), .string (strOf y)] ?_ P3.out ?_; (focus (intro W; go_simp; done)); go_simp)
      | (refine quiet_run (.bool true) ?_ ?_; (focus (intro W hW; go_simp; done)); go_simp)
      | (refine quiet_run (.int .i64 (u : Int)) ?_ ?_; (focus (intro W hW; go_simp; done)); go_simp)
      | (refine quiet_run (.string (strOf x)) ?_ ?_; (focus (intro W hW; have h := V1.out W hW; go_simp; done)); go_simp)
      | (refine quiet_run (.string (strOf y)) ?_ ?_; (focus (intro W hW; have h := V2.out W hW; go_simp; done)); go_simp)
      | (refine quiet_run (.string (strOf (mixB x y))) ?_ ?_; (focus (intro W hW; have h := V3.out W hW; go_simp; done)); go_simp)
      | (refine quiet_run (.string (strOf (x.take u))) ?_ ?_; (focus (intro W hW; have h := V4.out W hW; go_simp; done)); go_simp)); go_big_quiet_on)
    refine wpQuiet_nil ?_
    intro W hW
    have HW := hid_ hW
    clear hW htk
    refine wpAny_done (by kernel_rfl) ?_ _
    go_wp2
    go_ret
    exact ⟨rfl, HB6.out.trans (HW.out.mono HB6.out.size)⟩

set_option maxRecDepth 100000 in
theorem lifted (os : Os) (started : os.Started) (H : Type) (enc : TypeId × Value → H) :
    ReturnsInHanded {} Try.checked os 3 .any (Rows.bitsSameSpec.pre6 enc Try.prog Try.f3 Rows.bitsSameRow.domain false) (Rows.bitsSameSpec.post enc Try.prog Try.f3 false true false false) := by
  refine returnsInHanded_of_change (C := Try.checked) own_ started (by kernel_rfl) Try.func3
    (ChangeSpec.witness6 (enc := enc) (C := Try.checked) false ⟨#[], #[.slice none 0 0, .slice none 0 0], []⟩ 8 (by kernel_rfl) (by kernel_rfl) (by kernel_rfl) (by kernel_rfl)) ?_
  intro W base args ds gs before hval0 hW hcnd _
  have hval : ∀ (j : Nat) t v, Try.f3.params[j]? = some t → args[j]? = some v → Value.okWide Try.prog W .any base t v := hval0
  have hW' := hW
  obtain ⟨p, q, hA0, hV, rfl, hfz, hnd⟩ := hW
  have hA : DataW.TrodAll enc Try.prog W 0 (fun _ => true) true Try.f3.params.toList args.toList ds p := hA0
  rw [Try.params3] at hA hval
  obtain ⟨v0, vs0, d0, ds0, p0, q0, hargs, rfl, rfl, h0, r0⟩ := trodAll_cons hA
  obtain ⟨v1, vs1, d1, ds1, p1, q1, rfl, rfl, rfl, h1, r1⟩ := trodAll_cons r0
  obtain ⟨rfl, rfl, rfl⟩ := trodAll_nil r1
  obtain rfl : args = #[v0, v1] := by cases args; simp_all
  obtain ⟨rfl, rfl⟩ := trodVars_none hV
  obtain ⟨A0, l0, c0, rfl, hr0, hlc0, hcm0⟩ := open_bytes Try.underlying22 Try.underlying5 (by kernel_rfl) (hval 0 22 v0 rfl rfl) h0
  obtain ⟨A1, l1, c1, rfl, hr1, hlc1, hcm1⟩ := open_bytes Try.underlying22 Try.underlying5 (by kernel_rfl) (hval 1 22 v1 rfl rfl) h1
  refine (walk W A0 A1 l0 l1 c0 c1 hr0 hr1 hlc0 (by unfold maxLen at hcm0; omega) hlc1 (by unfold maxLen at hcm1; omega)).mono fun e W' ⟨he, hg⟩ => ⟨_, he, ?_⟩
  exact law_post laidOut_ (of_decide_eq_true (by kernel_rfl)) rfl rfl Try.underlying4 rfl hW' hg

theorem over : Rows.bitsSameRow.holds Try.pinned (OpenSpec.ofChange Rows.bitsSameSpec) :=
  OpenClaim.holds_of_wide 3 Try.f3 rfl rfl rfl rfl rfl rfl rfl ⟨rfl, rfl, rfl, rfl, rfl⟩ rfl rfl rfl rfl rfl (by kernel_rfl) Try.func3 (by kernel_rfl)
    (of_decide_eq_true (by kernel_rfl)) (by unfold Func.isWrapper; first | (rw [if_pos (by decide +kernel)]; kernel_rfl) | (rw [if_neg (by decide +kernel)]; exact ⟨rfl, rfl⟩))
    (fun os started H enc _ => lifted os started H enc)

theorem proved : Rows.BitsSameSaid := over
#print axioms proved
end Go.Proofs.Ytilgpblfdfhioaa.bitsSame
