/-
  What takes a message's parts: lists.
-/
import Derived.Test.YtnlipmcnpekifaaMoi
import Derived.Test.YtnlipmcnpekifaaGrs
namespace Go.Proofs.Ytnlipmcnpekifaa
set_option maxRecDepth 100000
open Go.RowKit
set_option linter.unusedVariables false
set_option linter.unusedSimpArgs false

theorem infoInt : (Try.prog.info? 3).map (fun i => (i.size, i.bytes, i.zero.map (·.cells.size))) = some (intE.k, 8, some intE.k) := by kernel_rfl
theorem infoDig : (Try.prog.info? 34).map (fun i => (i.size, i.bytes, i.zero.map (·.cells.size))) = some (digE.k, 32, some digE.k) := by kernel_rfl
theorem infoKr : (Try.prog.info? 37).map (fun i => (i.size, i.bytes, i.zero.map (·.cells.size))) = some (krE.k, 56, some krE.k) := by kernel_rfl
theorem InF.unt {w w' : World} {gi : Nat} {l : List UInt8} {e : Int} {F : List Nat} (h : InF w gi l e F) (hb : Below w.heap.size w w') : InF w' gi l e F := h.apart (G := []) (Untouched.of_below hb) (fun _ _ => by simp)
theorem InF.grownI {w w' : World} {gi : Nat} {l : List UInt8} {e : Int} {F : List Nat} {own : Option Nat} {base : Nat} (h : InF w gi l e F) (hg : w.grownBy w' own) (hF : ∀ k ∈ F, k < base) (ho : ∀ k, own = some k → base ≤ k) : InF w' gi l e F :=
  h.apart (G := own.toList) ⟨hg.os, hg.tape, hg.output, hg.size, fun b hb hn => hg.block b hb (fun e => hn (by rw [← e]; simp))⟩ (fun k hk hm => by
    cases own with
    | none => simp at hm
    | some x => simp at hm; have := ho x rfl; have := hF k hk; omega)
theorem Untouched.grownU {w w1 w' : World} {G : List Nat} {own : Option Nat} (h : Untouched G w w1) (hg : w1.grownBy w' own) (ho : ∀ k, own = some k → w.heap.size ≤ k) : Untouched G w w' :=
  ⟨hg.os.trans h.os, hg.tape.trans h.tape, hg.output.trans h.output, Nat.le_trans h.size hg.size, fun k hk hn => (hg.block k (Nat.lt_of_lt_of_le hk h.size) (fun e => by have := ho k e.symm; omega)).trans (h.block k hk hn)⟩
theorem os_snoc {β : Type} {L : List β} {x : β} {P : β → Prop} (h : ∀ q ∈ L, P q) (hx : P x) : ∀ q ∈ L ++ [x], P q := fun q hq => by
  rcases List.mem_append.1 hq with hq | hq
  · exact h q hq
  · rw [List.mem_singleton.1 hq]; exact hx
theorem Own8.row_apart {α : Type} {N : Enc α} {te : TypeId} {w w' : World} {base b2 : Nat} {v u : Value} {l : List UInt8} {L : List α} (h : Own8 w base v l) (ho : OwnG N te w b2 u L) (hte : te ≠ 5) (hg : w.grownBy w' u.ownBlock) : Own8 w' base v l := by
  refine h.kept hg ?_
  cases hv : v.ownBlock with
  | none => exact .inl rfl
  | some k =>
    refine .inr fun e => ?_
    rcases h.2 with ⟨hn, _⟩ | ⟨g, cap, cur, rfl, _, hb, _⟩
    · rw [hn] at hv; cases hv
    · rcases ho.2 with ⟨hn, _⟩ | ⟨g2, cap2, cur2, rfl, _, hb2, _⟩
      · rw [hn] at e; cases e
      · have e1 : g = k := by injection hv
        have e2 : k = g2 := by injection e
        rw [e1, e2, hb2] at hb
        injection hb with hb
        injection hb with _ hb
        exact hte hb
set_option maxRecDepth 100000 in
set_option maxHeartbeats 4000000 in
theorem takes_at (w : World) (gi : Nat) (l : List UInt8) (er : Int) (F : List Nat) (h : InF w gi l er F) (hF : ∀ k ∈ F, k < w.heap.size) :
    Calls Try.prog 36 #[IN gi, .func (.func 37) #[IN gi] #[]] w fun e w' => ∃ A n c, e = .returned (.slice A n c) ∧ OwnG intE 3 w' w.heap.size (.slice A n c) (cntF atF l er).1 ∧ InF w' gi (cntF atF l er).2.1 (cntF atF l er).2.2 F ∧ Untouched [gi] w w' := by
  obtain ⟨w1, hw1⟩ : ∃ x, w.alloc (.cells #[.pointer (some ⟨gi, 0, none⟩)] 79) = x := ⟨_, rfl⟩
  have B1 := show Below w.heap.size w w1 by rw [← hw1]; exact (Below.refl _ _).alloc (Nat.le_refl _) _
  have HB := hidm_ B1
  have hcP : w1.cell? ⟨w.heap.size, 0, none⟩ = some (.pointer (some ⟨gi, 0, none⟩)) := (show Bk w1 w.heap.size 79 #[.pointer (some ⟨gi, 0, none⟩)] by rw [← hw1]; exact Bk.new w _ _).cell 0
  have I1 := hidm_ (h.unt B1)
  have HF := hidm_ hF
  have HGI := hidm_ (hF gi h.lt.1)
  have cs := insmall_any w1 gi 255 l er F I1.out (by omega) (by omega)
  obtain ⟨v, l1, e1, hv⟩ : ∃ a b c, numS 1 255 l er = (a, b, c) := ⟨_, _, _, rfl⟩
  have v0 : 0 ≤ v := by have := numS_nn 1 255 l er; rw [hv] at this; exact this
  have v1 : v ≤ 255 := by have := numS_most 1 255 (by omega) l er; rw [hv] at this; exact this
  have LL := hidm_ (show l1.length ≤ l.length by have := numS_le 1 255 l er; rw [hv] at this; exact this)
  unfold NumP at cs
  rw [hv] at cs
  simp only at cs
  obtain ⟨q, hq⟩ : ∃ q : Nat, v = (q : Int) := ⟨v.toNat, by omega⟩
  subst hq
  have q255 : q ≤ 255 := by omega
  have HC := hidm_ (show cntF atF l er = rdF atF q l1 e1 from cntF_of hv rfl)
  rw [HC.out]
  unfold IN
  have HSZ := hidm_ (show ∀ wr, Untouched [gi] w wr → ∀ k ∈ F, k < wr.heap.size from fun wr hu k hk => Nat.lt_of_lt_of_le (hF k hk) hu.size)
  clear h hF hv v0 v1 B1
  go_enter Try.func36, Try.ntmps36
  go_upto_region 3 with (go_at_call 32; ((with_reducible refine cs.mono ?_); clear cs; rintro e w2 ⟨rfl, h1, h2⟩; have I2 := hidm_ h1; have U2 := hidm_ ((Untouched.of_below (F := [gi]) HB.out).trans (Grew.refl _ _) h2); clear h1 h2))
  clear hcP hw1
  go_loopw [9, 5] (fun i o wr => ∃ (k : Nat) (A' : Option Addr) (c' : Nat), k ≤ q ∧ i = .int .i64 k ∧ o = .slice A' k c' ∧ Hid (OwnG intE 3 wr w.heap.size (.slice A' k c') (rdF atF k l1 e1).1) ∧ Hid (InF wr gi (rdF atF k l1 e1).2.1 (rdF atF k l1 e1).2.2 F) ∧ Hid (Untouched [gi] w wr)) (fun i _ _ => q - (intOf i).toNat)
  case atStart => exact ⟨0, none, 0, Nat.zero_le _, rfl, rfl, hidm_ (OwnG.nil_ _ _ _), I2, U2⟩
  case round =>
    obtain ⟨k, A', c', hk, rfl, rfl, HO, HI, HU⟩ := hrel
    by_cases hlt : k < q
    · have tl : (k : Int) < (q : Int) := by omega
      clear I2 U2
      obtain ⟨lk, hlk⟩ : ∃ x, (rdF atF k l1 e1).2.1 = x := ⟨_, rfl⟩
      obtain ⟨ek, hek⟩ : ∃ x, (rdF atF k l1 e1).2.2 = x := ⟨_, rfl⟩
      obtain ⟨ms, hms⟩ : ∃ x, (rdF atF k l1 e1).1 = x := ⟨_, rfl⟩
      have HML := hidm_ (show ms.length = k by rw [← hms]; exact rdF_len l1 e1 k)
      rw [hlk, hek] at HI
      have ci := at_t wr gi lk ek F HI.out (HSZ.out wr HU.out)
      obtain ⟨z, l2, e2, hz⟩ : ∃ a b c, atF lk ek = (a, b, c) := ⟨_, _, _, rfl⟩
      have HR1 := hidm_ (show rdF atF (k + 1) l1 e1 = (ms ++ [z], l2, e2) from rdF_succ (by rw [← hms, ← hlk, ← hek]) hz)
      rw [hz] at ci
      unfold ItP at ci
      simp only at ci
      rw [hms] at HO
      unfold IN at ci
      have LT := hidm_ HO.out.lt
      clear hlk hek hms hz
      go_wp2_with (first
        | (go_at_call 37; ((with_reducible refine ci.mono ?_); clear ci; rintro e w5 ⟨_, rfl, rfl, hI5, hU5⟩; have I5 := hidm_ hI5; have U5 := hidm_ hU5; have O5 := hidm_ (HO.out.keep U5.out (fun k hk hm => by have h9 := List.mem_singleton.1 hm; have := (LT.out k hk).1; have := HGI.out; omega)); clear hI5 hU5; obtain ⟨w6, hw6⟩ : ∃ x, w5.alloc (.cells #[.int .i64 z] 3) = x := ⟨_, rfl⟩; have B6 := hidm_ (show Below w5.heap.size w5 w6 by rw [← hw6]; exact (Below.refl _ _).alloc (Nat.le_refl _) _); have K6 := hidm_ (show Bk w6 w5.heap.size 3 (intE.c z).toArray by rw [← hw6]; exact Bk.new w5 _ _); have RA := hidm_ (RdG.of_block K6.out K6.out.lt); have O6 := hidm_ (O5.out.below B6.out (Nat.le_refl _))))
        | (refine wpList_appG rfl (.tmp 11) (.tmp 14) rfl Try.underlying24 infoInt O6.out rfl 1 1 rfl RA.out rfl (by have := HML.out; have := q255; omega) (by decide) (Nat.le_trans HU.out.size (Nat.le_trans U5.out.size B6.out.size)) ?_; intro A2 c2 w7 k1 k2 k3; rw [HML.out] at k1 k3 ⊢; have O7 := hidm_ k1; have I7 := hidm_ ((I5.out.unt B6.out).grownI k2 HF.out (fun j hj => (O6.out.lt j hj).1)); have U7 := hidm_ (((HU.out.trans (Grew.refl _ _) U5.out).trans (Grew.refl _ _) (Untouched.of_below (F := [gi]) B6.out)).grownU k2 (fun j hj => (O6.out.lt j hj).1)); clear k1 k2 k3))
      go_roundw
      case rel => exact ⟨k + 1, A2, c2, by omega, by go_num, rfl, hidm_ (by rw [HR1.out]; exact O7.out), hidm_ (by rw [HR1.out]; exact I7.out), U7⟩
      case measure => simp [intOf]; omega
    · have tl : ¬ (k : Int) < (q : Int) := by omega
      obtain rfl : k = q := by omega
      clear I2 U2
      go_wp2
      go_ret
      exact ⟨A', k, c', rfl, HO.out, HI.out, HU.out⟩
set_option maxRecDepth 100000 in
set_option maxHeartbeats 4000000 in
theorem takes_dig (w : World) (gi : Nat) (l : List UInt8) (er : Int) (F : List Nat) (h : InF w gi l er F) (hF : ∀ k ∈ F, k < w.heap.size) (hm : l.length ≤ 140737488355328) :
    Calls Try.prog 38 #[IN gi, .func (.func 35) #[IN gi] #[]] w fun e w' => ∃ A n c, e = .returned (.slice A n c) ∧ OwnG digE 34 w' w.heap.size (.slice A n c) (cntF digF l er).1 ∧ InF w' gi (cntF digF l er).2.1 (cntF digF l er).2.2 F ∧ Untouched [gi] w w' := by
  obtain ⟨w1, hw1⟩ : ∃ x, w.alloc (.cells #[.pointer (some ⟨gi, 0, none⟩)] 79) = x := ⟨_, rfl⟩
  have B1 := show Below w.heap.size w w1 by rw [← hw1]; exact (Below.refl _ _).alloc (Nat.le_refl _) _
  have HB := hidm_ B1
  have hcP : w1.cell? ⟨w.heap.size, 0, none⟩ = some (.pointer (some ⟨gi, 0, none⟩)) := (show Bk w1 w.heap.size 79 #[.pointer (some ⟨gi, 0, none⟩)] by rw [← hw1]; exact Bk.new w _ _).cell 0
  have I1 := hidm_ (h.unt B1)
  have HF := hidm_ hF
  have HGI := hidm_ (hF gi h.lt.1)
  have cs := insmall_any w1 gi 255 l er F I1.out (by omega) (by omega)
  obtain ⟨v, l1, e1, hv⟩ : ∃ a b c, numS 1 255 l er = (a, b, c) := ⟨_, _, _, rfl⟩
  have v0 : 0 ≤ v := by have := numS_nn 1 255 l er; rw [hv] at this; exact this
  have v1 : v ≤ 255 := by have := numS_most 1 255 (by omega) l er; rw [hv] at this; exact this
  have LL := hidm_ (show l1.length ≤ l.length by have := numS_le 1 255 l er; rw [hv] at this; exact this)
  unfold NumP at cs
  rw [hv] at cs
  simp only at cs
  obtain ⟨q, hq⟩ : ∃ q : Nat, v = (q : Int) := ⟨v.toNat, by omega⟩
  subst hq
  have q255 : q ≤ 255 := by omega
  have HC := hidm_ (show cntF digF l er = rdF digF q l1 e1 from cntF_of hv rfl)
  rw [HC.out]
  have HMM := hidm_ hm
  clear hm
  unfold IN
  have HSZ := hidm_ (show ∀ wr, Untouched [gi] w wr → ∀ k ∈ F, k < wr.heap.size from fun wr hu k hk => Nat.lt_of_lt_of_le (hF k hk) hu.size)
  clear h hF hv v0 v1 B1
  go_enter Try.func38, Try.ntmps38
  go_upto_region 3 with (go_at_call 32; ((with_reducible refine cs.mono ?_); clear cs; rintro e w2 ⟨rfl, h1, h2⟩; have I2 := hidm_ h1; have U2 := hidm_ ((Untouched.of_below (F := [gi]) HB.out).trans (Grew.refl _ _) h2); clear h1 h2))
  clear hcP hw1
  go_loopw [9, 5] (fun i o wr => ∃ (k : Nat) (A' : Option Addr) (c' : Nat), k ≤ q ∧ i = .int .i64 k ∧ o = .slice A' k c' ∧ Hid (OwnG digE 34 wr w.heap.size (.slice A' k c') (rdF digF k l1 e1).1) ∧ Hid (InF wr gi (rdF digF k l1 e1).2.1 (rdF digF k l1 e1).2.2 F) ∧ Hid (Untouched [gi] w wr)) (fun i _ _ => q - (intOf i).toNat)
  case atStart => exact ⟨0, none, 0, Nat.zero_le _, rfl, rfl, hidm_ (OwnG.nil_ _ _ _), I2, U2⟩
  case round =>
    obtain ⟨k, A', c', hk, rfl, rfl, HO, HI, HU⟩ := hrel
    by_cases hlt : k < q
    · have tl : (k : Int) < (q : Int) := by omega
      clear I2 U2
      obtain ⟨lk, hlk⟩ : ∃ x, (rdF digF k l1 e1).2.1 = x := ⟨_, rfl⟩
      obtain ⟨ek, hek⟩ : ∃ x, (rdF digF k l1 e1).2.2 = x := ⟨_, rfl⟩
      obtain ⟨ms, hms⟩ : ∃ x, (rdF digF k l1 e1).1 = x := ⟨_, rfl⟩
      have HML := hidm_ (show ms.length = k by rw [← hms]; exact rdF_len l1 e1 k)
      rw [hlk, hek] at HI
      have ci := fixed_t wr gi lk ek F HI.out (HSZ.out wr HU.out) (by rw [← hlk]; have := rdF_le (f := digF) digF_le l1 e1 k; have := LL.out; have := HMM.out; omega)
      obtain ⟨z, l2, e2, hz⟩ : ∃ a b c, digF lk ek = (a, b, c) := ⟨_, _, _, rfl⟩
      have HR1 := hidm_ (show rdF digF (k + 1) l1 e1 = (ms ++ [z], l2, e2) from rdF_succ (by rw [← hms, ← hlk, ← hek]) hz)
      rw [hz] at ci
      unfold ItP at ci
      simp only at ci
      rw [hms] at HO
      unfold IN at ci
      have LT := hidm_ HO.out.lt
      clear hlk hek hms hz
      go_wp2_with (first
        | (go_at_call 35; ((with_reducible refine ci.mono ?_); clear ci; rintro e w5 ⟨_, rfl, rfl, hI5, hU5⟩; have I5 := hidm_ hI5; have U5 := hidm_ hU5; have O5 := hidm_ (HO.out.keep U5.out (fun k hk hm => by have h9 := List.mem_singleton.1 hm; have := (LT.out k hk).1; have := HGI.out; omega)); clear hI5 hU5; obtain ⟨w6, hw6⟩ : ∃ x, w5.alloc (.cells (rowOf (pad32 z)) 34) = x := ⟨_, rfl⟩; have B6 := hidm_ (show Below w5.heap.size w5 w6 by rw [← hw6]; exact (Below.refl _ _).alloc (Nat.le_refl _) _); have K6 := hidm_ (show Bk w6 w5.heap.size 34 (digE.c z).toArray by rw [← hw6]; exact Bk.new w5 _ _); have RA := hidm_ (RdG.of_block K6.out K6.out.lt); have O6 := hidm_ (O5.out.below B6.out (Nat.le_refl _))))
        | (refine wpList_oneG digE Try.underlying38 infoDig (by decide) rfl (.tmp 13) rfl (rowOf (pad32 z)) rfl z rfl ?_; rw [hw6])
        | (refine wpList_appG rfl (.tmp 11) (.tmp 14) rfl Try.underlying38 infoDig O6.out rfl 1 1 rfl RA.out rfl (by have := HML.out; have := q255; omega) (by decide) (Nat.le_trans HU.out.size (Nat.le_trans U5.out.size B6.out.size)) ?_; intro A2 c2 w7 k1 k2 k3; rw [HML.out] at k1 k3 ⊢; have O7 := hidm_ k1; have I7 := hidm_ ((I5.out.unt B6.out).grownI k2 HF.out (fun j hj => (O6.out.lt j hj).1)); have U7 := hidm_ (((HU.out.trans (Grew.refl _ _) U5.out).trans (Grew.refl _ _) (Untouched.of_below (F := [gi]) B6.out)).grownU k2 (fun j hj => (O6.out.lt j hj).1)); clear k1 k2 k3))
      go_roundw
      case rel => exact ⟨k + 1, A2, c2, by omega, by go_num, rfl, hidm_ (by rw [HR1.out]; exact O7.out), hidm_ (by rw [HR1.out]; exact I7.out), U7⟩
      case measure => simp [intOf]; omega
    · have tl : ¬ (k : Int) < (q : Int) := by omega
      obtain rfl : k = q := by omega
      clear I2 U2
      go_wp2
      go_ret
      exact ⟨A', k, c', rfl, HO.out, HI.out, HU.out⟩
set_option maxRecDepth 100000 in
set_option maxHeartbeats 4000000 in
theorem takes_row (w : World) (gi : Nat) (l : List UInt8) (er : Int) (F : List Nat) (h : InF w gi l er F) (hF : ∀ k ∈ F, k < w.heap.size) (hm : l.length ≤ 140737488355328) :
    Calls Try.prog 39 #[IN gi, .func (.func 34) #[IN gi] #[]] w fun e w' => ∃ A n c L, e = .returned (.slice A n c) ∧ (L : List KrA).map (·.r) = (cntF rowF l er).1 ∧ OwnG krE 37 w' w.heap.size (.slice A n c) L ∧ (∀ q ∈ L, Own8 w' w.heap.size (.slice q.sa q.r.set.length q.sc) q.r.set) ∧ InF w' gi (cntF rowF l er).2.1 (cntF rowF l er).2.2 F ∧ Untouched [gi] w w' := by
  obtain ⟨w1, hw1⟩ : ∃ x, w.alloc (.cells #[.pointer (some ⟨gi, 0, none⟩)] 79) = x := ⟨_, rfl⟩
  have B1 := show Below w.heap.size w w1 by rw [← hw1]; exact (Below.refl _ _).alloc (Nat.le_refl _) _
  have HB := hidm_ B1
  have hcP : w1.cell? ⟨w.heap.size, 0, none⟩ = some (.pointer (some ⟨gi, 0, none⟩)) := (show Bk w1 w.heap.size 79 #[.pointer (some ⟨gi, 0, none⟩)] by rw [← hw1]; exact Bk.new w _ _).cell 0
  have I1 := hidm_ (h.unt B1)
  have HF := hidm_ hF
  have HGI := hidm_ (hF gi h.lt.1)
  have cs := insmall_any w1 gi 255 l er F I1.out (by omega) (by omega)
  obtain ⟨v, l1, e1, hv⟩ : ∃ a b c, numS 1 255 l er = (a, b, c) := ⟨_, _, _, rfl⟩
  have v0 : 0 ≤ v := by have := numS_nn 1 255 l er; rw [hv] at this; exact this
  have v1 : v ≤ 255 := by have := numS_most 1 255 (by omega) l er; rw [hv] at this; exact this
  have LL := hidm_ (show l1.length ≤ l.length by have := numS_le 1 255 l er; rw [hv] at this; exact this)
  unfold NumP at cs
  rw [hv] at cs
  simp only at cs
  obtain ⟨q, hq⟩ : ∃ q : Nat, v = (q : Int) := ⟨v.toNat, by omega⟩
  subst hq
  have q255 : q ≤ 255 := by omega
  have HC := hidm_ (show cntF rowF l er = rdF rowF q l1 e1 from cntF_of hv rfl)
  rw [HC.out]
  have HMM := hidm_ hm
  clear hm
  unfold IN
  have HSZ := hidm_ (show ∀ wr, Untouched [gi] w wr → ∀ k ∈ F, k < wr.heap.size from fun wr hu k hk => Nat.lt_of_lt_of_le (hF k hk) hu.size)
  clear h hF hv v0 v1 B1
  go_enter Try.func39, Try.ntmps39
  go_upto_region 3 with (go_at_call 32; ((with_reducible refine cs.mono ?_); clear cs; rintro e w2 ⟨rfl, h1, h2⟩; have I2 := hidm_ h1; have U2 := hidm_ ((Untouched.of_below (F := [gi]) HB.out).trans (Grew.refl _ _) h2); clear h1 h2))
  clear hcP hw1
  go_loopw [9, 5] (fun i o wr => ∃ (k : Nat) (A' : Option Addr) (c' : Nat) (L : List KrA), k ≤ q ∧ i = .int .i64 k ∧ o = .slice A' k c' ∧ Hid (L.map (·.r) = (rdF rowF k l1 e1).1) ∧ Hid (∀ q ∈ L, Own8 wr w.heap.size (.slice q.sa q.r.set.length q.sc) q.r.set) ∧ Hid (OwnG krE 37 wr w.heap.size (.slice A' k c') L) ∧ Hid (InF wr gi (rdF rowF k l1 e1).2.1 (rdF rowF k l1 e1).2.2 F) ∧ Hid (Untouched [gi] w wr)) (fun i _ _ => q - (intOf i).toNat)
  case atStart => exact ⟨0, none, 0, [], Nat.zero_le _, rfl, rfl, hidm_ rfl, hidm_ (fun _ h => by cases h), hidm_ (OwnG.nil_ _ _ _), I2, U2⟩
  case round =>
    obtain ⟨k, A', c', L, hk, rfl, rfl, HL, HS, HO, HI, HU⟩ := hrel
    by_cases hlt : k < q
    · have tl : (k : Int) < (q : Int) := by omega
      clear I2 U2
      obtain ⟨lk, hlk⟩ : ∃ x, (rdF rowF k l1 e1).2.1 = x := ⟨_, rfl⟩
      obtain ⟨ek, hek⟩ : ∃ x, (rdF rowF k l1 e1).2.2 = x := ⟨_, rfl⟩
      obtain ⟨ms, hms⟩ : ∃ x, (rdF rowF k l1 e1).1 = x := ⟨_, rfl⟩
      have HML := hidm_ (show ms.length = k by rw [← hms]; exact rdF_len l1 e1 k)
      rw [hlk, hek] at HI
      have ci := row_t wr gi lk ek F HI.out (HSZ.out wr HU.out) (by rw [← hlk]; have := rdF_le (f := rowF) rowF_le l1 e1 k; have := LL.out; have := HMM.out; omega)
      obtain ⟨z, l2, e2, hz⟩ : ∃ a b c, rowF lk ek = (a, b, c) := ⟨_, _, _, rfl⟩
      have HR1 := hidm_ (show rdF rowF (k + 1) l1 e1 = (ms ++ [z], l2, e2) from rdF_succ (by rw [← hms, ← hlk, ← hek]) hz)
      rw [hz] at ci
      unfold ItP at ci
      simp only at ci
      unfold IN at ci
      have LT := hidm_ HO.out.lt
      have HL2 := hidm_ (HL.out.trans hms)
      clear hlk hek hms hz
      go_wp2_with (first
        | (go_at_call 34; ((with_reducible refine ci.mono ?_); clear ci; rintro e w5 ⟨_, rfl, ⟨A8, c8, rfl, hO8⟩, hI5, hU5⟩; have I5 := hidm_ hI5; have U5 := hidm_ hU5; have O5 := hidm_ (HO.out.keep U5.out (fun k hk hm => by have h9 := List.mem_singleton.1 hm; have := (LT.out k hk).1; have := HGI.out; omega)); have OS5 := hidm_ (os_snoc (P := fun q : KrA => Own8 w5 w.heap.size (.slice q.sa q.r.set.length q.sc) q.r.set) (x := (⟨z, A8, c8⟩ : KrA)) (fun q hq => (HS.out q hq).unt U5.out (fun k hk => by rw [List.mem_singleton.1 hk]; exact HGI.out)) (hO8.lower HU.out.size)); clear hO8; clear hI5 hU5; obtain ⟨w6, hw6⟩ : ∃ x, w5.alloc (.cells (krC ⟨⟨pad32 z.key, z.set⟩, A8, c8⟩).toArray 37) = x := ⟨_, rfl⟩; have B6 := hidm_ (show Below w5.heap.size w5 w6 by rw [← hw6]; exact (Below.refl _ _).alloc (Nat.le_refl _) _); have K6 := hidm_ (show Bk w6 w5.heap.size 37 (krE.c ⟨z, A8, c8⟩).toArray by rw [← hw6]; exact Bk.new w5 _ _); have RA := hidm_ (RdG.of_block K6.out K6.out.lt); have O6 := hidm_ (O5.out.below B6.out (Nat.le_refl _))))
        | (refine wpList_oneG krE Try.underlying39 infoKr (by decide) rfl (.tmp 13) rfl (krC ⟨⟨pad32 z.key, z.set⟩, A8, c8⟩).toArray rfl ⟨z, A8, c8⟩ rfl ?_; rw [hw6])
        | (refine wpList_appG rfl (.tmp 11) (.tmp 14) rfl Try.underlying39 infoKr O6.out rfl 1 1 rfl RA.out rfl (by have := HML.out; have := q255; have h9 := congrArg List.length HL.out; rw [List.length_map, rdF_len] at h9; rw [h9]; omega) (by decide) (Nat.le_trans HU.out.size (Nat.le_trans U5.out.size B6.out.size)) ?_; intro A2 c2 w7 k1 k2 k3; rw [show L.length = k from by have := congrArg List.length HL.out; rw [List.length_map, rdF_len] at this; exact this] at k1 k3 ⊢; have O7 := hidm_ k1; have I7 := hidm_ ((I5.out.unt B6.out).grownI k2 HF.out (fun j hj => (O6.out.lt j hj).1)); have U7 := hidm_ (((HU.out.trans (Grew.refl _ _) U5.out).trans (Grew.refl _ _) (Untouched.of_below (F := [gi]) B6.out)).grownU k2 (fun j hj => (O6.out.lt j hj).1)); have OS7 := hidm_ (show ∀ q ∈ L ++ [(⟨z, A8, c8⟩ : KrA)], Own8 w7 w.heap.size (.slice q.sa q.r.set.length q.sc) q.r.set from fun q hq => ((OS5.out q hq).below B6.out (Nat.le_refl _)).row_apart O6.out (by decide) k2); clear k1 k2 k3))
      go_roundw
      case rel => exact ⟨k + 1, A2, c2, L ++ [⟨z, A8, c8⟩], by omega, by go_num, rfl, hidm_ (by rw [HR1.out, List.map_append, HL2.out]; rfl), OS7, O7, hidm_ (by rw [HR1.out]; exact I7.out), U7⟩
      case measure => simp [intOf]; omega
    · have tl : ¬ (k : Int) < (q : Int) := by omega
      obtain rfl : k = q := by omega
      clear I2 U2
      go_wp2
      go_ret
      exact ⟨A', k, c', rfl, L, HL.out, HO.out, HS.out, HI.out, HU.out⟩
end Go.Proofs.Ytnlipmcnpekifaa
