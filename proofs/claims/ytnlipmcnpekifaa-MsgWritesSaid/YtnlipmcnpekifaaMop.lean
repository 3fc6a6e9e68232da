/-
  casketref22: take, numbers.
-/
import Derived.Test.YtnlipmcnpekifaaMoo
import Derived.Test.YtnlipmcnpekifaaGR
namespace Go.Proofs.Ytnlipmcnpekifaa
set_option maxRecDepth 100000
open Go.RowKit
set_option linter.unusedVariables false
set_option linter.unusedSimpArgs false

/-- The document's In: what is left is l, if there is no error. -/
def RiL (w : World) (g : Nat) (l : List UInt8) (e : Int) : Prop := ∃ l', RiF w g l' e ∧ (e = 0 → l' = l)
theorem RiL.lt {w : World} {g : Nat} {l : List UInt8} {e : Int} (h : RiL w g l e) : g < w.heap.size := by
  obtain ⟨l', h, _⟩ := h
  exact Bk.lt h
theorem RiL.unt {w w' : World} {g : Nat} {l : List UInt8} {e : Int} {F : List Nat} (h : RiL w g l e) (hu : Untouched F w w') (hn : g ∉ F) : RiL w' g l e := by
  obtain ⟨l', h, hs⟩ := h
  exact ⟨l', Bk.untouched h hu hn, hs⟩
theorem RiL.below {w w' : World} {g B : Nat} {l : List UInt8} {e : Int} (h : RiL w g l e) (hb : Below B w w') (hg : g < B) : RiL w' g l e := by
  obtain ⟨l', h, hs⟩ := h
  exact ⟨l', Bk.below h hb hg, hs⟩
theorem RiL.grown {w w' : World} {g : Nat} {l : List UInt8} {e : Int} {own : Option Nat} (h : RiL w g l e) (hg : w.grownBy w' own) (hn : some g ≠ own) : RiL w' g l e := by
  obtain ⟨l', h, hs⟩ := h
  exact ⟨l', Bk.grown h hg hn, hs⟩
theorem RiL.e1 {w : World} {g : Nat} {l : List UInt8} {e : Int} (h : RiL w g l e) : w.cell? ⟨g, 1, none⟩ = some (.int .i64 e) := by
  obtain ⟨l', h, hs⟩ := h
  exact Bk.cell h 1
theorem RiL.err {w : World} {g : Nat} {l m : List UInt8} {e : Int} (h : RiL w g l e) (he : e ≠ 0) : RiL w g m e := by
  obtain ⟨l', h, hs⟩ := h
  exact ⟨l', h, fun x => absurd x he⟩
def RvP (w : World) (g : Nat) (l : List UInt8) (e : Int) (v : Value) (r : Ending) (w' : World) : Prop := r = .returned v ∧ RiL w' g l e ∧ Untouched [g] w w'
theorem small_r (w : World) (g : Nat) (most : Int) (l : List UInt8) (e : Int) (h : RiL w g l e) (w0 : -9223372036854775808 ≤ most) (w1 : most ≤ 9223372036854775807) :
    Calls Try.prog 41 #[.pointer (some ⟨g, 0, none⟩), .int .i64 most] w (RvP w g (numS 1 most l e).2.1 (numS 1 most l e).2.2 (.int .i64 (numS 1 most l e).1)) := by
  obtain ⟨l', h, hs⟩ := h
  refine (refsmall_any w g most l' e h w0 w1).mono fun r w' hh => ?_
  obtain ⟨h1, h2, h3⟩ := hh
  obtain ⟨s1, s2, s3⟩ := numS_same 1 most l l' e hs
  rw [s1] at h1
  rw [s2] at h2
  exact ⟨h1, ⟨_, h2, s3⟩, h3⟩
theorem num_r (w : World) (g : Nat) (most : Int) (l : List UInt8) (e : Int) (h : RiL w g l e) (w0 : -9223372036854775808 ≤ most) (w1 : most ≤ 9223372036854775807) :
    Calls Try.prog 42 #[.pointer (some ⟨g, 0, none⟩), .int .i64 most] w (RvP w g (numS 8 most l e).2.1 (numS 8 most l e).2.2 (.int .i64 (numS 8 most l e).1)) := by
  obtain ⟨l', h, hs⟩ := h
  refine (refnum_any w g most l' e h w0 w1).mono fun r w' hh => ?_
  obtain ⟨h1, h2, h3⟩ := hh
  obtain ⟨s1, s2, s3⟩ := numS_same 8 most l l' e hs
  rw [s1] at h1
  rw [s2] at h2
  exact ⟨h1, ⟨_, h2, s3⟩, h3⟩
theorem fixed_r (w : World) (g : Nat) (l : List UInt8) (e : Int) (h : RiL w g l e) :
    Calls Try.prog 44 #[.pointer (some ⟨g, 0, none⟩), .int .i64 32] w (RvP w g (fixS 32 l e).2.1 (fixS 32 l e).2.2 (.string (strOf (fixS 32 l e).1))) := by
  obtain ⟨l', h, hs⟩ := h
  refine (reffixed_any w g 32 l' e h (by omega) (by omega)).mono fun r w' hh => ?_
  obtain ⟨h1, h2, h3⟩ := hh
  obtain ⟨s1, s2, s3⟩ := fixS_same 32 l l' e hs
  rw [s1] at h1
  rw [s2] at h2
  exact ⟨h1, ⟨_, h2, s3⟩, h3⟩
theorem bytes_r (w : World) (g : Nat) (most : Int) (l : List UInt8) (e : Int) (h : RiL w g l e) (hl : l.length ≤ 140737488355328) (w0 : -9223372036854775808 ≤ most) (w1 : most ≤ 9223372036854775807) :
    Calls Try.prog 62 #[.pointer (some ⟨g, 0, none⟩), .int .i64 most] w (RvP w g (bytS most l e).2.1 (bytS most l e).2.2 (.string (strOf (bytS most l e).1))) := by
  obtain ⟨l', h, hs⟩ := h
  refine (refbytes_any w g most l' e h (fun x => by rw [hs x]; exact hl) w0 w1).mono fun r w' hh => ?_
  obtain ⟨h1, ⟨l2', h2, h4⟩, h3⟩ := hh
  obtain ⟨s1, s2, s3⟩ := bytS_same most l l' e hs
  rw [s1] at h1
  rw [s2] at h2 h4
  exact ⟨h1, ⟨l2', h2, fun x => (h4 x).trans (s3 x)⟩, h3⟩
theorem end_r (w : World) (g : Nat) (l : List UInt8) (e : Int) (h : RiL w g l e) :
    Calls Try.prog 46 #[.pointer (some ⟨g, 0, none⟩)] w fun r w' => r = .returned (.int .i64 (endS l e)) ∧ w = w' := by
  obtain ⟨l', h, hs⟩ := h
  refine (refend_any w g l' e h).mono fun r w' hh => ?_
  have hE : endS l' e = endS l e := by
    by_cases he : e = 0
    · rw [hs he]
    · unfold endS
      rw [if_pos he, if_pos he]
  rw [hE] at hh
  exact hh
def rr (x y : List UInt8) : Array Value := #[.string (strOf x), .string (strOf y)]
theorem zRr (W : World) : (zeroValue 23).run Try.prog W = .ok (.agg (rr [] [])) W := by kernel_rfl
theorem iRr (x y : List UInt8) : (Try.prog.info? 23).map (·.size) = some (rr x y).size := by kernel_rfl
theorem built_r1 (x : List UInt8) : Try.prog.built 23 [(0, .string (strOf x))] = some (rr x []) := by kernel_rfl
theorem rr_one (x y : List UInt8) : (rr x y).all (·.oneCell') = true := by simp [rr, Value.oneCell']
theorem set_r1 (x y : List UInt8) : (rr x []).setIfInBounds 1 (.string (strOf y)) = rr x y := rfl
theorem unt_put {w w' : World} {g : Nat} (h : w.grownBy w' (some g)) : Untouched [g] w w' := ⟨h.os, h.tape, h.output, h.size, fun b hb hne => h.block b hb (fun e => by injection e with e; exact hne (by rw [e]; simp))⟩
theorem unt_low {w w1 w' : World} {g : Nat} {F : List Nat} (h : Untouched F w w1) (hu : Untouched [g] w1 w') (hg : w.heap.size ≤ g) : Untouched F w w' :=
  ⟨hu.os.trans h.os, hu.tape.trans h.tape, hu.output.trans h.output, Nat.le_trans h.size hu.size, fun k hk hn => (hu.block k (Nat.lt_of_lt_of_le hk h.size) (by simp; omega)).trans (h.block k hk hn)⟩
set_option maxRecDepth 100000 in
set_option maxHeartbeats 4000000 in
theorem take_r (w : World) (gr : Nat) (l : List UInt8) (er : Int) (h : RiL w gr l er) (hl : l.length ≤ 140737488355328) :
    Calls Try.prog 43 #[.pointer (some ⟨gr, 0, none⟩)] w (RvP w gr (rowF l er).2.1 (rowF l er).2.2 (.agg (rr (rowF l er).1.key (rowF l er).1.set))) := by
  obtain ⟨g, hg⟩ : ∃ g, w.heap.size = g := ⟨_, rfl⟩
  obtain ⟨w1, hw1⟩ : ∃ x, w.alloc (.cells (rr [] []) 23) = x := ⟨_, rfl⟩
  have B1 := hidm_ (show Below g w w1 by rw [← hw1, ← hg]; exact (Below.refl _ _).alloc (Nat.le_refl _) _)
  have B0 := hidm_ (show Untouched [gr] w w1 by rw [← hw1]; exact Untouched.of_below ((Below.refl _ _).alloc (Nat.le_refl _) _))
  have S1 := hidm_ (show w1.heap.size = g + 1 by rw [← hw1, ← hg]; simp)
  have R1 := hidm_ (show Bk w1 g 23 (rr [] []) by rw [← hw1, ← hg]; exact Bk.new w _ _)
  have HG := hidm_ hg
  have HGR := hidm_ (show gr < g by rw [← hg]; exact h.lt)
  have L1 := hidm_ (h.below B1.out HGR.out)
  obtain ⟨K, l1, e1, hK⟩ : ∃ a b c, fixS 32 l er = (a, b, c) := ⟨_, _, _, rfl⟩
  obtain ⟨S, l2, e2, hS⟩ : ∃ a b c, bytS 1048576 l1 e1 = (a, b, c) := ⟨_, _, _, rfl⟩
  have HL1 := hidm_ (show l1.length ≤ 140737488355328 by have := fixS_le 32 l er; rw [hK] at this; exact Nat.le_trans this hl)
  have HS := hidm_ hS
  rw [rowF_of hK hS]
  simp only
  have cf := fixed_r w1 gr l er L1.out
  rw [hK] at cf
  simp only at cf
  have hz := zRr
  have hb := built_r1 K
  clear h hl hK hS
  go_enter Try.func43, Try.ntmps43
  go_upto_region 2 with (first
    | (go_at_call 44; ((with_reducible refine cf.mono ?_); clear cf; rintro e w2 ⟨rfl, h2, hu⟩; have L2 := hidm_ h2; have U2 := hidm_ hu; have R2 := hidm_ (R1.out.untouched hu (by simp; have := HGR.out; omega)); clear h2 hu))
    | (refine wpList_built rfl 23 #[(0, .tmp 5)] rfl (rr K []) (by simp only [List.map_toArray, List.map_cons, List.map_nil]; exact hb) ?_)
    | (refine wpList_put_row rfl 23 (.tmp 3) (.tmp 6) rfl w2.heap.size (rr K []) rfl rfl 23 (rr [] []) (Bk.new w2 _ _) (iRr _ _) rfl (rr_one _ _) ?_; intro w3 k3 g3 s3; have M3 := mark_putM w2 w3 w2.heap.size _ rfl g3; have P3 := hidm_ k3; have L3 := hidm_ (L2.out.below M3 L2.out.lt); have R3 := hidm_ (R2.out.below M3 R2.out.lt); have U3 := hidm_ (U2.out.trans (Grew.refl _ _) (Untouched.of_below (F := [gr]) M3)); have cb := bytes_r w3 gr 1048576 l1 e1 L3.out HL1.out (by omega) (by omega); rw [HS.out] at cb; simp only at cb; clear k3 g3 s3 M3))
  obtain ⟨gp, hgp⟩ : ∃ x, w2.heap.size = x := ⟨_, rfl⟩
  have GP := hidm_ (show g < gp by have := U2.out.size; have := S1.out; have := R2.out.lt; omega)
  rw [hgp] at P3 ⊢
  clear hz hgp
  go_upto_region 3 with (go_at_call 62; ((with_reducible refine cb.mono ?_); clear cb; rintro e w4 ⟨rfl, h4, hu⟩; have P4 := hidm_ (P3.out.untouched hu (by simp; have := HGR.out; have := GP.out; omega)); have hcz := P4.out.cell 1; have hfz := P4.out.frozen 1; simp only [rr, List.getElem?_toArray, List.getElem?_cons_zero, List.getElem?_cons_succ] at hcz; have L4 := hidm_ h4; have R4 := hidm_ (R3.out.untouched hu (by simp; have := HGR.out; omega)); have U4 := hidm_ (U3.out.trans (Grew.refl _ _) hu); clear h4 hu))
  generalize hu5 : w4.setCell _ _ = w5
  have T5 := hidm_ (show Untouched [gp] w4 w5 by rw [← hu5]; exact Untouched.set gp 1 (by simp) _)
  have P5 := hidm_ (show Bk w5 gp 23 (rr K S) by rw [← hu5]; exact P4.out.set_ 1 _)
  have R5 := hidm_ (R4.out.untouched T5.out (by simp; have := GP.out; omega))
  have L5 := hidm_ (L4.out.unt T5.out (by simp; have := GP.out; have := HGR.out; omega))
  clear hcz hfz hu5
  go_wp2_with (first
    | (refine wpList_load_row rfl 23 (.tmp 3) rfl gp rfl 23 (rr K S) (0, 0) _ P5.out Try.underlying23 rfl (iRr _ _) ?_)
    | (refine wpList_put_row rfl 23 (.tmp 2) (.tmp 10) rfl g (rr K S) rfl rfl 23 (rr [] []) R5.out (iRr _ _) rfl (rr_one _ _) ?_; intro w6 k6 g6 s6; have R6 := hidm_ k6; have T6 := hidm_ (unt_put g6); clear k6 g6 s6))
  exact bodyPost_ret (results_cellM Try.results43 _ _ g rfl (run_loadVar_row _ _ _ _ _ (0, 0) _ R6.out Try.underlying23 rfl (iRr _ _))) rfl ⟨rfl, L5.out.unt T6.out (by simp; have := HGR.out; omega), unt_low (unt_low (B0.out.trans (Grew.refl _ _) U4.out) T5.out (by have := GP.out; have := HG.out; omega)) T6.out (by have := HG.out; omega)⟩
set_option maxRecDepth 100000 in
set_option maxHeartbeats 4000000 in
theorem numbers_r (w : World) (gr : Nat) (l : List UInt8) (er : Int) (h : RiL w gr l er) :
    Calls Try.prog 45 #[.pointer (some ⟨gr, 0, none⟩)] w fun e w' => ∃ (A : Option Addr) (c : Nat) (X : List Int), e = .returned (.slice A X.length c) ∧ OwnG intE 3 w' w.heap.size (.slice A X.length c) X ∧ RiL w' gr (cntF atF l er).2.1 (cntF atF l er).2.2 ∧ Untouched [gr] w w' ∧ ((cntF atF l er).2.2 = 0 → X = (cntF atF l er).1) ∧ X.length ≤ 255 := by
  have HGI := hidm_ h.lt
  have cs := small_r w gr 255 l er h (by omega) (by omega)
  obtain ⟨v, l1, e1, hv⟩ : ∃ a b c, numS 1 255 l er = (a, b, c) := ⟨_, _, _, rfl⟩
  have v0 : 0 ≤ v := by have := numS_nn 1 255 l er; rw [hv] at this; exact this
  have v1 : v ≤ 255 := by have := numS_most 1 255 (by omega) l er; rw [hv] at this; exact this
  rw [hv] at cs
  simp only at cs
  obtain ⟨q, hq⟩ : ∃ q : Nat, v = (q : Int) := ⟨v.toNat, by omega⟩
  subst hq
  have q255 : q ≤ 255 := by omega
  have HC := hidm_ (show cntF atF l er = rdF atF q l1 e1 from cntF_of hv rfl)
  rw [HC.out]
  clear h hv v0 v1
  go_enter Try.func45, Try.ntmps45
  go_upto_region 4 with (go_at_call 41; ((with_reducible refine cs.mono ?_); clear cs; rintro e w2 ⟨rfl, h1, h2⟩; have I2 := hidm_ h1; have U2 := hidm_ h2; clear h1 h2))
  go_loopw [3, 5] (fun o i wr => ∃ (k : Nat) (A' : Option Addr) (c' : Nat), k ≤ q ∧ i = .int .i64 k ∧ o = .slice A' k c' ∧ Hid (OwnG intE 3 wr w.heap.size (.slice A' k c') (rdF atF k l1 e1).1) ∧ Hid (RiL wr gr (rdF atF k l1 e1).2.1 (rdF atF k l1 e1).2.2) ∧ Hid (Untouched [gr] w wr)) (fun _ i _ => q - (intOf i).toNat)
  case atStart => exact ⟨0, none, 0, Nat.zero_le _, rfl, rfl, hidm_ (OwnG.nil_ _ _ _), I2, U2⟩
  case round =>
    obtain ⟨k, A', c', hk, rfl, rfl, HO, HI, HU⟩ := hrel
    clear I2 U2
    obtain ⟨lk, hlk⟩ : ∃ x, (rdF atF k l1 e1).2.1 = x := ⟨_, rfl⟩
    obtain ⟨ek, hek⟩ : ∃ x, (rdF atF k l1 e1).2.2 = x := ⟨_, rfl⟩
    obtain ⟨ms, hms⟩ : ∃ x, (rdF atF k l1 e1).1 = x := ⟨_, rfl⟩
    have HML := hidm_ (show ms.length = k by rw [← hms]; exact rdF_len l1 e1 k)
    rw [hlk, hek] at HI
    rw [hms] at HO
    by_cases hlt : k < q
    · have tl : (k : Int) < (q : Int) := by omega
      have hce := HI.out.e1
      by_cases he : ek = 0
      · subst he
        have ci := num_r wr gr 255 lk 0 HI.out (by omega) (by omega)
        obtain ⟨z, l2, e2, hz⟩ : ∃ a b c, numS 8 255 lk 0 = (a, b, c) := ⟨_, _, _, rfl⟩
        have HR1 := hidm_ (show rdF atF (k + 1) l1 e1 = (ms ++ [z], l2, e2) from rdF_succ (by rw [← hms, ← hlk, ← hek]) hz)
        rw [hz] at ci
        simp only at ci
        have LT := hidm_ HO.out.lt
        clear hlk hek hms hz
        go_wp2_with (first
          | (go_at_call 42; ((with_reducible refine ci.mono ?_); clear ci; rintro e w5 ⟨rfl, hI5, hU5⟩; have I5 := hidm_ hI5; have U5 := hidm_ hU5; have O5 := hidm_ (HO.out.keep U5.out (fun k hk hm => by have h9 := List.mem_singleton.1 hm; have := (LT.out k hk).1; have := HGI.out; omega)); clear hI5 hU5; obtain ⟨w6, hw6⟩ : ∃ x, w5.alloc (.cells #[.int .i64 z] 3) = x := ⟨_, rfl⟩; have B6 := hidm_ (show Below w5.heap.size w5 w6 by rw [← hw6]; exact (Below.refl _ _).alloc (Nat.le_refl _) _); have K6 := hidm_ (show Bk w6 w5.heap.size 3 (intE.c z).toArray by rw [← hw6]; exact Bk.new w5 _ _); have RA := hidm_ (RdG.of_block K6.out K6.out.lt); have O6 := hidm_ (O5.out.below B6.out (Nat.le_refl _))))
          | (refine wpList_appG rfl (.tmp 20) (.tmp 23) rfl Try.underlying24 infoInt O6.out rfl 1 1 rfl RA.out rfl (by have := HML.out; have := q255; omega) (by decide) (Nat.le_trans HU.out.size (Nat.le_trans U5.out.size B6.out.size)) ?_; intro A2 c2 w7 k1 k2 k3; rw [HML.out] at k1 k3 ⊢; have O7 := hidm_ k1; have I7 := hidm_ ((I5.out.below B6.out I5.out.lt).grown k2 (fun e => by have := (O6.out.lt gr e.symm).1; have := HGI.out; omega)); have U7 := hidm_ (((HU.out.trans (Grew.refl _ _) U5.out).trans (Grew.refl _ _) (Untouched.of_below (F := [gr]) B6.out)).grownU k2 (fun j hj => (O6.out.lt j hj).1)); clear k1 k2 k3))
        go_roundw
        case rel => exact ⟨k + 1, A2, c2, by omega, by go_num, rfl, hidm_ (by rw [HR1.out]; exact O7.out), hidm_ (by rw [HR1.out]; exact I7.out), U7⟩
        case measure => simp [intOf]; omega
      · have hd : (ek == 0) = false := by simpa using he
        have HE := hidm_ (show (rdF atF q l1 e1).2.2 = ek by rw [rdF_err atF_off (m := k) (n := q) hk (by rw [hek]; exact he), hek])
        have HN := hidm_ he
        rw [← HML.out] at HO
        have hkl := HML.out.symm
        clear hlk hek hms he
        go_wp2
        go_ret
        exact ⟨A', c', ms, by rw [HML.out]; rfl, HO.out, by rw [HE.out]; exact HI.out.err HN.out, HU.out, fun x => absurd (HE.out.symm.trans x) HN.out, by rw [HML.out]; omega⟩
    · have tl : ¬ (k : Int) < (q : Int) := by omega
      obtain rfl : k = q := by omega
      have HX := hidm_ (show rdF atF k l1 e1 = (ms, lk, ek) by rw [← hms, ← hlk, ← hek])
      clear hlk hek hms
      go_wp2
      go_ret
      exact ⟨A', c', ms, by rw [HML.out]; rfl, by rw [HML.out]; exact HO.out, by rw [HX.out]; exact HI.out, HU.out, fun _ => by rw [HX.out], by rw [HML.out]; exact q255⟩
end Go.Proofs.Ytnlipmcnpekifaa
