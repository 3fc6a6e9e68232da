/-
  dot.Read.
-/
import Derived.Test.YtjflmfmncepeeaaJp
import Derived.Test.YtjflmfmncepeeaaJb
namespace Go.Proofs.Ytjflmfmncepeeaa
open Go.ChangeShapes Go.WideShapes Go.ChangeAt Go.RowKit
set_option linter.unusedVariables false
set_option linter.unusedSimpArgs false

theorem Untouched.grown_ {q : Nat} {w w' : World} (h : Untouched [q] w w') : w.grownBy w' (some q) := ⟨h.os, h.tape, h.output, h.size, fun b hb hne => h.block b hb (fun hm => hne (by rw [List.mem_singleton.1 hm]))⟩
theorem grown_untouched {q : Nat} {w w' : World} (h : w.grownBy w' (some q)) : Untouched [q] w w' := ⟨h.os, h.tape, h.output, h.size, fun b hb hne => h.block b hb (fun e => hne (by injection e with e; rw [e]; exact List.mem_singleton.2 rfl))⟩
/-- An In, its blocks from lo on and below B. -/
structure InS (gi : Nat) (F : List Nat) (lo B : Nat) (l : List UInt8) (err : Int) (W : World) : Prop where
  inf : InF W gi l err F
  far : ∀ k ∈ F, lo ≤ k ∧ k < B
theorem InS.gi {gi : Nat} {F : List Nat} {lo B : Nat} {l : List UInt8} {err : Int} {W : World} (h : InS gi F lo B l err W) : lo ≤ gi ∧ gi < B := h.far gi h.inf.1
theorem InS.grown {gi : Nat} {F : List Nat} {lo B : Nat} {l : List UInt8} {err : Int} {W W' : World} {q : Nat} (h : InS gi F lo B l err W) (hg : W.grownBy W' (some q)) (hq : q < lo ∨ B ≤ q) : InS gi F lo B l err W' :=
  ⟨h.inf.apart (grown_untouched hg) fun k hk hm => by obtain rfl := List.mem_singleton.1 hm; have := h.far k hk; omega, h.far⟩
theorem InS.grownO {gi : Nat} {F : List Nat} {lo B : Nat} {l : List UInt8} {err : Int} {W W' : World} {own : Option Nat} (h : InS gi F lo B l err W) (hg : W.grownBy W' own) (hq : ∀ q, own = some q → B ≤ q) : InS gi F lo B l err W' := by
  cases own with
  | none => exact ⟨h.inf.apart (G := []) ⟨hg.os, hg.tape, hg.output, hg.size, fun b hb _ => hg.block b hb (by simp)⟩ fun _ _ => by simp, h.far⟩
  | some q => exact h.grown hg (.inr (hq q rfl))
theorem InS.below {gi : Nat} {F : List Nat} {lo B : Nat} {l : List UInt8} {err : Int} {W W' : World} (h : InS gi F lo B l err W) (hb : Below W.heap.size W W') : InS gi F lo B l err W' :=
  ⟨h.inf.apart (G := []) (.of_below hb) fun _ _ => by simp, h.far⟩
theorem ins_num {gi : Nat} {F : List Nat} {lo B : Nat} {l : List UInt8} {err : Int} {W : World} (h : InS gi F lo B l err W) (most : Int) (w0 : -9223372036854775808 ≤ most) (w1 : most ≤ 9223372036854775807) :
    Calls Try.prog 40 #[.pointer (some ⟨gi, 0, none⟩), .int .i64 most] W fun e w' => e = .returned (.int .i64 (numS 8 most l err).1) ∧ InS gi F lo B (numS 8 most l err).2.1 (numS 8 most l err).2.2 w' ∧ W.grownBy w' (some gi) :=
  (innum_any W gi most l err F h.inf w0 w1).mono fun e w' ⟨he, h1, h2⟩ => ⟨he, ⟨h1, h.far⟩, h2.grown_⟩
theorem ins_small {gi : Nat} {F : List Nat} {lo B : Nat} {l : List UInt8} {err : Int} {W : World} (h : InS gi F lo B l err W) (most : Int) (w0 : -9223372036854775808 ≤ most) (w1 : most ≤ 9223372036854775807) :
    Calls Try.prog 41 #[.pointer (some ⟨gi, 0, none⟩), .int .i64 most] W fun e w' => e = .returned (.int .i64 (numS 1 most l err).1) ∧ InS gi F lo B (numS 1 most l err).2.1 (numS 1 most l err).2.2 w' ∧ W.grownBy w' (some gi) :=
  (insmall_any W gi most l err F h.inf w0 w1).mono fun e w' ⟨he, h1, h2⟩ => ⟨he, ⟨h1, h.far⟩, h2.grown_⟩
def UK (l : List UInt8) (k : Nat) : List Int := (rdU l k).1 ++ List.replicate (16 - k) 0
theorem UK_len (l : List UInt8) (k : Nat) (hk : k ≤ 16) : (UK l k).length = 16 := by unfold UK; rw [List.length_append, rdU_len, List.length_replicate]; omega
theorem UK_set (l : List UInt8) (k : Nat) (hk : k < 16) : (UK l k).set k (numS 8 far (rdU l k).2.1 (rdU l k).2.2).1 = UK l (k + 1) := by
  unfold UK
  have hl := rdU_len l k
  obtain ⟨d, hd⟩ : ∃ d, 16 - k = d + 1 := ⟨15 - k, by omega⟩
  rw [rdU, hd, show 16 - (k + 1) = d by omega, List.replicate_succ, List.set_append_right _ _ (by omega), hl, Nat.sub_self, List.set_cons_zero]
  simp
theorem UK_end (l : List UInt8) : UK l 16 = (rdU l 16).1 := by unfold UK; simp
theorem UK_zero (l : List UInt8) : UK l 0 = List.replicate 16 0 := by unfold UK rdU; simp
theorem numS_bd (size : Nat) (most : Int) (h0 : 0 ≤ most) (l : List UInt8) (err : Int) : 0 ≤ (numS size most l err).1 ∧ (numS size most l err).1 ≤ most := by
  unfold numS
  repeat' split
  all_goals (simp only; omega)
/-- What Read gives. -/
def RdCtxP (l : List UInt8) (w : World) (e : Ending) (w' : World) : Prop :=
  ∃ u m A c ok, e = .returned (TwoX u A m c (if ok = true then 0 else 2)) ∧ ReadV l u m ok ∧ RdD w' w'.heap.size A m ∧ m.length ≤ c ∧ c ≤ 9223372036854775807 ∧ u.length = 16 ∧ m.length ≤ 32 ∧ Below w.heap.size w w'
theorem rd_no {most : Int} {l : List UInt8} (hm : 16 ≤ most) (h : endS (rdAll most l).2.2.1 (rdAll most l).2.2.2 ≠ 0 ∨ chk (rdAll most l).1 (rdAll most l).2.1 ≠ 0) : ∀ up ms, ¬ RdOk l up ms := fun up ms hr => by
  have e := rdAll_put hm hr.1 hr.2.1
  rw [← hr.2.2] at e
  rw [e] at h
  rcases h with h | h
  · exact h rfl
  · exact h hr.2.1

set_option maxRecDepth 100000 in
set_option maxHeartbeats 8000000 in
theorem read_any (w : World) (A0 : Option Addr) (n0 c0 : Nat) (l : List UInt8) (hn : l.length = n0) (hr : Rd w w.heap.size A0 l) (hm : n0 ≤ 140737488355328) :
    Calls Try.prog 22 #[.slice A0 n0 c0] w (RdCtxP l w) := by
  obtain ⟨g, hg⟩ : ∃ g, w.heap.size = g := ⟨_, rfl⟩
  obtain ⟨w1, hw1⟩ : ∃ x, w.alloc (.cells (ctxRow [0, 0, 0, 0, 0, 0, 0, 0, 0, 0, 0, 0, 0, 0, 0, 0] none 0 0) 29) = x := ⟨_, rfl⟩
  obtain ⟨w2, hw2⟩ : ∃ x, w1.alloc (.cells (ctxRow [0, 0, 0, 0, 0, 0, 0, 0, 0, 0, 0, 0, 0, 0, 0, 0] none 0 0) 29) = x := ⟨_, rfl⟩
  have R1 := show Bk w1 g 29 (ctxRow [0, 0, 0, 0, 0, 0, 0, 0, 0, 0, 0, 0, 0, 0, 0, 0] none 0 0) by rw [← hw1, ← hg]; exact Bk.new w _ _
  have X1 := show Below g w w1 by rw [← hw1, ← hg]; exact (Below.refl _ _).alloc (Nat.le_refl _) _
  have S1 : w1.heap.size = g + 1 := by rw [← hw1, ← hg]; simp
  have b2 : Below w1.heap.size w1 w2 := by rw [← hw2]; exact (Below.refl _ _).alloc (Nat.le_refl _) _
  have V2 := hidd_ (show Bk w2 (g + 1) 29 (ctxRow [0, 0, 0, 0, 0, 0, 0, 0, 0, 0, 0, 0, 0, 0, 0, 0] none 0 0) by rw [← S1, ← hw2]; exact Bk.new w1 _ _)
  have S2 : w2.heap.size = g + 2 := by rw [← hw2]; simp [S1]
  have R2 := hidd_ (R1.below b2 R1.lt)
  have X2 := hidd_ (X1.trans (b2.mono (by omega)))
  rw [hg] at hr
  have co := of_any w2 A0 n0 c0 l hn ((hr.below X2.out).more (by omega)) hm
  have hz := zX_
  have hzD := zD_
  have HG := hidd_ hg
  have HS2 := hidd_ S2
  have IX := hidd_ (fun (u : List Int) (hu : u.length = 16) A n c => (show (Try.prog.info? 29).map (·.size) = some (ctxRow u A n c).size by rw [ctxRow_size u A n c hu]; exact iX_))
  clear hn hr
  go_enter Try.func22, Try.ntmps22
  go_upto_region 3 with (first
    | (go_at_call 39; ((with_reducible refine co.mono ?_); clear co; rintro e w3 ⟨gi, F, rfl, hI, hF, hb⟩; have I3 := hidd_ (InS.mk (lo := g + 2) (B := w3.heap.size) hI (fun k hk => by have := hF k hk; have := HS2.out; omega)); have V3 := hidd_ (V2.out.below hb V2.out.lt); have R3 := hidd_ (R2.out.below hb R2.out.lt); have X3 := hidd_ (X2.out.trans (hb.mono (by have := HS2.out; omega))); have HS3 := hidd_ (show g + 2 ≤ w3.heap.size by have := hb.size; have := HS2.out; omega); clear hI hF hb))
    | fail)
  clear hw1 hw2 R1 X1 S1 b2 S2 hg V2 R2 X2
  obtain ⟨B, hB⟩ : ∃ B, w3.heap.size = B := ⟨_, rfl⟩
  rw [hB] at I3 HS3
  have HB := hidd_ hB
  clear hB
  have V3' := hidd_ (show Bk w3 (g + 1) 29 (ctxRow (UK l 0) none 0 0) by rw [UK_zero]; exact V3.out)
  clear V3
  go_upto_region 4 with fail
  go_loopw [6, 10] (fun _ i wr => ∃ k : Nat, k ≤ 16 ∧ i = .int .i64 k ∧ B ≤ wr.heap.size ∧ Hid (InS gi F (g + 2) B (rdU l k).2.1 (rdU l k).2.2 wr) ∧ Hid (Bk wr (g + 1) 29 (ctxRow (UK l k) none 0 0)) ∧ Hid (Bk wr g 29 (ctxRow [0, 0, 0, 0, 0, 0, 0, 0, 0, 0, 0, 0, 0, 0, 0, 0] none 0 0)) ∧ Hid (Below g w wr)) (fun _ i _ => 16 - (intOf i).toNat)
  case atStart => exact ⟨0, by omega, rfl, by rw [HB.out]; exact Nat.le_refl _, I3, V3', R3, X3⟩
  case round =>
    obtain ⟨k, hk, rfl, hBw, HI, HV, HRR, HX⟩ := hrel
    by_cases hlt : k < 16
    · have cn := ins_num HI.out 1099511627776 (by omega) (by omega)
      have HST := hidd_ (UK_set l k hlt)
      have HNX := hidd_ (show (rdU l (k + 1)).2 = (numS 8 far (rdU l k).2.1 (rdU l k).2.2).2 from rfl)
      have HGI := hidd_ HI.out.gi
      unfold far at HST HNX
      obtain ⟨v, hv⟩ : ∃ v, (numS 8 1099511627776 (rdU l k).2.1 (rdU l k).2.2).1 = v := ⟨_, rfl⟩
      rw [hv] at HST cn
      have t0 : (0 : Int) ≤ (k : Int) := by omega
      have t1 : (k : Int) < 16 := by omega
      clear hv
      go_upto_region 7 with (go_at_call 40; ((with_reducible refine cn.mono ?_); clear cn; rintro e w5 ⟨rfl, h1, h2⟩; have I5 := hidd_ h1; have V5 := hidd_ (HV.out.grown h2 (fun e => by injection e with e; have := HGI.out; omega)); have R5 := hidd_ (HRR.out.grown h2 (fun e => by injection e with e; have := HGI.out; omega)); have X5 := hidd_ (HX.out.grown h2 (by have := HRR.out.lt; omega) (fun k hk => by injection hk with hk; have := HGI.out; omega)); have hs5 := h2.size; clear h1 h2; have hcz := (V5.out.cell k).trans (ctxRow_up (UK l k) none 0 0 k (UK_len l k (by omega)) hlt); have hfz := V5.out.frozen k))
      generalize hw6 : w5.setCell _ _ = w6
      have g6 : w5.grownBy w6 (some (g + 1)) := by rw [← hw6]; exact grown_cell _ _ _ _
      have V6 := hidd_ (show Bk w6 (g + 1) 29 (ctxRow (UK l (k + 1)) none 0 0) by rw [← hw6, ← HST.out, ← ctxRow_setup (UK l k) none 0 0 k v (UK_len l k (by omega)) hlt]; exact V5.out.set_ k _)
      have I6 := hidd_ (I5.out.grown g6 (.inl (by omega)))
      have R6 := hidd_ (R5.out.grown g6 (fun e => by injection e with e; omega))
      have X6 := hidd_ (X5.out.grown g6 (by have := R5.out.lt; omega) (fun k hk => by injection hk with hk; omega))
      have hs6 := g6.size
      clear g6 hw6 hcz hfz HI HV HRR HX I5 V5 R5 X5 HST
      go_wp2
      go_roundw
      case rel => exact ⟨k + 1, by omega, by go_num, by omega, by rw [HNX.out]; exact I6, V6, R6, X6⟩
      case measure => simp [intOf]; omega
    · obtain rfl : k = 16 := by omega
      have d1 : decide (((16 : Nat) : Int) < 16) = false := rfl
      have cs := ins_small HI.out 32 (by omega) (by omega)
      have HGI := hidd_ HI.out.gi
      obtain ⟨U, hU⟩ : ∃ u, (rdU l 16).1 = u := ⟨_, rfl⟩
      have HUL := hidd_ (show U.length = 16 by rw [← hU]; exact rdU_len l 16)
      have HU := hidd_ hU
      have HV2 := hidd_ (show Bk wr (g + 1) 29 (ctxRow U none 0 0) by rw [← hU, ← UK_end]; exact HV.out)
      have hbd := numS_bd 1 32 (by omega) (rdU l 16).2.1 (rdU l 16).2.2
      obtain ⟨q, hq⟩ : ∃ q : Nat, (numS 1 32 (rdU l 16).2.1 (rdU l 16).2.2).1 = (q : Int) := ⟨(numS 1 32 (rdU l 16).2.1 (rdU l 16).2.2).1.toNat, by omega⟩
      obtain ⟨lq, hlq⟩ : ∃ x, (numS 1 32 (rdU l 16).2.1 (rdU l 16).2.2).2.1 = x := ⟨_, rfl⟩
      obtain ⟨eq, heq⟩ : ∃ x, (numS 1 32 (rdU l 16).2.1 (rdU l 16).2.2).2.2 = x := ⟨_, rfl⟩
      rw [hq, hlq, heq] at cs
      have hq32 : q ≤ 32 := by omega
      have HALL := hidd_ (show rdAll 16 l = (U, rdD 16 lq eq q) by unfold rdAll; rw [hU, hq, hlq, heq]; rfl)
      clear hU hq hlq heq hbd I3 V3' R3 X3 HV
      go_upto_region 9 with (go_at_call 41; ((with_reducible refine cs.mono ?_); clear cs; rintro e w5 ⟨rfl, h1, h2⟩; have I5 := hidd_ h1; have V5 := hidd_ (HV2.out.grown h2 (fun e => by injection e with e; have := HGI.out; omega)); have R5 := hidd_ (HRR.out.grown h2 (fun e => by injection e with e; have := HGI.out; omega)); have X5 := hidd_ (HX.out.grown h2 (by have := HRR.out.lt; omega) (fun k hk => by injection hk with hk; have := HGI.out; omega)); have hs5 := h2.size; clear h1 h2))
      clear HI HV2 HRR HX
      have hBw5 : B ≤ w5.heap.size := by omega
      clear hs5 hBw
      go_loopw [21] (fun i wr => ∃ (k : Nat) (A' : Option Addr) (c' : Nat), k ≤ q ∧ i = .int .i64 k ∧ B ≤ wr.heap.size ∧ Hid (InS gi F (g + 2) B (rdD 16 lq eq k).2.1 (rdD 16 lq eq k).2.2 wr) ∧ Hid (Bk wr (g + 1) 29 (ctxRow U A' k c')) ∧ Hid (OwnD wr B (.slice A' k c') (rdD 16 lq eq k).1) ∧ Hid (Bk wr g 29 (ctxRow [0, 0, 0, 0, 0, 0, 0, 0, 0, 0, 0, 0, 0, 0, 0, 0] none 0 0)) ∧ Hid (Below g w wr)) (fun i _ => q - (intOf i).toNat)
      case atStart => exact ⟨0, none, 0, by omega, rfl, hBw5, I5, V5, hidd_ (OwnD.nil_ _ _), R5, X5⟩
      case round =>
        obtain ⟨k, A', c', hk, rfl, hBw, HI, HV, HO, HRR, HX⟩ := hrel
        clear I5 V5 R5 X5
        by_cases hlt : k < q
        · obtain ⟨ms, hms⟩ : ∃ x, (rdD 16 lq eq k).1 = x := ⟨_, rfl⟩
          obtain ⟨lr, hlr⟩ : ∃ x, (rdD 16 lq eq k).2.1 = x := ⟨_, rfl⟩
          obtain ⟨er, her⟩ : ∃ x, (rdD 16 lq eq k).2.2 = x := ⟨_, rfl⟩
          have HML := hidd_ (show ms.length = k by rw [← hms]; exact rdD_len 16 lq eq k)
          obtain ⟨v1, l1, e1, hn1⟩ : ∃ v1 l1 e1, numS 8 16 lr er = (v1, l1, e1) := ⟨_, _, _, rfl⟩
          obtain ⟨v2, l2, e2, hn2⟩ : ∃ v2 l2 e2, numS 8 far l1 e1 = (v2, l2, e2) := ⟨_, _, _, rfl⟩
          have HR1 := hidd_ (show rdD 16 lq eq (k + 1) = (ms ++ [⟨v1, v2⟩], l2, e2) by rw [rdD, hms, hlr, her]; simp only [hn1, hn2])
          rw [hlr, her] at HI
          rw [hms] at HO
          have HN1 := hidd_ hn1
          have HN2 := hidd_ (show numS 8 1099511627776 l1 e1 = (v2, l2, e2) from hn2)
          clear hms hlr her hn1 hn2
          have hvr : g + 1 < wr.heap.size := HV.out.lt
          have LT := hidd_ HO.out.lt
          obtain ⟨gd, hgd⟩ : ∃ x, wr.heap.size = x := ⟨_, rfl⟩
          have hgi1 := HGI.out.1
          have hgi2 := HGI.out.2
          go_upto_region 11 with fail
          generalize hwa : wr.alloc _ = wa
          have ba : Below wr.heap.size wr wa := by rw [← hwa]; exact (Below.refl _ _).alloc (Nat.le_refl _) _
          have Da := hidd_ (show Bk wa gd 27 #[.int .i64 0, .int .i64 0] by rw [← hgd, ← hwa]; exact Bk.new wr _ _)
          have Ia := hidd_ (HI.out.below ba)
          have Va := hidd_ (HV.out.below ba HV.out.lt)
          have Ra := hidd_ (HRR.out.below ba HRR.out.lt)
          have Oa := hidd_ (HO.out.below ba (Nat.le_refl _))
          have Xa := hidd_ (HX.out.trans (ba.mono (by omega)))
          rw [hgd] at LT hBw hvr
          have cn := ins_num Ia.out 16 (by omega) (by omega)
          rw [HN1.out] at cn
          simp only at cn
          clear ba hwa HI HV HO HRR HX hgd
          go_upto_region 12 with (go_at_call 40; ((with_reducible refine cn.mono ?_); clear cn; rintro e w5 ⟨rfl, h1, h2⟩; have I5 := hidd_ h1; have D5 := hidd_ (Da.out.grown h2 (fun e => by injection e with e; omega)); have V5 := hidd_ (Va.out.grown h2 (fun e => by injection e with e; omega)); have R5 := hidd_ (Ra.out.grown h2 (fun e => by injection e with e; omega)); have O5 := hidd_ (Oa.out.kept h2 (.inr (fun e => by have := (LT.out _ e).1; omega))); have X5 := hidd_ (Xa.out.grown h2 (by have := Ra.out.lt; omega) (fun k hk => by injection hk with hk; omega)); clear h1 h2; have hcz := (Bk.twod D5.out).1; have hfz := D5.out.frozen 0))
          generalize hw6 : w5.setCell _ _ = w6
          have g6 : w5.grownBy w6 (some gd) := by rw [← hw6]; exact grown_cell _ _ _ _
          have D6 := hidd_ (show Bk w6 gd 27 #[.int .i64 v1, .int .i64 0] by rw [← hw6]; exact D5.out.set_ 0 _)
          have I6 := hidd_ (I5.out.grown g6 (.inr hBw))
          have V6 := hidd_ (V5.out.grown g6 (fun e => by injection e with e; omega))
          have R6 := hidd_ (R5.out.grown g6 (fun e => by injection e with e; omega))
          have O6 := hidd_ (O5.out.kept g6 (.inr (fun e => by have := (LT.out _ e).2; omega)))
          have X6 := hidd_ (X5.out.grown g6 (by have := R5.out.lt; omega) (fun k hk => by injection hk with hk; omega))
          have cn := ins_num I6.out 1099511627776 (by omega) (by omega)
          rw [HN2.out] at cn
          simp only at cn
          clear g6 hw6 hcz hfz Da Ia Va Ra Oa Xa I5 D5 V5 R5 O5 X5
          go_upto_region 13 with (go_at_call 40; ((with_reducible refine cn.mono ?_); clear cn; rintro e w7 ⟨rfl, h1, h2⟩; have I7 := hidd_ h1; have D7 := hidd_ (D6.out.grown h2 (fun e => by injection e with e; omega)); have V7 := hidd_ (V6.out.grown h2 (fun e => by injection e with e; omega)); have R7 := hidd_ (R6.out.grown h2 (fun e => by injection e with e; omega)); have O7 := hidd_ (O6.out.kept h2 (.inr (fun e => by have := (LT.out _ e).1; omega))); have X7 := hidd_ (X6.out.grown h2 (by have := R6.out.lt; omega) (fun k hk => by injection hk with hk; omega)); clear h1 h2; have hcz := (Bk.twod D7.out).2; have hfz := D7.out.frozen 1))
          generalize hw8 : w7.setCell _ _ = w8
          have g8 : w7.grownBy w8 (some gd) := by rw [← hw8]; exact grown_cell _ _ _ _
          have D8 := hidd_ (show Bk w8 gd 27 #[.int .i64 v1, .int .i64 v2] by rw [← hw8]; exact D7.out.set_ 1 _)
          have I8 := hidd_ (I7.out.grown g8 (.inr hBw))
          have V8 := hidd_ (V7.out.grown g8 (fun e => by injection e with e; omega))
          have R8 := hidd_ (R7.out.grown g8 (fun e => by injection e with e; omega))
          have O8 := hidd_ (O7.out.kept g8 (.inr (fun e => by have := (LT.out _ e).2; omega)))
          have X8 := hidd_ (X7.out.grown g8 (by have := R7.out.lt; omega) (fun k hk => by injection hk with hk; omega))
          clear g8 hw8 hcz hfz D6 I6 V6 R6 O6 X6 I7 D7 V7 R7 O7 X7
          have hcx := (V8.out.cell 16).trans (ctxRow_more U A' k c' HUL.out)
          have hs8 : gd < w8.heap.size := D8.out.lt
          obtain ⟨w9, hw9⟩ : ∃ x, w8.alloc (.cells #[.int .i64 v1, .int .i64 v2] 27) = x := ⟨_, rfl⟩
          have b9 : Below w8.heap.size w8 w9 := by rw [← hw9]; exact (Below.refl _ _).alloc (Nat.le_refl _) _
          have K9 := hidd_ (show Bk w9 w8.heap.size 27 (DotV.row ⟨v1, v2⟩) by rw [← hw9]; exact Bk.new w8 _ _)
          have I9 := hidd_ (I8.out.below b9)
          have V9 := hidd_ (V8.out.below b9 V8.out.lt)
          have R9 := hidd_ (R8.out.below b9 R8.out.lt)
          have O9 := hidd_ (O8.out.below b9 (Nat.le_refl _))
          have X9 := hidd_ (X8.out.trans (b9.mono (by omega)))
          have hle9 : B ≤ w9.heap.size := by have := b9.size; omega
          have RA := hidd_ (rdD_one K9.out _ K9.out.lt)
          have T1 : ms.length + 1 ≤ 1000000 := by have := HML.out; omega
          have HT := hidd_ (show ∀ b, b < B → some b ≠ (Value.slice A' k c').ownBlock from fun b hb e => by have := (LT.out _ e.symm).1; omega)
          have IDd := hidd_ (show (Try.prog.info? 27).map (·.size) = some (#[Value.int .i64 v1, Value.int .i64 v2] : Array Value).size from iD_)
          have hl9 : B ≤ w8.heap.size := by omega
          clear b9 I8 V8 R8 O8 X8
          go_upto_region 14 with (first
            | (refine wpList_load_row rfl 27 (.tmp 7) rfl gd rfl 27 #[.int .i64 v1, .int .i64 v2] (0, 0) _ D8.out Try.underlying27 rfl IDd.out ?_)
            | (refine wpList_appDD rfl (.tmp 30) (.tmp 32) rfl O9.out rfl 1 1 rfl RA.out rfl T1 hle9 ?_; intro A2 c2 w10 k1 k2 k3; rw [HML.out] at k1 k3 ⊢; have O10 := hidd_ k1; have V10 := hidd_ (V9.out.grown k2 (HT.out _ (by omega))); have R10 := hidd_ (R9.out.grown k2 (HT.out _ (by omega))); have I10 := hidd_ (InS.grownO I9.out k2 (fun q hq => (LT.out q hq).1)); have X10 := hidd_ (X9.out.grown k2 (by omega) (fun q hq => by have := (LT.out q hq).1; omega)); have hs10 := k2.size; have hcx10 := (V10.out.cell 16).trans (ctxRow_more U A' k c' HUL.out); have hfz10 := V10.out.frozen 16; clear k1 k2 k3))
          have em := ctxRow_put U A' k c' HUL.out A2 (k + 1) c2
          generalize hw11 : w10.setCell _ _ = w11
          have g11 : w10.grownBy w11 (some (g + 1)) := by rw [← hw11]; exact grown_cell _ _ _ _
          have V11 := hidd_ (show Bk w11 (g + 1) 29 (ctxRow U A2 (k + 1) c2) by rw [← hw11, ← em]; exact V10.out.set_ 16 _)
          have I11 := hidd_ (I10.out.grown g11 (.inl (by omega)))
          have R11 := hidd_ (R10.out.grown g11 (fun e => by injection e with e; omega))
          have O11 := hidd_ (O10.out.kept g11 (.inr (fun e => by have := (O10.out.lt _ e).1; omega)))
          have X11 := hidd_ (X10.out.grown g11 (by have := R10.out.lt; omega) (fun k hk => by injection hk with hk; omega))
          have hs11 := g11.size
          clear g11 hw11 em hcx10 hfz10 V10 I10 R10 O10 X10 V9 I9 R9 O9 X9 RA HT K9 D8
          go_wp2
          go_roundw
          case rel => exact ⟨k + 1, A2, c2, by omega, by go_num, by omega, by rw [HR1.out]; exact I11, V11, by rw [HR1.out]; exact O11, R11, X11⟩
          case measure => simp [intOf]; omega
        · obtain rfl : k = q := by omega
          have d2 : decide ((k : Int) < (k : Int)) = false := decide_eq_false (by omega)
          have d3 : decide (k < k) = false := decide_eq_false (by omega)
          obtain ⟨ms, hms⟩ : ∃ x, (rdD 16 lq eq k).1 = x := ⟨_, rfl⟩
          obtain ⟨lr, hlr⟩ : ∃ x, (rdD 16 lq eq k).2.1 = x := ⟨_, rfl⟩
          obtain ⟨er, her⟩ : ∃ x, (rdD 16 lq eq k).2.2 = x := ⟨_, rfl⟩
          have HML := hidd_ (show ms.length = k by rw [← hms]; exact rdD_len 16 lq eq k)
          have HAL := hidd_ (show rdAll 16 l = (U, ms, lr, er) by rw [HALL.out, ← hms, ← hlr, ← her])
          rw [hlr, her] at HI
          rw [hms] at HO
          have ce := end_any wr gi lr er F HI.out.inf
          have hrd := HO.out.rd.1
          have hcap := HO.out.cap
          have HRD := hidd_ hrd
          have HCAP := hidd_ hcap
          have HLT := hidd_ HO.out.lt
          have cc := check_any wr U HUL.out A' k c' ms HML.out (by omega) hcap.1 hrd
          have hgr : g < wr.heap.size := HRR.out.lt
          have hvr : g + 1 < wr.heap.size := HV.out.lt
          have IZ := hidd_ (IX.out [0, 0, 0, 0, 0, 0, 0, 0, 0, 0, 0, 0, 0, 0, 0, 0] rfl none 0 0)
          have IV := hidd_ (IX.out U HUL.out A' k c')
          obtain ⟨ee, hee⟩ : ∃ x, endS lr er = x := ⟨_, rfl⟩
          rw [hee] at ce
          obtain ⟨ec, hec⟩ : ∃ x, chk U ms = x := ⟨_, rfl⟩
          rw [hec] at cc
          have HEE := hidd_ hee
          have HEC := hidd_ hec
          clear hms hlr her hrd hcap hee hec HI HALL HO
          by_cases he : ee = 0
          · subst he
            by_cases hc : ec = 0
            · subst hc
              have HOK := hidd_ (show RdOk l U ms by
                have := rdAll_ok (most := 16) (l := l) (by rw [HAL.out]; exact HEE.out) (by rw [HAL.out]; exact HEC.out)
                rw [HAL.out] at this; exact this)
              go_wp2_with (first
                | (go_at_call 42; ((with_reducible refine ce.mono ?_); clear ce; rintro e w6 ⟨rfl, rfl⟩))
                | (refine wpList_load_rowWd (by go_simp) 29 (.tmp 4) rfl (g + 1) rfl 29 (ctxRow U A' k c') V7.out _ Try.underlying29 rfl IV.out ?_)
                | (refine wpList_load_rowWd (by go_simp) 29 (.tmp 4) rfl (g + 1) rfl 29 (ctxRow U A' k c') HV.out _ Try.underlying29 rfl IV.out ?_)
                | (go_at_call 16; ((with_reducible refine cc.mono ?_); clear cc; rintro e w7 ⟨rfl, hb⟩; have V7 := hidd_ (HV.out.below hb HV.out.lt); have R7 := hidd_ (HRR.out.below hb HRR.out.lt); have X7 := hidd_ (HX.out.trans (hb.mono (Nat.le_of_lt hgr))); have D7 := hidd_ ((HRD.out.below hb).more hb.size); clear hb))
                | (refine wpList_put_row rfl 29 _ _ rfl g (ctxRow U A' k c') rfl rfl 29 (ctxRow [0, 0, 0, 0, 0, 0, 0, 0, 0, 0, 0, 0, 0, 0, 0, 0] none 0 0) R7.out IV.out (by rw [ctxRow_size _ _ _ _ HUL.out]; rfl) (ctxRow_one _ _ _ _) ?_; intro W9 k9 g9 s9))
              rw [← HML.out] at k9 IV ⊢
              refine bodyPost_ret (results_cell_slotD Try.results22 _ _ g (v' := .int .i64 0) rfl rfl (run_loadVar_row _ _ _ _ _ (0, 0) _ k9 Try.underlying29 rfl IV.out)) rfl ⟨U, ms, A', c', true, rfl, .inl ⟨rfl, HOK.out⟩, ?_, by rw [HML.out]; exact HCAP.out.1, HCAP.out.2, HUL.out, by rw [HML.out]; exact hq32, ?_⟩
              · refine (D7.out.grownR (Nat.le_refl _) g9 fun _ b off e => ?_).more (by omega)
                subst e
                have := (HLT.out b rfl).1
                have := HS3.out
                omega
              · rw [HG.out]
                exact X7.out.grown g9 (Nat.le_of_lt R7.out.lt) (fun k hk => by injection hk with hk; omega)
            · have b1 : (ec == 0) = false := by simpa using hc
              have b2 : (ec != 0) = true := by simpa using hc
              have HNO := hidd_ (rd_no (most := 16) (l := l) (by omega) (.inr (by rw [HAL.out]; simp only; rw [HEC.out]; exact hc)))
              clear hc
              go_wp2_with (first
                | (go_at_call 42; ((with_reducible refine ce.mono ?_); clear ce; rintro e w6 ⟨rfl, rfl⟩))
                | (refine wpList_load_rowWd (by go_simp) 29 (.tmp 4) rfl (g + 1) rfl 29 (ctxRow U A' k c') HV.out _ Try.underlying29 rfl IV.out ?_)
                | (go_at_call 16; ((with_reducible refine cc.mono ?_); clear cc; rintro e w7 ⟨rfl, hb⟩; have R7 := hidd_ (HRR.out.below hb HRR.out.lt); have X7 := hidd_ (HX.out.trans (hb.mono (Nat.le_of_lt hgr))); clear hb))
                | (refine wpList_built rfl 29 _ rfl (ctxRow [0, 0, 0, 0, 0, 0, 0, 0, 0, 0, 0, 0, 0, 0, 0, 0] none 0 0) (by kernel_rfl) ?_)
                | (refine wpList_put_row rfl 29 _ _ rfl g (ctxRow [0, 0, 0, 0, 0, 0, 0, 0, 0, 0, 0, 0, 0, 0, 0, 0] none 0 0) rfl rfl 29 (ctxRow [0, 0, 0, 0, 0, 0, 0, 0, 0, 0, 0, 0, 0, 0, 0, 0] none 0 0) R7.out IZ.out rfl (ctxRow_one _ _ _ _) ?_; intro W9 k9 g9 s9))
              refine bodyPost_ret (results_cell_slotD Try.results22 _ _ g (v' := .int .i64 2) rfl rfl (run_loadVar_row _ _ _ _ _ (0, 0) _ k9 Try.underlying29 rfl IZ.out)) rfl ⟨[0, 0, 0, 0, 0, 0, 0, 0, 0, 0, 0, 0, 0, 0, 0, 0], [], none, 0, false, rfl, .inr ⟨rfl, rfl, rfl, HNO.out⟩, RdD.nil, Nat.le_refl _, by omega, rfl, by simp, ?_⟩
              rw [HG.out]
              exact X7.out.grown g9 (Nat.le_of_lt R7.out.lt) (fun k hk => by injection hk with hk; omega)
          · have b1 : (ee == 0) = false := by simpa using he
            have b2 : (ee != 0) = true := by simpa using he
            have HNO := hidd_ (rd_no (most := 16) (l := l) (by omega) (.inl (by rw [HAL.out]; simp only; rw [HEE.out]; exact he)))
            clear he
            go_wp2_with (first
              | (go_at_call 42; ((with_reducible refine ce.mono ?_); clear ce; rintro e w6 ⟨rfl, rfl⟩))
              | (refine wpList_built rfl 29 _ rfl (ctxRow [0, 0, 0, 0, 0, 0, 0, 0, 0, 0, 0, 0, 0, 0, 0, 0] none 0 0) (by kernel_rfl) ?_)
              | (refine wpList_put_row rfl 29 _ _ rfl g (ctxRow [0, 0, 0, 0, 0, 0, 0, 0, 0, 0, 0, 0, 0, 0, 0, 0] none 0 0) rfl rfl 29 (ctxRow [0, 0, 0, 0, 0, 0, 0, 0, 0, 0, 0, 0, 0, 0, 0, 0] none 0 0) HRR.out IZ.out rfl (ctxRow_one _ _ _ _) ?_; intro W9 k9 g9 s9))
            refine bodyPost_ret (results_cell_slotD Try.results22 _ _ g (v' := .int .i64 2) rfl rfl (run_loadVar_row _ _ _ _ _ (0, 0) _ k9 Try.underlying29 rfl IZ.out)) rfl ⟨[0, 0, 0, 0, 0, 0, 0, 0, 0, 0, 0, 0, 0, 0, 0, 0], [], none, 0, false, rfl, .inr ⟨rfl, rfl, rfl, HNO.out⟩, RdD.nil, Nat.le_refl _, by omega, rfl, by simp, ?_⟩
            rw [HG.out]
            exact HX.out.grown g9 (Nat.le_of_lt HRR.out.lt) (fun k hk => by injection hk with hk; omega)
end Go.Proofs.Ytjflmfmncepeeaa
