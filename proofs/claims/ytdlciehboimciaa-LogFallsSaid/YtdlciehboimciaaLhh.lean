/-
  log's laws: the document's Head; an act's few records.
-/
import Derived.Test.YtdlciehboimciaaLhg
namespace Go.Proofs.Ytdlciehboimciaa
set_option maxRecDepth 100000
open Go.RowKit
set_option linter.unusedVariables false
set_option linter.unusedSimpArgs false

theorem numL_natL (q : Nat) : numL (q : Int) = highB 8 q := by unfold numL; rw [if_neg (by omega)]; rfl
theorem smallL_natL (q : Nat) (h : q < 256) : smallL (q : Int) = [UInt8.ofNat q] := by unfold smallL; rw [if_pos (by omega)]; rfl
set_option maxRecDepth 100000 in
set_option maxHeartbeats 4000000 in
theorem headL_any (w : World) (t a c : Nat) (ht : t ≤ 1000000) (ha : a ≤ 1) (hc : c ≤ 1000000) : Calls Try.prog 17 #[.int .i64 (t : Int), .int .i64 (a : Int), .int .i64 (c : Int)] w fun e w' => e = .returned (.string (strOf (headB t a c))) ∧ Below w.heap.size w w' := by
  have c1 := fun W => refNum_any W (t : Int) (by omega)
  have c2 := fun W => refSmall_any W (a : Int) (by omega)
  have c3 := fun W => refNum_any W (c : Int) (by omega)
  rw [numL_natL] at c1 c3
  rw [smallL_natL a (by omega)] at c2
  obtain ⟨T, hT⟩ : ∃ x, highB 8 t = x := ⟨_, rfl⟩
  obtain ⟨A, hA⟩ : ∃ x, [UInt8.ofNat a] = x := ⟨_, rfl⟩
  obtain ⟨C, hC⟩ : ∃ x, highB 8 c = x := ⟨_, rfl⟩
  rw [hT] at c1
  rw [hA] at c2
  rw [hC] at c3
  have lT : T.length = 8 := by rw [← hT, highB_len]
  have lA : A.length = 1 := by rw [← hA]; rfl
  have lC : C.length = 8 := by rw [← hC, highB_len]
  obtain ⟨S1, hS1⟩ : ∃ x, [108] ++ T = x := ⟨_, rfl⟩
  obtain ⟨S2, hS2⟩ : ∃ x, S1 ++ A = x := ⟨_, rfl⟩
  obtain ⟨S3, hS3⟩ : ∃ x, S2 ++ C = x := ⟨_, rfl⟩
  have l1 : S1.length = 9 := by rw [← hS1, List.length_append, lT]; rfl
  have l2 : S2.length = 10 := by rw [← hS2, List.length_append, l1, lA]
  have l3 : S3.length = 18 := by rw [← hS3, List.length_append, l2, lC]
  have hP : S3 = headP t a c := by rw [← hS3, ← hS2, ← hS1, ← hT, ← hA, ← hC]; rfl
  have p1 : ({ data := #[108] } : ByteArray) ++ strOf T = strOf S1 := by rw [← hS1]; exact strOf_append [108] T
  have p2 : strOf S1 ++ strOf A = strOf S2 := by rw [← hS2]; exact strOf_append S1 A
  have p3 : strOf S2 ++ strOf C = strOf S3 := by rw [← hS3]; exact strOf_append S2 C
  obtain ⟨H, hH⟩ : ∃ x, closeB S3 = x := ⟨_, rfl⟩
  have lH : H.length = 22 := by rw [← hH, closeB_len, l3]
  have p4 : strOf H ++ strOf z42 = strOf (headB t a c) := by rw [strOf_append, ← hH, hP]; rfl
  have z0 : ({ data := #[108] } : ByteArray).size = 1 := rfl
  have zT : (strOf T).size = 8 := by rw [strOf_size, lT]
  have zA : (strOf A).size = 1 := by rw [strOf_size, lA]
  have zC : (strOf C).size = 8 := by rw [strOf_size, lC]
  have z1 : (strOf S1).size = 9 := by rw [strOf_size, l1]
  have z2 : (strOf S2).size = 10 := by rw [strOf_size, l2]
  have zH : (strOf H).size = 22 := by rw [strOf_size, lH]
  have zZ : (strOf z42).size = 42 := by rw [strOf_size, z42_len]
  have b1 : ({ data := #[108] } : ByteArray).size + (strOf T).size ≤ 9223372036854775807 := by omega
  have b2 : (strOf S1).size + (strOf A).size ≤ 9223372036854775807 := by omega
  have b3 : (strOf S2).size + (strOf C).size ≤ 9223372036854775807 := by omega
  have b4 : (strOf H).size + (strOf z42).size ≤ 9223372036854775807 := by omega
  have cc := fun W => refClose_any S3 18 W l3 (by omega)
  rw [hH] at cc
  have mk : ∀ W : World, (Instr.makeSlice 39 (.int .i64 42) (.int .i64 42)).run Try.prog W = .ok (.slice (some ⟨W.heap.size, 0, none⟩) 42 42) (W.alloc (.cells (rowOf z42) 5)) := fun W => mk8 42 (by omega) W
  have HB := hidg_ (fun W : World => (Below.refl W.heap.size W).alloc (Nat.le_refl _) (.cells (rowOf z42) 5))
  have cvz := fun W : World => conv_strn (((Blk8.new W z42).rd (Blk8.new W z42).lt)) 42 42 z42_len
  clear hT hA hC lT lA lC hS1 hS2 hS3 l1 l2 l3 hP hH lH
  go_enter Try.func17, Try.ntmps17
  go_wp2_with (first
    | (go_at_call 42; ((with_reducible refine (c1 _).mono ?_); clear c1; rintro e w1 ⟨rfl, hb⟩; have B1 := hidg_ hb; clear hb))
    | (go_at_call 43; ((with_reducible refine (c2 _).mono ?_); clear c2; rintro e w2 ⟨rfl, hb⟩; have B2 := hidg_ (B1.out.trans (hb.mono B1.out.size)); clear hb))
    | (go_at_call 42; ((with_reducible refine (c3 _).mono ?_); clear c3; rintro e w3 ⟨rfl, hb⟩; have B3 := hidg_ (B2.out.trans (hb.mono B2.out.size)); clear hb))
    | (go_at_call 39; ((with_reducible refine (cc _).mono ?_); clear cc; rintro e w4 ⟨rfl, hb⟩; have B4 := hidg_ (B3.out.trans (hb.mono B3.out.size)); clear hb; have mkz := mk w4; have cvw := cvz w4)))
  go_ret
  exact ⟨rfl, B4.out.trans ((HB.out w4).mono B4.out.size)⟩
theorem RecT.lower {w : World} {b b' : Nat} {v : Value} {L : List (List UInt8)} (h : RecT w b v L) (hb : b' ≤ b) : RecT w b' v L := by
  obtain ⟨vs, h1, h2, h3⟩ := h
  exact ⟨vs, World.ownsRow.mono h1 hb, h2, fun j hj => by obtain ⟨A, c, e, ho⟩ := h3 j hj; exact ⟨A, c, e, ho.lower hb⟩⟩
def LAct.val (x : LAct) : Value := .agg #[.bool x.rep, .slice x.at_ x.recs.length x.cap]
set_option maxRecDepth 100000 in
set_option maxHeartbeats 2000000 in
theorem actFew_any (w : World) (rep : Bool) (A : Option Addr) (n c : Nat) (L : List (List UInt8)) (hn : L.length = n) (hp : PartsV w w.heap.size A L) (hn9 : n ≤ 9223372036854775807) :
    Calls Try.prog 10 #[.agg #[.bool rep, .slice A n c]] w (FewP w (min 3 n) (fewL L 3 100)) := by
  obtain ⟨w1, hw1⟩ : ∃ W, w.alloc (.cells #[.bool rep, .slice A n c] 34) = W := ⟨_, rfl⟩
  have b1 : Below w.heap.size w w1 := by rw [← hw1]; exact (Below.refl _ _).alloc (Nat.le_refl _) _
  have k1 : Bk w1 w.heap.size 34 #[.bool rep, .slice A n c] := by rw [← hw1]; exact Bk.new w _ _
  have kc := k1.cell 1
  simp only [List.getElem?_toArray, List.getElem?_cons_succ, List.getElem?_cons_zero] at kc
  have cf : Calls Try.prog 26 #[.slice A n c, .int .i64 3, .int .i64 100] w1 _ := fewL_parts w1 A n c 3 100 L hn ((hp.below b1 (Nat.le_refl _)).more b1.size) hn9 (by omega) (by omega)
  unfold FewP at cf
  have HB := hidg_ b1
  clear b1 k1 hn hp
  obtain ⟨g, hg⟩ : ∃ g, w.heap.size = g := ⟨_, rfl⟩
  rw [hg] at kc
  go_enter Try.func10, Try.ntmps10
  go_wp2_with (go_at_call 26; ((with_reducible refine cf.mono ?_); clear cf; rintro e w2 ⟨A2, c2, rfl, hT, hb⟩; have T2 := hidg_ hT; have B2 := hidg_ hb; clear hT hb))
  go_ret
  exact ⟨A2, c2, rfl, T2.out.lower HB.out.size, HB.out.trans (B2.out.mono HB.out.size)⟩
end Go.Proofs.Ytdlciehboimciaa
