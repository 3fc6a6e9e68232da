/-
  An ideal vault's Open: what was sealed, and all else.
-/
import Derived.Test.YtoeofifibjelnaaDoorYg
namespace Go.Proofs.YtoeofifibjelnaaDoor
set_option maxRecDepth 100000
open Go.RowKit Go.Maps
set_option linter.unusedVariables false
set_option linter.unusedSimpArgs false

theorem zSl_ (W : World) : (zeroValue 29).run Tryd.prog W = .ok (.slice none 0 0) W := by kernel_rfl
set_option maxRecDepth 100000 in
set_option maxHeartbeats 8000000 in
theorem vopen_miss {w : World} {v sp nm kn : Nat} {K : List UInt8} {N : List (List UInt8)} {S : List (Nat × Nat)} {L : List SealV} {F : List Nat} (h : VltI w v sp nm kn K N S L F) (Aw As : Option Addr) (na ca ns cs : Nat) (x s : List UInt8) (hx : x.length = na) (hs : s.length = ns) (hrx : Rd w w.heap.size Aw x) (hrs : Rd w w.heap.size As s) (hna : na ≤ 1000000) (hns : ns ≤ 1000000) (h16 : 16 ≤ ns)
    (e c n : Nat) (he : e ≤ 1048576) (hc : c ≤ 1000) (hn : n ≤ 4611686018427387904) (hno : ∀ u ∈ L, u.key ≠ bKey (e : Int) (c : Int) (n : Int) x s)
    (ck : Calls Tryd.prog 19 #[.pointer (some ⟨v, 0, none⟩), .int .i64 (e : Int), .int .i64 (c : Int), .int .i64 (n : Int)] w fun r w' => r = .returned (yesKeys K e c n) ∧ Below w.heap.size w w') :
    Calls Tryd.prog 13 #[.pointer (some ⟨v, 0, none⟩), .int .i64 (e : Int), .int .i64 (c : Int), .int .i64 (n : Int), .slice Aw na ca, .slice As ns cs] w fun r w' => r = .returned (.tuple #[.slice none 0 0, .int .i64 6]) ∧ Below w.heap.size w w' := by
  have hz := z32
  have hz12 := z12
  obtain ⟨Ls, hLs⟩ : ∃ L, sealK K e = L := ⟨_, rfl⟩
  obtain ⟨No, hNo⟩ : ∃ L, nonceB c n = L := ⟨_, rfl⟩
  have LL := hidyb_ (show Ls.length = 32 by rw [← hLs]; exact sealK_len _ _)
  have NL := hidyb_ (show No.length = 12 by rw [← hNo]; exact nonceB_len _ _)
  have IL := hidyb_ (ib32 Ls LL.out)
  have IN := hidyb_ (ib12 No NL.out)
  have QL := hidyb_ (show (rowOf (zbytes 32)).size = (rowOf Ls).size by rw [rowOf_size, rowOf_size, LL.out, zbytes_len])
  have QN := hidyb_ (show (rowOf (zbytes 12)).size = (rowOf No).size by rw [rowOf_size, rowOf_size, NL.out, zbytes_len])
  unfold yesKeys at ck
  rw [hLs, hNo] at ck
  obtain ⟨kl2, hkl2⟩ := bKey_lit (e : Int) (c : Int) (n : Int) x s (by unfold okI; omega) (by unfold okI; omega) (by unfold okI; omega) (by rw [hx]; omega) (by rw [hs]; omega)
  have KB : Hid (keyOf Tryd.prog 64 (.agg #[.int .i64 (e : Int), .int .i64 (c : Int), .int .i64 (n : Int), .string (strOf x), .string (strOf s)]) = some kl2) := hidyb_ hkl2
  obtain ⟨nk, f, hle, hmk, hkn⟩ := h.known
  have HFK : Hid (f (.agg #[.int .i64 (e : Int), .int .i64 (c : Int), .int .i64 (n : Int), .string (strOf x), .string (strOf s)]) = none) := hidyb_ (by
    cases hf : f (.agg #[.int .i64 (e : Int), .int .i64 (c : Int), .int .i64 (n : Int), .string (strOf x), .string (strOf s)]) with
    | none => rfl
    | some u =>
      obtain ⟨u, hu, ek⟩ := hkn.only _ _ hf
      exact absurd ek.symm (hno u hu))
  have HV0 := hidyb_ h
  have CM0 : Hid (∀ W, Below w.heap.size w W → W.cell? ⟨v, 0, none⟩ = some (.bool true)) := hidyb_ (fun W hW => ((h.below hW).blk.cell 0).trans (vrow_0 _ _ _ _ _))
  have CM : Hid (∀ W, Below w.heap.size w W → W.cell? ⟨v, 35, none⟩ = some (.map (some kn))) := hidyb_ (fun W hW => ((h.below hW).blk.cell 35).trans (vrow_35 _ K h.len _ _ _))
  have XV : Hid (∀ W, Below w.heap.size w W → (convert 29 9 (.slice Aw na ca)).run Tryd.prog W = .ok (.string (strOf x)) W) := hidyb_ (fun W hW => conv_strn (hrx.below hW) na ca hx)
  have SV : Hid (∀ W, Below w.heap.size w W → (convert 29 9 (.slice As ns cs)).run Tryd.prog W = .ok (.string (strOf s)) W) := hidyb_ (fun W hW => conv_strn (hrs.below hW) ns cs hs)
  have LK : Hid (∀ W, Below w.heap.size w W → (Instr.lookup 48 (.map (some kn)) (.agg #[.int .i64 (e : Int), .int .i64 (c : Int), .int .i64 (n : Int), .string (strOf x), .string (strOf s)]) true).run Tryd.prog W = .ok (.tuple #[.slice none 0 0, .bool false]) W) := hidyb_ (fun W hW => by
    have hm := hmk.keep (hW.block kn hmk.lt)
    have h := hm.look keyedB Tryd.underlying48 (zSl_ W) KB.out
    rw [HFK.out] at h
    exact h)
  have d1 : decide ((ns : Int) < 16) = false := decide_eq_false (by omega)
  have d2 : decide (ns < 16) = false := decide_eq_false (by omega)
  clear h hLs hNo hc hn hkl2 hx hs hrx hrs hna hns he hmk h16
  go_enter Tryd.func13, Tryd.ntmps13
  go_upto_region 4 with (first
    | (go_at_call 19; ((with_reducible refine ck.mono ?_); clear ck; rintro r w1 ⟨rfl, hb⟩; have B1 := hidyb_ hb; clear hb; obtain ⟨b1, w1a, hb1, hw1a, KA, NA, XA, SA⟩ := keys_start w1; have B1s := B1.out.size; have HB1 := hidyb_ hb1))
    | (refine wpList_put_row rfl 22 (.tmp 14) (.tmp 25) rfl b1 (rowOf Ls) rfl rfl 22 (rowOf (zbytes 32)) KA IL.out QL.out (bytes_one _) ?_; intro w2 k2 g2 s2; have NA2 := NA.oneOf g2 (by omega); have X2 := XA.grown g2 (by omega) (fun k hk => by injection hk with hk; omega); have K2 := k2; clear g2 s2 KA NA k2)
    | (refine wpList_put_row rfl 54 (.tmp 15) (.tmp 26) rfl (b1 + 1) (rowOf No) rfl rfl 54 (rowOf (zbytes 12)) NA2 IN.out QN.out (bytes_one _) ?_; intro w3 k3 g3 s3; have K3 := hidyb_ (K2.oneOf g3 (by omega)); have N3 := hidyb_ k3; have X3 := hidyb_ (X2.grown g3 (by have := X2.size; omega) (fun k hk => by injection hk with hk; omega)); have B3 := hidyb_ (B1.out.trans (X3.out.mono (by rw [← HB1.out]; exact B1.out.size))); clear g3 s3 k3 NA2 K2 X2))
  have c0 := CM0.out _ B3.out
  have B3h := B3
  clear hw1a SA B1 X3 K3 N3 hb1 XA B1s HB1
  go_upto_region 8 with fail
  rename_i K9 hK9
  clear c0 d1 d2
  refine region_quiet_in (C := fun W => Below w.heap.size w W) (by kernel_rfl) (by kernel_rfl) (B3.out.drew) ?_
  repeat (go_big_quiet_want; (first
    | (refine BigFrame.quiet_move _ rfl ?_; go_simp)
    | (refine BigFrame.quiet_assign _ rfl ?_; go_simp)
    | (refine quiet_run (.pointer (some ⟨v, 0, none⟩)) ?_ ?_; (focus (intro W hW; go_simp; done)); go_simp)
    | (refine quiet_run (.pointer (some ⟨v, 35, none⟩)) ?_ ?_; (focus (intro W hW; go_simp; done)); go_simp)
    | (refine quiet_run (.map (some kn)) ?_ ?_; (focus (intro W hW; have h := CM.out W hW; go_simp; done)); go_simp)
    | (refine quiet_run (.string (strOf x)) ?_ ?_; (focus (intro W hW; have h := XV.out W hW; go_simp; done)); go_simp)
    | (refine quiet_run (.string (strOf s)) ?_ ?_; (focus (intro W hW; have h := SV.out W hW; go_simp; done)); go_simp)
    | (refine quiet_run (.agg #[.int .i64 (e : Int), .int .i64 (c : Int), .int .i64 (n : Int), .string (strOf x), .string (strOf s)]) ?_ ?_; (focus (intro W hW; go_simp; done)); go_simp)
    | (refine quiet_run (.tuple #[.slice none 0 0, .bool false]) ?_ ?_; (focus (intro W hW; have h := LK.out W hW; go_simp; done)); go_simp)
    | (refine quiet_run (.slice none 0 0) ?_ ?_; (focus (intro W hW; go_simp; done)); go_simp)
    | (refine quiet_run (.bool false) ?_ ?_; (focus (intro W hW; go_simp; done)); go_simp)); go_big_quiet_on)
  refine wpQuiet_nil ?_
  intro w7 hw7
  have B7 := hidyb_ hw7
  clear hw7
  refine hK9 _ _ ?_
  go_wp2
  go_ret2
  exact ⟨rfl, B7.out⟩
set_option maxRecDepth 100000 in
set_option maxHeartbeats 8000000 in
theorem vopen_hit {w : World} {v sp nm kn : Nat} {K : List UInt8} {N : List (List UInt8)} {S : List (Nat × Nat)} {L : List SealV} {F : List Nat} (h : VltI w v sp nm kn K N S L F) (Aw As : Option Addr) (na ca ns cs : Nat) (x s : List UInt8) (hx : x.length = na) (hs : s.length = ns) (hrx : Rd w w.heap.size Aw x) (hrs : Rd w w.heap.size As s) (hna : na ≤ 1000000) (hns : ns ≤ 1000000) (h16 : 16 ≤ ns)
    (e c n : Nat) (he : e ≤ 1048576) (hc : c ≤ 1000) (hn : n ≤ 4611686018427387904) (b : List UInt8) (nb : Nat) (hb : b.length = nb) (hnb : nb ≤ 1000000) (hyes : (⟨e, c, n, x, s, b⟩ : SealV) ∈ L)
    (ck : Calls Tryd.prog 19 #[.pointer (some ⟨v, 0, none⟩), .int .i64 (e : Int), .int .i64 (c : Int), .int .i64 (n : Int)] w fun r w' => r = .returned (yesKeys K e c n) ∧ Below w.heap.size w w') :
    Calls Tryd.prog 13 #[.pointer (some ⟨v, 0, none⟩), .int .i64 (e : Int), .int .i64 (c : Int), .int .i64 (n : Int), .slice Aw na ca, .slice As ns cs] w fun r w' => ∃ A d, r = .returned (.tuple #[.slice A nb d, .int .i64 0]) ∧ Own8 w' w.heap.size (.slice A nb d) b ∧ Below w.heap.size w w' := by
  have hz := z32
  have hz12 := z12
  obtain ⟨Ls, hLs⟩ : ∃ L, sealK K e = L := ⟨_, rfl⟩
  obtain ⟨No, hNo⟩ : ∃ L, nonceB c n = L := ⟨_, rfl⟩
  have LL := hidyb_ (show Ls.length = 32 by rw [← hLs]; exact sealK_len _ _)
  have NL := hidyb_ (show No.length = 12 by rw [← hNo]; exact nonceB_len _ _)
  have IL := hidyb_ (ib32 Ls LL.out)
  have IN := hidyb_ (ib12 No NL.out)
  have QL := hidyb_ (show (rowOf (zbytes 32)).size = (rowOf Ls).size by rw [rowOf_size, rowOf_size, LL.out, zbytes_len])
  have QN := hidyb_ (show (rowOf (zbytes 12)).size = (rowOf No).size by rw [rowOf_size, rowOf_size, NL.out, zbytes_len])
  unfold yesKeys at ck
  rw [hLs, hNo] at ck
  obtain ⟨kl2, hkl2⟩ := bKey_lit (e : Int) (c : Int) (n : Int) x s (by unfold okI; omega) (by unfold okI; omega) (by unfold okI; omega) (by rw [hx]; omega) (by rw [hs]; omega)
  have KB : Hid (keyOf Tryd.prog 64 (.agg #[.int .i64 (e : Int), .int .i64 (c : Int), .int .i64 (n : Int), .string (strOf x), .string (strOf s)]) = some kl2) := hidyb_ hkl2
  obtain ⟨nk, f, hle, hmk, hkn⟩ := h.known
  obtain ⟨A0, d0, hf0, hd1, hd2, hin⟩ := hkn.all _ hyes
  have HFK : Hid (f (.agg #[.int .i64 (e : Int), .int .i64 (c : Int), .int .i64 (n : Int), .string (strOf x), .string (strOf s)]) = some (.slice A0 nb d0)) := hidyb_ (by rw [← hb]; exact hf0)
  have RB : Hid (Rd w w.heap.size A0 b) := hidyb_ hin.rd
  have BL := hidyb_ hb
  have NB := hidyb_ hnb
  clear hf0 hin
  have HV0 := hidyb_ h
  have CM0 : Hid (∀ W, Below w.heap.size w W → W.cell? ⟨v, 0, none⟩ = some (.bool true)) := hidyb_ (fun W hW => ((h.below hW).blk.cell 0).trans (vrow_0 _ _ _ _ _))
  have CM : Hid (∀ W, Below w.heap.size w W → W.cell? ⟨v, 35, none⟩ = some (.map (some kn))) := hidyb_ (fun W hW => ((h.below hW).blk.cell 35).trans (vrow_35 _ K h.len _ _ _))
  have XV : Hid (∀ W, Below w.heap.size w W → (convert 29 9 (.slice Aw na ca)).run Tryd.prog W = .ok (.string (strOf x)) W) := hidyb_ (fun W hW => conv_strn (hrx.below hW) na ca hx)
  have SV : Hid (∀ W, Below w.heap.size w W → (convert 29 9 (.slice As ns cs)).run Tryd.prog W = .ok (.string (strOf s)) W) := hidyb_ (fun W hW => conv_strn (hrs.below hW) ns cs hs)
  have LK : Hid (∀ W, Below w.heap.size w W → (Instr.lookup 48 (.map (some kn)) (.agg #[.int .i64 (e : Int), .int .i64 (c : Int), .int .i64 (n : Int), .string (strOf x), .string (strOf s)]) true).run Tryd.prog W = .ok (.tuple #[.slice A0 nb d0, .bool true]) W) := hidyb_ (fun W hW => by
    have hm := hmk.keep (hW.block kn hmk.lt)
    have h := hm.look keyedB Tryd.underlying48 (zSl_ W) KB.out
    rw [HFK.out] at h
    exact h)
  have d1 : decide ((ns : Int) < 16) = false := decide_eq_false (by omega)
  have d2 : decide (ns < 16) = false := decide_eq_false (by omega)
  clear h hLs hNo hc hn hkl2 hx hs hrx hrs hna hns he hmk h16
  go_enter Tryd.func13, Tryd.ntmps13
  go_upto_region 4 with (first
    | (go_at_call 19; ((with_reducible refine ck.mono ?_); clear ck; rintro r w1 ⟨rfl, hb⟩; have B1 := hidyb_ hb; clear hb; obtain ⟨b1, w1a, hb1, hw1a, KA, NA, XA, SA⟩ := keys_start w1; have B1s := B1.out.size; have HB1 := hidyb_ hb1))
    | (refine wpList_put_row rfl 22 (.tmp 14) (.tmp 25) rfl b1 (rowOf Ls) rfl rfl 22 (rowOf (zbytes 32)) KA IL.out QL.out (bytes_one _) ?_; intro w2 k2 g2 s2; have NA2 := NA.oneOf g2 (by omega); have X2 := XA.grown g2 (by omega) (fun k hk => by injection hk with hk; omega); have K2 := k2; clear g2 s2 KA NA k2)
    | (refine wpList_put_row rfl 54 (.tmp 15) (.tmp 26) rfl (b1 + 1) (rowOf No) rfl rfl 54 (rowOf (zbytes 12)) NA2 IN.out QN.out (bytes_one _) ?_; intro w3 k3 g3 s3; have K3 := hidyb_ (K2.oneOf g3 (by omega)); have N3 := hidyb_ k3; have X3 := hidyb_ (X2.grown g3 (by have := X2.size; omega) (fun k hk => by injection hk with hk; omega)); have B3 := hidyb_ (B1.out.trans (X3.out.mono (by rw [← HB1.out]; exact B1.out.size))); clear g3 s3 k3 NA2 K2 X2))
  have c0 := CM0.out _ B3.out
  have B3h := B3
  clear hw1a SA B1 X3 K3 N3 hb1 XA B1s HB1
  go_upto_region 8 with fail
  rename_i K9 hK9
  clear c0 d1 d2
  refine region_quiet_in (C := fun W => Below w.heap.size w W) (by kernel_rfl) (by kernel_rfl) (B3.out.drew) ?_
  repeat (go_big_quiet_want; (first
    | (refine BigFrame.quiet_move _ rfl ?_; go_simp)
    | (refine BigFrame.quiet_assign _ rfl ?_; go_simp)
    | (refine quiet_run (.pointer (some ⟨v, 0, none⟩)) ?_ ?_; (focus (intro W hW; go_simp; done)); go_simp)
    | (refine quiet_run (.pointer (some ⟨v, 35, none⟩)) ?_ ?_; (focus (intro W hW; go_simp; done)); go_simp)
    | (refine quiet_run (.map (some kn)) ?_ ?_; (focus (intro W hW; have h := CM.out W hW; go_simp; done)); go_simp)
    | (refine quiet_run (.string (strOf x)) ?_ ?_; (focus (intro W hW; have h := XV.out W hW; go_simp; done)); go_simp)
    | (refine quiet_run (.string (strOf s)) ?_ ?_; (focus (intro W hW; have h := SV.out W hW; go_simp; done)); go_simp)
    | (refine quiet_run (.agg #[.int .i64 (e : Int), .int .i64 (c : Int), .int .i64 (n : Int), .string (strOf x), .string (strOf s)]) ?_ ?_; (focus (intro W hW; go_simp; done)); go_simp)
    | (refine quiet_run (.tuple #[.slice A0 nb d0, .bool true]) ?_ ?_; (focus (intro W hW; have h := LK.out W hW; go_simp; done)); go_simp)
    | (refine quiet_run (.slice A0 nb d0) ?_ ?_; (focus (intro W hW; go_simp; done)); go_simp)
    | (refine quiet_run (.bool true) ?_ ?_; (focus (intro W hW; go_simp; done)); go_simp)); go_big_quiet_on)
  refine wpQuiet_nil ?_
  intro w7 hw7
  have B7 := hidyb_ hw7
  clear hw7
  refine hK9 _ _ ?_
  have cc := clone_any A0 nb d0 b w7 BL.out ((RB.out.below B7.out).more B7.out.size) (by have := NB.out; omega)
  go_wp2_with (go_at_call 21; ((with_reducible refine cc.mono ?_); clear cc; rintro r w8 ⟨A8, c8, rfl, ho, hb8⟩; have O8 := hidyb_ ho; have B8 := hidyb_ hb8; clear ho hb8))
  go_ret2
  exact ⟨_, _, rfl, O8.out.lower B7.out.size, B7.out.trans (B8.out.mono B7.out.size)⟩
end Go.Proofs.YtoeofifibjelnaaDoor
