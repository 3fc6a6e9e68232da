/-
  A real vault's Seal and Open; what is sealed is opened, and is spent, by whichever vault.
-/
import Derived.Test.YtoeofifibjelnaaDoorYk
import Derived.Test.YtoeofifibjelnaaDoorEd
namespace Go.Proofs.YtoeofifibjelnaaDoor
set_option maxRecDepth 100000
open Go.RowKit Go.Maps
set_option linter.unusedVariables false
set_option linter.unusedSimpArgs false

theorem VltR.spentBy {w w' : World} {v sp : Nat} {K : List UInt8} {S : List (Nat × Nat)} {F : List Nat} (h : VltR w v sp K S F) (ht : w.mapTurned w' sp) (p : Nat × Nat) (hN : MapIs w' 58 sp (S ++ [p]).length (fS (S ++ [p]))) : VltR w' v sp K (S ++ [p]) F :=
  ⟨h.blk.turned ht, hN, h.len, h.inv, h.ins, fun k hk => by rw [turned_size ht]; exact h.hF k hk⟩
set_option maxRecDepth 100000 in
set_option maxHeartbeats 8000000 in
theorem vseal_real {w : World} {v sp : Nat} {K : List UInt8} {S : List (Nat × Nat)} {F : List Nat} (h : VltR w v sp K S F) (Aw B : Option Addr) (na ca nb cb : Nat) (x b : List UInt8) (hx : x.length = na) (hb : b.length = nb) (hrx : Rd w w.heap.size Aw x) (hrb : Rd w w.heap.size B b) (hna : na ≤ 100000) (hnb : nb ≤ 100000) (hcb : nb ≤ cb) (hcm : cb ≤ 9223372036854775807)
    (e c n : Nat) (he : e ≤ 1048576) (hc : c ≤ 16) (hn : n ≤ 4611686018427387904) (hin : (c, n) ∉ S) (hSl : S.length ≤ 100000)
    (ck : Calls Tryd.prog 19 #[.pointer (some ⟨v, 0, none⟩), .int .i64 (e : Int), .int .i64 (c : Int), .int .i64 (n : Int)] w fun r w' => r = .returned (yesKeys K e c n) ∧ Below w.heap.size w w') :
    Calls Tryd.prog 11 #[.pointer (some ⟨v, 0, none⟩), .int .i64 (e : Int), .int .i64 (c : Int), .int .i64 (n : Int), .slice Aw na ca, .slice B nb cb] w fun r w' => ∃ A d, r = .returned (.tuple #[.slice A (nb + 16) d, .int .i64 0]) ∧ Own8 w' w.heap.size (.slice A (nb + 16) d) (sealB (sealK K e) (nonceB c n) x b) ∧ VltR w' v sp K (S ++ [(c, n)]) F ∧ Untouched F w w' := by
  have hz := z32
  have hz12 := z12
  have hzS := zS_
  have iS := iS_
  obtain ⟨Ls, hLs⟩ : ∃ L, sealK K e = L := ⟨_, rfl⟩
  obtain ⟨No, hNo⟩ : ∃ L, nonceB c n = L := ⟨_, rfl⟩
  have LL := hidyb_ (show Ls.length = 32 by rw [← hLs]; exact sealK_len _ _)
  have NL := hidyb_ (show No.length = 12 by rw [← hNo]; exact nonceB_len _ _)
  have IL := hidyb_ (ib32 Ls LL.out)
  have IN := hidyb_ (ib12 No NL.out)
  have QL := hidyb_ (show (rowOf (zbytes 32)).size = (rowOf Ls).size by rw [rowOf_size, rowOf_size, LL.out, zbytes_len])
  have QN := hidyb_ (show (rowOf (zbytes 12)).size = (rowOf No).size by rw [rowOf_size, rowOf_size, NL.out, zbytes_len])
  unfold yesKeys at ck
  rw [hLs, hNo] at ck
  obtain ⟨kl, hkl⟩ := sKey_lit (c : Int) (n : Int) (by unfold okI; omega) (by unfold okI; omega)
  have KLIT := hidyb_ hkl
  unfold sKey at hkl
  rw [hLs, hNo]
  have HV0 := hidyb_ h
  have HV := hidyb_ h.blk
  have KL := hidyb_ h.len
  have HS := hidyb_ h.spent
  have HI := hidyb_ (fS_no hin)
  have SB := hidyb_ hSl
  have XL := hidyb_ hx
  have BL := hidyb_ hb
  have RX := hidyb_ hrx
  have RB := hidyb_ hrb
  have HNB := hidyb_ hnb
  have HNA := hidyb_ hna
  have HCB := hidyb_ (And.intro hcb hcm)
  clear h hLs hNo hc hn hin hkl hSl hx hb hrx hrb hnb hna he hcb hcm
  go_enter Tryd.func11, Tryd.ntmps11
  go_upto_region 5 with (first
    | (go_at_call 19; ((with_reducible refine ck.mono ?_); clear ck; rintro r w1 ⟨rfl, hb⟩; have B1 := hidyb_ hb; clear hb; obtain ⟨b1, w1a, hb1, hw1a, KA, NA, XA, SA⟩ := keys_start w1; have B1s := B1.out.size; have HB1 := hidyb_ hb1))
    | (refine wpList_put_row rfl 22 (.tmp 14) (.tmp 27) rfl b1 (rowOf Ls) rfl rfl 22 (rowOf (zbytes 32)) KA IL.out QL.out (bytes_one _) ?_; intro w2 k2 g2 s2; have NA2 := NA.oneOf g2 (by omega); have X2 := XA.grown g2 (by omega) (fun k hk => by injection hk with hk; omega); have K2 := k2; clear g2 s2 KA NA k2)
    | (refine wpList_put_row rfl 54 (.tmp 15) (.tmp 28) rfl (b1 + 1) (rowOf No) rfl rfl 54 (rowOf (zbytes 12)) NA2 IN.out QN.out (bytes_one _) ?_; intro w3 k3 g3 s3; have K3 := hidyb_ (K2.oneOf g3 (by omega)); have N3 := hidyb_ k3; have X3 := hidyb_ (X2.grown g3 (by have := X2.size; omega) (fun k hk => by injection hk with hk; omega)); have B3 := hidyb_ (B1.out.trans (X3.out.mono (by rw [← HB1.out]; exact B1.out.size))); clear g3 s3 k3 NA2 K2 X2)
    | (refine wpList_put_row rfl 58 (.tmp 17) (.tmp 35) rfl w3.heap.size #[.int .i64 (c : Int), .int .i64 (n : Int)] rfl rfl 58 #[.int .i64 0, .int .i64 0] (Bk.new w3 _ _) iS rfl (one2i _ _) ?_; intro w4 k4 g4 s4; have BX : Below w3.heap.size w3 w4 := (((Below.refl w3.heap.size w3).alloc (Nat.le_refl _) (.cells #[.int .i64 0, .int .i64 0] 58)).grown g4 (by simp) (fun k hk => by injection hk with hk; omega)); have K4 := hidyb_ k4; have B4 := hidyb_ (B3.out.trans (BX.mono B3.out.size)); have L4 := hidyb_ (K3.out.below BX K3.out.lt); have N4 := hidyb_ (N3.out.below BX N3.out.lt); clear k4 g4 s4 BX))
  rename_i K9 hK9
  have HC : Hid (Keep4 w w4) := hidyb_ B4.out
  generalize hg3 : w3.heap.size = b4 at *
  obtain ⟨g4, hg4⟩ : ∃ g, w4.heap.size = g := ⟨_, rfl⟩
  have G4 := hidyb_ hg4
  have K4l : b4 < g4 := by rw [← hg4]; exact K4.out.lt
  have CM : Hid (∀ W, Below g4 w4 W → W.cell? ⟨v, 33, none⟩ = some (.map (some sp))) := hidyb_ (fun W hW => ((HV.out.below (B4.out.trans (hW.mono (by rw [← hg4]; exact B4.out.size))) HV.out.lt).cell 33).trans (vrow_33 _ K KL.out _ _ _))
  have LK : Hid (∀ W, Below g4 w4 W → (Instr.lookup 46 (.map (some sp)) (.agg #[.int .i64 (c : Int), .int .i64 (n : Int)]) true).run Tryd.prog W = .ok (.tuple #[.agg #[], .bool false]) W) := hidyb_ (fun W hW => by
    have hm := HS.out.keep ((B4.out.trans (hW.mono (by rw [← hg4]; exact B4.out.size))).block sp HS.out.lt)
    have h := hm.look keyedS Tryd.underlying46 (zU_ W) KLIT.out
    rw [HI.out] at h
    exact h)
  clear hw1a SA B1 X3 B3 K3 N3 hg3 hb1 XA B1s HB1
  refine region_byF [37, 38, 39, 40, 41, 42, 36, 43, 44, 18, 19] (fun W => Below g4 w4 W) (fun W W' => Below W.heap.size W W') (SlR v sp (c : Int) (n : Int) false) (by kernel_rfl) (by kernel_rfl) (by kernel_rfl) (by kernel_rfl) (fun j v w w' hT hr => ?_) (fun j v w hlt hj _ => ?_) (by rw [← hg4]; exact (Below.refl _ _).drew) ?_ ?_
  · exact SlR.stable hT j v hr
  · rcases j with _ | _ | _ | _ | _ | _ | _ | _ | _ | _ | _ | _ | j
    all_goals first
      | (exfalso; simp [dstOf] at hj; done)
      | trivial
  · refine ⟨fun a W hC hd hf hv K hK => ?_, fun a W hC hd hf hv K hK => ?_, fun a W hC hd hf hv K hK => ?_, fun a W hC hd hf hv K hK => ?_, fun a W hC hd hf hv K hK => ?_, fun a W hC hd hf hv K hK => ?_, fun a W hC hd hf hv K hK => ?_, fun a W hC hd hf hv K hK => ?_, fun a W hC hd hf hv K hK => ?_, fun a W hC hd hf hv K hK => ?_, fun a W hC hd hf hv K hK => ?_, fun a W hC hd hf hv K hK => ?_, trivial⟩
    · have e1 := slot_of (a := a) (s := 0) (v := .pointer (some ⟨v, 0, none⟩)) (hf 0 (by kernel_rfl))
      refine step_run (wanted_none rfl) (v := .pointer (some ⟨v, 0, none⟩)) (w' := W) ?_ (hK _ _ hC (Below.refl _ _) rfl)
      go_simp
    · have e1 := slot_of (a := a) (s := 37) (v := .pointer (some ⟨v, 0, none⟩)) (hv 0 (by kernel_rfl))
      refine step_run (wanted_none rfl) (v := .pointer (some ⟨v, 0, none⟩)) (w' := W) ?_ (hK _ _ hC (Below.refl _ _) rfl)
      go_simp
    · have e1 := slot_of (a := a) (s := 38) (v := .pointer (some ⟨v, 0, none⟩)) (hv 1 (by kernel_rfl))
      refine step_run (wanted_none rfl) (v := .pointer (some ⟨v, 33, none⟩)) (w' := W) ?_ (hK _ _ hC (Below.refl _ _) rfl)
      go_simp
    · have e1 := slot_of (a := a) (s := 39) (v := .pointer (some ⟨v, 33, none⟩)) (hv 2 (by kernel_rfl))
      have c33 := CM.out W hC
      refine step_run (wanted_none rfl) (v := .map (some sp)) (w' := W) ?_ (hK _ _ hC (Below.refl _ _) rfl)
      go_simp
    · have e1 : a.tmps.getD 17 undef = .pointer (some ⟨b4, 0, none⟩) := hf 17 (by kernel_rfl)
      have k4 := K4.out.below hC K4l
      exact step_load_rowW (wanted_none rfl) 58 (.tmp 17) rfl b4 (eval_of e1) 58 #[.int .i64 (c : Int), .int .i64 (n : Int)] k4 _ Tryd.underlying58 rfl iS (hK _ _ hC (Below.refl _ _) rfl)
    · have e1 := slot_of (a := a) (s := 40) (v := .map (some sp)) (hv 3 (by kernel_rfl))
      have e2 := slot_of (a := a) (s := 41) (v := .agg #[.int .i64 (c : Int), .int .i64 (n : Int)]) (hv 4 (by kernel_rfl))
      have lk := LK.out W hC
      refine step_run (wanted_none rfl) (v := .tuple #[.agg #[], .bool false]) (w' := W) ?_ (hK _ _ hC (Below.refl _ _) rfl)
      go_simp
    · have e1 := slot_of (a := a) (s := 42) (v := .tuple #[.agg #[], .bool false]) (hv 5 (by kernel_rfl))
      refine step_run (wanted_none rfl) (v := .tuple #[.agg #[], .bool false]) (w' := W) ?_ (hK _ _ hC (Below.refl _ _) rfl)
      go_simp
    · have e1 := slot_of (a := a) (s := 36) (v := .tuple #[.agg #[], .bool false]) (hv 6 (by kernel_rfl))
      refine step_run (wanted_none rfl) (v := .agg #[]) (w' := W) ?_ (hK _ _ hC (Below.refl _ _) rfl)
      go_simp
    · have e1 := slot_of (a := a) (s := 36) (v := .tuple #[.agg #[], .bool false]) (hv 6 (by kernel_rfl))
      refine step_run (wanted_none rfl) (v := .bool false) (w' := W) ?_ (hK _ _ hC (Below.refl _ _) rfl)
      go_simp
    · have hzU := zU_
      have hbl := (Below.refl W.heap.size W).alloc (Nat.le_refl _) (.cells #[] 59)
      refine step_run (wanted_none rfl) (v := .pointer (some ⟨W.heap.size, 0, none⟩)) (w' := W.alloc (.cells #[] 59)) ?_ (hK _ _ (hC.trans (hbl.mono (G4.out ▸ hC.size))) hbl ⟨W.heap.size, rfl, Bk.new W _ _⟩)
      go_simp
    · obtain ⟨q, eq, hq⟩ : ∃ q, a.tmps.getD 18 undef = .pointer (some ⟨q, 0, none⟩) ∧ Bk W q 59 #[] := hv 9 (by kernel_rfl)
      refine step_put_row rfl 59 (.tmp 18) (.tmp 43) rfl q #[] (eval_of eq) (eval_of (hv 7 (by kernel_rfl))) 59 #[] hq iU_ rfl (by simp) ?_
      intro W2 k2 g2 s2
      have hbl := Below.same_row hq k2 g2
      exact hK undef _ (hC.trans (hbl.mono (G4.out ▸ hC.size))) hbl trivial
    · have e1 := slot_of (a := a) (s := 44) (v := .bool false) (hv 8 (by kernel_rfl))
      refine step_run (wanted_none rfl) (v := .bool false) (w' := W) ?_ (hK _ _ hC (Below.refl _ _) rfl)
      go_simp
  · intro f w6 hC6 hv6
    obtain ⟨q18, e18, -⟩ : ∃ q, f 18 = .pointer (some ⟨q, 0, none⟩) ∧ Bk w6 q 59 #[] := hv6 9 (by decide)
    have f36 : f 36 = .tuple #[.agg #[], .bool false] := hv6 6 (by decide)
    have f37 : f 37 = .pointer (some ⟨v, 0, none⟩) := hv6 0 (by decide)
    have f38 : f 38 = .pointer (some ⟨v, 0, none⟩) := hv6 1 (by decide)
    have f39 : f 39 = .pointer (some ⟨v, 33, none⟩) := hv6 2 (by decide)
    have f40 : f 40 = .map (some sp) := hv6 3 (by decide)
    have f41 : f 41 = .agg #[.int .i64 (c : Int), .int .i64 (n : Int)] := hv6 4 (by decide)
    have f42 : f 42 = .tuple #[.agg #[], .bool false] := hv6 5 (by decide)
    have f43 : f 43 = .agg #[] := hv6 7 (by decide)
    have f44 : f 44 = .bool false := hv6 8 (by decide)
    have f19 : f 19 = .bool false := hv6 11 (by decide)
    simp only [framed, List.foldl_cons, List.foldl_nil, List.setIfInBounds_toArray, List.set_cons_succ, List.set_cons_zero]
    rw [e18, f36, f37, f38, f39, f40, f41, f42, f43, f44, f19]
    have B6 := hidyb_ hC6
    clear hv6 hC6 e18 f36 f37 f38 f39 f40 f41 f42 f43 f44 f19
    refine hK9 _ _ ?_
    go_upto_region 8 with fail
    rename_i K8 hK8
    have hbU := bU_
    refine region_quiet_tail (C := fun W => Below g4 w4 W) 6 (by kernel_rfl) (by decide +kernel) (B6.out.drew) ?_
    simp only [List.take_succ_cons, List.take_zero]
    repeat (go_big_quiet_want; (first
      | (refine BigFrame.quiet_move _ rfl ?_; go_simp)
      | (refine quiet_run (.pointer (some ⟨v, 0, none⟩)) ?_ ?_; (focus (intro W hW; go_simp; done)); go_simp)
      | (refine quiet_run (.pointer (some ⟨v, 33, none⟩)) ?_ ?_; (focus (intro W hW; go_simp; done)); go_simp)
      | (refine quiet_run (.map (some sp)) ?_ ?_; (focus (intro W hW; have h := CM.out W hW; go_simp; done)); go_simp)
      | (refine quiet_load_row 58 (.tmp 17) rfl b4 rfl 58 #[.int .i64 (c : Int), .int .i64 (n : Int)] _ Tryd.underlying58 rfl iS (fun W hW => K4.out.below hW K4l) ?_; go_simp)
      | (refine quiet_run (.agg #[]) ?_ ?_; (focus (intro W hW; go_simp; done)); go_simp)); go_big_quiet_on)
    refine wpQuiet_nil ?_
    intro w7 hw7
    simp only [List.drop_succ_cons, List.drop_zero]
    have B7 := HC.out.trans (hw7.mono (by rw [← G4.out]; exact HC.out.size))
    have V7 := HV0.out.below B7
    refine wpList_storeM rfl (.tmp 49) (.tmp 50) (.tmp 51) 46 rfl 58 59 keyedS Tryd.underlying46 sp S.length (fS S) rfl V7.spent (by have := SB.out; unfold maxLen; omega) (sKey (c : Int) (n : Int)) (.agg #[]) _ rfl rfl KLIT.out HI.out ?_
    intro w8 hm8 ht8
    rw [fS_snoc] at hm8

    have V8 := hidyb_ (V7.spentBy ht8 (c, n) (by rw [List.length_append]; exact hm8))
    have U8 := hidyb_ ((Untouched.of_below (F := F) B7).trans (Grew.refl _ _) (Untouched.turned ht8 V7.ins))
    have X8 := hidyb_ (show Rd w8 w8.heap.size Aw x from ((RX.out.below B7).turned ht8).more (by rw [turned_size ht8]; exact B7.size))
    have Y8 := hidyb_ (show Rd w8 w8.heap.size B b from ((RB.out.below B7).turned ht8).more (by rw [turned_size ht8]; exact B7.size))
    have L8 := hidyb_ ((L4.out.below hw7 (by rw [← G4.out]; exact L4.out.lt)).turned ht8)
    have N8 := hidyb_ ((N4.out.below hw7 (by rw [← G4.out]; exact N4.out.lt)).turned ht8)
    have c0 := (V8.out.blk.cell 0).trans (vrow_0 _ _ _ _ _)
    have csl := seal_any Ls No Aw na ca x B nb cb b w8 LL.out NL.out XL.out BL.out X8.out Y8.out HCB.out.1 HCB.out.2 (by have := HNA.out; omega) (by have := HNB.out; omega)
    clear hw7 B7 V7 hm8 ht8 hbU
    refine hK8 _ _ ?_
    go_wp2_with (first
      | (refine wpList_load_row rfl 22 (.tmp 14) rfl b1 rfl 22 (rowOf Ls) (0, 0) _ L8.out Tryd.underlying22 rfl IL.out ?_)
      | (refine wpList_load_row rfl 54 (.tmp 15) rfl (b1 + 1) rfl 54 (rowOf No) (0, 0) _ N8.out Tryd.underlying54 rfl IN.out ?_)
      | (go_at_call 20; ((with_reducible refine csl.mono ?_); clear csl; rintro r w9 ⟨A9, c9, rfl, ho, hb⟩; have O9 := hidyb_ (ho.lower U8.out.size); have V9 := hidyb_ (V8.out.below hb); have U9 := hidyb_ (U8.out.thenB hb); clear ho hb)))
    go_ret2
    exact ⟨_, _, rfl, O9.out, V9.out, U9.out⟩
set_option maxRecDepth 100000 in
set_option maxHeartbeats 8000000 in
theorem vopen_real {w : World} {v sp : Nat} {K : List UInt8} {S : List (Nat × Nat)} {F : List Nat} (h : VltR w v sp K S F) (Aw As : Option Addr) (na ca nb cs : Nat) (x b : List UInt8) (hx : x.length = na) (hb : b.length = nb) (hrx : Rd w w.heap.size Aw x) (e c n : Nat) (hrs : Rd w w.heap.size As (sealB (sealK K e) (nonceB c n) x b)) (hna : na ≤ 100000) (hnb : nb ≤ 100000) (hcs : nb + 16 ≤ cs) (hcm : cs ≤ 9223372036854775807)
    (ck : Calls Tryd.prog 19 #[.pointer (some ⟨v, 0, none⟩), .int .i64 (e : Int), .int .i64 (c : Int), .int .i64 (n : Int)] w fun r w' => r = .returned (yesKeys K e c n) ∧ Below w.heap.size w w') :
    Calls Tryd.prog 13 #[.pointer (some ⟨v, 0, none⟩), .int .i64 (e : Int), .int .i64 (c : Int), .int .i64 (n : Int), .slice Aw na ca, .slice As (nb + 16) cs] w fun r w' => ∃ A d, r = .returned (.tuple #[.slice A nb d, .int .i64 0]) ∧ Own8 w' w.heap.size (.slice A nb d) b ∧ Below w.heap.size w w' := by
  have hz := z32
  have hz12 := z12
  obtain ⟨Ls, hLs⟩ : ∃ L, sealK K e = L := ⟨_, rfl⟩
  obtain ⟨No, hNo⟩ : ∃ L, nonceB c n = L := ⟨_, rfl⟩
  have LL := hidyb_ (show Ls.length = 32 by rw [← hLs]; exact sealK_len _ _)
  have NL := hidyb_ (show No.length = 12 by rw [← hNo]; exact nonceB_len _ _)
  have IL := hidyb_ (ib32 Ls LL.out)
  have IN := hidyb_ (ib12 No NL.out)
  have QL := hidyb_ (show (rowOf (zbytes 32)).size = (rowOf Ls).size by rw [rowOf_size, rowOf_size, LL.out, zbytes_len])
  have QN := hidyb_ (show (rowOf (zbytes 12)).size = (rowOf No).size by rw [rowOf_size, rowOf_size, NL.out, zbytes_len])
  unfold yesKeys at ck
  rw [hLs, hNo] at ck hrs
  have SL := hidyb_ (show (sealB Ls No x b).length = nb + 16 by rw [sealB_len, hb])
  have SO := hidyb_ (seal_opens Ls No x b nb hb)
  have SK := hidyb_ (seal_back Ls No x b nb hb)
  have HV0 := hidyb_ h
  have CM0 : Hid (∀ W, Below w.heap.size w W → W.cell? ⟨v, 0, none⟩ = some (.bool false)) := hidyb_ (fun W hW => ((h.below hW).blk.cell 0).trans (vrow_0 _ _ _ _ _))
  have XL := hidyb_ hx
  have RX := hidyb_ hrx
  have RS := hidyb_ hrs
  have HN := hidyb_ (And.intro hna hnb)
  have HC := hidyb_ (And.intro hcs hcm)
  generalize sealB Ls No x b = s at *
  clear h hLs hNo hx hb hrx hrs hna hnb hcs hcm
  go_enter Tryd.func13, Tryd.ntmps13
  go_upto_region 4 with (first
    | (go_at_call 19; ((with_reducible refine ck.mono ?_); clear ck; rintro r w1 ⟨rfl, hb⟩; have B1 := hidyb_ hb; clear hb; obtain ⟨b1, w1a, hb1, hw1a, KA, NA, XA, SA⟩ := keys_start w1; have B1s := B1.out.size; have HB1 := hidyb_ hb1))
    | (refine wpList_put_row rfl 22 (.tmp 14) (.tmp 25) rfl b1 (rowOf Ls) rfl rfl 22 (rowOf (zbytes 32)) KA IL.out QL.out (bytes_one _) ?_; intro w2 k2 g2 s2; have NA2 := NA.oneOf g2 (by omega); have X2 := XA.grown g2 (by omega) (fun k hk => by injection hk with hk; omega); have K2 := k2; clear g2 s2 KA NA k2)
    | (refine wpList_put_row rfl 54 (.tmp 15) (.tmp 26) rfl (b1 + 1) (rowOf No) rfl rfl 54 (rowOf (zbytes 12)) NA2 IN.out QN.out (bytes_one _) ?_; intro w3 k3 g3 s3; have K3 := hidyb_ (K2.oneOf g3 (by omega)); have N3 := hidyb_ k3; have X3 := hidyb_ (X2.grown g3 (by have := X2.size; omega) (fun k hk => by injection hk with hk; omega)); have B3 := hidyb_ (B1.out.trans (X3.out.mono (by rw [← HB1.out]; exact B1.out.size))); clear g3 s3 k3 NA2 K2 X2))
  have c0 := CM0.out _ B3.out
  have co := aopen_yes Ls No Aw na ca x As nb cs s w3 LL.out NL.out XL.out SL.out ((RX.out.below B3.out).more B3.out.size) ((RS.out.below B3.out).more B3.out.size) HC.out.1 HC.out.2 (by have := HN.out; omega) (by have := HN.out; omega) SO.out
  rw [SK.out] at co
  clear hw1a SA B1 X3 hb1 XA B1s HB1
  go_wp2_with (first
    | (refine wpList_load_row rfl 22 (.tmp 14) rfl b1 rfl 22 (rowOf Ls) (0, 0) _ K3.out Tryd.underlying22 rfl IL.out ?_)
    | (refine wpList_load_row rfl 54 (.tmp 15) rfl (b1 + 1) rfl 54 (rowOf No) (0, 0) _ N3.out Tryd.underlying54 rfl IN.out ?_)
    | (go_at_call 22; ((with_reducible refine co.mono ?_); clear co; rintro r w9 ⟨A9, c9, rfl, ho, hb⟩; have O9 := hidyb_ (ho.lower B3.out.size); have B9 := hidyb_ (B3.out.trans (hb.mono B3.out.size)); clear ho hb)))
  go_ret2
  exact ⟨_, _, rfl, O9.out, B9.out⟩
/-- What comes of a sealing, by whichever vault: it is opened again, and its number is spent. -/
def BackP (w : World) (v : Nat) (F : List Nat) (e c n : Nat) (x b : List UInt8) (na nb : Nat) (r : Ending) (w' : World) : Prop :=
  ∃ A d D, r = .returned (.tuple #[.slice A (nb + 16) d, .int .i64 0]) ∧ Own8 w' w.heap.size (.slice A (nb + 16) d) D ∧ Untouched F w w' ∧
    (∀ W (hW : Below w'.heap.size w' W) (ht : Tab W) (hg : 1 < W.heap.size) (Aw : Option Addr) (ca : Nat) (hx : Rd W W.heap.size Aw x),
      Calls Tryd.prog 13 #[.pointer (some ⟨v, 0, none⟩), .int .i64 (e : Int), .int .i64 (c : Int), .int .i64 (n : Int), .slice Aw na ca, .slice A (nb + 16) d] W fun r W' => ∃ A2 d2, r = .returned (.tuple #[.slice A2 nb d2, .int .i64 0]) ∧ Own8 W' W.heap.size (.slice A2 nb d2) b ∧ Below W.heap.size W W') ∧
    (∀ W (hW : Below w'.heap.size w' W) (ht : Tab W) (hg : 1 < W.heap.size),
      Calls Tryd.prog 11 #[.pointer (some ⟨v, 0, none⟩), .int .i64 (e : Int), .int .i64 (c : Int), .int .i64 (n : Int), .slice none 0 0, .slice none 0 0] W fun r W' => r = .returned (.tuple #[.slice none 0 0, .int .i64 13]) ∧ Below W.heap.size W W')
theorem back_ideal {w : World} {v sp nm kn : Nat} {K : List UInt8} {N : List (List UInt8)} {F : List Nat} (h : VltI w v sp nm kn K N [] [] F) (Aw B : Option Addr) (na ca nb cb : Nat) (x b : List UInt8) (hx : x.length = na) (hb : b.length = nb) (hrx : Rd w w.heap.size Aw x) (hrb : Rd w w.heap.size B b) (hna : na ≤ 100000) (hnb : nb ≤ 100000)
    (e c n : Nat) (he1 : 1 ≤ e) (he2 : e ≤ 1048576) (hc1 : 1 ≤ c) (hc2 : c ≤ 16) (hn1 : 1 ≤ n) (hn2 : n ≤ 4611686018427387904) (ht : Tab w) (hg1 : 1 < w.heap.size) :
    Calls Tryd.prog 11 #[.pointer (some ⟨v, 0, none⟩), .int .i64 (e : Int), .int .i64 (c : Int), .int .i64 (n : Int), .slice Aw na ca, .slice B nb cb] w (BackP w v F e c n x b na nb) := by
  refine (vseal_ideal h Aw B na ca nb cb x b hx hb hrx hrb hna hnb e c n he2 hc2 hn2 (by simp) (by simp) (by simp) (keysOf_yes h.blk h.len e c n he1 he2 hc1 hc2 hn1 hn2 ht hg1)).mono ?_
  rintro r w' ⟨A, d, F', rfl, ho, hni, hl⟩
  have DL := drawB_len K 1 (([] : List (Nat × Nat)).length + 1) (nb + 8)
  refine ⟨A, d, _, rfl, ho, hl.2.2, fun W hW ht hg Aw ca hrx => ?_, fun W hW ht hg => ?_⟩
  · have V := hl.1.below hW
    have hc := ho.rd
    exact vopen_hit V Aw A na ca (nb + 16) d x _ hx (by rw [DL]; omega) hrx ((hc.1.below hW).more hW.size) (by omega) (by omega) (by omega) e c n he2 (by omega) hn2 b nb hb (by omega) (by simp) (keysOf_yes V.blk V.len e c n he1 he2 hc1 hc2 hn1 hn2 ht hg)
  · have V := hl.1.below hW
    exact vseal_spent V.blk V.len V.spent none none 0 0 0 0 e c n hc2 hn2 (by simp) (keysOf_yes V.blk V.len e c n he1 he2 hc1 hc2 hn1 hn2 ht hg)
theorem back_real {w : World} {v sp : Nat} {K : List UInt8} {F : List Nat} (h : VltR w v sp K [] F) (Aw B : Option Addr) (na ca nb cb : Nat) (x b : List UInt8) (hx : x.length = na) (hb : b.length = nb) (hrx : Rd w w.heap.size Aw x) (hrb : Rd w w.heap.size B b) (hna : na ≤ 100000) (hnb : nb ≤ 100000) (hcb : nb ≤ cb) (hcm : cb ≤ 9223372036854775807)
    (e c n : Nat) (he1 : 1 ≤ e) (he2 : e ≤ 1048576) (hc1 : 1 ≤ c) (hc2 : c ≤ 16) (hn1 : 1 ≤ n) (hn2 : n ≤ 4611686018427387904) (ht : Tab w) (hg1 : 1 < w.heap.size) :
    Calls Tryd.prog 11 #[.pointer (some ⟨v, 0, none⟩), .int .i64 (e : Int), .int .i64 (c : Int), .int .i64 (n : Int), .slice Aw na ca, .slice B nb cb] w (BackP w v F e c n x b na nb) := by
  refine (vseal_real h Aw B na ca nb cb x b hx hb hrx hrb hna hnb hcb hcm e c n he2 hc2 hn2 (by simp) (by simp) (keysOf_yes h.blk h.len e c n he1 he2 hc1 hc2 hn1 hn2 ht hg1)).mono ?_
  rintro r w' ⟨A, d, rfl, ho, hv, hu⟩
  refine ⟨A, d, _, rfl, ho, hu, fun W hW ht hg Aw ca hrx => ?_, fun W hW ht hg => ?_⟩
  · have V := hv.below hW
    have hc := ho.rd
    exact vopen_real V Aw A na ca nb d x b hx hb hrx e c n ((hc.1.below hW).more hW.size) hna hnb ho.cap.1 ho.cap.2 (keysOf_yes V.blk V.len e c n he1 he2 hc1 hc2 hn1 hn2 ht hg)
  · have V := hv.below hW
    exact vseal_spent V.blk V.len V.spent none none 0 0 0 0 e c n hc2 hn2 (by simp) (keysOf_yes V.blk V.len e c n he1 he2 hc1 hc2 hn1 hn2 ht hg)
end Go.Proofs.YtoeofifibjelnaaDoor
