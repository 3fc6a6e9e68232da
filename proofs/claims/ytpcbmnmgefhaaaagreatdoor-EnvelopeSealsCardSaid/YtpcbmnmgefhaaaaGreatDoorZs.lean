import Derived.Test.YtpcbmnmgefhaaaaGreatDoorYJ
namespace Go.Proofs.YtpcbmnmgefhaaaaGreatDoor
set_option maxRecDepth 100000
open Go.RowKit Go.Maps
set_option linter.unusedVariables false
set_option linter.unusedSimpArgs false
set_option maxHeartbeats 4000000 in
theorem vblind_real {w:World} {v sp:Nat} {K:List UInt8} {nm kn:Option Nat} (h:Bk w v 95 (vrow false K (some sp) nm kn)) (hK:K.length=32) (A:Option Addr) (n c:Nat) (name:List UInt8) (hn:name.length=n) (h1:1≤n) (h64:n≤64) (hc:n≤c) (hcm:c≤9223372036854775807) (hr:Rd w w.heap.size A name) (ht:Tab w) (hg1:2 < w.heap.size) :
  Calls Tryz.prog 23 #[.pointer (some ⟨v,0,none⟩),.slice A n c] w fun e w'=>e = .returned (.tuple #[.agg (rowOf (blindK K name)),.int .i64 0])∧Below w.heap.size w w':=by
 have hz:=zB
 obtain ⟨g,w0,hg,hw0,A0,X0,S0⟩:=vblind_start w
 have V0:=hidyb_ (h.below X0 (by have:=h.lt;omega))
 have HX0:=hidyb_ X0
 have Z0:=hidyb_ A0
 have KL:=hidyb_ hK
 rw [hg] at hg1
 have T0:Tab w0:=fun t h=>(X0.cell (p:=⟨_,t,none⟩) hg1).trans (ht t h)
 have R0:=hidyb_ (((hg ▸ hr).below X0).more (show g≤w0.heap.size by omega))
 have I32:=hidyb_ (ib32 K hK)
 have BL:=hidyb_ (blindK_len K name)
 have IA:=hidyb_ (iB (blindK K name) BL.out)
 have QA:=hidyb_ (show (rowOf (zbytes 32)).size=(rowOf (blindK K name)).size by rw [rowOf_size,rowOf_size,BL.out,zbytes_len])
 have CK:Hid (∀ j,j < (rowOf K).size→w0.cell? ⟨v,1 + j,none⟩=(rowOf K)[j]?):=hidyb_ (fun j hj=>by
  rw [V0.out.cell (1 + j)]
  exact vrow_k false K KL.out _ _ _ j (by rw [rowOf_size,KL.out] at hj;exact hj))
 have ck:=blind_yes w0 K hK A n c name hn h1 h64 hc hcm R0.out T0 (by omega)
 have cm:=made_yes V0.out hK
 have HG:=hidyb_ hg
 generalize blindK K name=b0 at *
 clear h hK X0 A0 hn T0 ht hr h1 h64 hc hcm
 go_enter Tryz.func23,Tryz.ntmps23
 go_wp2_with (first
  | (go_at_call 50;((with_reducible refine cm.mono ?_);clear cm;rintro e w' ⟨rfl,rfl⟩))
  | (refine wpList_load_sub rfl 22 (.tmp 15) rfl v 1 rfl (rowOf K) CK.out _ Tryz.underlying22 rfl I32.out ?_)
  | (go_at_call 51;((with_reducible refine ck.mono ?_);clear ck;rintro e w2 ⟨rfl,hb⟩;have B2:=hidyb_ hb;clear hb))
  | (refine wpList_put_row rfl 39 (.tmp 6) (.tmp 19) rfl w2.heap.size (rowOf b0) rfl rfl 39 (rowOf (zbytes 32)) (Bk.new w2 _ _) IA.out QA.out (bytes_one _) ?_;intro w3 k3 g3 s3;have BX:Below w2.heap.size w2 w3:=(((Below.refl w2.heap.size w2).alloc (Nat.le_refl _) (.cells (rowOf (zbytes 32)) 39)).grown g3 (by simp) (fun k hk=>by injection hk with hk;omega));have K3:=hidyb_ k3;have B3:=hidyb_ (B2.out.trans (BX.mono B2.out.size));have Y0:=hidyb_ (Z0.out.below B3.out Z0.out.lt);have c3:=((V0.out.below B3.out V0.out.lt).cell 0).trans (vrow_0 _ _ _ _ _);have HX3:=hidyb_ (HX0.out.trans (B3.out.mono (by omega)));clear k3 g3 s3 BX)
  | (refine wpList_load_row rfl 39 (.tmp 6) rfl w2.heap.size rfl 39 (rowOf b0) (0,0) _ K3.out Tryz.underlying39 rfl IA.out ?_)
  | (refine wpList_put_row rfl 39 (.tmp 4) (.tmp 30) rfl g (rowOf b0) rfl rfl 39 (rowOf (zbytes 32)) Y0.out IA.out QA.out (bytes_one _) ?_;intro w7 k8 g7 s7;have k8h:=hidyb_ k8;have HX7:=hidyb_ (HX3.out.grown g7 (by have:=HX3.out.size;omega) (fun k hk=>by injection hk with hk;omega));clear k8 g7 s7))
 exact bodyPost_ret (results_cell_slot Tryz.results23 _ _ g rfl rfl (run_loadVar_row _ _ _ _ _ (0,0) _ k8h.out Tryz.underlying39 rfl IA.out)) rfl ⟨rfl,HG.out ▸ HX7.out⟩
set_option maxHeartbeats 4000000 in
theorem vopen_no {w:World} {v:Nat} (A B:Option Addr) (na ca nb cb:Nat) (e c n:Int) (ck:Calls Tryz.prog 57 #[.pointer (some ⟨v,0,none⟩),.int .i64 e,.int .i64 c,.int .i64 n] w fun r w'=>r = .returned noKeys∧Below w.heap.size w w') :
  Calls Tryz.prog 35 #[.pointer (some ⟨v,0,none⟩),.int .i64 e,.int .i64 c,.int .i64 n,.slice A na ca,.slice B nb cb] w fun r w'=>r = .returned (.tuple #[.slice none 0 0,.int .i64 1])∧Below w.heap.size w w':=by
 have hz:=z32
 have hz12:=z12
 obtain ⟨Ls,hLs⟩:∃ L,zbytes 32=L:=⟨_,rfl⟩
 obtain ⟨No,hNo⟩:∃ L,zbytes 12=L:=⟨_,rfl⟩
 have IL:=hidyb_ (show (Tryz.prog.info? 22).map (·.size)=some (rowOf Ls).size by rw [← hLs];exact ib32 _ (zbytes_len 32))
 have IN:=hidyb_ (show (Tryz.prog.info? 107).map (·.size)=some (rowOf No).size by rw [← hNo];exact ib12 _ (zbytes_len 12))
 have QL:=hidyb_ (show (rowOf (zbytes 32)).size=(rowOf Ls).size by rw [hLs])
 have QN:=hidyb_ (show (rowOf (zbytes 12)).size=(rowOf No).size by rw [hNo])
 unfold noKeys at ck
 rw [show (Value.tuple #[.agg (rowOf (zbytes 32)),.agg (rowOf (zbytes 12)),.int .i64 1]) = .tuple #[.agg (rowOf Ls),.agg (rowOf No),.int .i64 1] by rw [hLs,hNo]] at ck
 clear hLs hNo
 go_enter Tryz.func35,Tryz.ntmps35
 go_wp2_with (first
  | (go_at_call 57;((with_reducible refine ck.mono ?_);clear ck;rintro r w1 ⟨rfl,hb⟩;have B1:=hidyb_ hb;clear hb;obtain ⟨b1,w1a,hb1,hw1a,KA,NA,XA,SA⟩:=keys_start w1;have B1s:=B1.out.size;have HB1:=hidyb_ hb1))
  | (refine wpList_put_row rfl 22 (.tmp 14) (.tmp 25) rfl b1 (rowOf Ls) rfl rfl 22 (rowOf (zbytes 32)) KA IL.out QL.out (bytes_one _) ?_;intro w2 k2 g2 s2;have NA2:=NA.oneOf g2 (by omega);have X2:=XA.grown g2 (by omega) (fun k hk=>by injection hk with hk;omega);have K2:=k2;clear g2 s2 KA NA k2)
  | (refine wpList_put_row rfl 107 (.tmp 15) (.tmp 26) rfl (b1 + 1) (rowOf No) rfl rfl 107 (rowOf (zbytes 12)) NA2 IN.out QN.out (bytes_one _) ?_;intro w3 k3 g3 s3;have K3:=hidyb_ (K2.oneOf g3 (by omega));have N3:=hidyb_ k3;have X3:=hidyb_ (X2.grown g3 (by have:=X2.size;omega) (fun k hk=>by injection hk with hk;omega));have B3:=hidyb_ (B1.out.trans (X3.out.mono (by rw [← HB1.out];exact B1.out.size)));clear g3 s3 k3 NA2 K2 X2))
 go_ret2
 exact ⟨rfl,B3.out⟩
set_option maxHeartbeats 4000000 in
theorem vopen_short {w:World} {v sp nm kn:Nat} {K:List UInt8} {N:List (List UInt8)} {S:List (Nat × Nat)} {L:List SealV} {F:List Nat} (h:VltI w v sp nm kn K N S L F) (A B:Option Addr) (na ca ns cb:Nat) (hns:ns < 16) (e c n:Nat) (ck:Calls Tryz.prog 57 #[.pointer (some ⟨v,0,none⟩),.int .i64 (e:Int),.int .i64 (c:Int),.int .i64 (n:Int)] w fun r w'=>r = .returned (yesKeys K e c n)∧Below w.heap.size w w') :
  Calls Tryz.prog 35 #[.pointer (some ⟨v,0,none⟩),.int .i64 (e:Int),.int .i64 (c:Int),.int .i64 (n:Int),.slice A na ca,.slice B ns cb] w fun r w'=>r = .returned (.tuple #[.slice none 0 0,.int .i64 2])∧Below w.heap.size w w':=by
 have hz:=z32
 have hz12:=z12
 obtain ⟨Ls,hLs⟩:∃ L,sealK K e=L:=⟨_,rfl⟩
 obtain ⟨No,hNo⟩:∃ L,nonceB c n=L:=⟨_,rfl⟩
 have LL:=hidyb_ (show Ls.length=32 by rw [← hLs];exact sealK_len _ _)
 have NL:=hidyb_ (show No.length=12 by rw [← hNo];exact nonceB_len _ _)
 have IL:=hidyb_ (ib32 Ls LL.out)
 have IN:=hidyb_ (ib12 No NL.out)
 have QL:=hidyb_ (show (rowOf (zbytes 32)).size=(rowOf Ls).size by rw [rowOf_size,rowOf_size,LL.out,zbytes_len])
 have QN:=hidyb_ (show (rowOf (zbytes 12)).size=(rowOf No).size by rw [rowOf_size,rowOf_size,NL.out,zbytes_len])
 unfold yesKeys at ck
 rw [hLs,hNo] at ck
 have CM0:Hid (∀ W,Below w.heap.size w W→W.cell? ⟨v,0,none⟩=some (.bool true)):=hidyb_ (fun W hW=>((h.below hW).blk.cell 0).trans (vrow_0 _ _ _ _ _))
 have d1:decide ((ns:Int) < 16)=true:=decide_eq_true (by omega)
 have d2:decide (ns < 16)=true:=decide_eq_true (by omega)
 clear h hLs hNo hns
 go_enter Tryz.func35,Tryz.ntmps35
 go_upto_region 4 with (first
  | (go_at_call 57;((with_reducible refine ck.mono ?_);clear ck;rintro r w1 ⟨rfl,hb⟩;have B1:=hidyb_ hb;clear hb;obtain ⟨b1,w1a,hb1,hw1a,KA,NA,XA,SA⟩:=keys_start w1;have B1s:=B1.out.size;have HB1:=hidyb_ hb1))
  | (refine wpList_put_row rfl 22 (.tmp 14) (.tmp 25) rfl b1 (rowOf Ls) rfl rfl 22 (rowOf (zbytes 32)) KA IL.out QL.out (bytes_one _) ?_;intro w2 k2 g2 s2;have NA2:=NA.oneOf g2 (by omega);have X2:=XA.grown g2 (by omega) (fun k hk=>by injection hk with hk;omega);have K2:=k2;clear g2 s2 KA NA k2)
  | (refine wpList_put_row rfl 107 (.tmp 15) (.tmp 26) rfl (b1 + 1) (rowOf No) rfl rfl 107 (rowOf (zbytes 12)) NA2 IN.out QN.out (bytes_one _) ?_;intro w3 k3 g3 s3;have K3:=hidyb_ (K2.oneOf g3 (by omega));have N3:=hidyb_ k3;have X3:=hidyb_ (X2.grown g3 (by have:=X2.size;omega) (fun k hk=>by injection hk with hk;omega));have B3:=hidyb_ (B1.out.trans (X3.out.mono (by rw [← HB1.out];exact B1.out.size)));clear g3 s3 k3 NA2 K2 X2))
 have c0:=CM0.out _ B3.out
 clear hw1a SA B1 X3 K3 N3 hb1 XA B1s HB1
 go_wp2
 go_ret2
 exact ⟨rfl,B3.out⟩
set_option maxHeartbeats 8000000 in
theorem vopen_r0 {w:World} {v sp:Nat} {K:List UInt8} {S:List (Nat × Nat)} {F:List Nat} (h:VltR w v sp K S F) (Aw As:Option Addr) (na ca ns cs:Nat) (e c n:Nat) (Q:Ending→World→Prop)
  (ck:Calls Tryz.prog 57 #[.pointer (some ⟨v,0,none⟩),.int .i64 (e:Int),.int .i64 (c:Int),.int .i64 (n:Int)] w fun r w'=>r = .returned (yesKeys K e c n)∧Below w.heap.size w w')
  (co:∀ W,Below w.heap.size w W→Calls Tryz.prog 70 #[.agg (rowOf (sealK K e)),.agg (rowOf (nonceB c n)),.slice Aw na ca,.slice As ns cs] W fun r w'=>∃ A m d z,r = .returned (.tuple #[.slice A m d,.int .i64 z])∧Q r w') :
  Calls Tryz.prog 35 #[.pointer (some ⟨v,0,none⟩),.int .i64 (e:Int),.int .i64 (c:Int),.int .i64 (n:Int),.slice Aw na ca,.slice As ns cs] w fun r w'=>True∧Q r w':=by
 have hz:=z32
 have hz12:=z12
 obtain ⟨Ls,hLs⟩:∃ L,sealK K e=L:=⟨_,rfl⟩
 obtain ⟨No,hNo⟩:∃ L,nonceB c n=L:=⟨_,rfl⟩
 have LL:=hidyb_ (show Ls.length=32 by rw [← hLs];exact sealK_len _ _)
 have NL:=hidyb_ (show No.length=12 by rw [← hNo];exact nonceB_len _ _)
 have IL:=hidyb_ (ib32 Ls LL.out)
 have IN:=hidyb_ (ib12 No NL.out)
 have QL:=hidyb_ (show (rowOf (zbytes 32)).size=(rowOf Ls).size by rw [rowOf_size,rowOf_size,LL.out,zbytes_len])
 have QN:=hidyb_ (show (rowOf (zbytes 12)).size=(rowOf No).size by rw [rowOf_size,rowOf_size,NL.out,zbytes_len])
 unfold yesKeys at ck
 rw [hLs,hNo] at ck
 rw [hLs,hNo] at co
 have CM0:Hid (∀ W,Below w.heap.size w W→W.cell? ⟨v,0,none⟩=some (.bool false)):=hidyb_ (fun W hW=>((h.below hW).blk.cell 0).trans (vrow_0 _ _ _ _ _))
 have CO:=hidyb_ co
 clear h hLs hNo co
 go_enter Tryz.func35,Tryz.ntmps35
 go_upto_region 4 with (first
  | (go_at_call 57;((with_reducible refine ck.mono ?_);clear ck;rintro r w1 ⟨rfl,hb⟩;have B1:=hidyb_ hb;clear hb;obtain ⟨b1,w1a,hb1,hw1a,KA,NA,XA,SA⟩:=keys_start w1;have B1s:=B1.out.size;have HB1:=hidyb_ hb1))
  | (refine wpList_put_row rfl 22 (.tmp 14) (.tmp 25) rfl b1 (rowOf Ls) rfl rfl 22 (rowOf (zbytes 32)) KA IL.out QL.out (bytes_one _) ?_;intro w2 k2 g2 s2;have NA2:=NA.oneOf g2 (by omega);have X2:=XA.grown g2 (by omega) (fun k hk=>by injection hk with hk;omega);have K2:=k2;clear g2 s2 KA NA k2)
  | (refine wpList_put_row rfl 107 (.tmp 15) (.tmp 26) rfl (b1 + 1) (rowOf No) rfl rfl 107 (rowOf (zbytes 12)) NA2 IN.out QN.out (bytes_one _) ?_;intro w3 k3 g3 s3;have K3:=hidyb_ (K2.oneOf g3 (by omega));have N3:=hidyb_ k3;have X3:=hidyb_ (X2.grown g3 (by have:=X2.size;omega) (fun k hk=>by injection hk with hk;omega));have B3:=hidyb_ (B1.out.trans (X3.out.mono (by rw [← HB1.out];exact B1.out.size)));clear g3 s3 k3 NA2 K2 X2))
 have c0:=CM0.out _ B3.out
 have co:=CO.out _ B3.out
 clear hw1a SA B1 X3 hb1 XA B1s HB1
 go_wp2_with (first
  | (refine wpList_load_row rfl 22 (.tmp 14) rfl b1 rfl 22 (rowOf Ls) (0,0) _ K3.out Tryz.underlying22 rfl IL.out ?_)
  | (refine wpList_load_row rfl 107 (.tmp 15) rfl (b1 + 1) rfl 107 (rowOf No) (0,0) _ N3.out Tryz.underlying107 rfl IN.out ?_)
  | (go_at_call 70;((with_reducible refine co.mono ?_);clear co;rintro r w9 ⟨A9,m9,d9,z9,rfl,hq⟩;have HQ:=hidyb_ hq;clear hq)))
 go_ret2
 exact ⟨trivial,HQ.out⟩
theorem vopen_r {w:World} {v sp:Nat} {K:List UInt8} {S:List (Nat × Nat)} {F:List Nat} (h:VltR w v sp K S F) (Aw As:Option Addr) (na ca ns cs:Nat) (e c n:Nat) (Q:Ending→World→Prop)
  (ck:Calls Tryz.prog 57 #[.pointer (some ⟨v,0,none⟩),.int .i64 (e:Int),.int .i64 (c:Int),.int .i64 (n:Int)] w fun r w'=>r = .returned (yesKeys K e c n)∧Below w.heap.size w w')
  (co:∀ W,Below w.heap.size w W→Calls Tryz.prog 70 #[.agg (rowOf (sealK K e)),.agg (rowOf (nonceB c n)),.slice Aw na ca,.slice As ns cs] W fun r w'=>∃ A m d z,r = .returned (.tuple #[.slice A m d,.int .i64 z])∧Q r w') :
  Calls Tryz.prog 35 #[.pointer (some ⟨v,0,none⟩),.int .i64 (e:Int),.int .i64 (c:Int),.int .i64 (n:Int),.slice Aw na ca,.slice As ns cs] w Q :=
 (vopen_r0 h Aw As na ca ns cs e c n Q ck co).mono fun r w' hh=>hh.2
end Go.Proofs.YtpcbmnmgefhaaaaGreatDoor
