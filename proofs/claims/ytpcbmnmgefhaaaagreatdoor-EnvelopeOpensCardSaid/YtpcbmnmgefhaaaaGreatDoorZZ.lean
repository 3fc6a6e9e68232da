import Derived.Test.YtpcbmnmgefhaaaaGreatDoorYJ
import Derived.Test.YtpcbmnmgefhaaaaGreatDoorUn
import Derived.Test.YtpcbmnmgefhaaaaGreatDoorFj
namespace Go.Proofs.YtpcbmnmgefhaaaaGreatDoor
set_option maxRecDepth 100000
open Go.RowKit Go.Maps
set_option linter.unusedVariables false
set_option linter.unusedSimpArgs false
set_option maxHeartbeats 4000000 in
theorem vblind_real {w:World} {v sp:Nat} {K:List UInt8} {nm kn:Option Nat} (h:Bk w v 95 (vrow false K (some sp) nm kn)) (hK:K.length=32) (A:Option Addr) (n c:Nat) (name:List UInt8) (hn:name.length=n) (h1:1≤n) (h64:n≤64) (hc:n≤c) (hcm:c≤9223372036854775807) (hr:Rd w w.heap.size A name) (ht:Tab w) (hg1:2 < w.heap.size) :
  Calls Tryz.prog 23 #[.pointer (some ⟨v,0,none⟩),.slice A n c] w fun e w'=>e = .returned (.tuple #[.agg (rowOf (blindK K name)),.int .i64 0])∧Below w.heap.size w w':=by
 have hz:=zB
 obtain ⟨g,w0,hg,hw0,A0,X0,S0⟩:=vblind_start w
 have V0:=hidyb_ (h.below X0 (by have:=h.lt;omega))
 have HX0:=hidyb_ X0
 have Z0:=hidyb_ A0
 have KL:=hidyb_ hK
 rw [hg] at hg1
 have T0:Tab w0:=fun t h=>(X0.cell (p:=⟨_,t,none⟩) hg1).trans (ht t h)
 have R0:=hidyb_ (((hg ▸ hr).below X0).more (show g≤w0.heap.size by omega))
 have I32:=hidyb_ (ib32 K hK)
 have BL:=hidyb_ (blindK_len K name)
 have IA:=hidyb_ (iB (blindK K name) BL.out)
 have QA:=hidyb_ (show (rowOf (zbytes 32)).size=(rowOf (blindK K name)).size by rw [rowOf_size,rowOf_size,BL.out,zbytes_len])
 have CK:Hid (∀ j,j < (rowOf K).size→w0.cell? ⟨v,1 + j,none⟩=(rowOf K)[j]?):=hidyb_ (fun j hj=>by
  rw [V0.out.cell (1 + j)]
  exact vrow_k false K KL.out _ _ _ j (by rw [rowOf_size,KL.out] at hj;exact hj))
 have ck:=blind_yes w0 K hK A n c name hn h1 h64 hc hcm R0.out T0 (by omega)
 have cm:=made_yes V0.out hK
 have HG:=hidyb_ hg
 generalize blindK K name=b0 at *
 clear h hK X0 A0 hn T0 ht hr h1 h64 hc hcm
 go_enter Tryz.func23,Tryz.ntmps23
 go_wp2_with (first
  | (go_at_call 50;((with_reducible refine cm.mono ?_);clear cm;rintro e w' ⟨rfl,rfl⟩))
  | (refine wpList_load_sub rfl 22 (.tmp 15) rfl v 1 rfl (rowOf K) CK.out _ Tryz.underlying22 rfl I32.out ?_)
  | (go_at_call 51;((with_reducible refine ck.mono ?_);clear ck;rintro e w2 ⟨rfl,hb⟩;have B2:=hidyb_ hb;clear hb))
  | (refine wpList_put_row rfl 39 (.tmp 6) (.tmp 19) rfl w2.heap.size (rowOf b0) rfl rfl 39 (rowOf (zbytes 32)) (Bk.new w2 _ _) IA.out QA.out (bytes_one _) ?_;intro w3 k3 g3 s3;have BX:Below w2.heap.size w2 w3:=(((Below.refl w2.heap.size w2).alloc (Nat.le_refl _) (.cells (rowOf (zbytes 32)) 39)).grown g3 (by simp) (fun k hk=>by injection hk with hk;omega));have K3:=hidyb_ k3;have B3:=hidyb_ (B2.out.trans (BX.mono B2.out.size));have Y0:=hidyb_ (Z0.out.below B3.out Z0.out.lt);have c3:=((V0.out.below B3.out V0.out.lt).cell 0).trans (vrow_0 _ _ _ _ _);have HX3:=hidyb_ (HX0.out.trans (B3.out.mono (by omega)));clear k3 g3 s3 BX)
  | (refine wpList_load_row rfl 39 (.tmp 6) rfl w2.heap.size rfl 39 (rowOf b0) (0,0) _ K3.out Tryz.underlying39 rfl IA.out ?_)
  | (refine wpList_put_row rfl 39 (.tmp 4) (.tmp 30) rfl g (rowOf b0) rfl rfl 39 (rowOf (zbytes 32)) Y0.out IA.out QA.out (bytes_one _) ?_;intro w7 k8 g7 s7;have k8h:=hidyb_ k8;have HX7:=hidyb_ (HX3.out.grown g7 (by have:=HX3.out.size;omega) (fun k hk=>by injection hk with hk;omega));clear k8 g7 s7))
 exact bodyPost_ret (results_cell_slot Tryz.results23 _ _ g rfl rfl (run_loadVar_row _ _ _ _ _ (0,0) _ k8h.out Tryz.underlying39 rfl IA.out)) rfl ⟨rfl,HG.out ▸ HX7.out⟩
set_option maxHeartbeats 4000000 in
theorem vopen_no {w:World} {v:Nat} (A B:Option Addr) (na ca nb cb:Nat) (e c n:Int) (ck:Calls Tryz.prog 57 #[.pointer (some ⟨v,0,none⟩),.int .i64 e,.int .i64 c,.int .i64 n] w fun r w'=>r = .returned noKeys∧Below w.heap.size w w') :
  Calls Tryz.prog 35 #[.pointer (some ⟨v,0,none⟩),.int .i64 e,.int .i64 c,.int .i64 n,.slice A na ca,.slice B nb cb] w fun r w'=>r = .returned (.tuple #[.slice none 0 0,.int .i64 1])∧Below w.heap.size w w':=by
 have hz:=z32
 have hz12:=z12
 obtain ⟨Ls,hLs⟩:∃ L,zbytes 32=L:=⟨_,rfl⟩
 obtain ⟨No,hNo⟩:∃ L,zbytes 12=L:=⟨_,rfl⟩
 have IL:=hidyb_ (show (Tryz.prog.info? 22).map (·.size)=some (rowOf Ls).size by rw [← hLs];exact ib32 _ (zbytes_len 32))
 have IN:=hidyb_ (show (Tryz.prog.info? 107).map (·.size)=some (rowOf No).size by rw [← hNo];exact ib12 _ (zbytes_len 12))
 have QL:=hidyb_ (show (rowOf (zbytes 32)).size=(rowOf Ls).size by rw [hLs])
 have QN:=hidyb_ (show (rowOf (zbytes 12)).size=(rowOf No).size by rw [hNo])
 unfold noKeys at ck
 rw [show (Value.tuple #[.agg (rowOf (zbytes 32)),.agg (rowOf (zbytes 12)),.int .i64 1]) = .tuple #[.agg (rowOf Ls),.agg (rowOf No),.int .i64 1] by rw [hLs,hNo]] at ck
 clear hLs hNo
 go_enter Tryz.func35,Tryz.ntmps35
 go_wp2_with (first
  | (go_at_call 57;((with_reducible refine ck.mono ?_);clear ck;rintro r w1 ⟨rfl,hb⟩;have B1:=hidyb_ hb;clear hb;obtain ⟨b1,w1a,hb1,hw1a,KA,NA,XA,SA⟩:=keys_start w1;have B1s:=B1.out.size;have HB1:=hidyb_ hb1))
  | (refine wpList_put_row rfl 22 (.tmp 14) (.tmp 25) rfl b1 (rowOf Ls) rfl rfl 22 (rowOf (zbytes 32)) KA IL.out QL.out (bytes_one _) ?_;intro w2 k2 g2 s2;have NA2:=NA.oneOf g2 (by omega);have X2:=XA.grown g2 (by omega) (fun k hk=>by injection hk with hk;omega);have K2:=k2;clear g2 s2 KA NA k2)
  | (refine wpList_put_row rfl 107 (.tmp 15) (.tmp 26) rfl (b1 + 1) (rowOf No) rfl rfl 107 (rowOf (zbytes 12)) NA2 IN.out QN.out (bytes_one _) ?_;intro w3 k3 g3 s3;have K3:=hidyb_ (K2.oneOf g3 (by omega));have N3:=hidyb_ k3;have X3:=hidyb_ (X2.grown g3 (by have:=X2.size;omega) (fun k hk=>by injection hk with hk;omega));have B3:=hidyb_ (B1.out.trans (X3.out.mono (by rw [← HB1.out];exact B1.out.size)));clear g3 s3 k3 NA2 K2 X2))
 go_ret2
 exact ⟨rfl,B3.out⟩
set_option maxHeartbeats 4000000 in
theorem vopen_short {w:World} {v sp nm kn:Nat} {K:List UInt8} {N:List (List UInt8)} {S:List (Nat × Nat)} {L:List SealV} {F:List Nat} (h:VltI w v sp nm kn K N S L F) (A B:Option Addr) (na ca ns cb:Nat) (hns:ns < 16) (e c n:Nat) (ck:Calls Tryz.prog 57 #[.pointer (some ⟨v,0,none⟩),.int .i64 (e:Int),.int .i64 (c:Int),.int .i64 (n:Int)] w fun r w'=>r = .returned (yesKeys K e c n)∧Below w.heap.size w w') :
  Calls Tryz.prog 35 #[.pointer (some ⟨v,0,none⟩),.int .i64 (e:Int),.int .i64 (c:Int),.int .i64 (n:Int),.slice A na ca,.slice B ns cb] w fun r w'=>r = .returned (.tuple #[.slice none 0 0,.int .i64 2])∧Below w.heap.size w w':=by
 have hz:=z32
 have hz12:=z12
 obtain ⟨Ls,hLs⟩:∃ L,sealK K e=L:=⟨_,rfl⟩
 obtain ⟨No,hNo⟩:∃ L,nonceB c n=L:=⟨_,rfl⟩
 have LL:=hidyb_ (show Ls.length=32 by rw [← hLs];exact sealK_len _ _)
 have NL:=hidyb_ (show No.length=12 by rw [← hNo];exact nonceB_len _ _)
 have IL:=hidyb_ (ib32 Ls LL.out)
 have IN:=hidyb_ (ib12 No NL.out)
 have QL:=hidyb_ (show (rowOf (zbytes 32)).size=(rowOf Ls).size by rw [rowOf_size,rowOf_size,LL.out,zbytes_len])
 have QN:=hidyb_ (show (rowOf (zbytes 12)).size=(rowOf No).size by rw [rowOf_size,rowOf_size,NL.out,zbytes_len])
 unfold yesKeys at ck
 rw [hLs,hNo] at ck
 have CM0:Hid (∀ W,Below w.heap.size w W→W.cell? ⟨v,0,none⟩=some (.bool true)):=hidyb_ (fun W hW=>((h.below hW).blk.cell 0).trans (vrow_0 _ _ _ _ _))
 have d1:decide ((ns:Int) < 16)=true:=decide_eq_true (by omega)
 have d2:decide (ns < 16)=true:=decide_eq_true (by omega)
 clear h hLs hNo hns
 go_enter Tryz.func35,Tryz.ntmps35
 go_upto_region 4 with (first
  | (go_at_call 57;((with_reducible refine ck.mono ?_);clear ck;rintro r w1 ⟨rfl,hb⟩;have B1:=hidyb_ hb;clear hb;obtain ⟨b1,w1a,hb1,hw1a,KA,NA,XA,SA⟩:=keys_start w1;have B1s:=B1.out.size;have HB1:=hidyb_ hb1))
  | (refine wpList_put_row rfl 22 (.tmp 14) (.tmp 25) rfl b1 (rowOf Ls) rfl rfl 22 (rowOf (zbytes 32)) KA IL.out QL.out (bytes_one _) ?_;intro w2 k2 g2 s2;have NA2:=NA.oneOf g2 (by omega);have X2:=XA.grown g2 (by omega) (fun k hk=>by injection hk with hk;omega);have K2:=k2;clear g2 s2 KA NA k2)
  | (refine wpList_put_row rfl 107 (.tmp 15) (.tmp 26) rfl (b1 + 1) (rowOf No) rfl rfl 107 (rowOf (zbytes 12)) NA2 IN.out QN.out (bytes_one _) ?_;intro w3 k3 g3 s3;have K3:=hidyb_ (K2.oneOf g3 (by omega));have N3:=hidyb_ k3;have X3:=hidyb_ (X2.grown g3 (by have:=X2.size;omega) (fun k hk=>by injection hk with hk;omega));have B3:=hidyb_ (B1.out.trans (X3.out.mono (by rw [← HB1.out];exact B1.out.size)));clear g3 s3 k3 NA2 K2 X2))
 have c0:=CM0.out _ B3.out
 clear hw1a SA B1 X3 K3 N3 hb1 XA B1s HB1
 go_wp2
 go_ret2
 exact ⟨rfl,B3.out⟩
set_option maxHeartbeats 8000000 in
theorem vopen_r0 {w:World} {v sp:Nat} {K:List UInt8} {S:List (Nat × Nat)} {F:List Nat} (h:VltR w v sp K S F) (Aw As:Option Addr) (na ca ns cs:Nat) (e c n:Nat) (Q:Ending→World→Prop)
  (ck:Calls Tryz.prog 57 #[.pointer (some ⟨v,0,none⟩),.int .i64 (e:Int),.int .i64 (c:Int),.int .i64 (n:Int)] w fun r w'=>r = .returned (yesKeys K e c n)∧Below w.heap.size w w')
  (co:∀ W,Below w.heap.size w W→Calls Tryz.prog 70 #[.agg (rowOf (sealK K e)),.agg (rowOf (nonceB c n)),.slice Aw na ca,.slice As ns cs] W fun r w'=>∃ A m d z,r = .returned (.tuple #[.slice A m d,.int .i64 z])∧Q r w') :
  Calls Tryz.prog 35 #[.pointer (some ⟨v,0,none⟩),.int .i64 (e:Int),.int .i64 (c:Int),.int .i64 (n:Int),.slice Aw na ca,.slice As ns cs] w fun r w'=>True∧Q r w':=by
 have hz:=z32
 have hz12:=z12
 obtain ⟨Ls,hLs⟩:∃ L,sealK K e=L:=⟨_,rfl⟩
 obtain ⟨No,hNo⟩:∃ L,nonceB c n=L:=⟨_,rfl⟩
 have LL:=hidyb_ (show Ls.length=32 by rw [← hLs];exact sealK_len _ _)
 have NL:=hidyb_ (show No.length=12 by rw [← hNo];exact nonceB_len _ _)
 have IL:=hidyb_ (ib32 Ls LL.out)
 have IN:=hidyb_ (ib12 No NL.out)
 have QL:=hidyb_ (show (rowOf (zbytes 32)).size=(rowOf Ls).size by rw [rowOf_size,rowOf_size,LL.out,zbytes_len])
 have QN:=hidyb_ (show (rowOf (zbytes 12)).size=(rowOf No).size by rw [rowOf_size,rowOf_size,NL.out,zbytes_len])
 unfold yesKeys at ck
 rw [hLs,hNo] at ck
 rw [hLs,hNo] at co
 have CM0:Hid (∀ W,Below w.heap.size w W→W.cell? ⟨v,0,none⟩=some (.bool false)):=hidyb_ (fun W hW=>((h.below hW).blk.cell 0).trans (vrow_0 _ _ _ _ _))
 have CO:=hidyb_ co
 clear h hLs hNo co
 go_enter Tryz.func35,Tryz.ntmps35
 go_upto_region 4 with (first
  | (go_at_call 57;((with_reducible refine ck.mono ?_);clear ck;rintro r w1 ⟨rfl,hb⟩;have B1:=hidyb_ hb;clear hb;obtain ⟨b1,w1a,hb1,hw1a,KA,NA,XA,SA⟩:=keys_start w1;have B1s:=B1.out.size;have HB1:=hidyb_ hb1))
  | (refine wpList_put_row rfl 22 (.tmp 14) (.tmp 25) rfl b1 (rowOf Ls) rfl rfl 22 (rowOf (zbytes 32)) KA IL.out QL.out (bytes_one _) ?_;intro w2 k2 g2 s2;have NA2:=NA.oneOf g2 (by omega);have X2:=XA.grown g2 (by omega) (fun k hk=>by injection hk with hk;omega);have K2:=k2;clear g2 s2 KA NA k2)
  | (refine wpList_put_row rfl 107 (.tmp 15) (.tmp 26) rfl (b1 + 1) (rowOf No) rfl rfl 107 (rowOf (zbytes 12)) NA2 IN.out QN.out (bytes_one _) ?_;intro w3 k3 g3 s3;have K3:=hidyb_ (K2.oneOf g3 (by omega));have N3:=hidyb_ k3;have X3:=hidyb_ (X2.grown g3 (by have:=X2.size;omega) (fun k hk=>by injection hk with hk;omega));have B3:=hidyb_ (B1.out.trans (X3.out.mono (by rw [← HB1.out];exact B1.out.size)));clear g3 s3 k3 NA2 K2 X2))
 have c0:=CM0.out _ B3.out
 have co:=CO.out _ B3.out
 clear hw1a SA B1 X3 hb1 XA B1s HB1
 go_wp2_with (first
  | (refine wpList_load_row rfl 22 (.tmp 14) rfl b1 rfl 22 (rowOf Ls) (0,0) _ K3.out Tryz.underlying22 rfl IL.out ?_)
  | (refine wpList_load_row rfl 107 (.tmp 15) rfl (b1 + 1) rfl 107 (rowOf No) (0,0) _ N3.out Tryz.underlying107 rfl IN.out ?_)
  | (go_at_call 70;((with_reducible refine co.mono ?_);clear co;rintro r w9 ⟨A9,m9,d9,z9,rfl,hq⟩;have HQ:=hidyb_ hq;clear hq)))
 go_ret2
 exact ⟨trivial,HQ.out⟩
theorem vopen_r {w:World} {v sp:Nat} {K:List UInt8} {S:List (Nat × Nat)} {F:List Nat} (h:VltR w v sp K S F) (Aw As:Option Addr) (na ca ns cs:Nat) (e c n:Nat) (Q:Ending→World→Prop)
  (ck:Calls Tryz.prog 57 #[.pointer (some ⟨v,0,none⟩),.int .i64 (e:Int),.int .i64 (c:Int),.int .i64 (n:Int)] w fun r w'=>r = .returned (yesKeys K e c n)∧Below w.heap.size w w')
  (co:∀ W,Below w.heap.size w W→Calls Tryz.prog 70 #[.agg (rowOf (sealK K e)),.agg (rowOf (nonceB c n)),.slice Aw na ca,.slice As ns cs] W fun r w'=>∃ A m d z,r = .returned (.tuple #[.slice A m d,.int .i64 z])∧Q r w') :
  Calls Tryz.prog 35 #[.pointer (some ⟨v,0,none⟩),.int .i64 (e:Int),.int .i64 (c:Int),.int .i64 (n:Int),.slice Aw na ca,.slice As ns cs] w Q :=
 (vopen_r0 h Aw As na ca ns cs e c n Q ck co).mono fun r w' hh=>hh.2
open Go.ChangeShapes Go.WideShapes Go.ChangeAt Go.RowKit
theorem bk_ne {w:World} {a b:Nat} {t t':TypeId} {cs cs':Array Value} (h:Bk w a t cs) (h':Bk w b t' cs') (ht:t≠t'):a≠b:=by
 rintro rfl
 have e:=Option.some.inj ((show w.heap[a]? = some (.cells cs t (0,0)) from h).symm.trans (show w.heap[a]? = some (.cells cs' t' (0,0)) from h'))
 injection e with _ e2 _
 exact ht e2
def slR (t:SealV):Array Value:=#[.int .i64 (t.e:Int),.int .i64 (t.c:Int),.int .i64 (t.n:Int),.string (strOf t.x),.string (strOf t.b),.string (strOf t.s)]
def slC (l:List SealV):List Value:=l.flatMap fun t=>(slR t).toList
theorem slC_len (l:List SealV):(slC l).length=l.length * 6:=by
 induction l with
 | nil=>rfl
 | cons p l ih =>
  have e:slC (p :: l)=(slR p).toList ++ slC l:=rfl
  have h3:(slR p).toList.length=6:=rfl
  rw [e,List.length_append,ih,List.length_cons,h3]
  omega
theorem slC_at:∀ (l:List SealV) (k j:Nat) (h:k < l.length),j < 6→(slC l)[k * 6 + j]? = (slR l[k])[j]?
 | [],_,_,h,_=>absurd h (by simp)
 | p :: l,0,j,_,hj=>by
  have e:slC (p :: l)=(slR p).toList ++ slC l:=rfl
  have h3:(slR p).toList.length=6:=rfl
  rw [e,List.getElem?_append_left (by omega)]
  simp
 | p :: l,k + 1,j,h,hj=>by
  have ih:=slC_at l k j (by simpa using h) hj
  have e:slC (p :: l)=(slR p).toList ++ slC l:=rfl
  have h3:(slR p).toList.length=6:=rfl
  rw [e,List.getElem?_append_right (by omega),h3,show (k + 1) * 6 + j - 6=k * 6 + j by omega,ih]
  simp
def OwnSL (w:World) (base:Nat) (v:Value) (l:List SealV):Prop:=w.ownsRow base 120 6 v l.length (slC l)
section
variable {w w' : World} {base : Nat} {v : Value} {l : List SealV} {F : List Nat}
theorem OwnSL.nil_ (w:World) (base:Nat):OwnSL w base (.slice none 0 0) []:=World.ownsRow_nil w base 120 6
theorem OwnSL.keep (h:OwnSL w base v l) (hu:Untouched F w w') (hF:∀ g,v.ownBlock=some g→g∉F):OwnSL w' base v l:=rowKeep h hu hF
theorem OwnSL.form (h:OwnSL w base v l):∃ A c,v = .slice A l.length c:=rowForm h
theorem OwnSL.cells {A:Option Addr} {n c:Nat} (h:OwnSL w base (.slice A n c) l) (k:Nat) (hk:k < l.length):∃ g,A=some ⟨g,0,none⟩∧∀ j,j < 6→w.cell? ⟨g,k * 6 + j,none⟩=(slR l[k])[j]?:=by
 have h0:=h
 rcases h.2 with ⟨hv,hz⟩ | ⟨g,cap,cur,hv,_⟩
 ·omega
 ·injection hv with e1 e2 e3
  subst e1 e2 e3
  have hl:=slC_len l
  refine ⟨g,rfl,fun j hj=>?_⟩
  rw [World.ownsRow.cellAt h0 (k * 6 + j) (by omega)]
  exact slC_at l k j hk hj
theorem infoSl:(Tryz.prog.info? 120).map (fun i=>(i.size,i.bytes,i.zero.map (·.cells.size)))=some (6,72,some 6):=by kernel_rfl
theorem slR_one (t:SealV):∀ u∈(slR t).toList,u.oneCell' = true:=fun u hu=>by
 simp [slR] at hu
 rcases hu with rfl | rfl | rfl | rfl | rfl | rfl <;> rfl
theorem run_appSL (h:OwnSL w base v l) (t:SealV) (g:Nat) (hg:Bk w g 120 (slR t)) (ty:TypeId) (c:Nat) (hsz:l.length + 1≤1000000) (hbase:base≤w.heap.size) :
  ∃ v' w',(Builtin.append_ #[62,62] ty #[v,.slice (some ⟨g,0,none⟩) 1 c]).run Tryz.prog w = .ok v' w'∧OwnSL w' base v' (l ++ [t])∧w.grownBy w' v.ownBlock∧(v'.ownBlock=v.ownBlock∨v'.ownBlock=some w.heap.size):=by
 obtain ⟨i,hi,hii⟩:=Option.map_eq_some_iff.1 infoSl
 simp only [Prod.mk.injEq] at hii
 obtain ⟨hsize,hby,hzz⟩:=hii
 obtain ⟨z,hz,hzs⟩:=Option.map_eq_some_iff.1 hzz
 have hplain:∀ j,(⟨g,0,none⟩:Addr).add j=⟨g,j,none⟩:=fun j=>by unfold Addr.add;split <;> simp_all
 obtain ⟨v',w',hrun,h2,h3,_,h5⟩:=run_append_own_at (P:=Tryz.prog) w base 62 ty 120 i z 6 72 Tryz.underlying62 hi hz hsize hby hzs (by decide) v l.length (slC l) h ⟨g,0,none⟩ 1 c (slR t).toList
  rfl (fun j u hj=>by rw [hplain,hg.cell];simpa using hj) (slR_one t) (by simp only [maxLen];omega) (by omega) hbase
 refine ⟨v',w',hrun,?_,h3,h5⟩
 unfold OwnSL
 have e:slC (l ++ [t])=slC l ++ (slR t).toList:=by simp [slC]
 rw [List.length_append,e]
 exact h2
end
theorem tyN {w:World} {b:Nat} {v:Value} {l:List (List UInt8)} (h:OwnN w b v l):∀ g,v.ownBlock=some g→g < w.heap.size∧∃ cs,Bk w g 9 cs:=fun g e=>by
 refine ⟨(World.ownsRow.lt h g e).2,?_⟩
 rcases h.2 with ⟨rfl,_⟩ | ⟨g',cap,cur,rfl,_,hh,_⟩
 ·cases e
 ·injection e with e
  simp only at e
  subst e
  exact ⟨_,hh⟩
theorem tySL {w:World} {b:Nat} {v:Value} {l:List SealV} (h:OwnSL w b v l):∀ g,v.ownBlock=some g→g < w.heap.size∧∃ cs,Bk w g 120 cs:=fun g e=>by
 refine ⟨(World.ownsRow.lt h g e).2,?_⟩
 rcases h.2 with ⟨rfl,_⟩ | ⟨g',cap,cur,rfl,_,hh,_⟩
 ·cases e
 ·injection e with e
  simp only at e
  subst e
  exact ⟨_,hh⟩
theorem wpList_appRun {P:Program} {ops:Array Oper} {rest:List Oper} {o:Oper} {a:Act} {w w':World} {Q:Exit→Act→World→Prop} (hgd:o.guard=none) (T:Array TypeId) (s x:Operand) (ho:o.op = .call { callee:=.builtin .append,args:=#[s,x],argTypes:=T }) (u v r:Value) (hs:a.eval s=u) (hx:a.eval x=v)
  (hrun:(Builtin.append_ T o.type #[u,v]).run P w = .ok r w') (hk:wpList P ops Q rest (a.put o.dst r) w'):wpList P ops Q (o :: rest) a w :=
 wpList_plain hgd fun _ h=>by
  unfold Oper.wp execOp
  simp only [ho,resolve,invoke,builtin,Sem.run_bind,Sem.run_pure,Result.andThen_ok,List.map_toArray,List.map_cons,List.map_nil,hs,hx,hrun]
  exact h _ _ hk
theorem run_oneSL (w:World) (t:SealV):(Instr.buildSlice 62 1 #[(0,.agg (slR t))]).run Tryz.prog w = .ok (.slice (some ⟨w.heap.size,0,none⟩) 1 1) (w.alloc (.cells (slR t) 120)):=by
 obtain ⟨i,hi,hii⟩:=Option.map_eq_some_iff.1 infoSl
 simp only [Prod.mk.injEq] at hii
 obtain ⟨hsize,hby,hzz⟩:=hii
 obtain ⟨z,hz,hzs⟩:=Option.map_eq_some_iff.1 hzz
 refine run_buildSlice w 62 120 1 _ (slR t) i z Tryz.underlying62 hi hz (by rw [hsize];decide) (by rw [hsize];decide) ?_
 rw [hsize]
 have h:=Go.Great.fill_whole (s:=6) (by decide) [.agg (slR t)] ((Array.range (1 * 6)).map (z.cells[· % z.cells.size]!)) (fun v hv=>by simp at hv;subst hv;simp [Value.cells,slR]) (by simp)
 rw [show ([Value.agg (slR t)].flatMap fun v=>v.cells.toList).toArray=slR t by simp [Value.cells]] at h
 exact h
theorem wpList_oneSL {ops:Array Oper} {rest:List Oper} {o:Oper} {a:Act} {w:World} {Q:Exit→Act→World→Prop} (hgd:o.guard=none) (x:Operand) (ho:o.op = .buildSlice 62 1 #[(0,x)]) (t:SealV) (hx:a.eval x = .agg (slR t))
  (hk:wpList Tryz.prog ops Q rest (a.put o.dst (.slice (some ⟨w.heap.size,0,none⟩) 1 1)) (w.alloc (.cells (slR t) 120))):wpList Tryz.prog ops Q (o :: rest) a w :=
 wpList_plain hgd fun _ h=>by
  unfold Oper.wp execOp
  simp only [ho,Sem.run_bind,Sem.run_pure,Result.andThen_ok,List.map_toArray,List.map_cons,List.map_nil,hx,run_oneSL w t]
  exact h _ _ hk
structure RefV (w:World) (g:Nat) (id:Bool) (K:List UInt8) (vn vl:Value) (N:List (List UInt8)) (L:List SealV) (G:List Nat):Prop where
 blk:Bk w g 64 #[.bool id,.string (strOf K),vn,vl]
 names:OwnN w 0 vn N
 sls:OwnSL w 0 vl L
 ing:g∈G
 inn:∀ b,vn.ownBlock=some b→b∈G
 inl:∀ b,vl.ownBlock=some b→b∈G
 hG:∀ k∈G,k < w.heap.size
section
variable {w w' : World} {g : Nat} {id : Bool} {K : List UInt8} {vn vl vn' vl' : Value} {N N' : List (List UInt8)} {L L' : List SealV} {G F : List Nat}
theorem RefV.keep (h:RefV w g id K vn vl N L G) (hu:Untouched F w w') (hd:∀ k∈G,k∉F):RefV w' g id K vn vl N L G :=
 ⟨h.blk.untouched hu (hd g h.ing),OwnN.keep h.names hu (fun b e=>hd b (h.inn b e)),h.sls.keep hu (fun b e=>hd b (h.inl b e)),h.ing,h.inn,h.inl,fun k hk=>Nat.lt_of_lt_of_le (h.hG k hk) hu.size⟩
theorem RefV.below (h:RefV w g id K vn vl N L G) (hb:Below w.heap.size w w'):RefV w' g id K vn vl N L G:=h.keep (F:=[]) (.of_below hb) (fun _ _=>by simp)
theorem RefV.gn (h:RefV w g id K vn vl N L G):∀ b,vn.ownBlock=some b→b≠g:=fun b e=>by
 obtain ⟨_,cs,hc⟩:=tyN h.names b e
 exact bk_ne hc h.blk (by decide)
theorem RefV.gl (h:RefV w g id K vn vl N L G):∀ b,vl.ownBlock=some b→b≠g:=fun b e=>by
 obtain ⟨_,cs,hc⟩:=tySL h.sls b e
 exact bk_ne hc h.blk (by decide)
theorem RefV.nl (h:RefV w g id K vn vl N L G):∀ b b',vn.ownBlock=some b→vl.ownBlock=some b'→b≠b':=fun b b' e e'=>by
 obtain ⟨_,cs,hc⟩:=tyN h.names b e
 obtain ⟨_,cs',hc'⟩:=tySL h.sls b' e'
 exact bk_ne hc hc' (by decide)
end
open Go.RowKit
structure Foot (P:World→List Nat→Prop):Prop where
 lt:∀ {w F},P w F→∀ k∈F,k < w.heap.size
 keep:∀ {w w' F H},P w F→Untouched H w w'→(∀ k∈F,k∉H)→P w' F
def Leaves (P:World→List Nat→Prop) (w:World) (F:List Nat) (w':World):Prop:=∃ F',P w' F'∧Grew w F F'∧Untouched F w w'
section
variable {w0 w w' : World} {X Y : Nat → Prop} {P P' R R' : World → List Nat → Prop} {F G : List Nat}
theorem Leaves.below (hP:Foot P) (h:P w F) (hb:Below w.heap.size w w'):Leaves P w F w':=⟨F,hP.keep h (Untouched.of_below (F:=[]) hb) (fun _ _=>by simp),Grew.refl _ _,.of_below hb⟩
end
section
variable {w0 : World} {X : Nat → Prop} {P P' R R' : World → List Nat → Prop} {i1 i2 : Nat} {bx : World → Prop} {D : Nat → Bool} {W W' : World}
end
def cn (t:SealV):Nat × Nat:=(t.c,t.n)
def VS (id:Bool) (v sp nm kn:Nat) (K:List UInt8) (N:List (List UInt8)) (L:List SealV) (w:World) (F:List Nat):Prop :=
 match id with
 | true=>VltI w v sp nm kn K N (L.map cn) L F
 | false=>VltR w v sp K (L.map cn) F
def RS (id:Bool) (g:Nat) (K:List UInt8) (N:List (List UInt8)) (L:List SealV) (w:World) (G:List Nat):Prop:=∃ vn vl,RefV w g id K vn vl N L G
theorem VS.foot (id:Bool) (v sp nm kn:Nat) (K:List UInt8) (N:List (List UInt8)) (L:List SealV):Foot (VS id v sp nm kn K N L):=by
 cases id
 ·exact ⟨fun h=>VltR.hF h,fun {w w' F H} h hu hd=>VltR.keep h (fun k hk=>hu.block k (VltR.hF h k hk) (hd k hk)) hu.size⟩
 ·exact ⟨fun h=>VltI.hF h,fun h hu hd=>VltI.untouched h hu hd⟩
theorem RS.foot (id:Bool) (g:Nat) (K:List UInt8) (N:List (List UInt8)) (L:List SealV):Foot (RS id g K N L) :=
 ⟨fun ⟨_,_,h⟩=>h.hG,fun ⟨vn,vl,h⟩ hu hd=>⟨vn,vl,h.keep hu hd⟩⟩
theorem VS.blk {id:Bool} {v sp nm kn:Nat} {K:List UInt8} {N:List (List UInt8)} {L:List SealV} {w:World} {F:List Nat} (h:VS id v sp nm kn K N L w F) :
  ∃ nmo kno,Bk w v 95 (vrow id K (some sp) nmo kno)∧K.length=32∧MapIs w 111 sp (L.map cn).length (fS (L.map cn)):=by
 cases id
 ·exact ⟨none,none,VltR.blk h,VltR.len h,VltR.spent h⟩
 ·exact ⟨some nm,some kn,VltI.blk h,VltI.len h,VltI.spent h⟩
def nmBad (name:List UInt8):Prop:=name.length=0∨64 < name.length
instance (name:List UInt8):Decidable (nmBad name):=by unfold nmBad;infer_instance
def bE (name:List UInt8):Int:=if nmBad name then 1 else 0
def bB (id:Bool) (K:List UInt8) (N:List (List UInt8)) (name:List UInt8):List UInt8:=if id then drawB K 0 (ordN N name) 24 else blindK K name
def bN (id:Bool) (N:List (List UInt8)) (name:List UInt8):List (List UInt8):=if nmBad name then N else if id then addNm N name else N
theorem bB_len (id:Bool) (K:List UInt8) (N:List (List UInt8)) (name:List UInt8):(bB id K N name).length=32:=by
 unfold bB
 split
 ·exact drawB_len _ _ _ _
 ·exact blindK_len _ _
theorem bN_len (id:Bool) (N:List (List UInt8)) (name:List UInt8):(bN id N name).length≤N.length + 1:=by
 unfold bN
 split
 ·omega
 ·split
  ·exact addNm_len _ _
  ·omega
def bV (id:Bool) (K:List UInt8) (N:List (List UInt8)) (name:List UInt8):List UInt8:=if nmBad name then zbytes 32 else bB id K N name
theorem bV_len (id:Bool) (K:List UInt8) (N:List (List UInt8)) (name:List UInt8):(bV id K N name).length=32:=by
 unfold bV
 split
 ·exact zbytes_len _
 ·exact bB_len _ _ _ _
section
variable {id : Bool} {v sp nm kn : Nat} {K : List UInt8} {N : List (List UInt8)} {L : List SealV} {w : World} {F : List Nat}
theorem vblind_x (h:VS id v sp nm kn K N L w F) (A:Option Addr) (n c:Nat) (name:List UInt8) (hn:name.length=n) (hc:n≤c) (hcm:c≤9223372036854775807) (hr:Rd w w.heap.size A name) (hN:N.length≤100000) (ht:Tab w) (hg1:2 < w.heap.size) :
  Calls Tryz.prog 23 #[.pointer (some ⟨v,0,none⟩),.slice A n c] w fun e w'=>e = .returned (.tuple #[.agg (rowOf (bV id K N name)),.int .i64 (bE name)])∧Leaves (VS id v sp nm kn K (bN id N name) L) w F w':=by
 obtain ⟨nmo,kno,hb,hK,hs⟩:=h.blk
 by_cases hbad:nmBad name
 ·have hbad2:n=0∨64 < n:=by rw [← hn];exact hbad
  refine (vblind_no hb hK A n c hbad2).mono ?_
  rintro e w' ⟨rfl,hB⟩
  refine ⟨by unfold bV bE;rw [if_pos hbad,if_pos hbad],?_⟩
  unfold bN
  rw [if_pos hbad]
  exact Leaves.below (VS.foot id v sp nm kn K N L) h hB
 ·have h1:1≤n:=by unfold nmBad at hbad;omega
  have h2:n≤64:=by unfold nmBad at hbad;omega
  cases id
  ·refine (vblind_real (VltR.blk h) hK A n c name hn h1 h2 hc hcm hr ht hg1).mono ?_
   rintro e w' ⟨rfl,hB⟩
   refine ⟨by unfold bV bE bB;rw [if_neg hbad,if_neg hbad];rfl,?_⟩
   unfold bN
   rw [if_neg hbad]
   exact Leaves.below (VS.foot false v sp nm kn K N L) h hB
  ·refine (vblind_yes h A n c name hn h1 h2 hc hcm hr hN ht hg1).mono ?_
   rintro e w' ⟨rfl,hl⟩
   refine ⟨by unfold bV bE bB;rw [if_neg hbad,if_neg hbad];rfl,?_⟩
   unfold bN
   rw [if_neg hbad]
   exact ⟨F,hl.1,hl.2.1,hl.2.2⟩
def sE (L:List SealV) (e c n:Int):Int:=if slOk e c n then (if (c.toNat,n.toNat)∈L.map cn then 13 else 0) else 1
def sO (id:Bool) (K:List UInt8) (L:List SealV) (e c n:Nat) (x b:List UInt8):List UInt8:=if id then drawB K 1 (L.length + 1) (b.length + 8) else sealB (sealK K e) (nonceB c n) x b
theorem sO_len (id:Bool) (K:List UInt8) (L:List SealV) (e c n:Nat) (x b:List UInt8):(sO id K L e c n x b).length=b.length + 16:=by
 unfold sO
 split
 ·rw [drawB_len];omega
 ·rw [sealB_len]
def sB (id:Bool) (K:List UInt8) (L:List SealV) (e c n:Int) (x b:List UInt8):List UInt8:=if slOk e c n∧(c.toNat,n.toNat)∉L.map cn then sO id K L e.toNat c.toNat n.toNat x b else []
def sL (id:Bool) (K:List UInt8) (L:List SealV) (e c n:Int) (x b:List UInt8):List SealV:=if slOk e c n∧(c.toNat,n.toNat)∉L.map cn then L ++ [⟨e.toNat,c.toNat,n.toNat,x,sO id K L e.toNat c.toNat n.toNat x b,b⟩] else L
theorem sB_len (id:Bool) (K:List UInt8) (L:List SealV) (e c n:Int) (x b:List UInt8):(sB id K L e c n x b).length≤b.length + 16:=by
 unfold sB
 split
 ·rw [sO_len];exact Nat.le_refl _
 ·simp
theorem keys_no {nmo kno:Option Nat} (hb:Bk w v 95 (vrow id K (some sp) nmo kno)) (hK:K.length=32) (e c n:Int) (ht:Tab w) (hg1:2 < w.heap.size) (hok:¬ slOk e c n) :
  Calls Tryz.prog 57 #[.pointer (some ⟨v,0,none⟩),.int .i64 e,.int .i64 c,.int .i64 n] w fun r w'=>r = .returned noKeys∧Below w.heap.size w w':=by
 by_cases he:1≤e∧e≤1048576
 ·obtain ⟨e,rfl⟩:∃ k:Nat,e=(k:Int):=⟨e.toNat,by omega⟩
  exact keysOf_no2 hb hK e c n (by omega) (by omega) (fun h=>hok ⟨he,h⟩) ht hg1
 ·exact keysOf_no1 hb hK e c n he
theorem ownX {A:Option Addr} {m d:Nat} {l:List UInt8} {w':World} {base:Nat} (h:Own8 w' base (.slice A m d) l):∀ a,A=some a→base≤a.block∧a.block < w'.heap.size:=fun a e=>World.ownsRow.lt h a.block (by rw [e];rfl)
def hitS (e c n:Nat) (x s:List UInt8) (t:SealV):Bool:=decide (t.e=e) && decide (t.c=c) && decide (t.n=n) && decide (t.x=x) && decide (t.s=s)
theorem hitS_iff {e c n:Nat} {x s:List UInt8} {t:SealV}:hitS e c n x s t=true↔t.e=e∧t.c=c∧t.n=n∧t.x=x∧t.s=s:=by
 simp [hitS,and_assoc]
def oT (id:Bool) (K:List UInt8) (L:List SealV) (e c n:Nat) (x s:List UInt8):Option (List UInt8) :=
 if id then (L.find? (hitS e c n x s)).map (·.b) else (if tagB (sealK K e) (nonceB c n) x (s.take (s.length - 16))=s.drop (s.length - 16) then some (streamB (sealK K e) (nonceB c n) 1 (s.take (s.length - 16))) else none)
def oE (id:Bool) (K:List UInt8) (L:List SealV) (e c n:Int) (x s:List UInt8):Int:=if slOk e c n then (if s.length < 16 then 2 else (if (oT id K L e.toNat c.toNat n.toNat x s).isSome then 0 else 6)) else 1
def oB (id:Bool) (K:List UInt8) (L:List SealV) (e c n:Int) (x s:List UInt8):List UInt8:=if slOk e c n then (if s.length < 16 then [] else (oT id K L e.toNat c.toNat n.toNat x s).getD []) else []
theorem vopen_x (h:VS id v sp nm kn K N L w F) (Aw As:Option Addr) (na ca ns cs:Nat) (x s:List UInt8) (hx:x.length=na) (hs:s.length=ns) (hrx:Rd w w.heap.size Aw x) (hrs:Rd w w.heap.size As s) (hna:na≤100000) (hns:ns≤100000) (hcs:ns≤cs) (hcm:cs≤9223372036854775807)
  (hLb:∀ t∈L,t.b.length≤100000) (e c n:Int) (ht:Tab w) (hg1:2 < w.heap.size) :
  Calls Tryz.prog 35 #[.pointer (some ⟨v,0,none⟩),.int .i64 e,.int .i64 c,.int .i64 n,.slice Aw na ca,.slice As ns cs] w fun r w'=>∃ A d,r = .returned (.tuple #[.slice A (oB id K L e c n x s).length d,.int .i64 (oE id K L e c n x s)])∧Rd w' w'.heap.size A (oB id K L e c n x s)∧Below w.heap.size w w':=by
 obtain ⟨nmo,kno,hbk,hK,hsp⟩:=h.blk
 have no:∀ (z:Int) (r:Ending) (w':World),oE id K L e c n x s=z→oB id K L e c n x s = []→r = .returned (.tuple #[.slice none 0 0,.int .i64 z])→Below w.heap.size w w'→∃ A d,r = .returned (.tuple #[.slice A (oB id K L e c n x s).length d,.int .i64 (oE id K L e c n x s)])∧Rd w' w'.heap.size A (oB id K L e c n x s)∧Below w.heap.size w w':=by
  intro z r w' h1 h2 h3 h4
  refine ⟨none,0,?_,?_,h4⟩
  ·rw [h3,h1,h2];rfl
  ·rw [h2];exact Rd.nil
 by_cases hok:slOk e c n
 ·have hok':=hok
  obtain ⟨⟨he1,he2⟩,hc1,hc2,hn1,hn2⟩:=hok'
  obtain ⟨e,rfl⟩:∃ k:Nat,e=(k:Int):=⟨e.toNat,by omega⟩
  obtain ⟨c,rfl⟩:∃ k:Nat,c=(k:Int):=⟨c.toNat,by omega⟩
  obtain ⟨n,rfl⟩:∃ k:Nat,n=(k:Int):=⟨n.toNat,by omega⟩
  have ck:=keysOf_yes hbk hK e c n (by omega) (by omega) (by omega) (by omega) (by omega) (by omega) ht hg1
  by_cases hsh:s.length < 16
  ·have e1:oE id K L (e:Int) (c:Int) (n:Int) x s=2:=by unfold oE;rw [if_pos hok,if_pos hsh]
   have e2:oB id K L (e:Int) (c:Int) (n:Int) x s = []:=by unfold oB;rw [if_pos hok,if_pos hsh]
   cases id
   ·refine (vopen_r h Aw As na ca ns cs e c n (fun r w'=>r = .returned (.tuple #[.slice none 0 0,.int .i64 2])∧Below w.heap.size w w') ck (fun W hW=>?_)).mono (fun r w' hh=>no 2 r w' e1 e2 hh.1 hh.2)
    refine (aopen_short _ _ Aw na ca As ns cs W (by omega)).mono ?_
    rintro r w' ⟨hr,hB⟩
    exact ⟨none,0,0,2,hr,hr,hW.trans (hB.mono hW.size)⟩
   ·exact (vopen_short h Aw As na ca ns cs (by omega) e c n ck).mono (fun r w' hh=>no 2 r w' e1 e2 hh.1 hh.2)
  ·have e1:oE id K L (e:Int) (c:Int) (n:Int) x s=(if (oT id K L e c n x s).isSome then 0 else 6):=by unfold oE;rw [if_pos hok,if_neg hsh];rfl
   have e2:oB id K L (e:Int) (c:Int) (n:Int) x s=(oT id K L e c n x s).getD []:=by unfold oB;rw [if_pos hok,if_neg hsh];rfl
   cases id
   ·obtain ⟨m,rfl⟩:∃ m,ns=m + 16:=⟨ns - 16,by omega⟩
    have hm:s.length - 16=m:=by omega
    refine vopen_r h Aw As na ca (m + 16) cs e c n _ ck (fun W hW=>?_)
    by_cases htag:tagB (sealK K e) (nonceB c n) x (s.take m)=s.drop m
    ·have e3:oT false K L e c n x s=some (streamB (sealK K e) (nonceB c n) 1 (s.take m)):=by unfold oT;rw [if_neg (by decide),hm,if_pos htag]
     rw [e1,e2,e3]
     refine (aopen_yes (sealK K e) (nonceB c n) Aw na ca x As m cs s W (sealK_len _ _) (nonceB_len _ _) hx hs ((hrx.below hW).more hW.size) ((hrs.below hW).more hW.size) hcs hcm (by omega) (by omega) htag).mono ?_
     rintro r w' ⟨A,d,hr,ho,hB⟩
     have hl:(streamB (sealK K e) (nonceB c n) 1 (s.take m)).length=m:=by rw [streamB_len,List.length_take];omega
     refine ⟨A,m,d,0,hr,A,d,?_,ho.rd.1,hW.trans (hB.mono hW.size)⟩
     rw [hr,Option.getD_some,hl]
     rfl
    ·have e3:oT false K L e c n x s=none:=by unfold oT;rw [if_neg (by decide),hm,if_neg htag]
     refine (aopen_no (sealK K e) (nonceB c n) Aw na ca x As m cs s W (sealK_len _ _) (nonceB_len _ _) hx hs ((hrx.below hW).more hW.size) ((hrs.below hW).more hW.size) hcs hcm (by omega) (by omega) htag).mono ?_
     rintro r w' ⟨hr,hB⟩
     exact ⟨none,0,0,6,hr,no 6 r w' (by rw [e1,e3];rfl) (by rw [e2,e3];rfl) hr (hW.trans (hB.mono hW.size))⟩
   ·have e3:oT true K L e c n x s=(L.find? (hitS e c n x s)).map (·.b):=by unfold oT;rw [if_pos rfl]
    cases hf:L.find? (hitS e c n x s) with
    | none =>
     have hno:∀ u∈L,u.key≠bKey (e:Int) (c:Int) (n:Int) x s:=fun u hu hk=>by
      have h1:=List.find?_eq_none.1 hf u hu
      obtain ⟨k1,k2,k3,k4,k5⟩:=bKey_inj hk
      exact h1 (hitS_iff.2 ⟨by omega,by omega,by omega,k4,k5⟩)
     refine (vopen_miss h Aw As na ca ns cs x s hx hs hrx hrs (by omega) (by omega) (by omega) e c n (by omega) (by omega) (by omega) hno ck).mono ?_
     rintro r w' ⟨hr,hB⟩
     exact no 6 r w' (by rw [e1,e3,hf];rfl) (by rw [e2,e3,hf];rfl) hr hB
    | some t =>
     have ht1:=List.mem_of_find?_eq_some hf
     obtain ⟨k1,k2,k3,k4,k5⟩:=hitS_iff.1 (List.find?_some hf)
     have htb:=hLb t ht1
     have hmem:(⟨e,c,n,x,s,t.b⟩:SealV)∈L:=by
      obtain ⟨te,tc,tn,tx,ts,tb⟩:=t
      simp only at k1 k2 k3 k4 k5
      subst k1 k2 k3 k4 k5
      exact ht1
     refine (vopen_hit h Aw As na ca ns cs x s hx hs hrx hrs (by omega) (by omega) (by omega) e c n (by omega) (by omega) (by omega) t.b t.b.length rfl (by omega) hmem ck).mono ?_
     rintro r w' ⟨A,d,hr,ho,hB⟩
     rw [e1,e2,e3,hf]
     exact ⟨A,d,hr,ho.rd.1,hB⟩
 ·refine (vopen_no Aw As na ca ns cs e c n (keys_no hbk hK e c n ht hg1 hok)).mono (fun r w' hh=>no 1 r w' ?_ ?_ hh.1 hh.2)
  ·unfold oE;rw [if_neg hok]
  ·unfold oB;rw [if_neg hok]
end
theorem slice_all32j (g:Nat) (W:World) :
  (Instr.sliceAt 22 (.pointer (some ⟨g,0,none⟩)) none none none).run Tryz.prog W = .ok (.slice (some ⟨g,0,none⟩) 32 32) W:=by
 have he:Tryz.prog.elem 22=5:=by kernel_rfl
 have hn:Tryz.prog.arrayLen 22=32:=by kernel_rfl
 have ht:Tryz.prog.underlying 22=some (.array (Tryz.prog.arrayLen 22) (Tryz.prog.elem 22)):=by rw [he,hn];exact Tryz.underlying22
 rw [run_sliceAt_array_all W 22 ⟨g,0,none⟩ ht,size32,hn]
 rfl
theorem sizeB_ (W:World):(sizeOf (Tryz.prog.elem 39)).run Tryz.prog W = .ok 1 W:=by
 have he:Tryz.prog.elem 39=5:=by kernel_rfl
 rw [he]
 obtain ⟨i,hi,hz,hsize,hby⟩:=info_parts info8
 simp [sizeOf,typeInfo,hi,hsize]
theorem slice_allB (g:Nat) (W:World) :
  (Instr.sliceAt 39 (.pointer (some ⟨g,0,none⟩)) none none none).run Tryz.prog W = .ok (.slice (some ⟨g,0,none⟩) 32 32) W:=by
 have he:Tryz.prog.elem 39=5:=by kernel_rfl
 have hn:Tryz.prog.arrayLen 39=32:=by kernel_rfl
 have hs:Tryz.prog.cellsOf (Tryz.prog.elem 39)=1:=by kernel_rfl
 have ht:Tryz.prog.underlying 39=some (.array (Tryz.prog.arrayLen 39) (Tryz.prog.elem 39)):=by rw [he,hn];exact Tryz.underlying39
 rw [run_sliceAt_array_all W 39 ⟨g,0,none⟩ ht,sizeB_,hn]
 rfl
theorem rd_bk {w:World} {g:Nat} {t:TypeId} {l:List UInt8} (h:Bk w g t (rowOf l)):Rd w w.heap.size (some ⟨g,0,none⟩) l:=fun _=>⟨g,0,rfl,h.lt,fun j hj=>by rw [Nat.zero_add];exact (h.cell j).trans (rowOf_at l j hj)⟩
structure JW (i1 i2 i3 i4 s1 s2 d1 d2:Nat) (P Q:Value→World→Prop) (PQ:Value→Value→World→Prop) (D:Nat→Bool) (a:Act) (W:World):Prop where
 one:D i1=true→D i2=false→P (a.tmps.getD s1 undef) W
 two:D i2=true→D i1=false→Q (a.tmps.getD s2 undef) W
 both:D i1=true→D i2=true→PQ (a.tmps.getD s1 undef) (a.tmps.getD s2 undef) W
 e1:D i3=true→D i1=true∧a.tmps.getD d1 undef=a.tmps.getD s1 undef
 e2:D i4=true→D i2=true∧a.tmps.getD d2 undef=a.tmps.getD s2 undef
section
variable {i1 i2 i3 i4 s1 s2 d1 d2 : Nat} {P Q : Value → World → Prop} {PQ : Value → Value → World → Prop} {D : Nat → Bool} {a : Act} {W W' : World}
theorem JW.other (h:JW i1 i2 i3 i4 s1 s2 d1 d2 P Q PQ D a W) (i s:Nat) (v:Value) (hi:i1≠i∧i2≠i∧i3≠i∧i4≠i) (hs:s1≠s∧s2≠s∧d1≠s∧d2≠s):JW i1 i2 i3 i4 s1 s2 d1 d2 P Q PQ (fun j=>decide (j=i) || D j) (a.put (some s) v) W:=by
 refine ⟨?_,?_,?_,?_,?_⟩
 ·rw [orf_ne hi.1,orf_ne hi.2.1,put_otherY hs.1];exact h.one
 ·rw [orf_ne hi.1,orf_ne hi.2.1,put_otherY hs.2.1];exact h.two
 ·rw [orf_ne hi.1,orf_ne hi.2.1,put_otherY hs.1,put_otherY hs.2.1];exact h.both
 ·rw [orf_ne hi.1,orf_ne hi.2.2.1,put_otherY hs.1,put_otherY hs.2.2.1];exact h.e1
 ·rw [orf_ne hi.2.1,orf_ne hi.2.2.2,put_otherY hs.2.1,put_otherY hs.2.2.2];exact h.e2
theorem JW.first (h:JW i1 i2 i3 i4 s1 s2 d1 d2 P Q PQ D a W) (v:Value) (hL:D i1=false) (hi:i2≠i1∧i3≠i1∧i4≠i1) (hs:s2≠s1∧d2≠s1) (hsz:s1 < a.tmps.size) (hp:P v W') (hq:∀ u,Q u W→PQ v u W') :
  JW i1 i2 i3 i4 s1 s2 d1 d2 P Q PQ (fun j=>decide (j=i1) || D j) (a.put (some s1) v) W':=by
 have h3:D i3=false:=by
  cases e:D i3 with
  | false=>rfl
  | true=>rw [(h.e1 e).1] at hL;cases hL
 refine ⟨fun _ _=>?_,fun _ e=>?_,fun _ e=>?_,fun e=>?_,?_⟩
 ·rw [put_selfY hsz];exact hp
 ·rw [orf_eq] at e;cases e
 ·rw [orf_ne hi.1] at e
  rw [put_selfY hsz,put_otherY hs.1]
  exact hq _ (h.two e hL)
 ·rw [orf_ne hi.2.1,h3] at e;cases e
 ·rw [orf_ne hi.1,orf_ne hi.2.2,put_otherY hs.1,put_otherY hs.2];exact h.e2
theorem JW.second (h:JW i1 i2 i3 i4 s1 s2 d1 d2 P Q PQ D a W) (v:Value) (hL:D i2=false) (hi:i1≠i2∧i3≠i2∧i4≠i2) (hs:s1≠s2∧d1≠s2) (hsz:s2 < a.tmps.size) (hq:Q v W') (hp:∀ u,P u W→PQ u v W') :
  JW i1 i2 i3 i4 s1 s2 d1 d2 P Q PQ (fun j=>decide (j=i2) || D j) (a.put (some s2) v) W':=by
 have h4:D i4=false:=by
  cases e:D i4 with
  | false=>rfl
  | true=>rw [(h.e2 e).1] at hL;cases hL
 refine ⟨fun _ e=>?_,fun _ _=>?_,fun e _=>?_,?_,fun e=>?_⟩
 ·rw [orf_eq] at e;cases e
 ·rw [put_selfY hsz];exact hq
 ·rw [orf_ne hi.1] at e
  rw [put_selfY hsz,put_otherY hs.1]
  exact hp _ (h.one e hL)
 ·rw [orf_ne hi.1,orf_ne hi.2.1,put_otherY hs.1,put_otherY hs.2];exact h.e1
 ·rw [orf_ne hi.2.2,h4] at e;cases e
theorem JW.third (h:JW i1 i2 i3 i4 s1 s2 d1 d2 P Q PQ D a W) (h1:D i1=true) (hi:i1≠i3∧i2≠i3∧i4≠i3) (hs:s1≠d1∧s2≠d1∧d2≠d1) (hsz:d1 < a.tmps.size):JW i1 i2 i3 i4 s1 s2 d1 d2 P Q PQ (fun j=>decide (j=i3) || D j) (a.put (some d1) (a.tmps.getD s1 undef)) W:=by
 refine ⟨?_,?_,?_,fun _=>?_,?_⟩
 ·rw [orf_ne hi.1,orf_ne hi.2.1,put_otherY hs.1];exact h.one
 ·rw [orf_ne hi.1,orf_ne hi.2.1,put_otherY hs.2.1];exact h.two
 ·rw [orf_ne hi.1,orf_ne hi.2.1,put_otherY hs.1,put_otherY hs.2.1];exact h.both
 ·rw [orf_ne hi.1,put_selfY hsz,put_otherY hs.1];exact ⟨h1,rfl⟩
 ·rw [orf_ne hi.2.1,orf_ne hi.2.2,put_otherY hs.2.1,put_otherY hs.2.2];exact h.e2
theorem JW.fourth (h:JW i1 i2 i3 i4 s1 s2 d1 d2 P Q PQ D a W) (h2:D i2=true) (hi:i1≠i4∧i2≠i4∧i3≠i4) (hs:s1≠d2∧s2≠d2∧d1≠d2) (hsz:d2 < a.tmps.size):JW i1 i2 i3 i4 s1 s2 d1 d2 P Q PQ (fun j=>decide (j=i4) || D j) (a.put (some d2) (a.tmps.getD s2 undef)) W:=by
 refine ⟨?_,?_,?_,?_,fun _=>?_⟩
 ·rw [orf_ne hi.1,orf_ne hi.2.1,put_otherY hs.1];exact h.one
 ·rw [orf_ne hi.1,orf_ne hi.2.1,put_otherY hs.2.1];exact h.two
 ·rw [orf_ne hi.1,orf_ne hi.2.1,put_otherY hs.1,put_otherY hs.2.1];exact h.both
 ·rw [orf_ne hi.1,orf_ne hi.2.2,put_otherY hs.1,put_otherY hs.2.2];exact h.e1
 ·rw [orf_ne hi.2.1,put_selfY hsz,put_otherY hs.2.1];exact ⟨h2,rfl⟩
theorem JW.start:JW i1 i2 i3 i4 s1 s2 d1 d2 P Q PQ (fun _=>false) a W :=
 ⟨fun e=>Bool.noConfusion e,fun e=>Bool.noConfusion e,fun e=>Bool.noConfusion e,fun e=>Bool.noConfusion e,fun e=>Bool.noConfusion e⟩
end
def WV (id:Bool) (K:List UInt8) (b:Nat) (u:Value) (W:World):Prop:=∃ v sp nm kn F,u = .pointer (some ⟨v,0,none⟩)∧VS id v sp nm kn K [] [] W F∧∀ k∈F,b≤k
def rfRow (id:Bool) (K:List UInt8):Array Value:=#[.bool id,.string (strOf K),.slice none 0 0,.slice none 0 0]
def WR (id:Bool) (K:List UInt8) (b:Nat) (u:Value) (W:World):Prop:=∃ g,u = .pointer (some ⟨g,0,none⟩)∧Bk W g 64 (rfRow id K)∧b≤g
def WVR (id:Bool) (K:List UInt8) (b:Nat) (u u':Value) (W:World):Prop:=∃ v sp nm kn g F,u = .pointer (some ⟨v,0,none⟩)∧u' = .pointer (some ⟨g,0,none⟩)∧VS id v sp nm kn K [] [] W F∧(∀ k∈F,b≤k)∧Bk W g 64 (rfRow id K)∧b≤g∧g∉F
theorem ref_start {W:World} {g:Nat} {id:Bool} {K:List UInt8} (h:Bk W g 64 (rfRow id K)):RS id g K [] [] W [g] :=
 ⟨.slice none 0 0,.slice none 0 0,h,OwnN.nil_ W 0,OwnSL.nil_ W 0,by simp,fun b e=>(by cases e),fun b e=>(by cases e),fun k hk=>by rw [List.mem_singleton.1 hk];exact h.lt⟩
theorem vault_new (id:Bool) (w:World) (K:List UInt8) (hK:K.length=32):Calls Tryz.prog (if id then 18 else 19) #[.agg (rowOf K)] w fun e w'=>∃ v sp nm kn F,e = .returned (.pointer (some ⟨v,0,none⟩))∧VS id v sp nm kn K [] [] w' F∧(∀ k∈F,w.heap.size≤k)∧Below w.heap.size w w':=by
 cases id
 ·rw [if_neg (by decide)]
  exact (real_new w K hK).mono fun e w' ⟨v,sp,F,h1,h2,h3,h4⟩=>⟨v,sp,0,0,F,h1,h2,h3,h4⟩
 ·rw [if_pos rfl]
  exact (ideal_new w K hK).mono fun e w' ⟨v,sp,nm,kn,F,h1,h2,h3,h4⟩=>⟨v,sp,nm,kn,F,h1,h2,h3,h4⟩
theorem WVR.one {id:Bool} {K:List UInt8} {b v sp nm kn:Nat} {F:List Nat} {W W':World} (hv:VS id v sp nm kn K [] [] W' F) (hF:∀ k∈F,W.heap.size≤k) (hb:Below W.heap.size W W') (hW:b≤W.heap.size):∀ u,WR id K b u W→WVR id K b (.pointer (some ⟨v,0,none⟩)) u W':=by
 rintro u ⟨g,rfl,hg,hbg⟩
 exact ⟨v,sp,nm,kn,g,F,rfl,rfl,hv,fun k hk=>Nat.le_trans hW (hF k hk),hg.below hb hg.lt,hbg,fun hm=>by have h1:=hF g hm;have h2:=hg.lt;omega⟩
theorem WVR.two {id:Bool} {K:List UInt8} {b:Nat} {W W':World} {g:Nat} (hg:Bk W' g 64 (rfRow id K)) (hgb:W.heap.size≤g) (hb:Below W.heap.size W W') (hW:b≤W.heap.size):∀ u,WV id K b u W→WVR id K b u (.pointer (some ⟨g,0,none⟩)) W':=by
 rintro u ⟨v,sp,nm,kn,F,rfl,hv,hF⟩
 exact ⟨v,sp,nm,kn,g,F,rfl,rfl,(VS.foot id v sp nm kn K [] []).keep hv (Untouched.of_below (F:=[]) hb) (fun _ _=>by simp),hF,hg,Nat.le_trans hW hgb,fun hm=>by have h1:=(VS.foot id v sp nm kn K [] []).lt hv g hm;omega⟩
end Go.Proofs.YtpcbmnmgefhaaaaGreatDoor
