import Derived.Test.YtpcbmnmgefhaaaaGreatDoorYA
import Derived.Test.YtpcbmnmgefhaaaaGreatDoorLc
namespace Go.Proofs.YtpcbmnmgefhaaaaGreatDoor
set_option maxRecDepth 100000
open Go.RowKit Go.Maps
set_option linter.unusedVariables false
set_option linter.unusedSimpArgs false
theorem zS_ (W:World):(zeroValue 111).run Tryz.prog W = .ok (.agg #[.int .i64 0,.int .i64 0]) W:=by kernel_rfl
theorem zU_ (W:World):(zeroValue 112).run Tryz.prog W = .ok (.agg #[]) W:=by kernel_rfl
theorem iS_:(Tryz.prog.info? 111).map (·.size)=some 2:=by kernel_rfl
theorem iU_:(Tryz.prog.info? 112).map (·.size)=some 0:=by kernel_rfl
theorem one2i (a b:Int):(#[.int .i64 a,.int .i64 b]:Array Value).all (·.oneCell')=true:=by simp [Value.oneCell']
theorem Below.same_row {W W2:World} {g:Nat} {t:TypeId} {cs:Array Value} (h:Bk W g t cs) (h2:Bk W2 g t cs) (hg:W.grownBy W2 (some g)):Below W.heap.size W W2 :=
 ⟨hg.os,hg.tape,hg.output,hg.size,fun k hk=>by
  by_cases e:k=g
  ·subst e
   exact h2.trans h.symm
  ·exact hg.block k hk (fun e2=>by injection e2 with e2;exact e e2)⟩
def SlR (v sp:Nat) (c n:Int) (b:Bool):Nat→Value→World→Prop
 | 0,u,_=>u = .pointer (some ⟨v,0,none⟩)
 | 1,u,_=>u = .pointer (some ⟨v,0,none⟩)
 | 2,u,_=>u = .pointer (some ⟨v,33,none⟩)
 | 3,u,_=>u = .map (some sp)
 | 4,u,_=>u = .agg #[.int .i64 c,.int .i64 n]
 | 5,u,_=>u = .tuple #[.agg #[],.bool b]
 | 6,u,_=>u = .tuple #[.agg #[],.bool b]
 | 7,u,_=>u = .agg #[]
 | 8,u,_=>u = .bool b
 | 9,u,W=>∃ q,u = .pointer (some ⟨q,0,none⟩)∧Bk W q 112 #[]
 | 11,u,_=>u = .bool b
 | _,_,_=>True
theorem SlR.stable {v sp:Nat} {c n:Int} {b:Bool} {W W':World} (hT:Below W.heap.size W W'):∀ (j:Nat) (u:Value),SlR v sp c n b j u W→SlR v sp c n b j u W'
 | 0,_,h=>h
 | 1,_,h=>h
 | 2,_,h=>h
 | 3,_,h=>h
 | 4,_,h=>h
 | 5,_,h=>h
 | 6,_,h=>h
 | 7,_,h=>h
 | 8,_,h=>h
 | 9,_,⟨q,e,h⟩=>⟨q,e,h.below hT h.lt⟩
 | 10,_,_=>trivial
 | 11,_,h=>h
 | _ + 12,_,_=>trivial
section
variable {w : World} {v sp : Nat} {id : Bool} {K : List UInt8} {nm kn : Option Nat} {S : List (Nat × Nat)}
set_option maxHeartbeats 4000000 in
theorem vseal_no (A B:Option Addr) (na ca nb cb:Nat) (e c n:Int) (ck:Calls Tryz.prog 57 #[.pointer (some ⟨v,0,none⟩),.int .i64 e,.int .i64 c,.int .i64 n] w fun r w'=>r = .returned noKeys∧Below w.heap.size w w') :
  Calls Tryz.prog 26 #[.pointer (some ⟨v,0,none⟩),.int .i64 e,.int .i64 c,.int .i64 n,.slice A na ca,.slice B nb cb] w fun r w'=>r = .returned (.tuple #[.slice none 0 0,.int .i64 1])∧Below w.heap.size w w':=by
 have hz:=z32
 have hz12:=z12
 obtain ⟨Ls,hLs⟩:∃ L,zbytes 32=L:=⟨_,rfl⟩
 obtain ⟨No,hNo⟩:∃ L,zbytes 12=L:=⟨_,rfl⟩
 have IL:=hidyb_ (show (Tryz.prog.info? 22).map (·.size)=some (rowOf Ls).size by rw [← hLs];exact ib32 _ (zbytes_len 32))
 have IN:=hidyb_ (show (Tryz.prog.info? 107).map (·.size)=some (rowOf No).size by rw [← hNo];exact ib12 _ (zbytes_len 12))
 have QL:=hidyb_ (show (rowOf (zbytes 32)).size=(rowOf Ls).size by rw [hLs])
 have QN:=hidyb_ (show (rowOf (zbytes 12)).size=(rowOf No).size by rw [hNo])
 unfold noKeys at ck
 rw [show (Value.tuple #[.agg (rowOf (zbytes 32)),.agg (rowOf (zbytes 12)),.int .i64 1]) = .tuple #[.agg (rowOf Ls),.agg (rowOf No),.int .i64 1] by rw [hLs,hNo]] at ck
 clear hLs hNo
 go_enter Tryz.func26,Tryz.ntmps26
 go_wp2_with (first
  | (go_at_call 57;((with_reducible refine ck.mono ?_);clear ck;rintro r w1 ⟨rfl,hb⟩;have B1:=hidyb_ hb;clear hb;obtain ⟨b1,w1a,hb1,hw1a,KA,NA,XA,SA⟩:=keys_start w1;have B1s:=B1.out.size;have HB1:=hidyb_ hb1))
  | (refine wpList_put_row rfl 22 (.tmp 14) (.tmp 27) rfl b1 (rowOf Ls) rfl rfl 22 (rowOf (zbytes 32)) KA IL.out QL.out (bytes_one _) ?_;intro w2 k2 g2 s2;have NA2:=NA.oneOf g2 (by omega);have X2:=XA.grown g2 (by omega) (fun k hk=>by injection hk with hk;omega);have K2:=k2;clear g2 s2 KA NA k2)
  | (refine wpList_put_row rfl 107 (.tmp 15) (.tmp 28) rfl (b1 + 1) (rowOf No) rfl rfl 107 (rowOf (zbytes 12)) NA2 IN.out QN.out (bytes_one _) ?_;intro w3 k3 g3 s3;have K3:=hidyb_ (K2.oneOf g3 (by omega));have N3:=hidyb_ k3;have X3:=hidyb_ (X2.grown g3 (by have:=X2.size;omega) (fun k hk=>by injection hk with hk;omega));have B3:=hidyb_ (B1.out.trans (X3.out.mono (by rw [← HB1.out];exact B1.out.size)));clear g3 s3 k3 NA2 K2 X2))
 go_ret2
 exact ⟨rfl,B3.out⟩
def Keep4 (w w4:World):Prop:=Below w.heap.size w w4
set_option maxHeartbeats 4000000 in
theorem vseal_spent (h:Bk w v 95 (vrow id K (some sp) nm kn)) (hK:K.length=32) (hS:MapIs w 111 sp S.length (fS S)) (A B:Option Addr) (na ca nb cb:Nat) (e c n:Nat) (hc:c≤16) (hn:n≤4611686018427387904) (hin:(c,n)∈S)
  (ck:Calls Tryz.prog 57 #[.pointer (some ⟨v,0,none⟩),.int .i64 (e:Int),.int .i64 (c:Int),.int .i64 (n:Int)] w fun r w'=>r = .returned (yesKeys K e c n)∧Below w.heap.size w w') :
  Calls Tryz.prog 26 #[.pointer (some ⟨v,0,none⟩),.int .i64 (e:Int),.int .i64 (c:Int),.int .i64 (n:Int),.slice A na ca,.slice B nb cb] w fun r w'=>r = .returned (.tuple #[.slice none 0 0,.int .i64 13])∧Below w.heap.size w w':=by
 have hz:=z32
 have hz12:=z12
 have hzS:=zS_
 have iS:=iS_
 obtain ⟨Ls,hLs⟩:∃ L,sealK K e=L:=⟨_,rfl⟩
 obtain ⟨No,hNo⟩:∃ L,nonceB c n=L:=⟨_,rfl⟩
 have LL:=hidyb_ (show Ls.length=32 by rw [← hLs];exact sealK_len _ _)
 have NL:=hidyb_ (show No.length=12 by rw [← hNo];exact nonceB_len _ _)
 have IL:=hidyb_ (ib32 Ls LL.out)
 have IN:=hidyb_ (ib12 No NL.out)
 have QL:=hidyb_ (show (rowOf (zbytes 32)).size=(rowOf Ls).size by rw [rowOf_size,rowOf_size,LL.out,zbytes_len])
 have QN:=hidyb_ (show (rowOf (zbytes 12)).size=(rowOf No).size by rw [rowOf_size,rowOf_size,NL.out,zbytes_len])
 unfold yesKeys at ck
 rw [hLs,hNo] at ck
 obtain ⟨kl,hkl⟩:=sKey_lit (c:Int) (n:Int) (by unfold okI;omega) (by unfold okI;omega)
 have KLIT:=hidyb_ hkl
 unfold sKey at hkl
 have HV:=hidyb_ h
 have KL:=hidyb_ hK
 have HS:=hidyb_ hS
 have HI:=hidyb_ (fS_yes hin)
 clear h hK hS hLs hNo hc hn hin hkl
 go_enter Tryz.func26,Tryz.ntmps26
 go_upto_region 5 with (first
  | (go_at_call 57;((with_reducible refine ck.mono ?_);clear ck;rintro r w1 ⟨rfl,hb⟩;have B1:=hidyb_ hb;clear hb;obtain ⟨b1,w1a,hb1,hw1a,KA,NA,XA,SA⟩:=keys_start w1;have B1s:=B1.out.size;have HB1:=hidyb_ hb1))
  | (refine wpList_put_row rfl 22 (.tmp 14) (.tmp 27) rfl b1 (rowOf Ls) rfl rfl 22 (rowOf (zbytes 32)) KA IL.out QL.out (bytes_one _) ?_;intro w2 k2 g2 s2;have NA2:=NA.oneOf g2 (by omega);have X2:=XA.grown g2 (by omega) (fun k hk=>by injection hk with hk;omega);have K2:=k2;clear g2 s2 KA NA k2)
  | (refine wpList_put_row rfl 107 (.tmp 15) (.tmp 28) rfl (b1 + 1) (rowOf No) rfl rfl 107 (rowOf (zbytes 12)) NA2 IN.out QN.out (bytes_one _) ?_;intro w3 k3 g3 s3;have K3:=hidyb_ (K2.oneOf g3 (by omega));have N3:=hidyb_ k3;have X3:=hidyb_ (X2.grown g3 (by have:=X2.size;omega) (fun k hk=>by injection hk with hk;omega));have B3:=hidyb_ (B1.out.trans (X3.out.mono (by rw [← HB1.out];exact B1.out.size)));clear g3 s3 k3 NA2 K2 X2)
  | (refine wpList_put_row rfl 111 (.tmp 17) (.tmp 35) rfl w3.heap.size #[.int .i64 (c:Int),.int .i64 (n:Int)] rfl rfl 111 #[.int .i64 0,.int .i64 0] (Bk.new w3 _ _) iS rfl (one2i _ _) ?_;intro w4 k4 g4 s4;have BX:Below w3.heap.size w3 w4:=(((Below.refl w3.heap.size w3).alloc (Nat.le_refl _) (.cells #[.int .i64 0,.int .i64 0] 111)).grown g4 (by simp) (fun k hk=>by injection hk with hk;omega));have K4:=hidyb_ k4;have B4:=hidyb_ (B3.out.trans (BX.mono B3.out.size));have L4:=hidyb_ (K3.out.below BX K3.out.lt);have N4:=hidyb_ (N3.out.below BX N3.out.lt);clear k4 g4 s4 BX))
 rename_i K9 hK9
 have HC:Hid (Keep4 w w4):=hidyb_ B4.out
 generalize hg3:w3.heap.size=b4 at *
 obtain ⟨g4,hg4⟩:∃ g,w4.heap.size=g:=⟨_,rfl⟩
 have G4:=hidyb_ hg4
 have K4l:b4 < g4:=by rw [← hg4];exact K4.out.lt
 have CM:Hid (∀ W,Below g4 w4 W→W.cell? ⟨v,33,none⟩=some (.map (some sp))):=hidyb_ (fun W hW=>((HV.out.below (B4.out.trans (hW.mono (by rw [← hg4];exact B4.out.size))) HV.out.lt).cell 33).trans (vrow_33 _ K KL.out _ _ _))
 have LK:Hid (∀ W,Below g4 w4 W→(Instr.lookup 91 (.map (some sp)) (.agg #[.int .i64 (c:Int),.int .i64 (n:Int)]) true).run Tryz.prog W = .ok (.tuple #[.agg #[],.bool true]) W):=hidyb_ (fun W hW=>by
  have hm:=HS.out.keep ((B4.out.trans (hW.mono (by rw [← hg4];exact B4.out.size))).block sp HS.out.lt)
  have h:=hm.look keyedS Tryz.underlying91 (zU_ W) KLIT.out
  rw [HI.out] at h
  exact h)
 clear hw1a SA B1 X3 B3 K3 N3 hg3 hb1 XA B1s HB1
 refine region_byF [37,38,39,40,41,42,36,43,44,18,19] (fun W=>Below g4 w4 W) (fun W W'=>Below W.heap.size W W') (SlR v sp (c:Int) (n:Int) true) (by kernel_rfl) (by kernel_rfl) (by kernel_rfl) (by kernel_rfl) (fun j v w w' hT hr=>?_) (fun j v w hlt hj _=>?_) (by rw [← hg4];exact (Below.refl _ _).drew) ?_ ?_
 ·exact SlR.stable hT j v hr
 ·rcases j with _ | _ | _ | _ | _ | _ | _ | _ | _ | _ | _ | _ | j
  all_goals first
   | (exfalso;simp [dstOf] at hj;done)
   | trivial
 ·refine ⟨?_,?_,?_,?_,?_,?_,?_,?_,?_,?_,?_,?_,trivial⟩
  all_goals intro a W hC hd hf hv K hK
  ·have e1:=slot_of (a:=a) (s:=0) (v:=.pointer (some ⟨v,0,none⟩)) (hf 0 (by kernel_rfl))
   refine step_run (wanted_none rfl) (v:=.pointer (some ⟨v,0,none⟩)) (w':=W) ?_ (hK _ _ hC (Below.refl _ _) rfl)
   go_simp
  ·have e1:=slot_of (a:=a) (s:=37) (v:=.pointer (some ⟨v,0,none⟩)) (hv 0 (by kernel_rfl))
   refine step_run (wanted_none rfl) (v:=.pointer (some ⟨v,0,none⟩)) (w':=W) ?_ (hK _ _ hC (Below.refl _ _) rfl)
   go_simp
  ·have e1:=slot_of (a:=a) (s:=38) (v:=.pointer (some ⟨v,0,none⟩)) (hv 1 (by kernel_rfl))
   refine step_run (wanted_none rfl) (v:=.pointer (some ⟨v,33,none⟩)) (w':=W) ?_ (hK _ _ hC (Below.refl _ _) rfl)
   go_simp
  ·have e1:=slot_of (a:=a) (s:=39) (v:=.pointer (some ⟨v,33,none⟩)) (hv 2 (by kernel_rfl))
   have c33:=CM.out W hC
   refine step_run (wanted_none rfl) (v:=.map (some sp)) (w':=W) ?_ (hK _ _ hC (Below.refl _ _) rfl)
   go_simp
  ·have e1:a.tmps.getD 17 undef = .pointer (some ⟨b4,0,none⟩):=hf 17 (by kernel_rfl)
   have k4:=K4.out.below hC K4l
   exact step_load_rowW (wanted_none rfl) 111 (.tmp 17) rfl b4 (eval_of e1) 111 #[.int .i64 (c:Int),.int .i64 (n:Int)] k4 _ Tryz.underlying111 rfl iS (hK _ _ hC (Below.refl _ _) rfl)
  ·have e1:=slot_of (a:=a) (s:=40) (v:=.map (some sp)) (hv 3 (by kernel_rfl))
   have e2:=slot_of (a:=a) (s:=41) (v:=.agg #[.int .i64 (c:Int),.int .i64 (n:Int)]) (hv 4 (by kernel_rfl))
   have lk:=LK.out W hC
   refine step_run (wanted_none rfl) (v:=.tuple #[.agg #[],.bool true]) (w':=W) ?_ (hK _ _ hC (Below.refl _ _) rfl)
   go_simp
  ·have e1:=slot_of (a:=a) (s:=42) (v:=.tuple #[.agg #[],.bool true]) (hv 5 (by kernel_rfl))
   refine step_run (wanted_none rfl) (v:=.tuple #[.agg #[],.bool true]) (w':=W) ?_ (hK _ _ hC (Below.refl _ _) rfl)
   go_simp
  ·have e1:=slot_of (a:=a) (s:=36) (v:=.tuple #[.agg #[],.bool true]) (hv 6 (by kernel_rfl))
   refine step_run (wanted_none rfl) (v:=.agg #[]) (w':=W) ?_ (hK _ _ hC (Below.refl _ _) rfl)
   go_simp
  ·have e1:=slot_of (a:=a) (s:=36) (v:=.tuple #[.agg #[],.bool true]) (hv 6 (by kernel_rfl))
   refine step_run (wanted_none rfl) (v:=.bool true) (w':=W) ?_ (hK _ _ hC (Below.refl _ _) rfl)
   go_simp
  ·have hzU:=zU_
   have hbl:=(Below.refl W.heap.size W).alloc (Nat.le_refl _) (.cells #[] 112)
   refine step_run (wanted_none rfl) (v:=.pointer (some ⟨W.heap.size,0,none⟩)) (w':=W.alloc (.cells #[] 112)) ?_ (hK _ _ (hC.trans (hbl.mono (G4.out ▸ hC.size))) hbl ⟨W.heap.size,rfl,Bk.new W _ _⟩)
   go_simp
  ·obtain ⟨q,eq,hq⟩:∃ q,a.tmps.getD 18 undef = .pointer (some ⟨q,0,none⟩)∧Bk W q 112 #[]:=hv 9 (by kernel_rfl)
   refine step_put_row rfl 112 (.tmp 18) (.tmp 43) rfl q #[] (eval_of eq) (eval_of (hv 7 (by kernel_rfl))) 112 #[] hq iU_ rfl (by simp) ?_
   intro W2 k2 g2 s2
   have hbl:=Below.same_row hq k2 g2
   exact hK undef _ (hC.trans (hbl.mono (G4.out ▸ hC.size))) hbl trivial
  ·have e1:=slot_of (a:=a) (s:=44) (v:=.bool true) (hv 8 (by kernel_rfl))
   refine step_run (wanted_none rfl) (v:=.bool true) (w':=W) ?_ (hK _ _ hC (Below.refl _ _) rfl)
   go_simp
 ·intro f w6 hC6 hv6
  obtain ⟨q18,e18,-⟩:∃ q,f 18 = .pointer (some ⟨q,0,none⟩)∧Bk w6 q 112 #[]:=hv6 9 (by decide)
  have f36:f 36 = .tuple #[.agg #[],.bool true]:=hv6 6 (by decide)
  have f37:f 37 = .pointer (some ⟨v,0,none⟩):=hv6 0 (by decide)
  have f38:f 38 = .pointer (some ⟨v,0,none⟩):=hv6 1 (by decide)
  have f39:f 39 = .pointer (some ⟨v,33,none⟩):=hv6 2 (by decide)
  have f40:f 40 = .map (some sp):=hv6 3 (by decide)
  have f41:f 41 = .agg #[.int .i64 (c:Int),.int .i64 (n:Int)]:=hv6 4 (by decide)
  have f42:f 42 = .tuple #[.agg #[],.bool true]:=hv6 5 (by decide)
  have f43:f 43 = .agg #[]:=hv6 7 (by decide)
  have f44:f 44 = .bool true:=hv6 8 (by decide)
  have f19:f 19 = .bool true:=hv6 11 (by decide)
  simp only [framed,List.foldl_cons,List.foldl_nil,List.setIfInBounds_toArray,List.set_cons_succ,List.set_cons_zero]
  rw [e18,f36,f37,f38,f39,f40,f41,f42,f43,f44,f19]
  have B6:=hidyb_ hC6
  clear hv6 hC6 e18 f36 f37 f38 f39 f40 f41 f42 f43 f44 f19
  refine hK9 _ _ ?_
  go_wp2
  go_ret2
  exact ⟨rfl,B4.out.trans (B6.out.mono (by rw [← G4.out];exact B4.out.size))⟩
end
theorem bU_:Tryz.prog.built 112 []=some #[]:=by kernel_rfl
theorem turned_cell {w w':World} {b:Nat} (ht:w.mapTurned w' b) {p:Addr} {u:Value} (h:w.cell? p=some u):w'.cell? p=some u:=by
 have hne:p.block≠b:=by
  obtain ⟨es,clock,es',clock',h0,-⟩:=ht
  rintro rfl
  unfold World.cell? at h
  rw [h0] at h
  simp at h
 exact (World.cell?_of_block (turned_heap ht p.block hne)).trans h
theorem Rd.turned {w w':World} {b B:Nat} (ht:w.mapTurned w' b) {A:Option Addr} {l:List UInt8} (h:Rd w B A l):Rd w' B A l:=fun hn=>by
 obtain ⟨g,off,e,hb,hc⟩:=h hn
 exact ⟨g,off,e,hb,fun j hj=>turned_cell ht (hc j hj)⟩
theorem ownsRow_heapy {w w':World} {base size n:Nat} {e:TypeId} {v:Value} {xs:List Value} (h:w.ownsRow base e size v n xs) (hg:∀ g,v.ownBlock=some g→w'.heap[g]? = w.heap[g]?):w'.ownsRow base e size v n xs:=by
 refine ⟨h.1,?_⟩
 rcases h.2 with h2 | ⟨g,cap,cur,hv,hb,hh,rest⟩
 ·exact .inl h2
 ·exact .inr ⟨g,cap,cur,hv,hb,(hg g (by rw [hv];rfl)).trans hh,rest⟩
theorem Own8.untouched {w w':World} {base n c:Nat} {A:Option Addr} {l:List UInt8} {G:List Nat} (h:Own8 w base (.slice A n c) l) (hu:Untouched G w w') (hG:∀ k∈G,k < base):Own8 w' base (.slice A n c) l :=
 ownsRow_heapy h (fun g hg=>by
  have hl:=World.ownsRow.lt h g hg
  exact hu.block g hl.2 (fun hm=>by have:=hG g hm;omega))
def blkOf (A:Option Addr):List Nat:=(A.map (·.block)).toList
theorem Own8.inF {w:World} {base n c:Nat} {A:Option Addr} {l:List UInt8} {F:List Nat} (h:Own8 w base (.slice A n c) l) (hF:∀ a,A=some a→a.block∈F):InF w F A l:=fun hn=>by
 obtain ⟨hr,rfl⟩:=h.rd
 rcases h.2 with ⟨hv,h0⟩ | ⟨g,cap,cur,hv,hb,hg,hn2,hm,hs,ht⟩
 ·omega
 ·injection hv with e1 e2 e3
  subst e1
  obtain ⟨b,off,e,hlt,hc⟩:=hr hn
  injection e with e
  injection e with e4 e5
  subst e4 e5
  exact ⟨g,0,rfl,hF _ rfl,hlt,⟨_,_,_,hg⟩,hc⟩
theorem InF.untouched {w w':World} {F F' G:List Nat} {A:Option Addr} {l:List UInt8} (h:InF w F A l) (hu:Untouched G w w') (hG:∀ k∈G,∀ cs ty fz,w.heap[k]?≠some (.cells cs ty fz)) (hF:∀ k∈F,k∈F'):InF w' F' A l:=fun hn=>by
 obtain ⟨g,off,e,hb,hlt,⟨cs,ty,fz,hc0⟩,hc⟩:=h hn
 have hh:=hu.block g hlt (fun hm=>hG g hm cs ty fz hc0)
 exact ⟨g,off,e,hF g hb,Nat.lt_of_lt_of_le hlt hu.size,⟨cs,ty,fz,hh.trans hc0⟩,fun j hj=>(heap_cell hh _).trans (hc j hj)⟩
theorem SealV.key_ne {t u:SealV} (h:(t.c,t.n)≠(u.c,u.n)):t.key≠u.key:=by
 intro e
 obtain ⟨-,h1,h2,-⟩:=bKey_inj e
 exact h (by rw [Int.ofNat_inj.1 h1,Int.ofNat_inj.1 h2])
def SealedP (w:World) (v sp nm kn:Nat) (K:List UInt8) (N:List (List UInt8)) (S:List (Nat × Nat)) (L:List SealV) (F:List Nat) (m:Nat) (t:SealV) (r:Ending) (w':World):Prop :=
 ∃ A c F',r = .returned (.tuple #[.slice A m c,.int .i64 0])∧Own8 w' w.heap.size (.slice A m c) t.s∧(∀ a,A=some a→a.block∉F')∧LeavesI w w' v sp nm kn K N (S ++ [(t.c,t.n)]) (L ++ [t]) F F'
theorem VltI.spentBy {w w':World} {v sp nm kn:Nat} {K:List UInt8} {N:List (List UInt8)} {S:List (Nat × Nat)} {L:List SealV} {F:List Nat} (h:VltI w v sp nm kn K N S L F) (ht:w.mapTurned w' sp) (p:Nat × Nat) (hN:MapIs w' 111 sp (S ++ [p]).length (fS (S ++ [p]))):VltI w' v sp nm kn K N (S ++ [p]) L F:=by
 obtain ⟨n,f,h1,h2,h3⟩:=h.known
 exact ⟨h.blk.turned ht,hN,h.names.keep (turned_heap ht nm (Ne.symm h.ne1)),⟨n,f,h1,h2.keep (turned_heap ht kn (Ne.symm h.ne2)),h3.turned ht⟩,h.len,h.ne1,h.ne2,h.ne3,h.inv,h.ins,h.inn,h.ink,fun t ht'=>List.mem_append_left _ (h.lts t ht'),fun k hk=>by rw [turned_size ht];exact h.hF k hk⟩
theorem VltI.knownBy {w w':World} {v sp nm kn:Nat} {K:List UInt8} {N:List (List UInt8)} {S:List (Nat × Nat)} {L:List SealV} {F:List Nat} (h:VltI w v sp nm kn K N S L F) (hu:Untouched [kn] w w') (t:SealV) (hin:(t.c,t.n)∈S) (hne:∀ u∈L,(u.c,u.n)≠(t.c,t.n))
  {nk:Nat} {f:Value→Option Value} (hk:KnIs w F f L) (hle:nk≤L.length) {A:Option Addr} {c base:Nat} (hm:MapIs w' 116 kn (nk + 1) (upd f t.key (.slice A t.b.length c))) (hO:Own8 w' base (.slice A t.b.length c) t.b):VltI w' v sp nm kn K N S (L ++ [t]) (F ++ blkOf A):=by
 have hkl:=h.hF kn h.ink
 have hmc:∀ k∈[kn],∀ cs ty fz,w.heap[k]?≠some (.cells cs ty fz):=by
  intro k hk' cs ty fz
  obtain ⟨n,f0,_,h2,_⟩:=h.known
  simp at hk'
  subst hk'
  exact h2.notCells
 have hv:v∉[kn]:=fun hm=>hmc v hm _ _ _ h.blk
 have hO2:=hO.cap
 refine ⟨h.blk.untouched hu hv,h.spent.keep (hu.block sp (h.hF _ h.ins) (by simp;exact h.ne2)),h.names.keep (hu.block nm (h.hF _ h.inn) (by simp;exact h.ne3)),⟨nk + 1,_,by simp;omega,hm,⟨fun u hu'=>?_,fun x y hxy=>?_⟩⟩,h.len,h.ne1,h.ne2,h.ne3,List.mem_append_left _ h.inv,List.mem_append_left _ h.ins,List.mem_append_left _ h.inn,List.mem_append_left _ h.ink,fun u hu'=>?_,fun k hk'=>?_⟩
 ·rcases List.mem_append.1 hu' with h1 | h1
  ·obtain ⟨A1,c1,e1,e2,e3,e4⟩:=hk.all u h1
   exact ⟨A1,c1,by rw [upd_other (SealV.key_ne (hne u h1))];exact e1,e2,e3,e4.untouched hu hmc (fun k hk=>List.mem_append_left _ hk)⟩
  ·simp at h1
   subst h1
   exact ⟨A,c,upd_same _ _ _,hO2.1,hO2.2,hO.inF (fun a e=>List.mem_append_right _ (by simp [blkOf,e]))⟩
 ·by_cases he:x=t.key
  ·exact ⟨t,by simp,he⟩
  ·rw [upd_other he] at hxy
   obtain ⟨u,h1,h2⟩:=hk.only x y hxy
   exact ⟨u,List.mem_append_left _ h1,h2⟩
 ·rcases List.mem_append.1 hu' with h1 | h1
  ·exact h.lts u h1
  ·simp at h1
   subst h1
   exact hin
 ·rcases List.mem_append.1 hk' with h1 | h1
  ·exact Nat.lt_of_lt_of_le (h.hF k h1) hu.size
  ·simp only [blkOf,Option.mem_toList,Option.map_eq_some_iff] at h1
   obtain ⟨a,rfl,rfl⟩:=h1
   exact (World.ownsRow.lt hO _ rfl).2
theorem Rd.untouchedM {w W:World} {kn B:Nat} {A:Option Addr} {l:List UInt8} (h:Rd w B A l) (hu:Untouched [kn] w W) (hc:∀ cs ty fz,w.heap[kn]?≠some (.cells cs ty fz)):Rd W B A l:=fun hn=>by
 obtain ⟨g,off,e,hb,hr⟩:=h hn
 refine ⟨g,off,e,hb,fun j hj=>?_⟩
 have hrj:=hr j hj
 have hlt:=cell_lt hrj
 have hne:g∉[kn]:=fun hm=>by
  simp at hm
  subst hm
  unfold World.cell? at hrj
  split at hrj
  ·rename_i cs ty fz e2
   exact hc cs ty fz e2
  ·simp at hrj
 exact (World.cell?_of_block (hu.block g hlt hne)).trans hrj
def SeR (v kn:Nat) (e c n:Int) (Aw:Option Addr) (na ca:Nat) (x:List UInt8) (g9 m c9:Nat) (D:List UInt8) (B:Option Addr) (nb cb:Nat) (b:List UInt8) (q:Nat):Nat→Value→World→Prop
 | 0,u,_=>u = .pointer (some ⟨v,0,none⟩)
 | 1,u,_=>u = .pointer (some ⟨v,0,none⟩)
 | 2,u,_=>u = .pointer (some ⟨v,35,none⟩)
 | 3,u,_=>u = .map (some kn)
 | 4,u,_=>u = .int .i64 e
 | 5,u,_=>u = .int .i64 c
 | 6,u,_=>u = .int .i64 n
 | 7,u,_=>u = .slice Aw na ca
 | 8,u,_=>u = .string (strOf x)
 | 9,u,_=>u = .slice (some ⟨g9,0,none⟩) m c9
 | 10,u,_=>u = .string (strOf D)
 | 11,u,_=>u = .agg #[.int .i64 e,.int .i64 c,.int .i64 n,.string (strOf x),.string (strOf D)]
 | 12,u,_=>u = .slice B nb cb
 | 13,u,W=>∃ A c',u = .slice A nb c'∧Own8 W q (.slice A nb c') b
 | _,_,_=>True
theorem SeR.stable {v kn:Nat} {e c n:Int} {Aw:Option Addr} {na ca:Nat} {x:List UInt8} {g9 m c9:Nat} {D:List UInt8} {B:Option Addr} {nb cb:Nat} {b:List UInt8} {q:Nat} {W W':World} (hT:Untouched [kn] W W') (hq:kn < q):∀ (j:Nat) (u:Value),SeR v kn e c n Aw na ca x g9 m c9 D B nb cb b q j u W→SeR v kn e c n Aw na ca x g9 m c9 D B nb cb b q j u W'
 | 0,_,h=>h
 | 1,_,h=>h
 | 2,_,h=>h
 | 3,_,h=>h
 | 4,_,h=>h
 | 5,_,h=>h
 | 6,_,h=>h
 | 7,_,h=>h
 | 8,_,h=>h
 | 9,_,h=>h
 | 10,_,h=>h
 | 11,_,h=>h
 | 12,_,h=>h
 | 13,_,⟨A,c',e,h⟩=>⟨A,c',e,h.untouched hT (fun k hk=>by simp at hk;omega)⟩
 | _ + 14,_,_=>trivial
def SeJ (kn nk:Nat) (f:Value→Option Value) (key:Value) (nb:Nat) (b:List UInt8) (q:Nat) (D:Nat→Bool) (W:World):Prop :=
 (D 14=false→MapIs W 116 kn nk f)∧(D 14=true→∃ A c',MapIs W 116 kn (nk + 1) (upd f key (.slice A nb c'))∧Own8 W q (.slice A nb c') b)
theorem SeJ.same {kn nk:Nat} {f:Value→Option Value} {key:Value} {nb:Nat} {b:List UInt8} {q:Nat} {D:Nat→Bool} {W W':World} (h:SeJ kn nk f key nb b q D W) (hb:Below W.heap.size W W') (i:Nat) (hi:i≠14):SeJ kn nk f key nb b q (fun j=>decide (j=i) || D j) W':=by
 have a:=orf_ne (L:=D) (i:=i) (fun e:14=i=>hi e.symm)
 unfold SeJ
 simp only [a]
 exact ⟨fun e=>(h.1 e).keep (hb.block _ (h.1 e).lt),fun e=>by
  obtain ⟨A,c',h1,h2⟩:=h.2 e
  exact ⟨A,c',h1.keep (hb.block _ h1.lt),h2.below hb (Nat.le_refl _)⟩⟩
set_option maxHeartbeats 8000000 in
theorem vseal_ideal {w:World} {v sp nm kn:Nat} {K:List UInt8} {N:List (List UInt8)} {S:List (Nat × Nat)} {L:List SealV} {F:List Nat} (h:VltI w v sp nm kn K N S L F) (Aw B:Option Addr) (na ca nb cb:Nat) (x b:List UInt8) (hx:x.length=na) (hb:b.length=nb) (hrx:Rd w w.heap.size Aw x) (hrb:Rd w w.heap.size B b) (hna:na≤100000) (hnb:nb≤100000)
  (e c n:Nat) (he:e≤1048576) (hc:c≤16) (hn:n≤4611686018427387904) (hin:(c,n)∉S) (hSl:S.length≤100000) (hLl:L.length≤100000)
  (ck:Calls Tryz.prog 57 #[.pointer (some ⟨v,0,none⟩),.int .i64 (e:Int),.int .i64 (c:Int),.int .i64 (n:Int)] w fun r w'=>r = .returned (yesKeys K e c n)∧Below w.heap.size w w') :
  Calls Tryz.prog 26 #[.pointer (some ⟨v,0,none⟩),.int .i64 (e:Int),.int .i64 (c:Int),.int .i64 (n:Int),.slice Aw na ca,.slice B nb cb] w (SealedP w v sp nm kn K N S L F (nb + 16) ⟨e,c,n,x,drawB K 1 (S.length + 1) (nb + 8),b⟩):=by
 have hz:=z32
 have hz12:=z12
 have hzS:=zS_
 have iS:=iS_
 obtain ⟨Ls,hLs⟩:∃ L,sealK K e=L:=⟨_,rfl⟩
 obtain ⟨No,hNo⟩:∃ L,nonceB c n=L:=⟨_,rfl⟩
 have LL:=hidyb_ (show Ls.length=32 by rw [← hLs];exact sealK_len _ _)
 have NL:=hidyb_ (show No.length=12 by rw [← hNo];exact nonceB_len _ _)
 have IL:=hidyb_ (ib32 Ls LL.out)
 have IN:=hidyb_ (ib12 No NL.out)
 have QL:=hidyb_ (show (rowOf (zbytes 32)).size=(rowOf Ls).size by rw [rowOf_size,rowOf_size,LL.out,zbytes_len])
 have QN:=hidyb_ (show (rowOf (zbytes 12)).size=(rowOf No).size by rw [rowOf_size,rowOf_size,NL.out,zbytes_len])
 unfold yesKeys at ck
 rw [hLs,hNo] at ck
 obtain ⟨kl,hkl⟩:=sKey_lit (c:Int) (n:Int) (by unfold okI;omega) (by unfold okI;omega)
 have KLIT:=hidyb_ hkl
 unfold sKey at hkl
 have HV0:=hidyb_ h
 have HV:=hidyb_ h.blk
 have KL:=hidyb_ h.len
 have HS:=hidyb_ h.spent
 have HI:=hidyb_ (fS_no hin)
 have SB:=hidyb_ hSl
 have LB:=hidyb_ hLl
 have XL:=hidyb_ hx
 have BL:=hidyb_ hb
 have RX:=hidyb_ hrx
 have RB:=hidyb_ hrb
 have HIN:=hidyb_ hin
 have HNB:=hidyb_ hnb
 have HNA:=hidyb_ hna
 have HE:=hidyb_ he
 have HCN:=hidyb_ (And.intro hc hn)
 clear h hLs hNo hc hn hin hkl hSl hx hb hrx hrb hnb hna he
 go_enter Tryz.func26,Tryz.ntmps26
 go_upto_region 5 with (first
  | (go_at_call 57;((with_reducible refine ck.mono ?_);clear ck;rintro r w1 ⟨rfl,hb⟩;have B1:=hidyb_ hb;clear hb;obtain ⟨b1,w1a,hb1,hw1a,KA,NA,XA,SA⟩:=keys_start w1;have B1s:=B1.out.size;have HB1:=hidyb_ hb1))
  | (refine wpList_put_row rfl 22 (.tmp 14) (.tmp 27) rfl b1 (rowOf Ls) rfl rfl 22 (rowOf (zbytes 32)) KA IL.out QL.out (bytes_one _) ?_;intro w2 k2 g2 s2;have NA2:=NA.oneOf g2 (by omega);have X2:=XA.grown g2 (by omega) (fun k hk=>by injection hk with hk;omega);have K2:=k2;clear g2 s2 KA NA k2)
  | (refine wpList_put_row rfl 107 (.tmp 15) (.tmp 28) rfl (b1 + 1) (rowOf No) rfl rfl 107 (rowOf (zbytes 12)) NA2 IN.out QN.out (bytes_one _) ?_;intro w3 k3 g3 s3;have K3:=hidyb_ (K2.oneOf g3 (by omega));have N3:=hidyb_ k3;have X3:=hidyb_ (X2.grown g3 (by have:=X2.size;omega) (fun k hk=>by injection hk with hk;omega));have B3:=hidyb_ (B1.out.trans (X3.out.mono (by rw [← HB1.out];exact B1.out.size)));clear g3 s3 k3 NA2 K2 X2)
  | (refine wpList_put_row rfl 111 (.tmp 17) (.tmp 35) rfl w3.heap.size #[.int .i64 (c:Int),.int .i64 (n:Int)] rfl rfl 111 #[.int .i64 0,.int .i64 0] (Bk.new w3 _ _) iS rfl (one2i _ _) ?_;intro w4 k4 g4 s4;have BX:Below w3.heap.size w3 w4:=(((Below.refl w3.heap.size w3).alloc (Nat.le_refl _) (.cells #[.int .i64 0,.int .i64 0] 111)).grown g4 (by simp) (fun k hk=>by injection hk with hk;omega));have K4:=hidyb_ k4;have B4:=hidyb_ (B3.out.trans (BX.mono B3.out.size));have L4:=hidyb_ (K3.out.below BX K3.out.lt);have N4:=hidyb_ (N3.out.below BX N3.out.lt);clear k4 g4 s4 BX))
 rename_i K9 hK9
 have HC:Hid (Keep4 w w4):=hidyb_ B4.out
 generalize hg3:w3.heap.size=b4 at *
 obtain ⟨g4,hg4⟩:∃ g,w4.heap.size=g:=⟨_,rfl⟩
 have G4:=hidyb_ hg4
 have K4l:b4 < g4:=by rw [← hg4];exact K4.out.lt
 have CM:Hid (∀ W,Below g4 w4 W→W.cell? ⟨v,33,none⟩=some (.map (some sp))):=hidyb_ (fun W hW=>((HV.out.below (B4.out.trans (hW.mono (by rw [← hg4];exact B4.out.size))) HV.out.lt).cell 33).trans (vrow_33 _ K KL.out _ _ _))
 have LK:Hid (∀ W,Below g4 w4 W→(Instr.lookup 91 (.map (some sp)) (.agg #[.int .i64 (c:Int),.int .i64 (n:Int)]) true).run Tryz.prog W = .ok (.tuple #[.agg #[],.bool false]) W):=hidyb_ (fun W hW=>by
  have hm:=HS.out.keep ((B4.out.trans (hW.mono (by rw [← hg4];exact B4.out.size))).block sp HS.out.lt)
  have h:=hm.look keyedS Tryz.underlying91 (zU_ W) KLIT.out
  rw [HI.out] at h
  exact h)
 clear hw1a SA B1 X3 B3 K3 N3 hg3 hb1 XA B1s HB1
 refine region_byF [37,38,39,40,41,42,36,43,44,18,19] (fun W=>Below g4 w4 W) (fun W W'=>Below W.heap.size W W') (SlR v sp (c:Int) (n:Int) false) (by kernel_rfl) (by kernel_rfl) (by kernel_rfl) (by kernel_rfl) (fun j v w w' hT hr=>?_) (fun j v w hlt hj _=>?_) (by rw [← hg4];exact (Below.refl _ _).drew) ?_ ?_
 ·exact SlR.stable hT j v hr
 ·rcases j with _ | _ | _ | _ | _ | _ | _ | _ | _ | _ | _ | _ | j
  all_goals first
   | (exfalso;simp [dstOf] at hj;done)
   | trivial
 ·refine ⟨?_,?_,?_,?_,?_,?_,?_,?_,?_,?_,?_,?_,trivial⟩
  all_goals intro a W hC hd hf hv K hK
  ·have e1:=slot_of (a:=a) (s:=0) (v:=.pointer (some ⟨v,0,none⟩)) (hf 0 (by kernel_rfl))
   refine step_run (wanted_none rfl) (v:=.pointer (some ⟨v,0,none⟩)) (w':=W) ?_ (hK _ _ hC (Below.refl _ _) rfl)
   go_simp
  ·have e1:=slot_of (a:=a) (s:=37) (v:=.pointer (some ⟨v,0,none⟩)) (hv 0 (by kernel_rfl))
   refine step_run (wanted_none rfl) (v:=.pointer (some ⟨v,0,none⟩)) (w':=W) ?_ (hK _ _ hC (Below.refl _ _) rfl)
   go_simp
  ·have e1:=slot_of (a:=a) (s:=38) (v:=.pointer (some ⟨v,0,none⟩)) (hv 1 (by kernel_rfl))
   refine step_run (wanted_none rfl) (v:=.pointer (some ⟨v,33,none⟩)) (w':=W) ?_ (hK _ _ hC (Below.refl _ _) rfl)
   go_simp
  ·have e1:=slot_of (a:=a) (s:=39) (v:=.pointer (some ⟨v,33,none⟩)) (hv 2 (by kernel_rfl))
   have c33:=CM.out W hC
   refine step_run (wanted_none rfl) (v:=.map (some sp)) (w':=W) ?_ (hK _ _ hC (Below.refl _ _) rfl)
   go_simp
  ·have e1:a.tmps.getD 17 undef = .pointer (some ⟨b4,0,none⟩):=hf 17 (by kernel_rfl)
   have k4:=K4.out.below hC K4l
   exact step_load_rowW (wanted_none rfl) 111 (.tmp 17) rfl b4 (eval_of e1) 111 #[.int .i64 (c:Int),.int .i64 (n:Int)] k4 _ Tryz.underlying111 rfl iS (hK _ _ hC (Below.refl _ _) rfl)
  ·have e1:=slot_of (a:=a) (s:=40) (v:=.map (some sp)) (hv 3 (by kernel_rfl))
   have e2:=slot_of (a:=a) (s:=41) (v:=.agg #[.int .i64 (c:Int),.int .i64 (n:Int)]) (hv 4 (by kernel_rfl))
   have lk:=LK.out W hC
   refine step_run (wanted_none rfl) (v:=.tuple #[.agg #[],.bool false]) (w':=W) ?_ (hK _ _ hC (Below.refl _ _) rfl)
   go_simp
  ·have e1:=slot_of (a:=a) (s:=42) (v:=.tuple #[.agg #[],.bool false]) (hv 5 (by kernel_rfl))
   refine step_run (wanted_none rfl) (v:=.tuple #[.agg #[],.bool false]) (w':=W) ?_ (hK _ _ hC (Below.refl _ _) rfl)
   go_simp
  ·have e1:=slot_of (a:=a) (s:=36) (v:=.tuple #[.agg #[],.bool false]) (hv 6 (by kernel_rfl))
   refine step_run (wanted_none rfl) (v:=.agg #[]) (w':=W) ?_ (hK _ _ hC (Below.refl _ _) rfl)
   go_simp
  ·have e1:=slot_of (a:=a) (s:=36) (v:=.tuple #[.agg #[],.bool false]) (hv 6 (by kernel_rfl))
   refine step_run (wanted_none rfl) (v:=.bool false) (w':=W) ?_ (hK _ _ hC (Below.refl _ _) rfl)
   go_simp
  ·have hzU:=zU_
   have hbl:=(Below.refl W.heap.size W).alloc (Nat.le_refl _) (.cells #[] 112)
   refine step_run (wanted_none rfl) (v:=.pointer (some ⟨W.heap.size,0,none⟩)) (w':=W.alloc (.cells #[] 112)) ?_ (hK _ _ (hC.trans (hbl.mono (G4.out ▸ hC.size))) hbl ⟨W.heap.size,rfl,Bk.new W _ _⟩)
   go_simp
  ·obtain ⟨q,eq,hq⟩:∃ q,a.tmps.getD 18 undef = .pointer (some ⟨q,0,none⟩)∧Bk W q 112 #[]:=hv 9 (by kernel_rfl)
   refine step_put_row rfl 112 (.tmp 18) (.tmp 43) rfl q #[] (eval_of eq) (eval_of (hv 7 (by kernel_rfl))) 112 #[] hq iU_ rfl (by simp) ?_
   intro W2 k2 g2 s2
   have hbl:=Below.same_row hq k2 g2
   exact hK undef _ (hC.trans (hbl.mono (G4.out ▸ hC.size))) hbl trivial
  ·have e1:=slot_of (a:=a) (s:=44) (v:=.bool false) (hv 8 (by kernel_rfl))
   refine step_run (wanted_none rfl) (v:=.bool false) (w':=W) ?_ (hK _ _ hC (Below.refl _ _) rfl)
   go_simp
 ·intro f w6 hC6 hv6
  obtain ⟨q18,e18,-⟩:∃ q,f 18 = .pointer (some ⟨q,0,none⟩)∧Bk w6 q 112 #[]:=hv6 9 (by decide)
  have f36:f 36 = .tuple #[.agg #[],.bool false]:=hv6 6 (by decide)
  have f37:f 37 = .pointer (some ⟨v,0,none⟩):=hv6 0 (by decide)
  have f38:f 38 = .pointer (some ⟨v,0,none⟩):=hv6 1 (by decide)
  have f39:f 39 = .pointer (some ⟨v,33,none⟩):=hv6 2 (by decide)
  have f40:f 40 = .map (some sp):=hv6 3 (by decide)
  have f41:f 41 = .agg #[.int .i64 (c:Int),.int .i64 (n:Int)]:=hv6 4 (by decide)
  have f42:f 42 = .tuple #[.agg #[],.bool false]:=hv6 5 (by decide)
  have f43:f 43 = .agg #[]:=hv6 7 (by decide)
  have f44:f 44 = .bool false:=hv6 8 (by decide)
  have f19:f 19 = .bool false:=hv6 11 (by decide)
  simp only [framed,List.foldl_cons,List.foldl_nil,List.setIfInBounds_toArray,List.set_cons_succ,List.set_cons_zero]
  rw [e18,f36,f37,f38,f39,f40,f41,f42,f43,f44,f19]
  have B6:=hidyb_ hC6
  clear hv6 hC6 e18 f36 f37 f38 f39 f40 f41 f42 f43 f44 f19
  refine hK9 _ _ ?_
  go_upto_region 8 with fail
  rename_i K8 hK8
  have hbU:=bU_
  refine region_quiet_tail (C:=fun W=>Below g4 w4 W) 6 (by kernel_rfl) (by decide +kernel) (B6.out.drew) ?_
  simp only [List.take_succ_cons,List.take_zero]
  repeat (go_big_quiet_want;(first
   | (refine BigFrame.quiet_move _ rfl ?_;go_simp)
   | (refine quiet_run (.pointer (some ⟨v,0,none⟩)) ?_ ?_;(focus (intro W hW;go_simp;done));go_simp)
   | (refine quiet_run (.pointer (some ⟨v,33,none⟩)) ?_ ?_;(focus (intro W hW;go_simp;done));go_simp)
   | (refine quiet_run (.map (some sp)) ?_ ?_;(focus (intro W hW;have h:=CM.out W hW;go_simp;done));go_simp)
   | (refine quiet_load_row 111 (.tmp 17) rfl b4 rfl 111 #[.int .i64 (c:Int),.int .i64 (n:Int)] _ Tryz.underlying111 rfl iS (fun W hW=>K4.out.below hW K4l) ?_;go_simp)
   | (refine quiet_run (.agg #[]) ?_ ?_;(focus (intro W hW;go_simp;done));go_simp));go_big_quiet_on)
  refine wpQuiet_nil ?_
  intro w7 hw7
  simp only [List.drop_succ_cons,List.drop_zero]
  have B7:=HC.out.trans (hw7.mono (by rw [← G4.out];exact HC.out.size))
  have V7:=HV0.out.below B7
  refine wpList_storeM rfl (.tmp 49) (.tmp 50) (.tmp 51) 91 rfl 111 112 keyedS Tryz.underlying91 sp S.length (fS S) rfl V7.spent (by have:=SB.out;unfold maxLen;omega) (sKey (c:Int) (n:Int)) (.agg #[]) _ rfl rfl KLIT.out HI.out ?_
  intro w8 hm8 ht8
  rw [fS_snoc] at hm8
  have V8:=hidyb_ (V7.spentBy ht8 (c,n) (by rw [List.length_append];exact hm8))
  have U8:=hidyb_ ((Untouched.of_below (F:=F) B7).trans (Grew.refl _ _) (Untouched.turned ht8 V7.ins))
  have X8:=hidyb_ (show Rd w8 w8.heap.size Aw x from ((RX.out.below B7).turned ht8).more (by rw [turned_size ht8];exact B7.size))
  have Y8:=hidyb_ (show Rd w8 w8.heap.size B b from ((RB.out.below B7).turned ht8).more (by rw [turned_size ht8];exact B7.size))
  clear hw7 B7 V7 hm8 ht8
  refine hK8 _ _ ?_
  obtain ⟨sq,hsq⟩:∃ q,S.length + 1=q:=⟨_,rfl⟩
  have SQ:=hidyb_ hsq
  have SQL:=hidyb_ (show (S ++ [(c,n)]).length=sq by rw [← hsq];simp)
  have c0:=(V8.out.blk.cell 0).trans (vrow_0 _ _ _ _ _)
  have c33:=(V8.out.blk.cell 33).trans (vrow_33 _ K KL.out _ _ _)
  have hl:=fun ty=>V8.out.spent.len Tryz.underlying91 ty
  rw [SQL.out] at hl
  have hnb:=HNB.out
  have hi:IntKind.i64.wrap ((nb:Int) + 16)=(nb:Int) + 16:=IntWalk.i64_in _ (by omega)
  obtain ⟨D0,hD0⟩:∃ D,drawB K 1 (S.length + 1) (nb + 8)=D:=⟨_,rfl⟩
  have DL:=hidyb_ (show D0.length=nb + 16 by rw [← hD0,drawB_len];omega)
  have HD0:=hidyb_ hD0
  have cd:Calls Tryz.prog 52 #[.pointer (some ⟨v,0,none⟩),.int .i64 1,.int .i64 (sq:Int),.int .i64 ((nb:Int) + 16)] w8 (NewP w8 (nb + 16) D0):=by
   have h:=draw_any V8.out.blk KL.out 1 sq (nb + 8) (by omega) (by have:=SB.out;omega) (by omega)
   rw [show ((nb + 8:Nat):Int) + 8=(nb:Int) + 16 by omega,show 8 + (nb + 8)=nb + 16 by omega,← hsq,hD0] at h
   rw [← hsq]
   exact h
  clear hsq hD0 hnb
  go_upto_region 12 with (go_at_call 52;((with_reducible refine cd.mono ?_);clear cd;rintro r w9 ⟨A9,c9,rfl,ho,hb⟩;obtain ⟨g9,rfl⟩:=ho.block_ (by omega);have O9:=hidyb_ ho;have V9:=hidyb_ (V8.out.below hb);have U9:=hidyb_ (U8.out.thenB hb);have X9:=hidyb_ ((X8.out.below hb).more hb.size);have Y9:=hidyb_ ((Y8.out.below hb).more hb.size);have B9:=hidyb_ hb;clear ho hb))
  rename_i K7 hK7
  clear c0 c33 hl hi
  obtain ⟨nk,f,hle,hmk,hkn⟩:=V9.out.known
  have hnc:∀ cs ty fz,w9.heap[kn]?≠some (.cells cs ty fz):=fun cs ty fz=>hmk.notCells
  have HNC:=hidyb_ hnc
  have NEWL:Hid (∀ u∈L,(u.c,u.n)≠(c,n)):=hidyb_ (fun u hu e=>HIN.out (e ▸ HV0.out.lts u hu))
  obtain ⟨kl2,hkl2⟩:=bKey_lit (e:Int) (c:Int) (n:Int) x D0 (by have:=HE.out;unfold okI;omega) (by have:=HCN.out;unfold okI;omega) (by have:=HCN.out;unfold okI;omega) (by rw [XL.out];have:=HNA.out;omega) (by rw [DL.out];have:=HNB.out;omega)
  have KB:Hid (keyOf Tryz.prog 116 (.agg #[.int .i64 (e:Int),.int .i64 (c:Int),.int .i64 (n:Int),.string (strOf x),.string (strOf D0)])=some kl2):=hidyb_ hkl2
  have HFN:Hid (f (.agg #[.int .i64 (e:Int),.int .i64 (c:Int),.int .i64 (n:Int),.string (strOf x),.string (strOf D0)])=none):=hidyb_ (by
   cases hf:f (.agg #[.int .i64 (e:Int),.int .i64 (c:Int),.int .i64 (n:Int),.string (strOf x),.string (strOf D0)]) with
   | none=>rfl
   | some u =>
    obtain ⟨u,hu,ek⟩:=hkn.only _ _ hf
    obtain ⟨-,h1,h2,-⟩:=bKey_inj (show bKey (e:Int) (c:Int) (n:Int) x D0=bKey (u.e:Int) (u.c:Int) (u.n:Int) u.x u.s from ek)
    exact absurd (by rw [Int.ofNat_inj.1 h1,Int.ofNat_inj.1 h2]) (NEWL.out u hu))
  have CW:Hid (∀ W,Untouched [kn] w9 W→W.cell? ⟨v,35,none⟩=some (.map (some kn))):=hidyb_ (fun W hW=>((V9.out.blk.untouched hW (fun hm=>by simp at hm;exact HNC.out _ _ _ (hm ▸ V9.out.blk))).cell 35).trans (vrow_35 _ K KL.out _ _ _))
  have XV:Hid (∀ W,Untouched [kn] w9 W→(convert 23 9 (.slice Aw na ca)).run Tryz.prog W = .ok (.string (strOf x)) W):=hidyb_ (fun W hW=>conv_strn (X9.out.untouchedM hW HNC.out) na ca XL.out)
  have DV:Hid (∀ W,Untouched [kn] w9 W→(convert 23 9 (.slice (some ⟨g9,0,none⟩) (nb + 16) c9)).run Tryz.prog W = .ok (.string (strOf D0)) W):=hidyb_ (fun W hW=>conv_strn (O9.out.rd.1.untouchedM hW HNC.out) (nb + 16) c9 DL.out)
  have RB9:Hid (∀ W,Untouched [kn] w9 W→Rd W W.heap.size B b):=hidyb_ (fun W hW=>(Y9.out.untouchedM hW HNC.out).more hW.size)
  have MK:=hidyb_ hmk
  have HKN:=hidyb_ hkn
  have HLE:=hidyb_ hle
  have G9:Hid (kn < w9.heap.size∧kn < w8.heap.size∧w.heap.size≤w8.heap.size∧w8.heap.size≤w9.heap.size):=hidyb_ ⟨V9.out.hF kn V9.out.ink,V8.out.hF kn V8.out.ink,U8.out.size,B9.out.size⟩
  have hg9:=World.ownsRow.lt O9.out g9 rfl
  have HG9:=hidyb_ hg9
  have hbB:=(rfl:bKey (e:Int) (c:Int) (n:Int) x D0=_)
  clear hmk hkn hle hnc hkl2 hg9 hbB X8 Y8 X9 Y9 B9 K4l hbU hzS iS
  generalize hq9:w9.heap.size=q9 at *
  have Q9:=hidyb_ hq9
  refine region_byJF [72,73,74,75,76,77,78,79,80,81,82,83,84,85] (fun W=>Untouched [kn] w9 W) (fun W W'=>Untouched [kn] W W') (SeR v kn (e:Int) (c:Int) (n:Int) Aw na ca x g9 (nb + 16) c9 D0 B nb cb b q9) (fun D _ W=>SeJ kn nk f (.agg #[.int .i64 (e:Int),.int .i64 (c:Int),.int .i64 (n:Int),.string (strOf x),.string (strOf D0)]) nb b q9 D W) (by kernel_rfl) (by kernel_rfl) (by kernel_rfl) (by kernel_rfl) (fun j v w w' hT hr=>?_) (fun j v w hlt hj _=>?_) (Untouched.drewN 1) ?_ ⟨fun _=>MK.out.keep rfl,fun e=>Bool.noConfusion e⟩ ?_
  ·exact SeR.stable hT G9.out.1 j v hr
  ·rcases j with _ | _ | _ | _ | _ | _ | _ | _ | _ | _ | _ | _ | _ | _ | _ | j
   all_goals first
    | (exfalso;simp [dstOf] at hj;done)
    | trivial
  ·refine ⟨?_,?_,?_,?_,?_,?_,?_,?_,?_,?_,?_,?_,?_,?_,?_,trivial⟩
   all_goals intro D a W hC hd hsz hf hv hJ hL hW K hK
   ·clear hsz
    have e1:=slot_of (a:=a) (s:=0) (v:=.pointer (some ⟨v,0,none⟩)) (hf 0 (by kernel_rfl))
    refine step_run (wanted_none rfl) (v:=.pointer (some ⟨v,0,none⟩)) (w':=W) ?_ (hK _ _ hC (Untouched.refl _ _) rfl (hJ.same (Below.refl _ _) 0 (by decide)))
    go_simp
   ·clear hsz
    have e1:=slot_of (a:=a) (s:=72) (v:=.pointer (some ⟨v,0,none⟩)) (hv 0 (by kernel_rfl))
    refine step_run (wanted_none rfl) (v:=.pointer (some ⟨v,0,none⟩)) (w':=W) ?_ (hK _ _ hC (Untouched.refl _ _) rfl (hJ.same (Below.refl _ _) 1 (by decide)))
    go_simp
   ·clear hsz
    have e1:=slot_of (a:=a) (s:=73) (v:=.pointer (some ⟨v,0,none⟩)) (hv 1 (by kernel_rfl))
    refine step_run (wanted_none rfl) (v:=.pointer (some ⟨v,35,none⟩)) (w':=W) ?_ (hK _ _ hC (Untouched.refl _ _) rfl (hJ.same (Below.refl _ _) 2 (by decide)))
    go_simp
   ·clear hsz
    have e1:=slot_of (a:=a) (s:=74) (v:=.pointer (some ⟨v,35,none⟩)) (hv 2 (by kernel_rfl))
    have c35:=CW.out W hC
    refine step_run (wanted_none rfl) (v:=.map (some kn)) (w':=W) ?_ (hK _ _ hC (Untouched.refl _ _) rfl (hJ.same (Below.refl _ _) 3 (by decide)))
    go_simp
   ·clear hsz
    have e1:=slot_of (a:=a) (s:=1) (v:=.int .i64 (e:Int)) (hf 1 (by kernel_rfl))
    refine step_run (wanted_none rfl) (v:=.int .i64 (e:Int)) (w':=W) ?_ (hK _ _ hC (Untouched.refl _ _) rfl (hJ.same (Below.refl _ _) 4 (by decide)))
    go_simp
   ·clear hsz
    have e1:=slot_of (a:=a) (s:=2) (v:=.int .i64 (c:Int)) (hf 2 (by kernel_rfl))
    refine step_run (wanted_none rfl) (v:=.int .i64 (c:Int)) (w':=W) ?_ (hK _ _ hC (Untouched.refl _ _) rfl (hJ.same (Below.refl _ _) 5 (by decide)))
    go_simp
   ·clear hsz
    have e1:=slot_of (a:=a) (s:=3) (v:=.int .i64 (n:Int)) (hf 3 (by kernel_rfl))
    refine step_run (wanted_none rfl) (v:=.int .i64 (n:Int)) (w':=W) ?_ (hK _ _ hC (Untouched.refl _ _) rfl (hJ.same (Below.refl _ _) 6 (by decide)))
    go_simp
   ·clear hsz
    have e1:=slot_of (a:=a) (s:=4) (v:=.slice Aw na ca) (hf 4 (by kernel_rfl))
    refine step_run (wanted_none rfl) (v:=.slice Aw na ca) (w':=W) ?_ (hK _ _ hC (Untouched.refl _ _) rfl (hJ.same (Below.refl _ _) 7 (by decide)))
    go_simp
   ·clear hsz
    have e1:=slot_of (a:=a) (s:=79) (v:=.slice Aw na ca) (hv 7 (by kernel_rfl))
    have cv:=XV.out W hC
    refine step_run (wanted_none rfl) (v:=.string (strOf x)) (w':=W) ?_ (hK _ _ hC (Untouched.refl _ _) rfl (hJ.same (Below.refl _ _) 8 (by decide)))
    go_simp
   ·clear hsz
    have e1:=slot_of (a:=a) (s:=20) (v:=.slice (some ⟨g9,0,none⟩) (nb + 16) c9) (hf 20 (by kernel_rfl))
    refine step_run (wanted_none rfl) (v:=.slice (some ⟨g9,0,none⟩) (nb + 16) c9) (w':=W) ?_ (hK _ _ hC (Untouched.refl _ _) rfl (hJ.same (Below.refl _ _) 9 (by decide)))
    go_simp
   ·clear hsz
    have e1:=slot_of (a:=a) (s:=81) (v:=.slice (some ⟨g9,0,none⟩) (nb + 16) c9) (hv 9 (by kernel_rfl))
    have cv:=DV.out W hC
    refine step_run (wanted_none rfl) (v:=.string (strOf D0)) (w':=W) ?_ (hK _ _ hC (Untouched.refl _ _) rfl (hJ.same (Below.refl _ _) 10 (by decide)))
    go_simp
   ·clear hsz
    have e1:=slot_of (a:=a) (s:=76) (v:=.int .i64 (e:Int)) (hv 4 (by kernel_rfl))
    have e2:=slot_of (a:=a) (s:=77) (v:=.int .i64 (c:Int)) (hv 5 (by kernel_rfl))
    have e3:=slot_of (a:=a) (s:=78) (v:=.int .i64 (n:Int)) (hv 6 (by kernel_rfl))
    have e4:=slot_of (a:=a) (s:=80) (v:=.string (strOf x)) (hv 8 (by kernel_rfl))
    have e5:=slot_of (a:=a) (s:=82) (v:=.string (strOf D0)) (hv 10 (by kernel_rfl))
    refine step_run (wanted_none rfl) (v:=.agg #[.int .i64 (e:Int),.int .i64 (c:Int),.int .i64 (n:Int),.string (strOf x),.string (strOf D0)]) (w':=W) ?_ (hK _ _ hC (Untouched.refl _ _) rfl (hJ.same (Below.refl _ _) 11 (by decide)))
    go_simp
   ·clear hsz
    have e1:=slot_of (a:=a) (s:=5) (v:=.slice B nb cb) (hf 5 (by kernel_rfl))
    refine step_run (wanted_none rfl) (v:=.slice B nb cb) (w':=W) ?_ (hK _ _ hC (Untouched.refl _ _) rfl (hJ.same (Below.refl _ _) 12 (by decide)))
    go_simp
   ·clear hsz
    have e1:=slot_of (a:=a) (s:=84) (v:=.slice B nb cb) (hv 12 (by kernel_rfl))
    have cc:=clone_any B nb cb b W BL.out (RB9.out W hC) (by have:=HNB.out;omega)
    refine step_callx 27 #[.slice B nb cb] (wanted_none rfl) (w':=W) ?_ (cc.mono fun e W2 hh=>?_)
    ·go_simp
    ·obtain ⟨A,d,rfl,ho,hb⟩:=hh
     exact ⟨_,rfl,hK _ _ (hC.thenB hb) (.of_below hb) ⟨A,d,rfl,ho.lower (Q9.out ▸ hC.size)⟩ (hJ.same hb 13 (by decide))⟩
   ·clear hsz
    obtain ⟨A,d,eA,hA⟩:∃ A d,a.tmps.getD 85 undef = .slice A nb d∧Own8 W q9 (.slice A nb d) b:=hv 13 (by kernel_rfl)
    have e1:=slot_of (a:=a) (s:=75) (v:=.map (some kn)) (hv 3 (by kernel_rfl))
    have e2:=slot_of (a:=a) (s:=83) (v:=.agg #[.int .i64 (e:Int),.int .i64 (c:Int),.int .i64 (n:Int),.string (strOf x),.string (strOf D0)]) (hv 11 (by kernel_rfl))
    have e3:=slot_of (a:=a) (s:=85) eA
    have hm:=hJ.1 hL
    obtain ⟨W2,hrun,hm2,ht2⟩:=hm.store keyedB Tryz.underlying93 (by have h1:=LB.out;have h2:=HLE.out;unfold maxLen;omega) KB.out HFN.out (val:=.slice A nb d)
    refine step_skip (wanted_none rfl) (w':=W2) ?_ (hK undef _ (hC.trans (Grew.refl _ _) (.turned ht2 (by simp))) (.turned ht2 (by simp)) trivial ⟨fun e=>by simp at e,fun _=>⟨A,d,hm2,hA.untouched (.turned ht2 (List.mem_singleton.2 rfl)) (fun k hk=>by simp at hk;have:=G9.out.1;omega)⟩⟩)
    go_simp
  ·intro f9 w10 hC10 hv10 D10 hD10 hJ10
   obtain ⟨a10,hJ,-⟩:=hJ10
   obtain ⟨A,d,hm,hO⟩:=hJ.2 (hD10 14 (by decide))
   have V10:=hidyb_ (V9.out.knownBy hC10 ⟨e,c,n,x,D0,b⟩ (by simp) NEWL.out HKN.out HLE.out (A:=A) (c:=d) (base:=q9) (by have h:=hm;rw [← BL.out] at h;exact h) (by have h:=hO;rw [← BL.out] at h;exact h))
   have O10:=hidyb_ (O9.out.untouched hC10 (fun k hk=>by simp at hk;have:=G9.out.2.1;omega))
   have U10:=hidyb_ (U9.out.trans (Grew.refl _ _) (show Untouched F w9 w10 from ⟨hC10.os,hC10.tape,hC10.output,hC10.size,fun k hk hn=>hC10.block k hk (fun hm=>by simp at hm;subst hm;exact hn V9.out.ink)⟩))
   have NI:Hid (∀ a,(some ⟨g9,0,none⟩:Option Addr)=some a→a.block∉F ++ blkOf A):=hidyb_ (fun a ea hm=>by
    injection ea with ea
    subst ea
    rcases List.mem_append.1 hm with h1 | h1
    ·have h2:=V8.out.hF g9 h1
     have h3:=HG9.out.1
     omega
    ·simp only [blkOf,Option.mem_toList,Option.map_eq_some_iff] at h1
     obtain ⟨a2,rfl,e2⟩:=h1
     have h3:=(World.ownsRow.lt hO _ rfl).1
     have h4:=HG9.out.2
     have e3:a2.block=g9:=e2
     omega)
   have GR:Hid (Grew w F (F ++ blkOf A)):=hidyb_ (fun k hk=>by
    rcases List.mem_append.1 hk with h1 | h1
    ·exact .inl h1
    ·simp only [blkOf,Option.mem_toList,Option.map_eq_some_iff] at h1
     obtain ⟨a2,rfl,rfl⟩:=h1
     have h3:=(World.ownsRow.lt hO _ rfl).1
     have h4:=G9.out
     exact .inr (by omega))
   simp only [framed,List.foldl_cons,List.foldl_nil,List.setIfInBounds_toArray,List.set_cons_succ,List.set_cons_zero]
   clear hv10 hD10 hJ hC10 hm hO
   refine hK7 _ _ ?_
   go_wp2
   go_ret2
   rw [HD0.out]
   exact ⟨_,_,_,rfl,O10.out.lower G9.out.2.2.1,NI.out,V10.out,GR.out,U10.out⟩
theorem zSl_ (W:World):(zeroValue 23).run Tryz.prog W = .ok (.slice none 0 0) W:=by kernel_rfl
set_option maxHeartbeats 8000000 in
theorem vopen_miss {w:World} {v sp nm kn:Nat} {K:List UInt8} {N:List (List UInt8)} {S:List (Nat × Nat)} {L:List SealV} {F:List Nat} (h:VltI w v sp nm kn K N S L F) (Aw As:Option Addr) (na ca ns cs:Nat) (x s:List UInt8) (hx:x.length=na) (hs:s.length=ns) (hrx:Rd w w.heap.size Aw x) (hrs:Rd w w.heap.size As s) (hna:na≤1000000) (hns:ns≤1000000) (h16:16≤ns)
  (e c n:Nat) (he:e≤1048576) (hc:c≤1000) (hn:n≤4611686018427387904) (hno:∀ u∈L,u.key≠bKey (e:Int) (c:Int) (n:Int) x s)
  (ck:Calls Tryz.prog 57 #[.pointer (some ⟨v,0,none⟩),.int .i64 (e:Int),.int .i64 (c:Int),.int .i64 (n:Int)] w fun r w'=>r = .returned (yesKeys K e c n)∧Below w.heap.size w w') :
  Calls Tryz.prog 35 #[.pointer (some ⟨v,0,none⟩),.int .i64 (e:Int),.int .i64 (c:Int),.int .i64 (n:Int),.slice Aw na ca,.slice As ns cs] w fun r w'=>r = .returned (.tuple #[.slice none 0 0,.int .i64 6])∧Below w.heap.size w w':=by
 have hz:=z32
 have hz12:=z12
 obtain ⟨Ls,hLs⟩:∃ L,sealK K e=L:=⟨_,rfl⟩
 obtain ⟨No,hNo⟩:∃ L,nonceB c n=L:=⟨_,rfl⟩
 have LL:=hidyb_ (show Ls.length=32 by rw [← hLs];exact sealK_len _ _)
 have NL:=hidyb_ (show No.length=12 by rw [← hNo];exact nonceB_len _ _)
 have IL:=hidyb_ (ib32 Ls LL.out)
 have IN:=hidyb_ (ib12 No NL.out)
 have QL:=hidyb_ (show (rowOf (zbytes 32)).size=(rowOf Ls).size by rw [rowOf_size,rowOf_size,LL.out,zbytes_len])
 have QN:=hidyb_ (show (rowOf (zbytes 12)).size=(rowOf No).size by rw [rowOf_size,rowOf_size,NL.out,zbytes_len])
 unfold yesKeys at ck
 rw [hLs,hNo] at ck
 obtain ⟨kl2,hkl2⟩:=bKey_lit (e:Int) (c:Int) (n:Int) x s (by unfold okI;omega) (by unfold okI;omega) (by unfold okI;omega) (by rw [hx];omega) (by rw [hs];omega)
 have KB:Hid (keyOf Tryz.prog 116 (.agg #[.int .i64 (e:Int),.int .i64 (c:Int),.int .i64 (n:Int),.string (strOf x),.string (strOf s)])=some kl2):=hidyb_ hkl2
 obtain ⟨nk,f,hle,hmk,hkn⟩:=h.known
 have HFK:Hid (f (.agg #[.int .i64 (e:Int),.int .i64 (c:Int),.int .i64 (n:Int),.string (strOf x),.string (strOf s)])=none):=hidyb_ (by
  cases hf:f (.agg #[.int .i64 (e:Int),.int .i64 (c:Int),.int .i64 (n:Int),.string (strOf x),.string (strOf s)]) with
  | none=>rfl
  | some u =>
   obtain ⟨u,hu,ek⟩:=hkn.only _ _ hf
   exact absurd ek.symm (hno u hu))
 have HV0:=hidyb_ h
 have CM0:Hid (∀ W,Below w.heap.size w W→W.cell? ⟨v,0,none⟩=some (.bool true)):=hidyb_ (fun W hW=>((h.below hW).blk.cell 0).trans (vrow_0 _ _ _ _ _))
 have CM:Hid (∀ W,Below w.heap.size w W→W.cell? ⟨v,35,none⟩=some (.map (some kn))):=hidyb_ (fun W hW=>((h.below hW).blk.cell 35).trans (vrow_35 _ K h.len _ _ _))
 have XV:Hid (∀ W,Below w.heap.size w W→(convert 23 9 (.slice Aw na ca)).run Tryz.prog W = .ok (.string (strOf x)) W):=hidyb_ (fun W hW=>conv_strn (hrx.below hW) na ca hx)
 have SV:Hid (∀ W,Below w.heap.size w W→(convert 23 9 (.slice As ns cs)).run Tryz.prog W = .ok (.string (strOf s)) W):=hidyb_ (fun W hW=>conv_strn (hrs.below hW) ns cs hs)
 have LK:Hid (∀ W,Below w.heap.size w W→(Instr.lookup 93 (.map (some kn)) (.agg #[.int .i64 (e:Int),.int .i64 (c:Int),.int .i64 (n:Int),.string (strOf x),.string (strOf s)]) true).run Tryz.prog W = .ok (.tuple #[.slice none 0 0,.bool false]) W):=hidyb_ (fun W hW=>by
  have hm:=hmk.keep (hW.block kn hmk.lt)
  have h:=hm.look keyedB Tryz.underlying93 (zSl_ W) KB.out
  rw [HFK.out] at h
  exact h)
 have d1:decide ((ns:Int) < 16)=false:=decide_eq_false (by omega)
 have d2:decide (ns < 16)=false:=decide_eq_false (by omega)
 clear h hLs hNo hc hn hkl2 hx hs hrx hrs hna hns he hmk h16
 go_enter Tryz.func35,Tryz.ntmps35
 go_upto_region 4 with (first
  | (go_at_call 57;((with_reducible refine ck.mono ?_);clear ck;rintro r w1 ⟨rfl,hb⟩;have B1:=hidyb_ hb;clear hb;obtain ⟨b1,w1a,hb1,hw1a,KA,NA,XA,SA⟩:=keys_start w1;have B1s:=B1.out.size;have HB1:=hidyb_ hb1))
  | (refine wpList_put_row rfl 22 (.tmp 14) (.tmp 25) rfl b1 (rowOf Ls) rfl rfl 22 (rowOf (zbytes 32)) KA IL.out QL.out (bytes_one _) ?_;intro w2 k2 g2 s2;have NA2:=NA.oneOf g2 (by omega);have X2:=XA.grown g2 (by omega) (fun k hk=>by injection hk with hk;omega);have K2:=k2;clear g2 s2 KA NA k2)
  | (refine wpList_put_row rfl 107 (.tmp 15) (.tmp 26) rfl (b1 + 1) (rowOf No) rfl rfl 107 (rowOf (zbytes 12)) NA2 IN.out QN.out (bytes_one _) ?_;intro w3 k3 g3 s3;have K3:=hidyb_ (K2.oneOf g3 (by omega));have N3:=hidyb_ k3;have X3:=hidyb_ (X2.grown g3 (by have:=X2.size;omega) (fun k hk=>by injection hk with hk;omega));have B3:=hidyb_ (B1.out.trans (X3.out.mono (by rw [← HB1.out];exact B1.out.size)));clear g3 s3 k3 NA2 K2 X2))
 have c0:=CM0.out _ B3.out
 have B3h:=B3
 clear hw1a SA B1 X3 K3 N3 hb1 XA B1s HB1
 go_upto_region 8 with fail
 rename_i K9 hK9
 clear c0 d1 d2
 refine region_quiet_in (C:=fun W=>Below w.heap.size w W) (by kernel_rfl) (by kernel_rfl) (B3.out.drew) ?_
 repeat (go_big_quiet_want;(first
  | (refine BigFrame.quiet_move _ rfl ?_;go_simp)
  | (refine BigFrame.quiet_assign _ rfl ?_;go_simp)
  | (refine quiet_run (.pointer (some ⟨v,0,none⟩)) ?_ ?_;(focus (intro W hW;go_simp;done));go_simp)
  | (refine quiet_run (.pointer (some ⟨v,35,none⟩)) ?_ ?_;(focus (intro W hW;go_simp;done));go_simp)
  | (refine quiet_run (.map (some kn)) ?_ ?_;(focus (intro W hW;have h:=CM.out W hW;go_simp;done));go_simp)
  | (refine quiet_run (.string (strOf x)) ?_ ?_;(focus (intro W hW;have h:=XV.out W hW;go_simp;done));go_simp)
  | (refine quiet_run (.string (strOf s)) ?_ ?_;(focus (intro W hW;have h:=SV.out W hW;go_simp;done));go_simp)
  | (refine quiet_run (.agg #[.int .i64 (e:Int),.int .i64 (c:Int),.int .i64 (n:Int),.string (strOf x),.string (strOf s)]) ?_ ?_;(focus (intro W hW;go_simp;done));go_simp)
  | (refine quiet_run (.tuple #[.slice none 0 0,.bool false]) ?_ ?_;(focus (intro W hW;have h:=LK.out W hW;go_simp;done));go_simp)
  | (refine quiet_run (.slice none 0 0) ?_ ?_;(focus (intro W hW;go_simp;done));go_simp)
  | (refine quiet_run (.bool false) ?_ ?_;(focus (intro W hW;go_simp;done));go_simp));go_big_quiet_on)
 refine wpQuiet_nil ?_
 intro w7 hw7
 have B7:=hidyb_ hw7
 clear hw7
 refine hK9 _ _ ?_
 go_wp2
 go_ret2
 exact ⟨rfl,B7.out⟩
set_option maxHeartbeats 8000000 in
theorem vopen_hit {w:World} {v sp nm kn:Nat} {K:List UInt8} {N:List (List UInt8)} {S:List (Nat × Nat)} {L:List SealV} {F:List Nat} (h:VltI w v sp nm kn K N S L F) (Aw As:Option Addr) (na ca ns cs:Nat) (x s:List UInt8) (hx:x.length=na) (hs:s.length=ns) (hrx:Rd w w.heap.size Aw x) (hrs:Rd w w.heap.size As s) (hna:na≤1000000) (hns:ns≤1000000) (h16:16≤ns)
  (e c n:Nat) (he:e≤1048576) (hc:c≤1000) (hn:n≤4611686018427387904) (b:List UInt8) (nb:Nat) (hb:b.length=nb) (hnb:nb≤1000000) (hyes:(⟨e,c,n,x,s,b⟩:SealV)∈L)
  (ck:Calls Tryz.prog 57 #[.pointer (some ⟨v,0,none⟩),.int .i64 (e:Int),.int .i64 (c:Int),.int .i64 (n:Int)] w fun r w'=>r = .returned (yesKeys K e c n)∧Below w.heap.size w w') :
  Calls Tryz.prog 35 #[.pointer (some ⟨v,0,none⟩),.int .i64 (e:Int),.int .i64 (c:Int),.int .i64 (n:Int),.slice Aw na ca,.slice As ns cs] w fun r w'=>∃ A d,r = .returned (.tuple #[.slice A nb d,.int .i64 0])∧Own8 w' w.heap.size (.slice A nb d) b∧Below w.heap.size w w':=by
 have hz:=z32
 have hz12:=z12
 obtain ⟨Ls,hLs⟩:∃ L,sealK K e=L:=⟨_,rfl⟩
 obtain ⟨No,hNo⟩:∃ L,nonceB c n=L:=⟨_,rfl⟩
 have LL:=hidyb_ (show Ls.length=32 by rw [← hLs];exact sealK_len _ _)
 have NL:=hidyb_ (show No.length=12 by rw [← hNo];exact nonceB_len _ _)
 have IL:=hidyb_ (ib32 Ls LL.out)
 have IN:=hidyb_ (ib12 No NL.out)
 have QL:=hidyb_ (show (rowOf (zbytes 32)).size=(rowOf Ls).size by rw [rowOf_size,rowOf_size,LL.out,zbytes_len])
 have QN:=hidyb_ (show (rowOf (zbytes 12)).size=(rowOf No).size by rw [rowOf_size,rowOf_size,NL.out,zbytes_len])
 unfold yesKeys at ck
 rw [hLs,hNo] at ck
 obtain ⟨kl2,hkl2⟩:=bKey_lit (e:Int) (c:Int) (n:Int) x s (by unfold okI;omega) (by unfold okI;omega) (by unfold okI;omega) (by rw [hx];omega) (by rw [hs];omega)
 have KB:Hid (keyOf Tryz.prog 116 (.agg #[.int .i64 (e:Int),.int .i64 (c:Int),.int .i64 (n:Int),.string (strOf x),.string (strOf s)])=some kl2):=hidyb_ hkl2
 obtain ⟨nk,f,hle,hmk,hkn⟩:=h.known
 obtain ⟨A0,d0,hf0,hd1,hd2,hin⟩:=hkn.all _ hyes
 have HFK:Hid (f (.agg #[.int .i64 (e:Int),.int .i64 (c:Int),.int .i64 (n:Int),.string (strOf x),.string (strOf s)])=some (.slice A0 nb d0)):=hidyb_ (by rw [← hb];exact hf0)
 have RB:Hid (Rd w w.heap.size A0 b):=hidyb_ hin.rd
 have BL:=hidyb_ hb
 have NB:=hidyb_ hnb
 clear hf0 hin
 have HV0:=hidyb_ h
 have CM0:Hid (∀ W,Below w.heap.size w W→W.cell? ⟨v,0,none⟩=some (.bool true)):=hidyb_ (fun W hW=>((h.below hW).blk.cell 0).trans (vrow_0 _ _ _ _ _))
 have CM:Hid (∀ W,Below w.heap.size w W→W.cell? ⟨v,35,none⟩=some (.map (some kn))):=hidyb_ (fun W hW=>((h.below hW).blk.cell 35).trans (vrow_35 _ K h.len _ _ _))
 have XV:Hid (∀ W,Below w.heap.size w W→(convert 23 9 (.slice Aw na ca)).run Tryz.prog W = .ok (.string (strOf x)) W):=hidyb_ (fun W hW=>conv_strn (hrx.below hW) na ca hx)
 have SV:Hid (∀ W,Below w.heap.size w W→(convert 23 9 (.slice As ns cs)).run Tryz.prog W = .ok (.string (strOf s)) W):=hidyb_ (fun W hW=>conv_strn (hrs.below hW) ns cs hs)
 have LK:Hid (∀ W,Below w.heap.size w W→(Instr.lookup 93 (.map (some kn)) (.agg #[.int .i64 (e:Int),.int .i64 (c:Int),.int .i64 (n:Int),.string (strOf x),.string (strOf s)]) true).run Tryz.prog W = .ok (.tuple #[.slice A0 nb d0,.bool true]) W):=hidyb_ (fun W hW=>by
  have hm:=hmk.keep (hW.block kn hmk.lt)
  have h:=hm.look keyedB Tryz.underlying93 (zSl_ W) KB.out
  rw [HFK.out] at h
  exact h)
 have d1:decide ((ns:Int) < 16)=false:=decide_eq_false (by omega)
 have d2:decide (ns < 16)=false:=decide_eq_false (by omega)
 clear h hLs hNo hc hn hkl2 hx hs hrx hrs hna hns he hmk h16
 go_enter Tryz.func35,Tryz.ntmps35
 go_upto_region 4 with (first
  | (go_at_call 57;((with_reducible refine ck.mono ?_);clear ck;rintro r w1 ⟨rfl,hb⟩;have B1:=hidyb_ hb;clear hb;obtain ⟨b1,w1a,hb1,hw1a,KA,NA,XA,SA⟩:=keys_start w1;have B1s:=B1.out.size;have HB1:=hidyb_ hb1))
  | (refine wpList_put_row rfl 22 (.tmp 14) (.tmp 25) rfl b1 (rowOf Ls) rfl rfl 22 (rowOf (zbytes 32)) KA IL.out QL.out (bytes_one _) ?_;intro w2 k2 g2 s2;have NA2:=NA.oneOf g2 (by omega);have X2:=XA.grown g2 (by omega) (fun k hk=>by injection hk with hk;omega);have K2:=k2;clear g2 s2 KA NA k2)
  | (refine wpList_put_row rfl 107 (.tmp 15) (.tmp 26) rfl (b1 + 1) (rowOf No) rfl rfl 107 (rowOf (zbytes 12)) NA2 IN.out QN.out (bytes_one _) ?_;intro w3 k3 g3 s3;have K3:=hidyb_ (K2.oneOf g3 (by omega));have N3:=hidyb_ k3;have X3:=hidyb_ (X2.grown g3 (by have:=X2.size;omega) (fun k hk=>by injection hk with hk;omega));have B3:=hidyb_ (B1.out.trans (X3.out.mono (by rw [← HB1.out];exact B1.out.size)));clear g3 s3 k3 NA2 K2 X2))
 have c0:=CM0.out _ B3.out
 have B3h:=B3
 clear hw1a SA B1 X3 K3 N3 hb1 XA B1s HB1
 go_upto_region 8 with fail
 rename_i K9 hK9
 clear c0 d1 d2
 refine region_quiet_in (C:=fun W=>Below w.heap.size w W) (by kernel_rfl) (by kernel_rfl) (B3.out.drew) ?_
 repeat (go_big_quiet_want;(first
  | (refine BigFrame.quiet_move _ rfl ?_;go_simp)
  | (refine BigFrame.quiet_assign _ rfl ?_;go_simp)
  | (refine quiet_run (.pointer (some ⟨v,0,none⟩)) ?_ ?_;(focus (intro W hW;go_simp;done));go_simp)
  | (refine quiet_run (.pointer (some ⟨v,35,none⟩)) ?_ ?_;(focus (intro W hW;go_simp;done));go_simp)
  | (refine quiet_run (.map (some kn)) ?_ ?_;(focus (intro W hW;have h:=CM.out W hW;go_simp;done));go_simp)
  | (refine quiet_run (.string (strOf x)) ?_ ?_;(focus (intro W hW;have h:=XV.out W hW;go_simp;done));go_simp)
  | (refine quiet_run (.string (strOf s)) ?_ ?_;(focus (intro W hW;have h:=SV.out W hW;go_simp;done));go_simp)
  | (refine quiet_run (.agg #[.int .i64 (e:Int),.int .i64 (c:Int),.int .i64 (n:Int),.string (strOf x),.string (strOf s)]) ?_ ?_;(focus (intro W hW;go_simp;done));go_simp)
  | (refine quiet_run (.tuple #[.slice A0 nb d0,.bool true]) ?_ ?_;(focus (intro W hW;have h:=LK.out W hW;go_simp;done));go_simp)
  | (refine quiet_run (.slice A0 nb d0) ?_ ?_;(focus (intro W hW;go_simp;done));go_simp)
  | (refine quiet_run (.bool true) ?_ ?_;(focus (intro W hW;go_simp;done));go_simp));go_big_quiet_on)
 refine wpQuiet_nil ?_
 intro w7 hw7
 have B7:=hidyb_ hw7
 clear hw7
 refine hK9 _ _ ?_
 have cc:=clone_any A0 nb d0 b w7 BL.out ((RB.out.below B7.out).more B7.out.size) (by have:=NB.out;omega)
 go_wp2_with (go_at_call 27;((with_reducible refine cc.mono ?_);clear cc;rintro r w8 ⟨A8,c8,rfl,ho,hb8⟩;have O8:=hidyb_ ho;have B8:=hidyb_ hb8;clear ho hb8))
 go_ret2
 exact ⟨_,_,rfl,O8.out.lower B7.out.size,B7.out.trans (B8.out.mono B7.out.size)⟩
section
variable {w W W' : World} {v sp nm kn : Nat} {K : List UInt8} {N N' : List (List UInt8)} {S S' : List (Nat × Nat)} {L L' : List SealV} {F F' : List Nat}
end
theorem drawB_7 (K:List UInt8) (kind ord n:Nat):(drawB K kind ord n).getD 7 0=(highB 8 ord).getD 7 0:=by
 unfold drawB
 simp [List.getD,List.getElem?_append_left (show 7 < (highB 8 ord).length by rw [highB_len];omega)]
def K1:List UInt8:=1 :: zbytes 31
theorem mark_world (w:World) (l:List UInt8) (fz:Nat × Nat):∃ g w',w.heap.size=g∧w.alloc (.cells (rowOf l) 5 fz)=w'∧Below g w w'∧Rd w' w'.heap.size (some ⟨g,0,none⟩) l∧w'.heap.size=g + 1:=by
 refine ⟨_,_,rfl,rfl,(Below.refl _ _).alloc (Nat.le_refl _) _,(rd_mark w l fz).more (by simp),by simp⟩
end Go.Proofs.YtpcbmnmgefhaaaaGreatDoor
