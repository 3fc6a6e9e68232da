import Derived.Test.YtpcbmnmgefhaaaaGreatDoorZb
namespace Go.Proofs.YtpcbmnmgefhaaaaGreatDoor
set_option maxRecDepth 100000
open Go.ChangeShapes Go.WideShapes Go.ChangeAt Go.RowKit
set_option linter.unusedVariables false
set_option linter.unusedSimpArgs false
theorem hidzc_ {p:Prop} (h:p):Hid p:=h
section
variable {w : World} {g : Nat} {id : Bool} {K : List UInt8} {vn vl : Value} {N : List (List UInt8)} {L : List SealV} {G : List Nat}
theorem RefV.more (h:RefV w g id K vn vl N L G) (t:SealV) (hL:L.length≤100000):∃ A c A2 c2 w1 w2 w3,vl = .slice A L.length c ∧
  w.alloc (.cells (slR t) 120)=w1 ∧
  (Builtin.append_ #[62,62] 62 #[.slice A L.length c,.slice (some ⟨w.heap.size,0,none⟩) 1 1]).run Tryz.prog w1 = .ok (.slice A2 (L.length + 1) c2) w2 ∧
  w2.setCell ⟨g,3,none⟩ (.slice A2 (L.length + 1) c2)=w3∧(∃ u,w2.cell? ⟨g,3,none⟩=some u)∧w2.frozen? ⟨g,3,none⟩=false∧Leaves (RS id g K N (L ++ [t])) w G w3:=by
 obtain ⟨A,c,rfl⟩:=OwnSL.form h.sls
 obtain ⟨w1,hw1⟩:∃ w1,w.alloc (.cells (slR t) 120)=w1:=⟨_,rfl⟩
 have B1:Below w.heap.size w w1:=by rw [← hw1];exact (Below.refl _ _).alloc (Nat.le_refl _) _
 have K1:Bk w1 w.heap.size 120 (slR t):=by rw [← hw1];exact Bk.new w _ _
 have R1:=h.below B1
 obtain ⟨v',w2,hrun,k1,k2,k3⟩:=run_appSL R1.sls t w.heap.size K1 62 1 (by omega) (Nat.zero_le _)
 obtain ⟨A2,c2,hv2⟩:=OwnSL.form k1
 rw [List.length_append,List.length_singleton] at hv2
 subst hv2
 have hgv:∀ b,(Value.slice A L.length c).ownBlock=some b→b≠g:=R1.gl
 have K2:Bk w2 g 64 #[.bool id,.string (strOf K),vn,.slice A L.length c]:=(k2.block g R1.blk.lt (fun e=>hgv g e.symm rfl)).trans R1.blk
 obtain ⟨w3,hw3⟩:∃ w3,w2.setCell ⟨g,3,none⟩ (.slice A2 (L.length + 1) c2)=w3:=⟨_,rfl⟩
 have K3:Bk w3 g 64 #[.bool id,.string (strOf K),vn,.slice A2 (L.length + 1) c2]:=by rw [← hw3];exact K2.set_ 3 _
 have U12:Untouched ((Value.slice A L.length c).ownBlock.toList) w1 w2:=Untouched.of_grown k2 (fun k e=>by simpa using e)
 have N2:OwnN w2 0 vn N:=OwnN.keep R1.names U12 (fun b e hm=>R1.nl b b e (by simpa using hm) rfl)
 have N3:OwnN w3 0 vn N:=by rw [← hw3];exact OwnN.keep N2 (F:=[g]) (Untouched.set (w:=w2) (F:=[g]) g 3 (by simp) _) (fun b e hm=>by
  obtain ⟨_,cs,hcs⟩:=tyN N2 b e
  exact bk_ne hcs K2 (by decide) (by simpa using hm))
 have S3:OwnSL w3 0 (.slice A2 (L.length + 1) c2) (L ++ [t]):=by rw [← hw3];exact k1.keep (F:=[g]) (Untouched.set (w:=w2) (F:=[g]) g 3 (by simp) _) (fun b e hm=>by
  obtain ⟨_,cs,hcs⟩:=tySL k1 b e
  exact bk_ne hcs K2 (by decide) (by simpa using hm))
 have hs12:w1.heap.size=w.heap.size + 1:=by rw [← hw1];simp
 have hs3:w3.heap.size=w2.heap.size:=by rw [← hw3];simp
 have hs2:=k2.size
 have UU:Untouched G w w3:=by
  refine (Untouched.of_below (F:=G) B1).trans (Grew.refl _ _) (Untouched.trans (F':=G) (Untouched.of_grown k2 (fun k e=>R1.inl k e)) (Grew.refl _ _) ?_)
  rw [← hw3]
  exact Untouched.set (w:=w2) (F:=G) g 3 R1.ing _
 have R3:RefV w3 g id K vn (.slice A2 (L.length + 1) c2) N (L ++ [t]) (G ++ (Value.slice A2 (L.length + 1) c2).ownBlock.toList) :=
  ⟨K3,N3,S3,List.mem_append_left _ R1.ing,fun b e=>List.mem_append_left _ (R1.inn b e),fun b e=>List.mem_append_right _ (by simpa using e),fun k hk=>by
   rcases List.mem_append.1 hk with h1 | h1
   ·have:=R1.hG k h1;omega
   ·exact (tySL S3 k (by simpa using h1)).1⟩
 have GR:Grew w G (G ++ (Value.slice A2 (L.length + 1) c2).ownBlock.toList):=fun k hk=>by
  rcases List.mem_append.1 hk with h1 | h1
  ·exact .inl h1
  ·rcases k3 with e3 | e3
   ·rw [e3] at h1
    exact .inl (R1.inl k (by simpa using h1))
   ·rw [e3] at h1
    have:k=w1.heap.size:=by simpa [eq_comm] using h1
    exact .inr (by omega)
 exact ⟨A,c,A2,c2,w1,w2,w3,rfl,hw1,hrun,hw3,⟨_,K2.cell 3⟩,K2.frozen 3,_,⟨_,_,R3⟩,GR,UU⟩
theorem hit_pair {c n:Int} (hok:1≤c∧1≤n) (t:SealV):cn t=(c.toNat,n.toNat)↔(t.c:Int)=c∧(t.n:Int)=n:=by
 unfold cn
 constructor
 ·intro h
  have h1:=congrArg Prod.fst h
  have h2:=congrArg Prod.snd h
  simp only at h1 h2
  omega
 ·rintro ⟨h1,h2⟩
  exact Prod.ext (by simp only;omega) (by simp only;omega)
set_option maxHeartbeats 8000000 in
theorem rseal_x (h:RS id g K N L w G) (hK:K.length=32) (e c n:Int) (x b:List UInt8) (hx:x.length≤100000) (hb:b.length≤100000) (hL:L.length≤100000) :
  Calls Tryz.prog 31 #[.pointer (some ⟨g,0,none⟩),.int .i64 e,.int .i64 c,.int .i64 n,.string (strOf x),.string (strOf b)] w fun r w'=>r = .returned (.tuple #[.string (strOf (sB id K L e c n x b)),.int .i64 (sE L e c n)])∧Leaves (RS id g K N (sL id K L e c n x b)) w G w':=by
 have cr:=rright_any w e c n
 have e0:(⟨#[]⟩:ByteArray)=strOf []:=rfl
 by_cases hok:slOk e c n
 ·rw [decide_eq_true hok] at cr
  have HOK:=hidzc_ hok
  obtain ⟨vn,vl,h⟩:=h
  obtain ⟨A,cc,rfl⟩:=OwnSL.form h.sls
  have c3:=h.blk.cell 3
  have HR:=hidzc_ h
  have KL:=hidzc_ hK
  have XL:=hidzc_ hx
  have BL:=hidzc_ hb
  have LL:=hidzc_ hL
  clear h hK hok hx hb hL
  go_enter Tryz.func31,Tryz.ntmps31
  go_upto_region 3 with (go_at_call 64;((with_reducible refine cr.mono ?_);clear cr;rintro r w' ⟨rfl,rfl⟩))
  go_upto_region 4 with fail
  go_loopw [14] (fun i wr=>∃ j:Nat,j≤L.length∧i = .int .i64 j∧wr=w∧Hid (∀ k,(hk:k < L.length)→k < j→cn L[k]≠(c.toNat,n.toNat))) (fun i _=>L.length - (intOf i).toNat)
  case atStart=>exact ⟨0,Nat.zero_le _,rfl,rfl,hidzc_ (fun k hk h0=>by omega)⟩
  case round =>
   obtain ⟨j,hj,rfl,hwr,HNO⟩:=hrel
   subst hwr
   have hn100:j≤100000:=by have:=LL.out;omega
   by_cases hlt:j < L.length
   ·have d1:decide ((j:Int) < (L.length:Int))=true:=decide_eq_true (by omega)
    have d2:decide (j < L.length)=true:=decide_eq_true hlt
    obtain ⟨gA,hA,hcell⟩:=OwnSL.cells HR.out.sls j hlt
    subst hA
    have q1:wr.cell? ⟨gA,j * 6 + 1,none⟩=some (.int .i64 (L[j].c:Int)):=hcell 1 (by omega)
    have q2:wr.cell? ⟨gA,j * 6 + 2,none⟩=some (.int .i64 (L[j].n:Int)):=hcell 2 (by omega)
    have t0:(0:Int)≤(j:Int):=by omega
    have tn:(j:Int) < (L.length:Int):=by omega
    have HP:=hidzc_ (hit_pair (c:=c) (n:=n) ⟨HOK.out.2.1,HOK.out.2.2.2.1⟩ L[j])
    have HM:=hidzc_ (show cn L[j]∈L.map cn from List.mem_map.2 ⟨L[j],List.getElem_mem hlt,rfl⟩)
    have HNX:=hidzc_ (fun hno:cn L[j]≠(c.toNat,n.toNat)=>(fun (k:Nat) (hk:k < L.length) (hk1:k < j + 1)=>(show cn L[k]≠(c.toNat,n.toNat) by
     rcases Nat.lt_or_ge k j with h1 | h1
     ·exact HNO.out k hk h1
     ·obtain rfl:k=j:=by omega
      exact hno)))
    generalize L[j]=t at *
    clear hcell
    by_cases h1:(t.c:Int)=c
    ·have i1:((t.c:Int) == c)=true:=beq_iff_eq.2 (by omega)
     by_cases h2:(t.n:Int)=n
     ·have i2:((t.n:Int) == n)=true:=beq_iff_eq.2 (by omega)
      have hin:(c.toNat,n.toNat)∈L.map cn:=by rw [← HP.out.2 ⟨h1,h2⟩];exact HM.out
      have r1:sE L e c n=13:=by unfold sE;rw [if_pos HOK.out,if_pos hin]
      have r2:sB id K L e c n x b = []:=by unfold sB;rw [if_neg (fun hh=>hh.2 hin)]
      have r3:sL id K L e c n x b=L:=by unfold sL;rw [if_neg (fun hh=>hh.2 hin)]
      have R1:=hidzc_ r1
      have R2:=hidzc_ r2
      have R3:=hidzc_ r3
      clear r1 r2 r3 hin h1 h2
      go_wp2
      go_ret2
      exact ⟨by rw [R1.out,R2.out];rfl,by rw [R3.out];exact Leaves.below (RS.foot id g K N L) ⟨_,_,HR.out⟩ (Below.refl _ _)⟩
     ·have i2:((t.n:Int) == n)=false:=beq_eq_false_iff_ne.2 (by omega)
      have HN2:=hidzc_ (show cn t≠(c.toNat,n.toNat) from fun hh=>h2 (HP.out.1 hh).2)
      clear h1 h2
      go_wp2
      go_roundw
      case rel=>exact ⟨j + 1,by omega,by go_num,(by first | rfl | trivial),hidzc_ (HNX.out HN2.out)⟩
      case measure=>simp [intOf];omega
    ·have i1:((t.c:Int) == c)=false:=beq_eq_false_iff_ne.2 (by omega)
     have HN2:=hidzc_ (show cn t≠(c.toNat,n.toNat) from fun hh=>h1 (HP.out.1 hh).1)
     clear h1
     go_wp2
     go_roundw
     case rel=>exact ⟨j + 1,by omega,by go_num,(by first | rfl | trivial),hidzc_ (HNX.out HN2.out)⟩
     case measure=>simp [intOf];omega
   ·obtain rfl:j=L.length:=by omega
    have d1:decide ((L.length:Int) < (L.length:Int))=false:=decide_eq_false (by omega)
    have d2:decide (L.length < L.length)=false:=decide_eq_false (by omega)
    have hnew:(c.toNat,n.toNat)∉L.map cn:=fun hm=>by
     obtain ⟨t,ht,e⟩:=List.mem_map.1 hm
     obtain ⟨k,hk,e2⟩:=List.getElem_of_mem ht
     exact HNO.out k hk hk (by rw [e2];exact e)
    have hyes:slOk e c n∧(c.toNat,n.toNat)∉L.map cn:=⟨HOK.out,hnew⟩
    have r1:sE L e c n=0:=by unfold sE;rw [if_pos HOK.out,if_neg hnew]
    have r2:sB id K L e c n x b=sO id K L e.toNat c.toNat n.toNat x b:=by unfold sB;rw [if_pos hyes]
    have r3:sL id K L e c n x b=L ++ [⟨e.toNat,c.toNat,n.toNat,x,sO id K L e.toNat c.toNat n.toNat x b,b⟩]:=by unfold sL;rw [if_pos hyes]
    have R1:=hidzc_ r1
    have R2:=hidzc_ r2
    have R3:=hidzc_ r3
    obtain ⟨⟨he1,he2⟩,hc1,hc2,hn1,hn2⟩:=HOK.out
    obtain ⟨e,rfl⟩:∃ k:Nat,e=(k:Int):=⟨e.toNat,by omega⟩
    obtain ⟨c,rfl⟩:∃ k:Nat,c=(k:Int):=⟨c.toNat,by omega⟩
    obtain ⟨n,rfl⟩:∃ k:Nat,n=(k:Int):=⟨n.toNat,by omega⟩
    simp only [Int.toNat_natCast] at R2 R3
    have c0:=HR.out.blk.cell 0
    have c1:=HR.out.blk.cell 1
    clear r1 r2 r3 hyes hnew HNO
    have hs:(strOf b).size=b.length:=strOf_size b
    cases id
    ·have e8:sO false K L e c n x b=sealB (sealK K e) (nonceB c n) x b:=rfl
     rw [e8] at R2 R3
     have ck:=fun W=>refSealK_any W K KL.out e (by omega)
     have cnn:=fun W=>refNonce_any W c n (by omega) (by omega)
     have cs:=fun W=>refASeal_any (sealK K e) (nonceB c n) x b x.length b.length W (sealK_len _ _) (nonceB_len _ _) rfl rfl (by have:=XL.out;omega) (by have:=BL.out;omega)
     generalize sealB (sealK K e) (nonceB c n) x b=D at *
     generalize sealK K e=Ks at *
     generalize nonceB c n=No at *
     go_upto_region 12 with (first
      | (go_at_call 66;((with_reducible refine (ck _).mono ?_);clear ck;rintro r w1 ⟨rfl,hb⟩;have B1:=hidzc_ hb;clear hb))
      | (go_at_call 67;((with_reducible refine (cnn _).mono ?_);clear cnn;rintro r w2 ⟨rfl,hb⟩;have B2:=hidzc_ (B1.out.trans (hb.mono B1.out.size));clear hb))
      | (go_at_call 65;((with_reducible refine (cs _).mono ?_);clear cs;rintro r w3 ⟨rfl,hb⟩;have B3:=hidzc_ (B2.out.trans (hb.mono B2.out.size));clear hb)))
     have HR3:=HR.out.below B3.out
     obtain ⟨A1,cc1,A2,cc2,w4,w5,w6,hvl,hw4,hrun,hw6,⟨u6,cu6⟩,fu6,hlv⟩:=HR3.more ⟨e,c,n,x,D,b⟩ LL.out
     injection hvl with hv1 hv2 hv3
     subst hv1 hv3
     clear hv2
     have c33:=HR3.blk.cell 3
     have HLV:=hidzc_ hlv
     have HBS:=hidzc_ (show Tryz.prog.built 120 [(0,.int .i64 (e:Int)),(1,.int .i64 (c:Int)),(2,.int .i64 (n:Int)),(3,.string (strOf x)),(4,.string (strOf b)),(5,.string (strOf D))]=some (slR ⟨e,c,n,x,D,b⟩) by kernel_rfl)
     clear hlv HR3
     go_wp2_with (first
      | (refine wpList_built rfl 120 #[(0,.tmp 87),(1,.tmp 88),(2,.tmp 89),(3,.tmp 90),(4,.tmp 91),(5,.tmp 92)] rfl (slR ⟨e,c,n,x,D,b⟩) ?_ ?_;(focus (simp only [List.map_toArray,List.map_cons,List.map_nil];exact HBS.out)))
      | (refine wpList_oneSL rfl (.tmp 93) rfl ⟨e,c,n,x,D,b⟩ rfl ?_;rw [hw4])
      | (at_builtin;refine wpList_appRun rfl _ (.tmp 86) (.tmp 94) rfl _ _ _ rfl rfl hrun ?_))
     go_ret2
     obtain ⟨G',l1,l2,l3⟩:=HLV.out
     exact ⟨by rw [R1.out,R2.out];rfl,G',by rw [R3.out];exact l1,fun k hk=>(l2 k hk).imp (fun h=>h) (fun h=>Nat.le_trans B3.out.size h),(Untouched.of_below (F:=G) B3.out).trans (Grew.refl _ _) l3⟩
    ·have e8:sO true K L e c n x b=drawB K 1 (L.length + 1) (b.length + 8):=rfl
     rw [e8] at R2 R3
     have cd:∀ W,Calls Tryz.prog 63 #[.string (strOf K),.int .i64 1,.int .i64 ((L.length:Int) + 1),.int .i64 ((b.length:Int) + 16)] W fun e w'=>e = .returned (.string (strOf (drawB K 1 (L.length + 1) (b.length + 8))))∧Below W.heap.size W w':=fun W=>by
      have h:=rdraw_any W K KL.out 1 (L.length + 1) (b.length + 8) (by omega) (by have:=LL.out;omega) (by have:=BL.out;omega)
      rwa [show ((L.length + 1:Nat):Int)=(L.length:Int) + 1 by omega,show ((b.length + 8:Nat):Int) + 8=(b.length:Int) + 16 by omega] at h
     have bl100:b.length≤100000:=BL.out
     generalize drawB K 1 (L.length + 1) (b.length + 8)=D at *
     have wl1:IntKind.i64.wrap ((L.length:Int) + 1)=(L.length:Int) + 1:=IntWalk.i64_in _ (by omega)
     have wl2:IntKind.i64.wrap ((b.length:Int) + 16)=(b.length:Int) + 16:=IntWalk.i64_in _ (by omega)
     go_upto_region 10 with fail
     rename_i K9 hK9
     have CC:Hid (∀ W,Below wr.heap.size wr W→W.cell? ⟨g,1,none⟩=some (.string (strOf K))∧W.cell? ⟨g,3,none⟩=some (.slice A L.length cc)):=hidzc_ (fun W hW=>⟨((HR.out.blk.below hW HR.out.blk.lt).cell 1),((HR.out.blk.below hW HR.out.blk.lt).cell 3)⟩)
     have CD:Hid (∀ W,Below wr.heap.size wr W→Calls Tryz.prog 63 #[.string (strOf K),.int .i64 1,.int .i64 ((L.length:Int) + 1),.int .i64 ((b.length:Int) + 16)] W fun e w'=>e = .returned (.string (strOf D))∧Below wr.heap.size wr w'):=hidzc_ (fun W hW=>(cd W).mono fun e W2 hh=>⟨hh.1,hW.trans (hh.2.mono hW.size)⟩)
     clear cd
     refine region_quiet_in (C:=fun W=>Below wr.heap.size wr W) (by kernel_rfl) (by kernel_rfl) ((Below.refl _ _).drew) ?_
     repeat (go_big_quiet_want;(first
      | (refine BigFrame.quiet_move _ rfl ?_;go_simp)
      | (refine BigFrame.quiet_assign _ rfl ?_;go_simp)
      | (refine quiet_run (.pointer (some ⟨g,0,none⟩)) ?_ ?_;(focus (intro W hW;go_simp;done));go_simp)
      | (refine quiet_run (.pointer (some ⟨g,1,none⟩)) ?_ ?_;(focus (intro W hW;go_simp;done));go_simp)
      | (refine quiet_run (.pointer (some ⟨g,3,none⟩)) ?_ ?_;(focus (intro W hW;go_simp;done));go_simp)
      | (refine quiet_run (.string (strOf K)) ?_ ?_;(focus (intro W hW;have h:=(CC.out W hW).1;go_simp;done));go_simp)
      | (refine quiet_run (.slice A L.length cc) ?_ ?_;(focus (intro W hW;have h:=(CC.out W hW).2;go_simp;done));go_simp)
      | (refine quiet_run (.int .i64 (L.length:Int)) ?_ ?_;(focus (intro W hW;go_simp;done));go_simp)
      | (refine quiet_run (.int .i64 ((L.length:Int) + 1)) ?_ ?_;(focus (intro W hW;go_simp;done));go_simp)
      | (refine quiet_run (.int .i64 (b.length:Int)) ?_ ?_;(focus (intro W hW;go_simp;done));go_simp)
      | (refine quiet_run (.int .i64 ((b.length:Int) + 16)) ?_ ?_;(focus (intro W hW;go_simp;done));go_simp)
      | (refine quiet_call (.string (strOf D)) 63 #[.string (strOf K),.int .i64 1,.int .i64 ((L.length:Int) + 1),.int .i64 ((b.length:Int) + 16)] ?_ CD.out ?_;(focus (intro W;go_simp;done));go_simp));go_big_quiet_on)
     refine wpQuiet_nil ?_
     intro w3 hw3
     have B3:=hidzc_ hw3
     clear hw3 CC CD c0 c1 c3 wl1 wl2
     refine hK9 _ _ ?_
     have HR3:=HR.out.below B3.out
     obtain ⟨A1,cc1,A2,cc2,w4,w5,w6,hvl,hw4,hrun,hw6,⟨u6,cu6⟩,fu6,hlv⟩:=HR3.more ⟨e,c,n,x,D,b⟩ LL.out
     injection hvl with hv1 hv2 hv3
     subst hv1 hv3
     clear hv2
     have c33:=HR3.blk.cell 3
     have HLV:=hidzc_ hlv
     have HBS:=hidzc_ (show Tryz.prog.built 120 [(0,.int .i64 (e:Int)),(1,.int .i64 (c:Int)),(2,.int .i64 (n:Int)),(3,.string (strOf x)),(4,.string (strOf b)),(5,.string (strOf D))]=some (slR ⟨e,c,n,x,D,b⟩) by kernel_rfl)
     clear hlv HR3
     go_wp2_with (first
      | (refine wpList_built rfl 120 #[(0,.tmp 87),(1,.tmp 88),(2,.tmp 89),(3,.tmp 90),(4,.tmp 91),(5,.tmp 92)] rfl (slR ⟨e,c,n,x,D,b⟩) ?_ ?_;(focus (simp only [List.map_toArray,List.map_cons,List.map_nil];exact HBS.out)))
      | (refine wpList_oneSL rfl (.tmp 93) rfl ⟨e,c,n,x,D,b⟩ rfl ?_;rw [hw4])
      | (at_builtin;refine wpList_appRun rfl _ (.tmp 86) (.tmp 94) rfl _ _ _ rfl rfl hrun ?_))
     go_ret2
     obtain ⟨G',l1,l2,l3⟩:=HLV.out
     exact ⟨by rw [R1.out,R2.out];rfl,G',by rw [R3.out];exact l1,fun k hk=>(l2 k hk).imp (fun h=>h) (fun h=>Nat.le_trans B3.out.size h),(Untouched.of_below (F:=G) B3.out).trans (Grew.refl _ _) l3⟩
 ·rw [decide_eq_false hok] at cr
  have r1:sE L e c n=1:=by unfold sE;rw [if_neg hok]
  have r2:sB id K L e c n x b = []:=by unfold sB;rw [if_neg (fun hh=>hok hh.1)]
  have r3:sL id K L e c n x b=L:=by unfold sL;rw [if_neg (fun hh=>hok hh.1)]
  rw [r1,r2,r3]
  have HR:=hidzc_ h
  clear h r1 r2 r3 hok hx hb hL hK
  go_enter Tryz.func31,Tryz.ntmps31
  go_wp2_with (go_at_call 64;((with_reducible refine cr.mono ?_);clear cr;rintro r w' ⟨rfl,rfl⟩))
  go_ret2
  exact ⟨rfl,Leaves.below (RS.foot id g K N L) HR.out (Below.refl _ _)⟩
end
end Go.Proofs.YtpcbmnmgefhaaaaGreatDoor
