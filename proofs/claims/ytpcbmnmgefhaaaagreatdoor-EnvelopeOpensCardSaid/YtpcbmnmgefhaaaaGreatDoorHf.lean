import Derived.Test.YtpcbmnmgefhaaaaGreatDoorHe
import Derived.Test.YtpcbmnmgefhaaaaGreatDoorFj
namespace Go.Proofs.YtpcbmnmgefhaaaaGreatDoor
set_option maxRecDepth 100000
open Go.ChangeShapes Go.WideShapes Go.ChangeAt Go.RowKit
set_option linter.unusedVariables false
set_option linter.unusedSimpArgs false
section
variable {w w' : World} {base B : Nat} {v : Value} {ls ms : List (List UInt8)}
theorem OwnP.lit1 (w1:World) (A:Option Addr) (n c:Nat) (m:List UInt8) (hn:m.length=n) (hr:Rd w1 w1.heap.size A m) (hc:n≤c) (hm:c≤maxLen) :
  OwnP (w1.alloc (.cells #[.slice A n c] 23)) w1.heap.size w1.heap.size (.slice (some ⟨w1.heap.size,0,none⟩) 1 1) [m]:=by
 subst hn
 refine ⟨[.slice A m.length c],?_,rfl,fun j hj=>?_⟩
 ·exact World.ownsRow_lit (e:=23) (size:=1) w1 #[.slice A m.length c] 1 (Nat.le_refl _) (by unfold maxLen;omega) rfl
 ·obtain rfl:j=0:=by simp at hj;omega
  exact ⟨_,rfl,A,c,rfl,(hr.alloc (Nat.le_refl _) _),hc,hm⟩
theorem PartsAt.app {vs us:List Value} (h:PartsAt w B vs ls) (hu:PartsAt w B us ms):PartsAt w B (vs ++ us) (ls ++ ms):=by
 refine ⟨by simp [h.1,hu.1],fun j hj=>?_⟩
 rcases Nat.lt_or_ge j ls.length with h1 | h1
 ·obtain ⟨u,h2,h3⟩:=h.2 j h1
  refine ⟨u,by rw [List.getElem?_append_left (by rw [h.1];exact h1)];exact h2,?_⟩
  have:(ls ++ ms).getD j []=ls.getD j []:=by simp [List.getD,List.getElem?_append_left h1]
  rw [this];exact h3
 ·rw [List.length_append] at hj
  obtain ⟨u,h2,h3⟩:=hu.2 (j - ls.length) (by omega)
  refine ⟨u,by rw [List.getElem?_append_right (by rw [h.1];exact h1),h.1];exact h2,?_⟩
  have:(ls ++ ms).getD j []=ms.getD (j - ls.length) []:=by simp [List.getD,List.getElem?_append_right h1]
  rw [this];exact h3
theorem run_appPs (h:OwnP w base B v ls) {A:Option Addr} {n c:Nat} (hn:ms.length=n) (hp:Parts w B A ms) (ty:TypeId) (hsz:ls.length + n≤1000000) (hbase:base≤w.heap.size) (hB:B≤base) :
  ∃ v' w',(Builtin.append_ #[139,139] ty #[v,.slice A n c]).run Tryz.prog w = .ok v' w'∧OwnP w' base B v' (ls ++ ms)∧w.grownBy w' v.ownBlock∧(v'.ownBlock=v.ownBlock∨v'.ownBlock=some w.heap.size):=by
 subst hn
 have hlt:=h.lt
 obtain ⟨vs,h1,h2⟩:=h
 obtain ⟨i,hi,hz,hsize,hby⟩:=info_parts infoS
 rcases A with _ | ad
 ·have hm:ms = []:=by
   rcases Nat.eq_zero_or_pos ms.length with h0 | h0
   ·exact List.eq_nil_of_length_eq_zero h0
   ·obtain ⟨_,_,e,_⟩:=hp h0
    cases e
  subst hm
  have hrun:(Builtin.append_ #[139,139] ty #[v,.slice none 0 c]).run Tryz.prog w = .ok v w:=by
   rcases h1.2 with ⟨hv,hv0⟩ | ⟨g,cap,cur,hv,_,_,hnc,_⟩
   ·subst hv
    simp [Builtin.append_,run_underlying Tryz.underlying139,sizeOf,typeInfo,hi,Builtin.lenOf,Builtin.firstCells]
   ·subst hv
    simp [Builtin.append_,run_underlying Tryz.underlying139,sizeOf,typeInfo,hi,Builtin.lenOf,Builtin.firstCells,hnc,storeCells]
  exact ⟨v,w,hrun,by rw [List.append_nil];exact ⟨vs,h1,h2⟩,World.grownBy.refl w _,.inl rfl⟩
 ·obtain ⟨us,hul,hus,hpu⟩:∃ us:List Value,us.length=ms.length∧(∀ j x,us[j]? = some x→w.cell? (ad.add j)=some x)∧PartsAt w B us ms:=by
   rcases Nat.eq_zero_or_pos ms.length with h0 | h0
   ·exact ⟨[],h0.symm,fun j x hx=>by simp at hx,by simp [h0],fun j hj=>by omega⟩
   ·obtain ⟨b,off,hA,hbB,hcell⟩:=hp h0
    injection hA with hA
    subst hA
    have hplain:∀ j,(⟨b,off,none⟩:Addr).add j=⟨b,off + j,none⟩:=fun j=>by unfold Addr.add;split <;> simp_all
    have hus:∀ j,j < ms.length→((List.range ms.length).map fun j=>(w.cell? ⟨b,off + j,none⟩).getD undef)[j]? = w.cell? ⟨b,off + j,none⟩:=fun j hj=>by
     obtain ⟨Aj,cj,hc1,_⟩:=hcell j hj
     simp [hj,hc1]
    refine ⟨(List.range ms.length).map fun j=>(w.cell? ⟨b,off + j,none⟩).getD undef,by simp,fun j x hx=>?_,by simp,fun j hj=>?_⟩
    ·have hj:j < ms.length:=by simpa using (List.getElem?_eq_some_iff.1 hx).1
     rw [hplain,← hus j hj]
     exact hx
    ·obtain ⟨Aj,cj,hc1,hc2,hc3,hc4⟩:=hcell j hj
     exact ⟨_,(hus j hj).trans hc1,Aj,cj,rfl,hc2,hc3,by unfold maxLen;exact hc4⟩
  have hone:∀ u∈us,u.oneCell' = true:=by
   intro u hu
   obtain ⟨j,hj,e⟩:=List.mem_iff_getElem.1 hu
   obtain ⟨u2,h3,Aj,cj,h4,_⟩:=hpu.2 j (by omega)
   rw [List.getElem?_eq_getElem hj,e] at h3
   injection h3 with h3
   rw [h3,h4]
   rfl
  obtain ⟨v',w',hrun,h3,h4,_,h5⟩:=run_append_own_at (P:=Tryz.prog) w base 139 ty 23 i (.slice none 0 0) 1 24 Tryz.underlying139 hi hz hsize hby rfl (by decide) v ls.length vs h1 ad ms.length c us
   (by rw [hul,Nat.mul_one]) hus hone (by simp only [maxLen];omega) (by omega) hbase
  have hk:=cell_grown (B:=B) h4 (by omega) (fun g hg=>by have:=(hlt g hg).1;omega)
  refine ⟨v',w',hrun,⟨vs ++ us,?_,(h2.keep hk).app (hpu.keep hk)⟩,h4,h5⟩
  rw [List.length_append]
  exact h3
theorem wp_appPs {o:Oper} {a:Act} {K:Act→World→Prop} {Q:Exit→Act→World→Prop} (s x:Operand)
  (ho:o.op = .call { callee:=.builtin .append,args:=#[s,x],argTypes:=#[139,139] })
  (h:OwnP w base B v ls) (hs:a.eval s=v) (A:Option Addr) (n c:Nat) (hx:a.eval x = .slice A n c) (hn:ms.length=n) (hp:Parts w B A ms)
  (hsz:ls.length + n≤1000000) (hbase:base≤w.heap.size) (hB:B≤base)
  (hK:∀ A' c' w',OwnP w' base B (.slice A' (ls.length + n) c') (ls ++ ms)→w.grownBy w' v.ownBlock→((Value.slice A' (ls.length + n) c').ownBlock=v.ownBlock∨(Value.slice A' (ls.length + n) c').ownBlock=some w.heap.size)→K (a.put o.dst (.slice A' (ls.length + n) c')) w'):o.wp Tryz.prog a w K Q:=by
 obtain ⟨v',w',hrun,h2,h3,h4⟩:=run_appPs (c:=c) h hn hp o.type hsz hbase hB
 obtain ⟨A',c',hv⟩:=h2.form
 rw [List.length_append,hn] at hv
 subst hv
 unfold Oper.wp execOp
 simp only [ho,resolve,invoke,builtin,Sem.run_bind,Sem.run_pure,Result.andThen_ok,List.map_toArray,List.map_cons,List.map_nil,hs,hx,hrun]
 exact hK A' c' w' h2 h3 h4
theorem wpList_appPs {ops:Array Oper} {rest:List Oper} {o:Oper} {a:Act} {Q:Exit→Act→World→Prop} (hgd:o.guard=none) (s x:Operand)
  (ho:o.op = .call { callee:=.builtin .append,args:=#[s,x],argTypes:=#[139,139] })
  (h:OwnP w base B v ls) (hs:a.eval s=v) (A:Option Addr) (n c:Nat) (hx:a.eval x = .slice A n c) (hn:ms.length=n) (hp:Parts w B A ms)
  (hsz:ls.length + n≤1000000) (hbase:base≤w.heap.size) (hB:B≤base)
  (hK:∀ A' c' w',OwnP w' base B (.slice A' (ls.length + n) c') (ls ++ ms)→w.grownBy w' v.ownBlock→((Value.slice A' (ls.length + n) c').ownBlock=v.ownBlock∨(Value.slice A' (ls.length + n) c').ownBlock=some w.heap.size)→wpList Tryz.prog ops Q rest (a.put o.dst (.slice A' (ls.length + n) c')) w'):wpList Tryz.prog ops Q (o :: rest) a w :=
 wpList_plain hgd fun _ hk=>wp_appPs s x ho h hs A n c hx hn hp hsz hbase hB fun A' c' w' h2 h3 h4=>hk _ _ (hK A' c' w' h2 h3 h4)
end
def TwoP (W:World) (r h D:Nat) (X:List UInt8):Prop:=h≠r∧∃ g,g≠r∧Bk W h 23 #[.slice (some ⟨g,0,none⟩) 64 64,.slice (some ⟨D,0,none⟩) 32 32]∧Blk8 W g X
def HmR (r G D:Nat) (X DG:List UInt8):Nat→Value→World→Prop
 | 0,v,_=>v = .slice (some ⟨G,0,none⟩) 64 64
 | 1,v,W=>∃ g,v = .slice (some ⟨g,0,none⟩) 64 64∧g≠r∧Blk8 W g X
 | 2,v,_=>v = .slice (some ⟨D,0,none⟩) 32 32
 | 3,v,W=>∃ h,v = .slice (some ⟨h,0,none⟩) 2 2∧TwoP W r h D X
 | 4,v,_=>v = .agg (rowOf DG)
 | _,_,_=>True
theorem HmR.stable {r G D:Nat} {X DG:List UInt8} {W W':World} (hT:Untouched [r] W W'):∀ (j:Nat) (v:Value),HmR r G D X DG j v W→HmR r G D X DG j v W'
 | 0,_,h=>h
 | 1,_,h=>by
  obtain ⟨g,h1,h2,h3⟩:=h
  exact ⟨g,h1,h2,Bk.untouched (t:=5) (cs:=rowOf X) h3 hT (by simpa using h2)⟩
 | 2,_,h=>h
 | 3,_,h=>by
  obtain ⟨q,h1,h2,g,h3,h4,h5⟩:=h
  exact ⟨q,h1,h2,g,h3,h4.untouched hT (by simpa using h2),Bk.untouched (t:=5) (cs:=rowOf X) h5 hT (by simpa using h3)⟩
 | 4,_,h=>h
 | _ + 5,_,_=>trivial
def HmJ (r:Nat) (DG:List UInt8) (D:Nat→Bool) (W:World):Prop:=(D 5=false→Bk W r 22 (rowOf (zbytes 32)))∧(D 5=true→Bk W r 22 (rowOf DG))
theorem HmJ.same {r:Nat} {DG:List UInt8} {D:Nat→Bool} {W W':World} (h:HmJ r DG D W) (hb:Below W.heap.size W W') (i:Nat) (h5:i≠5):HmJ r DG (fun j=>decide (j=i) || D j) W':=by
 have a5:=orf_ne (L:=D) (i:=i) (fun e:5=i=>h5 e.symm)
 unfold HmJ
 simp only [a5]
 exact ⟨fun e=>(h.1 e).below hb (h.1 e).lt,fun e=>(h.2 e).below hb (h.2 e).lt⟩
theorem parts_two {W:World} {h g D n1 n2:Nat} {X Y:List UInt8} {ty:TypeId} (hn1:X.length=n1) (hn2:Y.length=n2) (hb:Bk W h 23 #[.slice (some ⟨g,0,none⟩) n1 n1,.slice (some ⟨D,0,none⟩) n2 n2]) (hX:Blk8 W g X) (hY:Bk W D ty (rowOf Y)) (hm1:n1≤1000) (hm2:n2≤1000):Parts W W.heap.size (some ⟨h,0,none⟩) [X,Y]:=by
 subst hn1 hn2
 have h0:=hb.cell 0
 have h1:=hb.cell 1
 simp only [List.getElem?_toArray,List.getElem?_cons_zero,List.getElem?_cons_succ] at h0 h1
 refine fun _=>⟨h,0,rfl,hb.lt,fun j hj=>?_⟩
 have hj2:j < 2:=hj
 rcases j with _ | _ | j
 ·exact ⟨_,_,h0,hX.rd hX.lt,Nat.le_refl _,by show X.length≤_;omega⟩
 ·exact ⟨_,_,h1,hY.rd hY.lt,Nat.le_refl _,by show Y.length≤_;omega⟩
 ·omega
set_option maxHeartbeats 4000000 in
theorem hmac_any (w:World) (A:Option Addr) (n c:Nat) (key:List UInt8) (hn:key.length=n) (hmx:n≤1000000000000000000) (hnc:n≤c) (hcm:c≤9223372036854775807) (hr:Rd w w.heap.size A key)
  (A2:Option Addr) (n2 c2:Nat) (ls:List (List UInt8)) (hn2:ls.length=n2) (hp:Parts w w.heap.size A2 ls) (hm2:n2≤999999) (htot:ls.flatten.length≤1000000000000000000) (ht:Tab w) (hg1:2 < w.heap.size) :
  Calls Tryz.prog 83 #[.slice A n c,.slice A2 n2 c2] w fun e w'=>e = .returned (.agg (rowOf (hmacB key ls.flatten)))∧Below w.heap.size w w':=by
 have hz:=z32
 obtain ⟨r,hre⟩:∃ r,w.heap.size=r:=⟨_,rfl⟩
 obtain ⟨w0,hw0⟩:∃ w0,w.alloc (.cells (rowOf (zbytes 32)) 22)=w0:=⟨_,rfl⟩
 have B0:Below r w w0:=by rw [← hw0,← hre];exact (Below.refl w.heap.size w).alloc (Nat.le_refl _) _
 have R0:Bk w0 r 22 (rowOf (zbytes 32)):=by rw [← hw0,← hre];exact Bk.new w _ _
 have S0:w0.heap.size=r + 1:=by rw [← hw0,← hre];simp
 have T0:Tab w0:=fun t h=>(B0.cell (p:=⟨_,t,none⟩) (by rw [← hre];exact hg1)).trans (ht t h)
 have P0:=hp.below (by rw [hre];exact B0) (Nat.le_refl _)
 rw [hre] at hg1 hr P0
 have hb:=block_any w0 A n c key hn (by omega) hnc hcm ((hr.below B0).more (by omega)) T0 (by omega)
 rw [S0] at hb
 have HN2:=hidh_ hn2
 have PL:=hidh_ (padK_len key)
 have ML:=hidh_ (maskB_len key 54)
 have ML2:=hidh_ (maskB_len key 92)
 have EB:=hidh_ B0
 have ER:=hidh_ R0
 have EP:=hidh_ P0
 have ET:=hidh_ T0
 have ET0:=hidh_ ht
 have hdg0:hmacB key ls.flatten=sha ([maskB key 92,sha ([maskB key 54] ++ ls).flatten].flatten):=by
  rw [hmacB];simp
 rw [hdg0]
 obtain ⟨dg,hdg⟩:∃ dg,sha ([maskB key 54] ++ ls).flatten=dg:=⟨_,rfl⟩
 have DL:=hidh_ (show dg.length=32 by rw [← hdg];exact sha_len _)
 have HDG:=hidh_ hdg
 rw [hdg]
 obtain ⟨res,hres⟩:∃ res,sha [maskB key 92,dg].flatten=res:=⟨_,rfl⟩
 have RL:=hidh_ (show res.length=32 by rw [← hres];exact sha_len _)
 have HRES:=hidh_ hres
 rw [hres]
 have I:=hidh_ (show (Tryz.prog.info? 22).map (·.size)=some (rowOf dg).size by rw [rowOf_size,DL.out];exact i32_)
 have Q:=hidh_ (show (rowOf (zbytes 32)).size=(rowOf dg).size by rw [rowOf_size,rowOf_size,DL.out,zbytes_len])
 have IR:=hidh_ (show (Tryz.prog.info? 22).map (·.size)=some (rowOf res).size by rw [rowOf_size,RL.out];exact i32_)
 have QR:=hidh_ (show (rowOf (zbytes 32)).size=(rowOf res).size by rw [rowOf_size,rowOf_size,RL.out,zbytes_len])
 have HFL:=hidh_ (show ([maskB key 54] ++ ls).flatten.length≤1152921504606846976 by rw [List.singleton_append,List.flatten_cons,List.length_append,ML.out];omega)
 have hall:=dig_all
 clear hn hmx hnc hcm hr hn2 hp htot ht B0 R0 P0 T0 hdg0 hdg hres
 go_enter Tryz.func83,Tryz.ntmps83
 go_upto_region 1 with fail
 have HRE:=hidh_ hre
 have hwr:r≤w.heap.size:=Nat.le_of_eq hre.symm
 clear hw0 hre
 go_upto_region 5 with (first
  | (go_at_call 100;((with_reducible refine hb.mono ?_);rintro e w1 ⟨rfl,hk,hbl⟩;have G1:=hidh_ hk;have R1:=hidh_ (ER.out.below hbl (by omega));have B1:=hidh_ (EB.out.trans (hbl.mono (by omega)));have P1:=hidh_ (EP.out.below (C:=r + 1) hbl (by omega));have cm:Calls Tryz.prog 101 #[.slice (some ⟨r + 1,0,none⟩) 64 64,.int .u8 54] w1 (MskP w1 (maskB key 54)):=masked_any w1 (r + 1) (padK key) 54 PL.out hk;clear hk hbl))
  | (go_at_call 101;((with_reducible refine cm.mono ?_);rintro e w2 ⟨g2,rfl,hg2,hk2,hbl⟩;have G2:=hidh_ (G1.out.below hbl G1.out.lt);have R2:=hidh_ (R1.out.below hbl R1.out.lt);have B2:=hidh_ (B1.out.trans (hbl.mono (Nat.le_trans hwr B1.out.size)));have P2:=hidh_ (P1.out.below hbl (Nat.le_trans hwr B1.out.size));have M2:=hidh_ hk2;clear hk2 hbl hg2;have O3:=hidh_ (OwnP.lit1 w2 (some ⟨g2,0,none⟩) 64 64 (maskB key 54) ML.out (M2.out.rd M2.out.lt) (Nat.le_refl _) (by unfold maxLen;omega));have P3:=hidh_ ((P2.out.below ((Below.refl w2.heap.size w2).alloc (Nat.le_refl _) (.cells #[.slice (some ⟨g2,0,none⟩) 64 64] 23)) (Nat.le_trans hwr B2.out.size)).more (Nat.le_trans hwr B2.out.size))))
  | (refine wpList_appPs rfl (.tmp 13) (.tmp 14) rfl O3.out rfl A2 n2 c2 rfl HN2.out P3.out (by simp;omega) (by simp) (Nat.le_refl _) ?_;intro A4 c4 w4 h1 h2' h3;have h2:(w2.alloc (.cells #[.slice (some ⟨g2,0,none⟩) 64 64] 23)).grownBy w4 (some w2.heap.size):=h2';have hsz2:w2.heap.size≤w4.heap.size:=(by have:=h2.size;simp at this;omega);have P4:=hidh_ (h1.parts hsz2 rfl);have B4:=hidh_ ((B2.out.alloc (Nat.le_trans hwr B2.out.size) (.cells #[.slice (some ⟨g2,0,none⟩) 64 64] 23)).grown h2 (by have:=B2.out.size;simp;omega) (fun k hk=>by injection hk with hk;have:=B2.out.size;omega));have R4:=hidh_ ((R2.out.alloc (.cells #[.slice (some ⟨g2,0,none⟩) 64 64] 23)).grown h2 (fun e=>by injection e with e;have:=R2.out.lt;omega));have G4:=hidh_ (Bk.grown (t:=5) (cs:=rowOf (padK key)) (Bk.alloc (t:=5) (cs:=rowOf (padK key)) G2.out (.cells #[.slice (some ⟨g2,0,none⟩) 64 64] 23)) h2 (fun e=>by injection e with e;have:=G2.out.lt;omega));clear h1 h2 h2' h3 hsz2)
  | (go_at_call 102;have cs:=sum_any A4 (1 + n2) c4 ([maskB key 54] ++ ls) w4 (by simp [HN2.out];omega) P4.out (by omega) HFL.out (fun t h=>(B4.out.cell (p:=⟨_,t,none⟩) hg1).trans (ET0.out t h)) (by have:=B4.out.size;omega);rw [HDG.out] at cs;((with_reducible refine cs.mono ?_);clear cs;rintro e w5 ⟨rfl,hbl⟩;have B5:=hidh_ (B4.out.trans (hbl.mono (Nat.le_trans hwr B4.out.size)));have R5:=hidh_ (R4.out.below hbl R4.out.lt);have G5:=hidh_ (G4.out.below hbl G4.out.lt);clear hbl))
  | (refine wpList_put_row rfl 22 _ _ rfl w5.heap.size (rowOf dg) rfl rfl 22 (rowOf (zbytes 32)) (Bk.new w5 _ _) I.out Q.out (bytes_one _) ?_;intro w6 k6 g6 s6;have D6:=hidh_ k6;have R6:=hidh_ ((R5.out.alloc _).grown g6 (fun e=>by injection e with e;have:=R5.out.lt;omega));have G6:=hidh_ ((G5.out.alloc _).grown g6 (fun e=>by injection e with e;have:=G5.out.lt;omega));have B6:=hidh_ ((B5.out.alloc (Nat.le_trans hwr B5.out.size) (.cells (rowOf (zbytes 32)) 22)).grown g6 (by have:=B5.out.size;simp;omega) (fun k hk=>by injection hk with hk;have:=B5.out.size;omega));have hDr:w5.heap.size≠r:=(by have:=R5.out.lt;omega);clear k6 g6 s6))
 obtain ⟨dA,hD⟩:∃ dA,w5.heap.size=dA:=⟨_,rfl⟩
 rw [hD] at D6 hDr ⊢
 have T6:=hidh_ (show Tab w6 from fun t h=>(B6.out.cell (p:=⟨_,t,none⟩) hg1).trans (ET0.out t h))
 have hg6:2 < w6.heap.size:=by have:=R6.out.lt;omega
 have hrt:r≠2:=by omega
 have hflat:[maskB key 92,dg].flatten.length≤1152921504606846976:=by simp [ML2.out,DL.out]
 have HFL2:=hidh_ hflat
 clear hD hflat EB ER EP ET hb G1 R1 B1 P1 G2 R2 B2 P2 M2 O3 P3 P4 B4 R4 G4 B5 R5 G5 cm
 refine region_byJF [18,19,20,21,22] (fun W=>Untouched [r] w6 W) (fun W W'=>Untouched [r] W W') (HmR r (r + 1) dA (maskB key 92) res) (fun D _ W=>HmJ r res D W) (by kernel_rfl) (by kernel_rfl) (by kernel_rfl) (by kernel_rfl) (fun j v w w' hT hr=>?_) (fun j v w hlt hj _=>?_) (Untouched.drewN 1) ?_ ⟨fun _=>R6.out.drew,fun e=>Bool.noConfusion e⟩ ?_
 ·exact HmR.stable hT j v hr
 ·rcases j with _ | _ | _ | _ | _ | _ | j
  all_goals first
   | (exfalso;simp [dstOf] at hj;done)
   | trivial
 ·refine ⟨?_,?_,?_,?_,?_,?_,trivial⟩
  all_goals intro D a W hC hd hsz hf hv hJ hL hW K hK
  ·clear hsz
   have e1:=slot_of (a:=a) (s:=5) (v:=.slice (some ⟨r + 1,0,none⟩) 64 64) (hf 5 (by kernel_rfl))
   refine step_run (wanted_none rfl) (v:=.slice (some ⟨r + 1,0,none⟩) 64 64) (w':=W) ?_ (hK _ _ hC (Untouched.refl _ _) rfl (hJ.same (Below.refl _ _) 0 (by decide)))
   go_simp
  ·clear hsz
   have e1:=slot_of (a:=a) (s:=18) (v:=.slice (some ⟨r + 1,0,none⟩) 64 64) (hv 0 (by kernel_rfl))
   have gW:=Bk.untouched (t:=5) (cs:=rowOf (padK key)) G6.out hC (by simp)
   have cm:Calls Tryz.prog 101 #[.slice (some ⟨r + 1,0,none⟩) 64 64,.int .u8 92] W (MskP W (maskB key 92)):=masked_any W (r + 1) (padK key) 92 PL.out gW
   have hrl:=Nat.lt_of_lt_of_le R6.out.lt hC.size
   refine step_callx 101 #[.slice (some ⟨r + 1,0,none⟩) 64 64,.int .u8 92] (wanted_none rfl) (w':=W) ?_ (cm.mono fun e W2 hh=>?_)
   ·go_simp
   ·obtain ⟨g,rfl,hg,hk,hbl⟩:=hh
    exact ⟨_,rfl,hK _ _ (hC.trans (Grew.refl _ _) (Untouched.of_below hbl)) (Untouched.of_below hbl) ⟨g,rfl,by omega,hk⟩ (hJ.same hbl 1 (by decide))⟩
  ·clear hsz
   have e1:=slot_of (a:=a) (s:=7) (v:=.pointer (some ⟨dA,0,none⟩)) (hf 7 (by kernel_rfl))
   have h:=hall dA W
   refine step_run (wanted_none rfl) (v:=.slice (some ⟨dA,0,none⟩) 32 32) (w':=W) ?_ (hK _ _ hC (Untouched.refl _ _) rfl (hJ.same (Below.refl _ _) 2 (by decide)))
   go_simp
  ·clear hsz
   obtain ⟨g,eg,hgr,hgk⟩:∃ g,a.tmps.getD 19 undef = .slice (some ⟨g,0,none⟩) 64 64∧g≠r∧Blk8 W g (maskB key 92):=hv 1 (by kernel_rfl)
   have e1:=slot_of (a:=a) (s:=19) eg
   have e2:=slot_of (a:=a) (s:=20) (v:=.slice (some ⟨dA,0,none⟩) 32 32) (hv 2 (by kernel_rfl))
   have hrl:=Nat.lt_of_lt_of_le R6.out.lt hC.size
   have hbl:=(Below.refl W.heap.size W).alloc (Nat.le_refl _) (.cells #[.slice (some ⟨g,0,none⟩) 64 64,.slice (some ⟨dA,0,none⟩) 32 32] 23)
   refine step_run (wanted_none rfl) (v:=.slice (some ⟨W.heap.size,0,none⟩) 2 2) (w':=W.alloc (.cells #[.slice (some ⟨g,0,none⟩) 64 64,.slice (some ⟨dA,0,none⟩) 32 32] 23)) ?_ (hK _ _ (hC.trans (Grew.refl _ _) (Untouched.of_below hbl)) (Untouched.of_below hbl) ⟨_,rfl,by omega,g,hgr,Bk.new W _ _,hgk.alloc _⟩ (hJ.same hbl 3 (by decide)))
   go_simp
  ·clear hsz
   obtain ⟨q,eq,hqr,g,hgr,hqk,hgk⟩:∃ q,a.tmps.getD 21 undef = .slice (some ⟨q,0,none⟩) 2 2∧TwoP W r q dA (maskB key 92):=hv 3 (by kernel_rfl)
   have e1:=slot_of (a:=a) (s:=21) eq
   have dW:=D6.out.untouched hC (by simpa using hDr)
   have tW:Tab W:=fun t h=>(World.cell?_of_block (a:=⟨_,t,none⟩) (hC.block _ hg6 (by simpa using hrt.symm))).trans (T6.out t h)
   have cs:=sum_any (some ⟨q,0,none⟩) 2 2 [maskB key 92,dg] W rfl (parts_two ML2.out DL.out hqk hgk dW (by omega) (by omega)) (by omega) HFL2.out tW (Nat.lt_of_lt_of_le hg6 hC.size)
   rw [HRES.out] at cs
   refine step_callx 102 #[.slice (some ⟨q,0,none⟩) 2 2] (wanted_none rfl) (w':=W) ?_ (cs.mono fun e W2 hh=>?_)
   ·go_simp
   ·obtain ⟨rfl,hbl⟩:=hh
    exact ⟨_,rfl,hK _ _ (hC.trans (Grew.refl _ _) (Untouched.of_below hbl)) (Untouched.of_below hbl) rfl (hJ.same hbl 4 (by decide))⟩
  ·clear hsz
   refine step_put_row rfl 22 (.tmp 4) (.tmp 22) rfl r (rowOf res) (eval_of (hf 4 (by kernel_rfl))) (eval_of (hv 4 (by kernel_rfl))) 22 (rowOf (zbytes 32)) (hJ.1 hL) IR.out QR.out (bytes_one _) ?_
   intro W2 k2 g2 s2
   have hu:Untouched [r] W W2:=Untouched.of_grown g2 (fun k hk=>by injection hk with hk;simp [hk])
   exact hK undef _ (hC.trans (Grew.refl _ _) hu) hu trivial ⟨fun e=>by simp at e,fun _=>k2⟩
 ·intro f w7 hC7 hv7 D7 hD7 hJ7
  obtain ⟨a7,hJ,-⟩:=hJ7
  have K7:=hJ.2 (hD7 5 (by decide))
  have B7:Below r w w7:=B6.out.trans (hC7.below (fun k hk=>by rcases List.mem_singleton.1 hk with rfl;exact Nat.le_refl _) (Nat.le_of_lt R6.out.lt))
  simp only [framed,List.foldl_cons,List.foldl_nil,List.setIfInBounds_toArray,List.set_cons_succ,List.set_cons_zero]
  clear hv7 hD7 hJ hC7
  go_wp2
  exact bodyPost_ret (results_cell_row Tryz.results83 _ _ r 22 _ (0,0) _ rfl K7 Tryz.underlying22 rfl IR.out) rfl ⟨rfl,HRE.out ▸ B7⟩
end Go.Proofs.YtpcbmnmgefhaaaaGreatDoor
