import Derived.Test.YtpcbmnmgefhaaaaGreatDoorKK
import Derived.Test.YtpcbmnmgefhaaaaGreatDoorBr
import Derived.Test.YtpcbmnmgefhaaaaGreatDoorDn
import Derived.Laws.DeepStrings4
import Derived.Test.YtpcbmnmgefhaaaaGreatDoorBf
import Derived.Test.YtpcbmnmgefhaaaaGreatDoorAm
namespace Go.Proofs.YtpcbmnmgefhaaaaGreatDoor
set_option maxRecDepth 100000
open Go.RowKit
set_option linter.unusedVariables false
set_option linter.unusedSimpArgs false
theorem str_four (l:List UInt8) (k n:Nat) (hl:l.length=n) (h:4 * k + 4≤n) (W:World) :
  (Instr.slice 9 (.string (strOf l)) (some (.int .i64 (4 * (k:Int)))) (some (.int .i64 (4 * (k:Int) + 4))) none).run Tryz.prog W = .ok (.string (strOf ((l.drop (4 * k)).take 4))) W:=by
 have hs:(strOf l).size=n:=by rw [strOf_size,hl]
 rw [run_slice_string_if W 9 (strOf l) .i64 .i64 _ _ Tryz.underlying9,if_pos (by rw [hs];omega),if_pos (by omega)]
 have e1:(4 * (k:Int)).toNat=4 * k:=by omega
 have e2:(4 * (k:Int) + 4).toNat=4 * k + 4:=by omega
 rw [e1,e2,strOf_mid,show 4 * k + 4 - 4 * k=4 by omega]
theorem double_eq (l:List Int):diagsL (colsL l 4) 4=quarterL (quarterL (quarterL (quarterL (quarterL (quarterL (quarterL (quarterL l 0 4 8 12) 1 5 9 13) 2 6 10 14) 3 7 11 15) 0 5 10 15) 1 6 11 12) 2 7 8 13) 3 4 9 14:=rfl
theorem refQuarter_int (a b c d:Nat) (l:List Int) (w:World) (za zb zc zd:Int) (ea:za=(a:Int)) (eb:zb=(b:Int)) (ec:zc=(c:Int)) (ed:zd=(d:Int)) (hl:l.length=16) (ho:okL l) (ha:a < 16) (hb:b < 16) (hc:c < 16) (hd:d < 16) :
  Calls Tryz.prog 132 #[.agg (rowW l),.int .i64 za,.int .i64 zb,.int .i64 zc,.int .i64 zd] w fun e w'=>e = .returned (.agg (rowW (quarterL l a b c d)))∧Below w.heap.size w w':=by
 subst ea eb ec ed
 exact refQuarter_any a b c d l w hl ho ha hb hc hd
def BlkC (g s v:Nat) (ls vs:List Int) (w W:World):Prop:=Bk W s 177 (rowW ls)∧Bk W v 177 (rowW vs)∧Below g w W
theorem BlkC.below {g s v:Nat} {ls vs:List Int} {w W W':World} (h:BlkC g s v ls vs w W) (hg:g≤W.heap.size) (hb:Below W.heap.size W W'):BlkC g s v ls vs w W' :=
 ⟨h.1.below hb h.1.lt,h.2.1.below hb h.2.1.lt,h.2.2.trans (hb.mono hg)⟩
set_option maxHeartbeats 8000000 in
theorem refBlock_any (key nonce:List UInt8) (counter:Int) (w:World) (hk:key.length=32) (hn:nonce.length=12) (hc:ok32q counter) :
  Calls Tryz.prog 110 #[.string (strOf key),.int .u32 counter,.string (strOf nonce)] w fun e w'=>e = .returned (.string (strOf (blockB key counter nonce)))∧Below w.heap.size w w':=by
 have hzw:=zw16
 have hsk:(strOf key).size=32:=by rw [strOf_size,hk]
 have hsn:(strOf nonce).size=12:=by rw [strOf_size,hn]
 have HKL:=hidq_ hk
 have HNL:=hidq_ hn
 have HC:=hidq_ hc
 obtain ⟨g,hg⟩:∃ g,Hid (w.heap.size=g):=⟨_,rfl⟩
 have hgl:g≤w.heap.size:=by rw [hg.out];exact Nat.le_refl _
 have HI:=hidq_ (iw16 sigmaL rfl)
 have HZW:Hid ((rowW zerosW).size=(rowW sigmaL).size):=hidq_ rfl
 have N0:Hid (Bk (w.alloc (.cells (rowW zerosW) 177)) g 177 (rowW zerosW)):=hidq_ (by rw [← hg.out];exact Bk.new w _ _)
 clear hk hn hc
 go_enter Tryz.func110,Tryz.ntmps110
 go_upto_region 2 with (first
  | (refine wpList_built rfl 177 _ rfl (rowW sigmaL) (by kernel_rfl) ?_)
  | (rw [hg.out];refine wpList_put_row rfl 177 _ _ rfl g (rowW sigmaL) rfl rfl 177 (rowW zerosW) N0.out HI.out HZW.out (rowW_one _) ?_;intro w1 k1 g1 s1))
 have A1:=hidq_ k1
 have R1:Hid (Below g w w1):=hidq_ (by
  have h:=((Below.refl w.heap.size w).alloc (Nat.le_refl _) (.cells (rowW zerosW) 177)).grown g1 (by simp) (fun i hi=>by injection hi with hi;rw [hg.out];omega)
  rwa [hg.out] at h)
 clear k1 g1 s1 N0 HI HZW
 go_wp2
 go_loopw [8] (fun x wr=>∃ k:Nat,k≤8∧x = .int .i64 k∧Bk wr g 177 (rowW (fillL sigmaL 4 key k))∧Below g w wr) (fun x _=>8 - (intOf x).toNat)
 case atStart=>exact ⟨0,by omega,rfl,A1.out,R1.out⟩
 case round =>
  obtain ⟨k,hk,rfl,h1,h2⟩:=hrel
  have H1:=hidq_ h1
  have H2:=hidq_ h2
  clear h1 h2 A1 R1
  by_cases hlt:k < 8
  ·have hd:decide ((k:Int) < 8)=true:=decide_eq_true (by omega)
   have hmid:=fun W=>str_four key k 32 HKL.out (by omega) W
   have hlen:(((key.drop (4 * k)).take 4).length)=4:=by have:=HKL.out;rw [List.length_take,List.length_drop];omega
   have c1:=refWord_low ((key.drop (4 * k)).take 4) 4 hlen (by omega) wr
   have hwk:((leN ((key.drop (4 * k)).take 4):Nat):Int)=leWord key k:=rfl
   rw [hwk] at c1
   obtain ⟨x,hx⟩:∃ x,Hid (leWord key k=x):=⟨_,rfl⟩
   have hxb:=leWord_ok key k
   rw [hx.out] at c1 hxb
   obtain ⟨hxb0,hxb1⟩:=hxb
   have hcc:=H1.out.cell (4 + k)
   rw [rowW_at _ _ (by rw [fillL_len];show 4 + k < 16;omega)] at hcc
   have hf:=H1.out.frozen (4 + k)
   have hset:=H1.out.set_ (4 + k) (.int .u32 x)
   rw [rowW_set] at hset
   have HS:Hid (Bk (wr.setCell ⟨g,4 + k,none⟩ (.int .u32 x)) g 177 (rowW (fillL sigmaL 4 key (k + 1)))):=hidq_ (by rw [fillL,hx.out];exact hset)
   have t0:(0:Int)≤(k:Int):=by omega
   clear hlen hwk hset
   go_wp2_with (go_at_call 115;((with_reducible refine c1.mono ?_);rintro e w' ⟨rfl,rfl⟩))
   go_roundw
   case rel=>exact ⟨k + 1,by omega,by go_num,HS.out,H2.out.setCell (by simp) _⟩
   case measure=>simp [intOf];omega
  ·have hk8:Hid (k=8):=hidq_ (by omega)
   have hd:decide ((k:Int) < 8)=false:=decide_eq_false (by omega)
   have A1:Hid (Bk wr g 177 (rowW (fillL sigmaL 4 key 8))):=hidq_ (by have h:=H1.out;rwa [hk8.out] at h)
   clear H1
   obtain ⟨l1,HE1⟩:∃ l1,Hid (fillL sigmaL 4 key 8=l1):=⟨_,rfl⟩
   have L1:Hid (l1.length=16):=hidq_ (by rw [← HE1.out,fillL_len];rfl)
   have O1:Hid (okL l1):=hidq_ (by rw [← HE1.out];exact fillL_ok sigmaL_ok 4 key 8)
   rw [HE1.out] at A1
   have hcc:=A1.out.cell 12
   rw [rowW_at _ _ (by rw [L1.out];omega)] at hcc
   have hf:=A1.out.frozen 12
   have hset:=A1.out.set_ 12 (.int .u32 counter)
   rw [rowW_set] at hset
   have B1:=hidq_ hset
   have B2:=hidq_ (H2.out.setCell (p:=⟨g,12,none⟩) (by simp) (.int .u32 counter))
   clear hset A1 H2
   go_wp2
   obtain ⟨w2,hw2⟩:∃ W,Hid (wr.setCell ⟨g,12,none⟩ (.int .u32 counter)=W):=⟨_,rfl⟩
   rw [hw2.out] at B1 B2 ⊢
   clear hcc hf
   go_loopw [9] (fun x wr=>∃ j:Nat,j≤3∧x = .int .i64 j∧Bk wr g 177 (rowW (fillL (l1.set 12 counter) 13 nonce j))∧Below g w wr) (fun x _=>3 - (intOf x).toNat)
   case atStart=>exact ⟨0,by omega,rfl,B1.out,B2.out⟩
   case round =>
    obtain ⟨j,hj,rfl,h1,h2⟩:=hrel
    have J1:=hidq_ h1
    have J2:=hidq_ h2
    clear h1 h2 B1 B2
    by_cases hlj:j < 3
    ·have hd3:decide ((j:Int) < 3)=true:=decide_eq_true (by omega)
     have hmid:=fun W=>str_four nonce j 12 HNL.out (by omega) W
     have hlen:(((nonce.drop (4 * j)).take 4).length)=4:=by have:=HNL.out;rw [List.length_take,List.length_drop];omega
     have c1:=fun W=>refWord_low ((nonce.drop (4 * j)).take 4) 4 hlen (by omega) W
     have hwk:((leN ((nonce.drop (4 * j)).take 4):Nat):Int)=leWord nonce j:=rfl
     rw [hwk] at c1
     obtain ⟨x,hx⟩:∃ x,Hid (leWord nonce j=x):=⟨_,rfl⟩
     have hxb:=leWord_ok nonce j
     rw [hx.out] at c1 hxb
     obtain ⟨hxb0,hxb1⟩:=hxb
     have hcc:=J1.out.cell (13 + j)
     rw [rowW_at _ _ (by rw [fillL_len,List.length_set,L1.out];omega)] at hcc
     have hf:=J1.out.frozen (13 + j)
     have hset:=J1.out.set_ (13 + j) (.int .u32 x)
     rw [rowW_set,← hx.out] at hset
     have HS:=hidq_ hset
     rw [← fillL,hx.out] at HS
     have t0:(0:Int)≤(j:Int):=by omega
     have b2:=J2.out.setCell (p:=⟨g,13 + j,none⟩) (by simp) (.int .u32 x)
     have B2:=hidq_ b2
     clear hlen hwk hset b2
     go_wp2_with (go_at_call 115;((with_reducible refine (c1 _).mono ?_);rintro e w' ⟨rfl,rfl⟩))
     go_roundw
     case rel=>exact ⟨j + 1,by omega,by go_num,HS.out,B2.out⟩
     case measure=>simp [intOf];omega
    ·have hj3:Hid (j=3):=hidq_ (by omega)
     have hd3:decide ((j:Int) < 3)=false:=decide_eq_false (by omega)
     have A2:=J1.out
     rw [hj3.out] at A2
     have hst:fillL (l1.set 12 counter) 13 nonce 3=stateL key counter nonce:=by rw [stateL,HE1.out]
     rw [hst] at A2
     have HB:Hid (blockB key counter nonce=outBq (stateL key counter nonce) (roundsL (stateL key counter nonce) 10) 16):=hidq_ rfl
     have LS:=hidq_ (stateL_len key counter nonce)
     have OS:=hidq_ (stateL_ok key nonce HC.out)
     obtain ⟨ls,hls⟩:∃ x,Hid (stateL key counter nonce=x):=⟨_,rfl⟩
     rw [hls.out] at A2 LS OS HB
     have A3:=hidq_ A2
     clear A2 hst J1
     have E8:=hidq_ (iw16 ls LS.out)
     have S8:Hid ((rowW zerosW).size=(rowW ls).size):=hidq_ (by rw [rowW_size,rowW_size,LS.out];rfl)
     have J3:=J2.out
     have lg:=A3.out.lt
     go_wp2_with (first
      | (refine wpList_load_row rfl 177 (.tmp 7) rfl g rfl 177 (rowW ls) (0,0) _ A3.out Tryz.underlying177 rfl E8.out ?_)
      | (refine wpList_put_row rfl 177 (.tmp 10) (.tmp 49) rfl wr.heap.size (rowW ls) rfl rfl 177 (rowW zerosW) (Bk.new wr _ _) E8.out S8.out (rowW_one _) ?_;intro w3 k3 g3 s3))
     have V3:=hidq_ k3
     have M3:=hidq_ ((A3.out.alloc (.cells (rowW zerosW) 177)).grown g3 (by intro e;injection e with e;omega))
     have Y3:=hidq_ ((J3.alloc (by have:=J3.size;omega) (.cells (rowW zerosW) 177)).grown g3 (by have:=J3.size;simp;omega) (fun i hi=>by injection hi with hi;have:=J3.size;omega))
     have gv:g < wr.heap.size:=lg
     obtain ⟨v,hv⟩:∃ x,Hid (wr.heap.size=x):=⟨_,rfl⟩
     rw [hv.out] at V3 gv ⊢
     clear k3 g3 s3 A3 J2 J3 lg
     go_loopw [11] (fun x wr=>∃ k:Nat,k≤10∧x = .int .i64 k∧Bk wr v 177 (rowW (roundsL ls k))∧Bk wr g 177 (rowW ls)∧Below g w wr) (fun x _=>10 - (intOf x).toNat)
     case atStart=>exact ⟨0,by omega,rfl,V3.out,M3.out,Y3.out⟩
     case round =>
      obtain ⟨q,hq,rfl,h1,h2,h3⟩:=hrel
      have V:=hidq_ h1
      have M:=hidq_ h2
      have Y:=hidq_ h3
      clear h1 h2 h3 V3 M3 Y3
      by_cases hlq:q < 10
      ·have hd10:decide ((q:Int) < 10)=true:=decide_eq_true (by omega)
       obtain ⟨l0,HL0⟩:∃ x,Hid (roundsL ls q=x):=⟨_,rfl⟩
       have LL:Hid (l0.length=16):=hidq_ (by rw [← HL0.out,roundsL_len,LS.out])
       have OO:Hid (okL l0):=hidq_ (by rw [← HL0.out];exact roundsL_ok OS.out q)
       rw [HL0.out] at V
       obtain ⟨x0,hx0⟩:∃ W:World,W=wr:=⟨_,rfl⟩
       subst hx0
       have hx0:True:=trivial
       have EL0:=hidq_ (iw16 l0 LL.out)
       have cq:=refQuarter_int 0 4 8 12 l0 x0 0 4 8 12 rfl rfl rfl rfl LL.out OO.out (by omega) (by omega) (by omega) (by omega)
       obtain ⟨l1,HL1⟩:∃ x,Hid (quarterL l0 0 4 8 12=x):=⟨_,rfl⟩
       have LL2:Hid (l1.length=16):=hidq_ (by rw [← HL1.out,quarterL_len,LL.out])
       have OO2:Hid (okL l1):=hidq_ (by rw [← HL1.out];exact quarterL_ok OO.out _ _ _ _)
       have EN:=hidq_ (iw16 l1 LL2.out)
       have SN:Hid ((rowW l0).size=(rowW l1).size):=hidq_ (by rw [rowW_size,rowW_size,LL.out,LL2.out])
       rw [HL1.out] at cq
       go_upto_region 16 with (first
        | (refine wpList_load_row rfl 177 (.tmp 10) rfl v rfl 177 (rowW l0) (0,0) _ V.out Tryz.underlying177 rfl EL0.out ?_)
        | (go_at_call 132;((with_reducible refine cq.mono ?_);rintro e y0 ⟨rfl,b0⟩;have HY:=hidq_ b0;clear b0;have V2:=hidq_ (V.out.below HY.out V.out.lt)))
        | (refine wpList_put_row rfl 177 (.tmp 10) (.tmp 55) rfl v (rowW l1) rfl rfl 177 (rowW l0) V2.out EN.out SN.out (rowW_one _) ?_;intro x1 k3 g3 s3))
       have V':=hidq_ k3
       have M':=hidq_ ((M.out.below HY.out M.out.lt).grown g3 (by intro e;injection e with e;omega))
       have Y':=hidq_ ((Y.out.trans (HY.out.mono (by have:=Y.out.size;omega))).grown g3 (by have:=Y.out.size;have:=HY.out.size;omega) (fun i hi=>by injection hi with hi;omega))
       clear k3 g3 s3 V M Y LL OO cq HY V2 EN SN EL0
       have V:=V'
       have M:=M'
       have Y:=Y'
       have LL:=LL2
       have OO:=OO2
       clear V' M' Y' LL2 OO2
       have EL1:=hidq_ (iw16 l1 LL.out)
       have cq:=refQuarter_int 1 5 9 13 l1 x1 1 5 9 13 rfl rfl rfl rfl LL.out OO.out (by omega) (by omega) (by omega) (by omega)
       obtain ⟨l2,HL2⟩:∃ x,Hid (quarterL l1 1 5 9 13=x):=⟨_,rfl⟩
       have LL2:Hid (l2.length=16):=hidq_ (by rw [← HL2.out,quarterL_len,LL.out])
       have OO2:Hid (okL l2):=hidq_ (by rw [← HL2.out];exact quarterL_ok OO.out _ _ _ _)
       have EN:=hidq_ (iw16 l2 LL2.out)
       have SN:Hid ((rowW l1).size=(rowW l2).size):=hidq_ (by rw [rowW_size,rowW_size,LL.out,LL2.out])
       rw [HL2.out] at cq
       go_upto_region 17 with (first
        | (refine wpList_load_row rfl 177 (.tmp 10) rfl v rfl 177 (rowW l1) (0,0) _ V.out Tryz.underlying177 rfl EL1.out ?_)
        | (go_at_call 132;((with_reducible refine cq.mono ?_);rintro e y1 ⟨rfl,b1⟩;have HY:=hidq_ b1;clear b1;have V2:=hidq_ (V.out.below HY.out V.out.lt)))
        | (refine wpList_put_row rfl 177 (.tmp 10) (.tmp 57) rfl v (rowW l2) rfl rfl 177 (rowW l1) V2.out EN.out SN.out (rowW_one _) ?_;intro x2 k3 g3 s3))
       have V':=hidq_ k3
       have M':=hidq_ ((M.out.below HY.out M.out.lt).grown g3 (by intro e;injection e with e;omega))
       have Y':=hidq_ ((Y.out.trans (HY.out.mono (by have:=Y.out.size;omega))).grown g3 (by have:=Y.out.size;have:=HY.out.size;omega) (fun i hi=>by injection hi with hi;omega))
       clear k3 g3 s3 V M Y LL OO cq HY V2 EN SN EL1
       have V:=V'
       have M:=M'
       have Y:=Y'
       have LL:=LL2
       have OO:=OO2
       clear V' M' Y' LL2 OO2
       have EL2:=hidq_ (iw16 l2 LL.out)
       have cq:=refQuarter_int 2 6 10 14 l2 x2 2 6 10 14 rfl rfl rfl rfl LL.out OO.out (by omega) (by omega) (by omega) (by omega)
       obtain ⟨l3,HL3⟩:∃ x,Hid (quarterL l2 2 6 10 14=x):=⟨_,rfl⟩
       have LL2:Hid (l3.length=16):=hidq_ (by rw [← HL3.out,quarterL_len,LL.out])
       have OO2:Hid (okL l3):=hidq_ (by rw [← HL3.out];exact quarterL_ok OO.out _ _ _ _)
       have EN:=hidq_ (iw16 l3 LL2.out)
       have SN:Hid ((rowW l2).size=(rowW l3).size):=hidq_ (by rw [rowW_size,rowW_size,LL.out,LL2.out])
       rw [HL3.out] at cq
       go_upto_region 18 with (first
        | (refine wpList_load_row rfl 177 (.tmp 10) rfl v rfl 177 (rowW l2) (0,0) _ V.out Tryz.underlying177 rfl EL2.out ?_)
        | (go_at_call 132;((with_reducible refine cq.mono ?_);rintro e y2 ⟨rfl,b2⟩;have HY:=hidq_ b2;clear b2;have V2:=hidq_ (V.out.below HY.out V.out.lt)))
        | (refine wpList_put_row rfl 177 (.tmp 10) (.tmp 59) rfl v (rowW l3) rfl rfl 177 (rowW l2) V2.out EN.out SN.out (rowW_one _) ?_;intro x3 k3 g3 s3))
       have V':=hidq_ k3
       have M':=hidq_ ((M.out.below HY.out M.out.lt).grown g3 (by intro e;injection e with e;omega))
       have Y':=hidq_ ((Y.out.trans (HY.out.mono (by have:=Y.out.size;omega))).grown g3 (by have:=Y.out.size;have:=HY.out.size;omega) (fun i hi=>by injection hi with hi;omega))
       clear k3 g3 s3 V M Y LL OO cq HY V2 EN SN EL2
       have V:=V'
       have M:=M'
       have Y:=Y'
       have LL:=LL2
       have OO:=OO2
       clear V' M' Y' LL2 OO2
       have EL3:=hidq_ (iw16 l3 LL.out)
       have cq:=refQuarter_int 3 7 11 15 l3 x3 3 7 11 15 rfl rfl rfl rfl LL.out OO.out (by omega) (by omega) (by omega) (by omega)
       obtain ⟨l4,HL4⟩:∃ x,Hid (quarterL l3 3 7 11 15=x):=⟨_,rfl⟩
       have LL2:Hid (l4.length=16):=hidq_ (by rw [← HL4.out,quarterL_len,LL.out])
       have OO2:Hid (okL l4):=hidq_ (by rw [← HL4.out];exact quarterL_ok OO.out _ _ _ _)
       have EN:=hidq_ (iw16 l4 LL2.out)
       have SN:Hid ((rowW l3).size=(rowW l4).size):=hidq_ (by rw [rowW_size,rowW_size,LL.out,LL2.out])
       rw [HL4.out] at cq
       go_upto_region 19 with (first
        | (refine wpList_load_row rfl 177 (.tmp 10) rfl v rfl 177 (rowW l3) (0,0) _ V.out Tryz.underlying177 rfl EL3.out ?_)
        | (go_at_call 132;((with_reducible refine cq.mono ?_);rintro e y3 ⟨rfl,b3⟩;have HY:=hidq_ b3;clear b3;have V2:=hidq_ (V.out.below HY.out V.out.lt)))
        | (refine wpList_put_row rfl 177 (.tmp 10) (.tmp 61) rfl v (rowW l4) rfl rfl 177 (rowW l3) V2.out EN.out SN.out (rowW_one _) ?_;intro x4 k3 g3 s3))
       have V':=hidq_ k3
       have M':=hidq_ ((M.out.below HY.out M.out.lt).grown g3 (by intro e;injection e with e;omega))
       have Y':=hidq_ ((Y.out.trans (HY.out.mono (by have:=Y.out.size;omega))).grown g3 (by have:=Y.out.size;have:=HY.out.size;omega) (fun i hi=>by injection hi with hi;omega))
       clear k3 g3 s3 V M Y LL OO cq HY V2 EN SN EL3
       have V:=V'
       have M:=M'
       have Y:=Y'
       have LL:=LL2
       have OO:=OO2
       clear V' M' Y' LL2 OO2
       have EL4:=hidq_ (iw16 l4 LL.out)
       have cq:=refQuarter_int 0 5 10 15 l4 x4 0 5 10 15 rfl rfl rfl rfl LL.out OO.out (by omega) (by omega) (by omega) (by omega)
       obtain ⟨l5,HL5⟩:∃ x,Hid (quarterL l4 0 5 10 15=x):=⟨_,rfl⟩
       have LL2:Hid (l5.length=16):=hidq_ (by rw [← HL5.out,quarterL_len,LL.out])
       have OO2:Hid (okL l5):=hidq_ (by rw [← HL5.out];exact quarterL_ok OO.out _ _ _ _)
       have EN:=hidq_ (iw16 l5 LL2.out)
       have SN:Hid ((rowW l4).size=(rowW l5).size):=hidq_ (by rw [rowW_size,rowW_size,LL.out,LL2.out])
       rw [HL5.out] at cq
       go_upto_region 20 with (first
        | (refine wpList_load_row rfl 177 (.tmp 10) rfl v rfl 177 (rowW l4) (0,0) _ V.out Tryz.underlying177 rfl EL4.out ?_)
        | (go_at_call 132;((with_reducible refine cq.mono ?_);rintro e y4 ⟨rfl,b4⟩;have HY:=hidq_ b4;clear b4;have V2:=hidq_ (V.out.below HY.out V.out.lt)))
        | (refine wpList_put_row rfl 177 (.tmp 10) (.tmp 63) rfl v (rowW l5) rfl rfl 177 (rowW l4) V2.out EN.out SN.out (rowW_one _) ?_;intro x5 k3 g3 s3))
       have V':=hidq_ k3
       have M':=hidq_ ((M.out.below HY.out M.out.lt).grown g3 (by intro e;injection e with e;omega))
       have Y':=hidq_ ((Y.out.trans (HY.out.mono (by have:=Y.out.size;omega))).grown g3 (by have:=Y.out.size;have:=HY.out.size;omega) (fun i hi=>by injection hi with hi;omega))
       clear k3 g3 s3 V M Y LL OO cq HY V2 EN SN EL4
       have V:=V'
       have M:=M'
       have Y:=Y'
       have LL:=LL2
       have OO:=OO2
       clear V' M' Y' LL2 OO2
       have EL5:=hidq_ (iw16 l5 LL.out)
       have cq:=refQuarter_int 1 6 11 12 l5 x5 1 6 11 12 rfl rfl rfl rfl LL.out OO.out (by omega) (by omega) (by omega) (by omega)
       obtain ⟨l6,HL6⟩:∃ x,Hid (quarterL l5 1 6 11 12=x):=⟨_,rfl⟩
       have LL2:Hid (l6.length=16):=hidq_ (by rw [← HL6.out,quarterL_len,LL.out])
       have OO2:Hid (okL l6):=hidq_ (by rw [← HL6.out];exact quarterL_ok OO.out _ _ _ _)
       have EN:=hidq_ (iw16 l6 LL2.out)
       have SN:Hid ((rowW l5).size=(rowW l6).size):=hidq_ (by rw [rowW_size,rowW_size,LL.out,LL2.out])
       rw [HL6.out] at cq
       go_upto_region 21 with (first
        | (refine wpList_load_row rfl 177 (.tmp 10) rfl v rfl 177 (rowW l5) (0,0) _ V.out Tryz.underlying177 rfl EL5.out ?_)
        | (go_at_call 132;((with_reducible refine cq.mono ?_);rintro e y5 ⟨rfl,b5⟩;have HY:=hidq_ b5;clear b5;have V2:=hidq_ (V.out.below HY.out V.out.lt)))
        | (refine wpList_put_row rfl 177 (.tmp 10) (.tmp 65) rfl v (rowW l6) rfl rfl 177 (rowW l5) V2.out EN.out SN.out (rowW_one _) ?_;intro x6 k3 g3 s3))
       have V':=hidq_ k3
       have M':=hidq_ ((M.out.below HY.out M.out.lt).grown g3 (by intro e;injection e with e;omega))
       have Y':=hidq_ ((Y.out.trans (HY.out.mono (by have:=Y.out.size;omega))).grown g3 (by have:=Y.out.size;have:=HY.out.size;omega) (fun i hi=>by injection hi with hi;omega))
       clear k3 g3 s3 V M Y LL OO cq HY V2 EN SN EL5
       have V:=V'
       have M:=M'
       have Y:=Y'
       have LL:=LL2
       have OO:=OO2
       clear V' M' Y' LL2 OO2
       have EL6:=hidq_ (iw16 l6 LL.out)
       have cq:=refQuarter_int 2 7 8 13 l6 x6 2 7 8 13 rfl rfl rfl rfl LL.out OO.out (by omega) (by omega) (by omega) (by omega)
       obtain ⟨l7,HL7⟩:∃ x,Hid (quarterL l6 2 7 8 13=x):=⟨_,rfl⟩
       have LL2:Hid (l7.length=16):=hidq_ (by rw [← HL7.out,quarterL_len,LL.out])
       have OO2:Hid (okL l7):=hidq_ (by rw [← HL7.out];exact quarterL_ok OO.out _ _ _ _)
       have EN:=hidq_ (iw16 l7 LL2.out)
       have SN:Hid ((rowW l6).size=(rowW l7).size):=hidq_ (by rw [rowW_size,rowW_size,LL.out,LL2.out])
       rw [HL7.out] at cq
       go_upto_region 22 with (first
        | (refine wpList_load_row rfl 177 (.tmp 10) rfl v rfl 177 (rowW l6) (0,0) _ V.out Tryz.underlying177 rfl EL6.out ?_)
        | (go_at_call 132;((with_reducible refine cq.mono ?_);rintro e y6 ⟨rfl,b6⟩;have HY:=hidq_ b6;clear b6;have V2:=hidq_ (V.out.below HY.out V.out.lt)))
        | (refine wpList_put_row rfl 177 (.tmp 10) (.tmp 67) rfl v (rowW l7) rfl rfl 177 (rowW l6) V2.out EN.out SN.out (rowW_one _) ?_;intro x7 k3 g3 s3))
       have V':=hidq_ k3
       have M':=hidq_ ((M.out.below HY.out M.out.lt).grown g3 (by intro e;injection e with e;omega))
       have Y':=hidq_ ((Y.out.trans (HY.out.mono (by have:=Y.out.size;omega))).grown g3 (by have:=Y.out.size;have:=HY.out.size;omega) (fun i hi=>by injection hi with hi;omega))
       clear k3 g3 s3 V M Y LL OO cq HY V2 EN SN EL6
       have V:=V'
       have M:=M'
       have Y:=Y'
       have LL:=LL2
       have OO:=OO2
       clear V' M' Y' LL2 OO2
       have EL7:=hidq_ (iw16 l7 LL.out)
       have cq:=refQuarter_int 3 4 9 14 l7 x7 3 4 9 14 rfl rfl rfl rfl LL.out OO.out (by omega) (by omega) (by omega) (by omega)
       obtain ⟨l8,HL8⟩:∃ x,Hid (quarterL l7 3 4 9 14=x):=⟨_,rfl⟩
       have LL2:Hid (l8.length=16):=hidq_ (by rw [← HL8.out,quarterL_len,LL.out])
       have OO2:Hid (okL l8):=hidq_ (by rw [← HL8.out];exact quarterL_ok OO.out _ _ _ _)
       have EN:=hidq_ (iw16 l8 LL2.out)
       have SN:Hid ((rowW l7).size=(rowW l8).size):=hidq_ (by rw [rowW_size,rowW_size,LL.out,LL2.out])
       rw [HL8.out] at cq
       go_wp2_with (first
        | (refine wpList_load_row rfl 177 (.tmp 10) rfl v rfl 177 (rowW l7) (0,0) _ V.out Tryz.underlying177 rfl EL7.out ?_)
        | (go_at_call 132;((with_reducible refine cq.mono ?_);rintro e y7 ⟨rfl,b7⟩;have HY:=hidq_ b7;clear b7;have V2:=hidq_ (V.out.below HY.out V.out.lt)))
        | (refine wpList_put_row rfl 177 (.tmp 10) (.tmp 69) rfl v (rowW l8) rfl rfl 177 (rowW l7) V2.out EN.out SN.out (rowW_one _) ?_;intro x8 k3 g3 s3))
       have V':=hidq_ k3
       have M':=hidq_ ((M.out.below HY.out M.out.lt).grown g3 (by intro e;injection e with e;omega))
       have Y':=hidq_ ((Y.out.trans (HY.out.mono (by have:=Y.out.size;omega))).grown g3 (by have:=Y.out.size;have:=HY.out.size;omega) (fun i hi=>by injection hi with hi;omega))
       clear k3 g3 s3 V M Y LL OO cq HY V2 EN SN EL7
       have V:=V'
       have M:=M'
       have Y:=Y'
       have LL:=LL2
       have OO:=OO2
       clear V' M' Y' LL2 OO2
       have hfin:l8=roundsL ls (q + 1):=by
        show l8=diagsL (colsL (roundsL ls q) 4) 4
        rw [double_eq,HL0.out,HL1.out,HL2.out,HL3.out,HL4.out,HL5.out,HL6.out,HL7.out,HL8.out]
       have V8:=V.out
       rw [hfin] at V8
       have V9:=hidq_ V8
       clear V8 hfin
       go_roundw
       case rel=>exact ⟨q + 1,by omega,by go_num,V9.out,M.out,Y.out⟩
       case measure=>simp [intOf];omega
      ·have hq10:Hid (q=10):=hidq_ (by omega)
       have hd10:decide ((q:Int) < 10)=false:=decide_eq_false (by omega)
       have V8:=V.out
       rw [hq10.out] at V8
       have LV:=hidq_ (roundsL_len ls 10)
       rw [LS.out] at LV
       obtain ⟨vs,hvs⟩:∃ x,Hid (roundsL ls 10=x):=⟨_,rfl⟩
       rw [hvs.out] at V8 LV HB
       have HC0:Hid (BlkC g g v ls vs w wr):=hidq_ ⟨M.out,V8,Y.out⟩
       clear V8 V M Y
       go_wp2
       go_loopw [12,13] (fun o x W=>∃ k:Nat,k≤16∧x = .int .i64 k∧o = .string (strOf (outBq ls vs k))∧BlkC g g v ls vs w W) (fun _ x _=>16 - (intOf x).toNat)
       case atStart=>exact ⟨0,by omega,rfl,rfl,HC0.out⟩
       case round =>
        obtain ⟨k,hk,rfl,rfl,h1⟩:=hrel
        have HW0:=hidq_ h1
        clear h1 HC0
        by_cases hlt:k < 16
        ·have hd16:decide ((k:Int) < 16)=true:=decide_eq_true (by omega)
         obtain ⟨x,hx⟩:∃ x:Nat,Hid (((vs.getD k 0 + ls.getD k 0) % 4294967296).toNat=x):=⟨_,rfl⟩
         have hx4:(vs.getD k 0 + ls.getD k 0) % 4294967296=((x:Nat):Int):=by rw [← hx.out];omega
         have hxl:x≤4294967295:=by omega
         have HO:=hidq_ (outB_succ ls vs k)
         rw [hx.out] at HO
         obtain ⟨xa,hxa⟩:∃ x,Hid (vs.getD k 0=x):=⟨_,rfl⟩
         obtain ⟨xb,hxb⟩:∃ x,Hid (ls.getD k 0=x):=⟨_,rfl⟩
         rw [hxa.out,hxb.out] at hx4
         have hx5:IntKind.u32.wrap (xa + xb)=((x:Nat):Int):=by rw [IntKind.wrap_u32,hx4]
         have hx6:IntKind.u64.wrap ((x:Nat):Int)=((x:Nat):Int):=IntWalk.u64_in _ (by omega)
         have CV:Hid (∀ W:World,BlkC g g v ls vs w W→W.cell? ⟨v,k,none⟩=some (.int .u32 xa)):=hidq_ (fun W h=>by rw [h.2.1.cell k,rowW_at _ _ (by rw [LV.out];exact hlt),hxa.out])
         have CS:Hid (∀ W:World,BlkC g g v ls vs w W→W.cell? ⟨g,k,none⟩=some (.int .u32 xb)):=hidq_ (fun W h=>by rw [h.1.cell k,rowW_at _ _ (by rw [LS.out];exact hlt),hxb.out])
         have CP:Hid (∀ W:World,BlkC g g v ls vs w W→Calls Tryz.prog 77 #[.int .u64 (x:Int),.int .i64 4,.bool false] W fun e w'=>e = .returned (.string (strOf (lowB 4 x)))∧BlkC g g v ls vs w w'):=hidq_ (fun W h=>(refPut_any x 4 4 false (by omega) (by omega) (by omega) (by omega) W).mono fun e w' hh=>⟨hh.1,h.below (by have:=h.1.lt;omega) hh.2⟩)
         have t0:(0:Int)≤(k:Int):=by omega
         have t1:(k:Int) < 16:=by omega
         have hap:=strOf_append (outBq ls vs k) (lowB 4 x)
         rw [← HO.out] at hap
         have hs1:(strOf (outBq ls vs k)).size≤64:=by rw [strOf_size,outB_lenq];omega
         have hs2:(strOf (lowB 4 x)).size≤4:=by rw [strOf_size,lowB_len];omega
         have hs3:(strOf (outBq ls vs k)).size + (strOf (lowB 4 x)).size≤9223372036854775807:=by omega
         go_wp2
         have HCd:BlkC g g v ls vs w { wr with drawn:=wr.drawn + 1 }:=⟨HW0.out.1.drew,HW0.out.2.1.drew,HW0.out.2.2.drew⟩
         refine region_quiet_in (C:=BlkC g g v ls vs w) (by kernel_rfl) (by kernel_rfl) HCd ?_
         clear HCd
         repeat (go_big_quiet_want;(first
          | (refine BigFrame.quiet_move _ rfl ?_;go_simp)
          | (refine BigFrame.quiet_assign _ rfl ?_;go_simp)
          | (refine quiet_call (.string (strOf (lowB 4 x))) 77 #[.int .u64 (x:Int),.int .i64 4,.bool false] ?_ CP.out ?_;(focus (intro W;go_simp;done));go_simp)
          | (refine quiet_run (.pointer (some ⟨v,k,none⟩)) ?_ ?_;(focus (intro W hW;go_simp;done));go_simp)
          | (refine quiet_run (.int .u32 xa) ?_ ?_;(focus (intro W hW;have h:=CV.out W hW;go_simp;done));go_simp)
          | (refine quiet_run (.pointer (some ⟨g,k,none⟩)) ?_ ?_;(focus (intro W hW;go_simp;done));go_simp)
          | (refine quiet_run (.int .u32 xb) ?_ ?_;(focus (intro W hW;have h:=CS.out W hW;go_simp;done));go_simp)
          | (refine quiet_run (.int .u32 (x:Int)) ?_ ?_;(focus (intro W hW;go_simp;done));go_simp)
          | (refine quiet_run (.int .u64 (x:Int)) ?_ ?_;(focus (intro W hW;go_simp;done));go_simp)
          | (refine quiet_run (.string (strOf (outBq ls vs (k + 1)))) ?_ ?_;(focus (intro W hW;go_simp;done));go_simp));go_big_quiet_on)
         refine wpQuiet_nil ?_
         intro W hW
         have HW:=hidq_ hW
         clear hW HW0
         go_wp2
         go_roundw
         case rel=>exact ⟨k + 1,by omega,by go_num,rfl,HW.out⟩
         case measure=>simp [intOf];omega
        ·have hk16:Hid (k=16):=hidq_ (by omega)
         have hd16:decide ((k:Int) < 16)=false:=decide_eq_false (by omega)
         have bb:=hidq_ HW0.out.2.2
         clear HW0
         go_wp2
         go_ret
         exact ⟨by rw [HB.out,hk16.out];rfl,by rw [hg.out];exact bb.out⟩
theorem mixB_comm (l m:List UInt8):mixB l m=mixB m l:=by
 unfold mixB
 rw [List.zipWith_comm]
 congr 1
 funext a b
 exact UInt8.xor_comm _ _
theorem str_rest (l:List UInt8) (n k:Nat) (hl:l.length=n) (hk:k≤n) (W:World) :
  (Instr.slice 9 (.string (strOf l)) (some (.int .i64 (k:Int))) none none).run Tryz.prog W = .ok (.string (strOf (l.drop k))) W:=by
 have hs:(strOf l).size=n:=by rw [strOf_size,hl]
 rw [run_slice_string_l W 9 (strOf l) Tryz.underlying9 .i64 (k:Int) (by omega) (by rw [hs];omega),Int.toNat_natCast,hs,strOf_mid]
 congr 3
 exact List.take_of_length_le (by rw [List.length_drop];omega)
set_option maxHeartbeats 4000000 in
theorem refStream_any (key nonce:List UInt8) (counter:Int) (n:Nat) (b:List UInt8) (w:World) (hk:key.length=32) (hn:nonce.length=12) (hc:ok32q counter) (hbl:b.length=n) (hm:n≤1000000) :
  Calls Tryz.prog 91 #[.string (strOf key),.int .u32 counter,.string (strOf nonce),.string (strOf b)] w fun e w'=>e = .returned (.string (strOf (streamB key nonce counter b)))∧Below w.heap.size w w':=by
 have cb:=fun k W=>refBlock_any key nonce (ctrN counter k) W hk hn (ctrN_ok counter k)
 have HBL:=hidq_ hbl
 have HC0:=hidq_ (ctrN_zero hc)
 have hsb:(strOf b).size=n:=by rw [strOf_size,hbl]
 obtain ⟨g,hg⟩:∃ g,Hid (w.heap.size=g):=⟨_,rfl⟩
 have hgl:g≤w.heap.size:=by rw [hg.out];exact Nat.le_refl _
 clear hk hn hc hbl
 go_enter Tryz.func91,Tryz.ntmps91
 go_wp2
 go_loopw [1,9] (fun cx v wr=>∃ k:Nat,(k=0∨64 * (k - 1) < n)∧cx = .int .u32 (ctrN counter k)∧OwnT wr g v (soFar key nonce counter b k)∧Below g w wr) (fun _ v _=>n - lenOf v)
 case atStart=>exact ⟨0,.inl rfl,by rw [HC0.out],.inl ⟨rfl,rfl⟩,by rw [← hg.out];exact Below.refl _ _⟩
 case round =>
  obtain ⟨k,hk,rfl,h1,h4⟩:=hrel
  obtain ⟨Av,cv,rfl⟩:=h1.form
  have hlt0:=h1.lt
  have HV:=hidq_ h1
  have HR:=hidq_ h4
  have HLT:=hidq_ hlt0
  have hln:=soFar_len key nonce counter b k
  rw [HBL.out] at hln
  clear h1 h4 hlt0
  by_cases hlt:64 * k < n
  ·have hq:Hid ((soFar key nonce counter b k).length=64 * k):=hidq_ (by omega)
   rw [hq.out] at HV HLT ⊢
   have cb1:=cb k wr
   have LB:=hidq_ (blockB_len key (ctrN counter k) nonce)
   have HSN:Hid (soFar key nonce counter b (k + 1)=soFar key nonce counter b k ++ mixB (b.drop (64 * k)) (blockB key (ctrN counter k) nonce)):=hidq_ rfl
   have CN:=hidq_ (ctrN_next counter k)
   have CO:=ctrN_ok counter k
   obtain ⟨bk,hbk⟩:∃ x,Hid (blockB key (ctrN counter k) nonce=x):=⟨_,rfl⟩
   rw [hbk.out] at cb1 LB HSN
   rw [mixB_comm] at HSN
   obtain ⟨cx,hcx⟩:∃ x,Hid (ctrN counter k=x):=⟨_,rfl⟩
   rw [hcx.out] at cb1 CN CO ⊢
   obtain ⟨CO0,CO1⟩:=CO
   have sl1:∀ W:World,(Instr.slice 9 (.string (strOf b)) (some (.int .i64 (64 * (k:Int)))) none none).run Tryz.prog W = .ok (.string (strOf (b.drop (64 * k)))) W:=fun W=>by
    have h:=str_rest b n (64 * k) HBL.out (by omega) W
    rwa [show ((64 * k:Nat):Int)=64 * (k:Int) by omega] at h
   obtain ⟨u,hu⟩:∃ u,Hid (u=min 64 (n - 64 * k)):=⟨_,rfl⟩
   have cm:=fun W=>refMix_any bk (b.drop (64 * k)) 64 (n - 64 * k) u W LB.out (by rw [List.length_drop,HBL.out]) hu.out (by omega) (by omega)
   have hmx:Hid ((mixB bk (b.drop (64 * k))).length=u):=hidq_ (by rw [mixB_len,List.length_drop,HBL.out,LB.out,hu.out])
   have hu0:0 < u:=by have:=hu.out;omega
   have hu64:u≤64:=by have:=hu.out;omega
   have hs1:=HR.out.size
   clear hln
   go_wp2_with (first
    | (go_at_call 110;((with_reducible refine cb1.mono ?_);rintro e w2 ⟨rfl,g1⟩;have HB1:=hidq_ g1;clear g1))
    | (go_at_call 111;((with_reducible refine (cm _).mono ?_);rintro e w3 ⟨rfl,g1⟩;have HB2:=hidq_ g1;clear g1;have V3:=hidq_ (HV.out.below (HB1.out.trans (HB2.out.mono HB1.out.size)) (Nat.le_refl _))))
    | (at_builtin;refine wpList_appS rfl (.tmp 20) (.tmp 26) rfl V3.out rfl (mixB bk (b.drop (64 * k))) u rfl hmx.out ?_ ?_ ?_;(rw [hq.out];omega);(have:=HB1.out.size;have:=HB2.out.size;omega);(intro A5 c5 w5 k1 k2;rw [hq.out] at *)))
   have Y5:=(HR.out.trans ((HB1.out.trans (HB2.out.mono HB1.out.size)).mono (by omega))).grown k2 (by have:=HB1.out.size;have:=HB2.out.size;omega) (fun i hi=>(V3.out.lt i hi).1)
   refine ⟨⟨k + 1,.inr (by omega),by rw [CN.out],by rw [HSN.out];exact k1,Y5⟩,?_⟩
   show n - (64 * k + u) < n - 64 * k
   omega
  ·have hq:Hid ((soFar key nonce counter b k).length=n):=hidq_ (by omega)
   have hst:streamB key nonce counter b=soFar key nonce counter b k:=by
    rw [streamB,HBL.out,show (n + 63) / 64=k by omega]
   rw [hq.out] at HV HLT ⊢
   have cvv:=conv_strn HV.out.rd.1 n cv hq.out
   have HST:=hidq_ hst
   clear hst hln
   go_wp2
   go_ret
   exact ⟨by rw [HST.out];rfl,by rw [hg.out];exact HR.out⟩
end Go.Proofs.YtpcbmnmgefhaaaaGreatDoor
