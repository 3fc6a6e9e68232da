import Derived.Test.YtpcbmnmgefhaaaaGreatDoorHH
import Derived.Test.YtpcbmnmgefhaaaaGreatDoorHB
namespace Go.Proofs.YtpcbmnmgefhaaaaGreatDoor
set_option maxRecDepth 100000
open Go.ChangeShapes Go.WideShapes Go.ChangeAt Go.RowKit
set_option linter.unusedVariables false
set_option linter.unusedSimpArgs false
theorem hidj_ {p:Prop} (h:p):Hid p:=h
def lastB (key use:List UInt8):Nat→List UInt8
 | 0=>[]
 | i + 1=>hmacB key (lastB key use i ++ use ++ [UInt8.ofNat (i + 1)])
def outB (key use:List UInt8):Nat→List UInt8
 | 0=>[]
 | i + 1=>outB key use i ++ lastB key use (i + 1)
theorem lastB_len (key use:List UInt8) (i:Nat):(lastB key use (i + 1)).length=32:=by rw [lastB];exact hmacB_len _ _
theorem lastB_le (key use:List UInt8) (i:Nat):(lastB key use i).length≤32:=by
 cases i with
 | zero=>simp [lastB]
 | succ i=>rw [lastB_len];exact Nat.le_refl _
theorem outB_len (key use:List UInt8):∀ i,(outB key use i).length=32 * i
 | 0=>rfl
 | i + 1=>by rw [outB,List.length_append,outB_len key use i,lastB_len];omega
def expandB (key use:List UInt8) (n:Nat):List UInt8:=(outB key use 255).take n
theorem outB_grow (key use:List UInt8) (k:Nat):∀ d,(outB key use (k + d)).take (32 * k)=outB key use k
 | 0=>by rw [Nat.add_zero];exact List.take_of_length_le (by rw [outB_len];exact Nat.le_refl _)
 | d + 1=>by
  rw [← Nat.add_assoc,outB,List.take_append_of_le_length (by rw [outB_len];omega)]
  exact outB_grow key use k d
theorem expandB_eq (key use:List UInt8) (n k:Nat) (hk:k≤255) (h:n≤32 * k):expandB key use n=(outB key use k).take n:=by
 have h1:=outB_grow key use k (255 - k)
 rw [show k + (255 - k)=255 by omega] at h1
 rw [expandB,← h1,List.take_take,Nat.min_eq_left h]
theorem expandB_len (key use:List UInt8) (n:Nat) (h:n≤8160):(expandB key use n).length=n:=by
 rw [expandB,List.length_take,outB_len]
 omega
theorem outB_step (key use:List UInt8) (n k:Nat) (h:32 * k < n):(outB key use (k + 1)).take n=outB key use k ++ (lastB key use (k + 1)).take (min 32 (n - 32 * k)):=by
 rw [outB,List.take_append,List.take_of_length_le (by rw [outB_len];omega),outB_len]
 congr 1
 rcases Nat.le_total 32 (n - 32 * k) with h1 | h1
 ·rw [Nat.min_eq_left h1,List.take_of_length_le (by rw [lastB_len];exact h1),List.take_of_length_le (by rw [lastB_len];exact Nat.le_refl _)]
 ·rw [Nat.min_eq_right h1]
theorem mk8c' (n:Nat) (hn:n≤281474976710656) (w:World) :
  (Instr.makeSlice 23 (.int .i64 0) (.int .i64 (n:Int))).run Tryz.prog w = .ok (.slice (some ⟨w.heap.size,0,none⟩) 0 n) (w.alloc (.cells (rowOf (List.replicate n 0)) 5)):=by
 obtain ⟨i,hi,hz,hsize,hby⟩:=info_parts info8
 have h:=run_make w 23 5 i (.int .u8 0) Tryz.underlying23 hi hz .i64 .i64 0 (n:Int) (by omega) (by omega) (by rw [hby];omega) (by omega)
 rw [hsize,Int.toNat_natCast,Nat.mul_one] at h
 rw [h,← rowOf_made]
 rfl
theorem own_made' (w:World) (base n:Nat) (hb:base≤w.heap.size) (hm:n≤maxLen):Own8 (w.alloc (.cells (rowOf (List.replicate n 0)) 5)) base (.slice (some ⟨w.heap.size,0,none⟩) 0 n) []:=by
 refine ⟨rfl,.inr ⟨w.heap.size,n,_,rfl,hb,heap_alloc_new w _,Nat.zero_le _,hm,?_,rfl⟩⟩
 simp [rowOf]
theorem parts_3 {W:World} {h n1 c1 n2 c2 n3 c3:Nat} {A1 A2 A3:Option Addr} {X Y Z:List UInt8} (hb:Bk W h 23 #[.slice A1 n1 c1,.slice A2 n2 c2,.slice A3 n3 c3]) (hn1:X.length=n1) (hn2:Y.length=n2) (hn3:Z.length=n3) (hX:Rd W W.heap.size A1 X) (hY:Rd W W.heap.size A2 Y) (hZ:Rd W W.heap.size A3 Z) (hc1:n1≤c1) (hm1:c1≤9223372036854775807) (hc2:n2≤c2) (hm2:c2≤9223372036854775807) (hc3:n3≤c3) (hm3:c3≤9223372036854775807):Parts W W.heap.size (some ⟨h,0,none⟩) [X,Y,Z]:=by
 subst hn1 hn2 hn3
 obtain ⟨h0,h1,h2⟩:W.cell? ⟨h,0,none⟩=some (.slice A1 X.length c1)∧W.cell? ⟨h,1,none⟩=some (.slice A2 Y.length c2)∧W.cell? ⟨h,2,none⟩=some (.slice A3 Z.length c3):=by
  have h0:=hb.cell 0
  have h1:=hb.cell 1
  have h2:=hb.cell 2
  simp only [List.getElem?_toArray,List.getElem?_cons_zero,List.getElem?_cons_succ] at h0 h1 h2
  exact ⟨h0,h1,h2⟩
 refine fun _=>⟨h,0,rfl,hb.lt,fun j hj=>?_⟩
 have hj3:j < 3:=hj
 rcases j with _ | _ | _ | j
 ·exact ⟨_,_,h0,hX,hc1,hm1⟩
 ·exact ⟨_,_,h1,hY,hc2,hm2⟩
 ·exact ⟨_,_,h2,hZ,hc3,hm3⟩
 ·omega
def ExpP (w:World) (l:List UInt8) (e:Ending) (w':World):Prop:=∃ A c,e = .returned (.tuple #[.slice A l.length c,.int .i64 0])∧Own8 w' w.heap.size (.slice A l.length c) l∧Below w.heap.size w w'
structure ExJ (w:World) (n j:Nat) (key use:List UInt8) (v8 v9:Value) (W:World):Prop where
 own:Own8 W w.heap.size v8 ((outB key use (j - 1)).take n)
 last:∃ A c,v9 = .slice A (lastB key use (j - 1)).length c∧Rd W W.heap.size A (lastB key use (j - 1))∧(lastB key use (j - 1)).length≤c∧c≤9223372036854775807
 below:Below w.heap.size w W
theorem byte_of (j:Nat):IntKind.u8.wrap (j:Int)=(((UInt8.ofNat j).toNat:Nat):Int):=by
 simp [IntKind.wrap,IntKind.signed,IntKind.bits]
set_option maxHeartbeats 8000000 in
theorem expand_any (w:World) (A9:Option Addr) (n9 c9:Nat) (key:List UInt8) (hn9:key.length=n9) (hk9:n9≤1000000) (hc9:n9≤c9) (hcm9:c9≤9223372036854775807) (hr9:Rd w w.heap.size A9 key)
  (A8:Option Addr) (n8 c8:Nat) (use:List UInt8) (hn8:use.length=n8) (hk8:n8≤1000000) (hc8:n8≤c8) (hcm8:c8≤9223372036854775807) (hr8:Rd w w.heap.size A8 use)
  (n:Nat) (hn:n≤8160) (ht:Tab w) (hg1:2 < w.heap.size) :
  Calls Tryz.prog 99 #[.slice A9 n9 c9,.slice A8 n8 c8,.int .i64 (n:Int)] w (ExpP w (expandB key use n)):=by
 have hmk:=fun W=>mk8c' n (by omega) W
 have hz:=z32
 have hd1:decide ((n:Int) < 0)=false:=decide_eq_false (by omega)
 have hd2:decide ((8160:Int) < (n:Int))=false:=decide_eq_false (by omega)
 have hd3:decide (8160 < n)=false:=decide_eq_false (by omega)
 have HT:=hidj_ ht
 have R9:=hidj_ hr9
 have R8:=hidj_ hr8
 have M9:=hidj_ hn9
 have M8:=hidj_ hn8
 have S0:Hid (ExJ w n 1 key use (.slice (some ⟨w.heap.size,0,none⟩) 0 n) (.slice none 0 0) (w.alloc (.cells (rowOf (List.replicate n 0)) 5))):=hidj_ ⟨by have h:=own_made' w w.heap.size n (Nat.le_refl _) (by unfold maxLen;omega);simpa [outB] using h,⟨none,0,rfl,Rd.nil,by simp [lastB],by omega⟩,(Below.refl _ _).alloc (Nat.le_refl _) _⟩
 have hall:=dig_all
 clear ht hr9 hr8 hn9 hn8
 go_enter Tryz.func99,Tryz.ntmps99
 go_upto_region 6 with fail
 clear hd1 hd2 hd3 hmk
 generalize w.alloc (.cells (rowOf (List.replicate n 0)) 5)=w1 at *
 go_loopw [8,9,10] (fun v8 v9 i wr=>∃ j:Nat,1≤j∧j≤256∧i = .int .i64 j∧Hid (j=1∨32 * (j - 2) < n)∧Hid (ExJ w n j key use v8 v9 wr)) (fun _ _ i _=>256 - (intOf i).toNat)
 case atStart=>exact ⟨1,by omega,by omega,rfl,hidj_ (.inl rfl),S0⟩
 case round =>
  obtain ⟨j,hj0,hj1,rfl,HJ,HS⟩:=hrel
  clear S0
  by_cases hlt:32 * (j - 1) < n
  ·obtain ⟨q,hq⟩:∃ q,Hid (32 * (j - 1)=q):=⟨_,hidj_ rfl⟩
   have hqn:q < n:=by rw [← hq.out];exact hlt
   have hj2:j≤255:=by omega
   have OL:=hidj_ (show (outB key use (j - 1)).length=q by rw [outB_len,hq.out])
   have OT:(outB key use (j - 1)).take n=outB key use (j - 1):=List.take_of_length_le (by rw [OL.out];omega)
   have ho:=HS.out.own
   rw [OT] at ho
   obtain ⟨A1,c1,rfl,-⟩:=ho.form
   obtain ⟨A2,c2,rfl,hr2,hl2,hm2⟩:=HS.out.last
   have HB:=hidj_ HS.out.below
   have hst:=hidj_ (outB_step key use n (j - 1) hlt)
   have hlb:=hidj_ (show lastB key use (j - 1 + 1)=hmacB key (lastB key use (j - 1) ++ use ++ [UInt8.ofNat (j - 1 + 1)]) from rfl)
   rw [show j - 1 + 1=j by omega] at hst hlb
   rw [hq.out] at hst
   have H9:=hidj_ (lastB_le key use (j - 1))
   have LJ:=hidj_ (show (lastB key use j).length=32 by have h:=lastB_len key use (j - 1);rw [show j - 1 + 1=j by omega] at h;exact h)
   generalize lastB key use (j - 1)=p at *
   generalize outB key use (j - 1)=O at *
   obtain ⟨p2,hp2⟩:∃ p2,Hid (p.length=p2):=⟨_,hidj_ rfl⟩
   rw [hp2.out] at hl2 H9 ⊢
   rw [OL.out] at ho ⊢
   have hp32:p2≤32:=H9.out
   have HO:=hidj_ ho
   have H2:=hidj_ hr2
   clear ho hr2 OT HS HJ hlt H9
   obtain ⟨bj,hbj⟩:∃ bj:UInt8,UInt8.ofNat j=bj:=⟨_,rfl⟩
   have hw1:=byte_of j
   rw [hbj] at hw1 hlb
   have hw2:(j:Int) % 256=((bj.toNat:Nat):Int):=by rw [← hw1];simp [IntKind.wrap,IntKind.signed,IntKind.bits]
   clear hbj
   obtain ⟨dg,hdg⟩:∃ dg,lastB key use j=dg:=⟨_,rfl⟩
   rw [hdg] at hst hlb LJ
   have HLJ:=hidj_ hdg
   clear hdg
   have I:=hidj_ (show (Tryz.prog.info? 22).map (·.size)=some (rowOf dg).size by rw [rowOf_size,LJ.out];exact i32_)
   have Q:=hidj_ (show (rowOf (zbytes 32)).size=(rowOf dg).size by rw [rowOf_size,rowOf_size,LJ.out,zbytes_len])
   obtain ⟨w2,hw2e⟩:∃ w2,wr.alloc (.cells #[.int .u8 ((bj.toNat:Nat):Int)] 5)=w2:=⟨_,rfl⟩
   obtain ⟨w3,hw3e⟩:∃ w3,w2.alloc (.cells #[.slice A2 p2 c2,.slice A8 n8 c8,.slice (some ⟨wr.heap.size,0,none⟩) 1 1] 23)=w3:=⟨_,rfl⟩
   have b2:Below wr.heap.size wr w2:=by rw [← hw2e];exact (Below.refl _ _).alloc (Nat.le_refl _) _
   have b3:Below w2.heap.size w2 w3:=by rw [← hw3e];exact (Below.refl _ _).alloc (Nat.le_refl _) _
   have b23:=hidj_ (b2.trans (b3.mono b2.size))
   have rb:Rd w2 w2.heap.size (some ⟨wr.heap.size,0,none⟩) [bj]:=by rw [← hw2e];exact (Blk8.new wr [bj]).rd (by simp)
   have k3:Bk w3 w2.heap.size 23 #[.slice A2 p2 c2,.slice A8 n8 c8,.slice (some ⟨wr.heap.size,0,none⟩) 1 1]:=by rw [← hw3e];exact Bk.new w2 _ _
   have X3:=hidj_ (HB.out.trans (b23.out.mono HB.out.size))
   have hpp:=parts_3 k3 hp2.out M8.out (show [bj].length=1 from rfl) ((H2.out.below b23.out).more b23.out.size) ((R8.out.below X3.out).more X3.out.size) ((rb.below b3).more b3.size) hl2 hm2 hc8 hcm8 (Nat.le_refl 1) (by omega)
   have ch:=hmac_any w3 A9 n9 c9 key M9.out (by omega) hc9 hcm9 ((R9.out.below X3.out).more X3.out.size) (some ⟨w2.heap.size,0,none⟩) 3 3 [p,use,[bj]] rfl hpp (by omega) (by simp [hp2.out,M8.out];omega) (fun t h=>(X3.out.cell (p:=⟨_,t,none⟩) hg1).trans (HT.out t h)) (Nat.lt_of_lt_of_le hg1 X3.out.size)
   rw [show ([p,use,[bj]]:List (List UInt8)).flatten=p ++ use ++ [bj] by simp,← hlb.out] at ch
   have O3:=hidj_ (HO.out.below b23.out (Nat.le_refl _))
   have hd1:decide ((q:Int) < (n:Int))=true:=decide_eq_true (by omega)
   have hd2:decide (q < n)=true:=decide_eq_true hqn
   obtain ⟨r,hr⟩:∃ r,n - q=r:=⟨_,rfl⟩
   obtain ⟨m,hm⟩:∃ m,m=min 32 r:=⟨_,rfl⟩
   have r1:IntKind.i64.wrap ((n:Int) - (q:Int))=(r:Int):=by rw [IntWalk.i64_in _ (by omega)];omega
   have hmn:=fun W=>run_min2 32 r m hm W
   rw [show ((32:Nat):Int)=32 from rfl] at hmn
   have hm32:m≤32:=by omega
   have hqm:q + m≤n:=by omega
   have hsl:=fun D W=>slice_to (some ⟨D,0,none⟩) 32 32 (m:Int) m rfl (by omega) W
   rw [hr,← hm] at hst
   clear b2 b3 rb k3 hpp hr hm HO H2 HB
   go_wp2_with (first
    | (go_at_call 83;((with_reducible refine ch.mono ?_);rintro e w5 ⟨rfl,hb⟩;have X5:=hidj_ (X3.out.trans (hb.mono X3.out.size));have O5:=hidj_ (O3.out.below hb (Nat.le_refl _));clear hb ch))
    | (refine wpList_put_row rfl 22 _ _ rfl w5.heap.size (rowOf dg) rfl rfl 22 (rowOf (zbytes 32)) (Bk.new w5 _ _) I.out Q.out (bytes_one _) ?_;intro w6 k6 g6 s6;have BX:Below w5.heap.size w5 w6:=(((Below.refl w5.heap.size w5).alloc (Nat.le_refl _) (.cells (rowOf (zbytes 32)) 22)).grown g6 (by simp) (fun k hk=>by injection hk with hk;omega));have X6:=hidj_ (X5.out.trans (BX.mono X5.out.size));have O6:=hidj_ (O5.out.below BX (Nat.le_refl _));have D6:=hidj_ k6;clear k6 g6 s6 BX)
    | (at_builtin;refine wpList_app rfl (.tmp 35) (.tmp 44) rfl O6.out rfl m 32 rfl ((D6.out.rd D6.out.lt).take m) (by rw [List.length_take,LJ.out];omega) (by rw [OL.out];omega) X6.out.size ?_;(intro A7 c7 w7 k1 k2 k3;rw [OL.out] at k1 ⊢;have O7:=hidj_ k1;have X7:=hidj_ (X6.out.grown k2 X6.out.size (fun k hk=>(World.ownsRow.lt O6.out k hk).1));have D7:=hidj_ (D6.out.grown k2 (fun e=>by first | (have h:=(World.ownsRow.lt O5.out _ e).2;omega) | (have h:=(World.ownsRow.lt O5.out _ e.symm).2;omega)));clear k1 k2 k3)))
   go_roundw
   case rel =>
    refine ⟨j + 1,by omega,by omega,by go_num,hidj_ (.inr ?_),hidj_ ⟨?_,⟨some ⟨w5.heap.size,0,none⟩,32,?_,?_,?_,by omega⟩,X7.out⟩⟩
    ·have:=hq.out
     omega
    ·rw [Nat.add_sub_cancel,hst.out]
     exact O7.out
    ·rw [Nat.add_sub_cancel,HLJ.out,LJ.out]
    ·rw [Nat.add_sub_cancel,HLJ.out]
     exact D7.out.rd D7.out.lt
    ·rw [Nat.add_sub_cancel,HLJ.out,LJ.out]
     exact Nat.le_refl _
   case measure=>simp [intOf];omega
  ·have hjn:n≤32 * (j - 1):=by omega
   have hj256:j - 1≤255:=by omega
   have he:=expandB_eq key use n (j - 1) hj256 hjn
   have ho:=HS.out.own
   rw [← he] at ho
   have EL:=hidj_ (expandB_len key use n hn)
   obtain ⟨A1,c1,rfl,-⟩:=ho.form
   obtain ⟨A2,c2,rfl,-⟩:=HS.out.last
   have HB:=hidj_ HS.out.below
   have HO:=hidj_ ho
   generalize (lastB key use (j - 1)).length=p2 at *
   clear ho he HS HJ hlt hjn
   rw [EL.out]
   have HO2:Hid (Own8 wr w.heap.size (.slice A1 n c1) (expandB key use n)):=hidj_ (by have h:=HO.out;rw [EL.out] at h;exact h)
   have hd1:decide ((n:Int) < (n:Int))=false:=decide_eq_false (by omega)
   go_wp2
   go_ret2
   exact ⟨A1,c1,by simp [EL.out],by rw [EL.out];exact HO2.out,HB.out⟩
theorem OwnT.capT {w:World} {base:Nat} {A:Option Addr} {n c:Nat} {l:List UInt8} (h:OwnT w base (.slice A n c) l):n≤c∧c≤9223372036854775807:=by
 rcases h with ⟨hv,rfl⟩ | ⟨g,cap,cur,fz,hv,_,_,_,h1,h2,_⟩
 ·injection hv with _ h2 h3
  omega
 ·injection hv with _ h3 h4
  unfold maxLen at h2
  omega
set_option maxHeartbeats 1000000 in
theorem refoneH (w:World) (k:Nat) (hk:k < 256):Calls Tryz.prog 109 #[.int .i64 (k:Int)] w fun e w'=>e = .returned (.string (strOf [UInt8.ofNat k]))∧Below w.heap.size w w':=by
 have hw:IntKind.u8.wrap (k:Int)=(k:Int):=by simp [IntKind.wrap,IntKind.signed,IntKind.bits];omega
 have hm:(k:Int) % 256=(k:Int):=by omega
 have hcv:=conv_one k w
 rw [show k % 256=k by omega,hm] at hcv
 have HB:=hidj_ ((Below.refl w.heap.size w).alloc (Nat.le_refl _) (.cells #[.int .u8 (k:Int)] 5))
 go_enter Tryz.func109,Tryz.ntmps109
 go_wp2
 go_ret
 exact ⟨rfl,HB.out⟩
set_option maxHeartbeats 8000000 in
theorem refExpand_any (w:World) (key use:List UInt8) (hk:key.length≤100000) (hu:use.length≤100000) (n:Nat) (hn:n≤8160) :
  Calls Tryz.prog 90 #[.string (strOf key),.string (strOf use),.int .i64 (n:Int)] w fun e w'=>e = .returned (.string (strOf (expandB key use n)))∧Below w.heap.size w w':=by
 have e0:(⟨#[]⟩:ByteArray)=strOf (lastB key use 0):=rfl
 have S0:Hid (OwnT w w.heap.size (.slice none 0 0) (outB key use 0)):=hidj_ (.inl ⟨rfl,rfl⟩)
 have B0:=hidj_ (Below.refl w.heap.size w)
 have UL:=hidj_ hu
 have KL:=hidj_ hk
 go_enter Tryz.func90,Tryz.ntmps90
 go_upto_region 4 with fail
 go_loopw [7,8,9] (fun v7 v8 i wr=>∃ j:Nat,1≤j∧j≤256∧i = .int .i64 j∧v8 = .string (strOf (lastB key use (j - 1)))∧Hid (OwnT wr w.heap.size v7 (outB key use (j - 1)))∧Hid (Below w.heap.size w wr)) (fun _ _ i _=>256 - (intOf i).toNat)
 case atStart=>exact ⟨1,by omega,by omega,rfl,rfl,S0,B0⟩
 case round =>
  obtain ⟨j,hj0,hj1,rfl,rfl,HO,HB⟩:=hrel
  clear S0 B0 e0
  have OL0:=outB_len key use (j - 1)
  obtain ⟨A1,c1,rfl⟩:=HO.out.form
  obtain ⟨q,hq⟩:∃ q,Hid (32 * (j - 1)=q):=⟨_,hidj_ rfl⟩
  rw [hq.out] at OL0
  have OL:=hidj_ OL0
  by_cases hlt:q < n
  ·have hj2:j < 256:=by have:=hq.out;omega
   have hst:=hidj_ (show outB key use (j - 1 + 1)=outB key use (j - 1) ++ lastB key use (j - 1 + 1) from rfl)
   have hlb:=hidj_ (show lastB key use (j - 1 + 1)=hmacB key (lastB key use (j - 1) ++ use ++ [UInt8.ofNat (j - 1 + 1)]) from rfl)
   rw [show j - 1 + 1=j by omega] at hst hlb
   have LJ:=hidj_ (show (lastB key use j).length=32 by have h:=lastB_len key use (j - 1);rw [show j - 1 + 1=j by omega] at h;exact h)
   have H9:=lastB_le key use (j - 1)
   have HO1:=HO.out
   generalize lastB key use (j - 1)=p at *
   generalize outB key use (j - 1)=O at *
   rw [OL.out] at HO1 ⊢
   have HO2:=hidj_ HO1
   have c1':=fun W=>refoneH W j hj2
   have ha1:=strOf_append p use
   have ha2:=strOf_append (p ++ use) [UInt8.ofNat j]
   generalize UInt8.ofNat j=bj at *
   have z1:(strOf p).size + (strOf use).size≤9223372036854775807:=by rw [strOf_size,strOf_size];omega
   have z2:(strOf (p ++ use)).size + (strOf [bj]).size≤9223372036854775807:=by rw [strOf_size,strOf_size,List.length_append];simp;omega
   have cs:=fun W=>refHmac_any W key (p ++ use ++ [bj]) (by have:=KL.out;omega) (by have:=UL.out;simp;omega)
   rw [← hlb.out] at cs
   simp only [List.append_assoc] at cs
   obtain ⟨dg,hdg⟩:∃ dg,lastB key use j=dg:=⟨_,rfl⟩
   rw [hdg] at hst hlb LJ cs
   have HLJ:=hidj_ hdg
   have hd1:decide ((q:Int) < (n:Int))=true:=decide_eq_true (by omega)
   have hd2:decide (q < n)=true:=decide_eq_true hlt
   clear hdg OL0 HO1 HO H9
   go_wp2_with (first
    | (go_at_call 109;((with_reducible refine (c1' _).mono ?_);rintro e w2 ⟨rfl,hb⟩;have X2:=hidj_ (HB.out.trans (hb.mono HB.out.size));have O2:=hidj_ (HO2.out.below hb (Nat.le_refl _));clear hb))
    | (go_at_call 89;((with_reducible refine (cs _).mono ?_);rintro e w3 ⟨rfl,hb⟩;have X3:=hidj_ (X2.out.trans (hb.mono X2.out.size));have O3:=hidj_ (O2.out.below hb (Nat.le_refl _));clear hb))
    | (at_builtin;refine wpList_appS rfl (.tmp 24) (.tmp 25) rfl O3.out rfl dg 32 rfl LJ.out (by rw [OL.out];omega) X3.out.size ?_;(intro A7 c7 w7 k1 k2;rw [OL.out] at k1 ⊢;have O7:=hidj_ k1;have X7:=hidj_ (X3.out.grown k2 X3.out.size (fun k hk=>(O3.out.lt k hk).1));clear k1 k2)))
   go_roundw
   case rel=>exact ⟨j + 1,by omega,by omega,by go_num,by rw [Nat.add_sub_cancel,HLJ.out],hidj_ (by rw [Nat.add_sub_cancel,hst.out];exact O7.out),X7⟩
   case measure=>simp [intOf];omega
  ·have HE:=hidj_ (expandB_eq key use n (j - 1) (by omega) (by have:=hq.out;omega))
   have HO1:=HO.out
   generalize lastB key use (j - 1)=p at *
   generalize outB key use (j - 1)=O at *
   rw [OL.out] at HO1 ⊢
   obtain ⟨hc0,hc1⟩:=HO1.capT
   have hsl:=fun W=>slice_to A1 q c1 (n:Int) n rfl (by omega) W
   have hcv:=conv_strn (HO1.rd.1.take n) n c1 (by rw [List.length_take,OL.out];omega)
   have hd1:decide ((q:Int) < (n:Int))=false:=decide_eq_false (by omega)
   have hd2:decide (q < n)=false:=decide_eq_false hlt
   clear OL0
   go_wp2
   go_ret
   exact ⟨by rw [HE.out];rfl,HB.out⟩
theorem parts_1m {W:World} {h n1 c1:Nat} {A1:Option Addr} {X:List UInt8} (hb:Bk W h 23 #[.slice A1 n1 c1]) (hn1:X.length=n1) (hX:Rd W W.heap.size A1 X) (hc1:n1≤c1) (hm1:c1≤9223372036854775807):Parts W W.heap.size (some ⟨h,0,none⟩) [X]:=by
 subst hn1
 have h0:=hb.cell 0
 simp only [List.getElem?_toArray,List.getElem?_cons_zero] at h0
 refine fun _=>⟨h,0,rfl,hb.lt,fun j hj=>?_⟩
 have hj3:j < 1:=hj
 obtain rfl:j=0:=by omega
 exact ⟨_,_,h0,hX,hc1,hm1⟩
theorem i32r (l:List UInt8) (h:l.length=32):(Tryz.prog.info? 22).map (·.size)=some (rowOf l).size:=by rw [rowOf_size,h];exact i32_
theorem at32 (A:Option Addr) (c:Nat) (W:World):(Instr.arrayAt 22 (.slice A 32 c)).run Tryz.prog W = .ok (.pointer A) W:=run_arrayAt W 22 5 32 A 32 c Tryz.underlying22 (Nat.le_refl _)
set_option maxHeartbeats 4000000 in
theorem keyFor_any (w:World) (m:List UInt8) (hm:m.length=32)
  (A8:Option Addr) (n8 c8:Nat) (use:List UInt8) (hn8:use.length=n8) (hk8:n8≤1000000) (hc8:n8≤c8) (hcm8:c8≤9223372036854775807) (hr8:Rd w w.heap.size A8 use)
  (ht:Tab w) (hg1:2 < w.heap.size) :
  Calls Tryz.prog 82 #[.agg (rowOf m),.slice A8 n8 c8] w fun e w'=>e = .returned (.tuple #[.agg (rowOf (expandB m use 32)),.int .i64 0])∧Below w.heap.size w w':=by
 have hz:=z32
 obtain ⟨r,hre⟩:∃ r,w.heap.size=r:=⟨_,rfl⟩
 obtain ⟨wm,hwm⟩:∃ wm,w.alloc (.cells (rowOf m) 22)=wm:=⟨_,rfl⟩
 have Bm:Below r w wm:=by rw [← hwm,← hre];exact (Below.refl w.heap.size w).alloc (Nat.le_refl _) _
 have Km:Bk wm r 22 (rowOf m):=by rw [← hwm,← hre];exact Bk.new w _ _
 have Sm:wm.heap.size=r + 1:=by rw [← hwm,← hre];simp
 obtain ⟨w0,hw0⟩:∃ w0,wm.alloc (.cells (rowOf (zbytes 32)) 22)=w0:=⟨_,rfl⟩
 have B0:Below wm.heap.size wm w0:=by rw [← hw0];exact (Below.refl _ _).alloc (Nat.le_refl _) _
 have R0:Bk w0 (r + 1) 22 (rowOf (zbytes 32)):=by rw [← Sm,← hw0];exact Bk.new wm _ _
 have K0:=Km.below B0 Km.lt
 have X0:Below r w w0:=Bm.trans (B0.mono (by have:=Bm.size;omega))
 have S0:r≤w0.heap.size:=by have:=R0.lt;omega
 rw [hre] at hg1 hr8
 have ce:Calls Tryz.prog 99 #[.slice (some ⟨r,0,none⟩) 32 32,.slice A8 n8 c8,.int .i64 32] w0 (ExpP w0 (expandB m use 32)) :=
  expand_any w0 (some ⟨r,0,none⟩) 32 32 m hm (by omega) (Nat.le_refl _) (by omega) (K0.rd K0.lt) A8 n8 c8 use hn8 hk8 hc8 hcm8 ((hr8.below X0).more S0) 32 (by omega) (fun t h=>(X0.cell (p:=⟨_,t,none⟩) hg1).trans (ht t h)) (by omega)
 obtain ⟨L,hL⟩:∃ L,expandB m use 32=L:=⟨_,rfl⟩
 have LL:=hidj_ (show L.length=32 by rw [← hL];exact expandB_len _ _ _ (by omega))
 rw [hL] at ce ⊢
 have I:=hidj_ (i32r L LL.out)
 have Q:=hidj_ (show (rowOf (zbytes 32)).size=(rowOf L).size by rw [rowOf_size,rowOf_size,LL.out,zbytes_len])
 have RR:=hidj_ R0
 have XX:=hidj_ X0
 have HRE:=hidj_ hre
 have SS:=hidj_ S0
 have hall:=dig_all
 have hat:=at32
 clear hL ht hr8 Bm Km B0 R0 K0 X0 S0 hn8 hm
 go_enter Tryz.func82,Tryz.ntmps82
 go_wp2_with (first
  | (go_at_call 99;((with_reducible refine ce.mono ?_);rintro e w5 ⟨A5,c5,rfl,ho,hb⟩;rw [LL.out] at ho ⊢;obtain ⟨g5,rfl⟩:=ho.block_ (by omega);have O5:=hidj_ ho;have R5:=hidj_ (RR.out.below hb RR.out.lt);have X5:=hidj_ (XX.out.trans (hb.mono SS.out));clear hb ho ce;have C5:=hidj_ (fun j (hj:j < (rowOf L).size)=>(show w5.cell? ⟨g5,0 + j,none⟩=(rowOf L)[j]? by rw [rowOf_size] at hj;rw [Nat.zero_add,O5.out.cellz j (by rw [LL.out] at hj;exact hj),rowOf_at _ _ hj]))))
  | (refine wpList_load_sub rfl 22 _ rfl g5 0 rfl (rowOf L) C5.out _ Tryz.underlying22 rfl I.out ?_)
  | (refine wpList_put_row rfl 22 _ _ rfl (r + 1) (rowOf L) rfl rfl 22 (rowOf (zbytes 32)) R5.out I.out Q.out (bytes_one _) ?_;intro W9 k9 g9 s9))
 exact bodyPost_ret (results_cell_slot Tryz.results82 _ _ (r + 1) rfl rfl (run_loadVar_row _ _ _ _ _ (0,0) _ k9 Tryz.underlying22 rfl I.out)) rfl ⟨rfl,by rw [HRE.out];exact X5.out.grown g9 (by have:=X5.out.size;omega) (fun k hk=>by injection hk with hk;omega)⟩
section
variable (w : World) (g o n : Nat)
theorem freeze_os:(w.freeze ⟨g,o,none⟩ n).os=w.os:=by unfold World.freeze;split <;> rfl
theorem freeze_tape:(w.freeze ⟨g,o,none⟩ n).tape=w.tape:=by unfold World.freeze;split <;> rfl
theorem freeze_output:(w.freeze ⟨g,o,none⟩ n).output=w.output:=by unfold World.freeze;split <;> rfl
theorem freeze_size:(w.freeze ⟨g,o,none⟩ n).heap.size=w.heap.size:=by unfold World.freeze;split <;> simp
theorem freeze_other (k:Nat) (h:k≠g):(w.freeze ⟨g,o,none⟩ n).heap[k]? = w.heap[k]?:=by
 unfold World.freeze
 split
 ·rfl
 ·simp only [Array.getElem?_modify]
  rw [if_neg (by omega)]
theorem freeze_cell (p:Addr):(w.freeze ⟨g,o,none⟩ n).cell? p=w.cell? p:=by
 by_cases hn:n=0
 ·simp [World.freeze,hn]
 ·by_cases h:p.block=g
  ·unfold World.freeze World.cell?
   rw [if_neg hn]
   simp only [Array.getElem?_modify,h,if_true]
   cases w.heap[g]? with
   | none=>rfl
   | some b=>cases b <;> rfl
  ·unfold World.cell?
   rw [freeze_other w g o n p.block h]
theorem freeze_shape (k:Nat):(w.freeze ⟨g,o,none⟩ n).shape? k=w.shape? k:=by
 by_cases hn:n=0
 ·simp [World.freeze,hn]
 ·by_cases h:k=g
  ·unfold World.freeze World.shape?
   rw [if_neg hn]
   simp only [Array.getElem?_modify,h,if_true]
   cases w.heap[g]? with
   | none=>rfl
   | some b=>cases b <;> rfl
  ·unfold World.shape?
   rw [freeze_other w g o n k h]
end
theorem Below.freeze_ {B g:Nat} {a w:World} (h:Below B a w) (hg:B≤g) (o n:Nat):Below B a (w.freeze ⟨g,o,none⟩ n) :=
 h.trans ⟨freeze_os _ _ _ _,freeze_tape _ _ _ _,freeze_output _ _ _ _,by rw [freeze_size];exact Nat.le_refl _,fun k hk=>freeze_other _ _ _ _ _ (by omega)⟩
theorem Bk.freeze_ {w:World} {k g:Nat} {ty:TypeId} {cs:Array Value} (h:Bk w k ty cs) (hg:k≠g) (o n:Nat):Bk (w.freeze ⟨g,o,none⟩ n) k ty cs:=(freeze_other w g o n k hg).trans h
theorem run_convert_mark (W:World) (g n c sz:Nat) (hsh:W.shape? g=some (5,sz)) :
  (convert 23 23 (.slice (some ⟨g,0,none⟩) n c)).run Tryz.prog W = .ok (.slice (some ⟨g,0,none⟩) n c) (W.freeze ⟨g,sz,none⟩ 1):=by
 simp [convert,run_underlying Tryz.underlying23,run_underlying Tryz.underlying5,markStringish,hsh]
structure Kp (rc:Nat) (W W':World):Prop where
 size:W.heap.size≤W'.heap.size
 cell:∀ p v,p.block≠rc→W.cell? p=some v→W'.cell? p=some v
 shape:∀ g s,g≠rc→W.shape? g=some s→W'.shape? g=some s
theorem Kp.refl (rc:Nat) (W:World):Kp rc W W:=⟨Nat.le_refl _,fun _ _ _ h=>h,fun _ _ _ h=>h⟩
theorem cell_lt {W:World} {p:Addr} {v:Value} (h:W.cell? p=some v):p.block < W.heap.size:=by
 rcases Nat.lt_or_ge p.block W.heap.size with h1 | h1
 ·exact h1
 ·simp [World.cell?,Array.getElem?_eq_none h1] at h
theorem shape_lt {W:World} {g:Nat} {s:TypeId × Nat} (h:W.shape? g=some s):g < W.heap.size:=by
 rcases Nat.lt_or_ge g W.heap.size with h1 | h1
 ·exact h1
 ·simp [World.shape?,Array.getElem?_eq_none h1] at h
theorem shape_block {W W':World} {g:Nat} (h:W'.heap[g]? = W.heap[g]?):W'.shape? g=W.shape? g:=by unfold World.shape?;rw [h]
theorem Kp.of_below {rc:Nat} {W W':World} (h:Below W.heap.size W W'):Kp rc W W' :=
 ⟨h.size,fun p v _ hc=>(h.cell (cell_lt hc)).trans hc,fun g s _ hs=>(shape_block (h.block g (shape_lt hs))).trans hs⟩
theorem Kp.freeze (rc:Nat) (W:World) (g o n:Nat):Kp rc W (W.freeze ⟨g,o,none⟩ n) :=
 ⟨by rw [freeze_size];exact Nat.le_refl _,fun p v _ hc=>by rw [freeze_cell];exact hc,fun k s _ hs=>by rw [freeze_shape];exact hs⟩
theorem Kp.of_grown {rc:Nat} {W W':World} (h:W.grownBy W' (some rc)):Kp rc W W' :=
 ⟨h.size,fun p v hp hc=>(World.cell?_of_block (h.block p.block (cell_lt hc) (fun e=>hp (by injection e)))).trans hc,fun g s hg hs=>(shape_block (h.block g (shape_lt hs) (fun e=>hg (by injection e)))).trans hs⟩
theorem RdF.kp {W W':World} {rc:Nat} {A:Option Addr} {l:List UInt8} (h:RdF W [rc] A l) (k:Kp rc W W'):RdF W' [rc] A l:=fun hn=>by
 obtain ⟨b,off,e,hb,hlt,hc⟩:=h hn
 exact ⟨b,off,e,hb,Nat.lt_of_lt_of_le hlt k.size,fun j hj=>k.cell _ _ (by simpa using hb) (hc j hj)⟩
theorem RdF.of_block {W:World} {g rc:Nat} {l:List UInt8} (h:Blk8 W g l) (hg:g≠rc):RdF W [rc] (some ⟨g,0,none⟩) l:=fun _ =>
 ⟨g,0,rfl,by simpa using hg,h.lt,fun j hj=>by rw [Nat.zero_add];exact h.cell j hj⟩
theorem RdF.of_own {W:World} {B m c rc:Nat} {A:Option Addr} {y:List UInt8} (hO:Own8 W B (.slice A m c) y) (h:rc < B):RdF W [rc] A y:=fun hn=>by
 obtain ⟨_,_,_,_,hbd⟩:=hO.form
 obtain ⟨b,off,e,hlt,hc⟩:=hO.rd.1 hn
 refine ⟨b,off,e,fun hm=>?_,hlt,hc⟩
 have h1:=(hbd b (by rw [e];rfl)).1
 have h2:b=rc:=by simpa using hm
 omega
def sealU:List UInt8:=[115,101,97,108]
def sealUse (k:Nat):List UInt8:=sealU ++ highB 8 k
def blindU:List UInt8:=[98,108,105,110,100]
def sealK (m:List UInt8) (k:Nat):List UInt8:=expandB m (sealUse k) 32
def blindK (m name:List UInt8):List UInt8:=hmacB (expandB m blindU 32) name
theorem sealK_len (m:List UInt8) (k:Nat):(sealK m k).length=32:=expandB_len _ _ _ (by omega)
theorem blindK_len (m name:List UInt8):(blindK m name).length=32:=hmacB_len _ _
theorem sealUse_len (k:Nat):(sealUse k).length=12:=by rw [sealUse,List.length_append,highB_len];rfl
def KsR (rc:Nat) (M u1 u2 use L:List UInt8) (z:Int):Nat→Value→World→Prop
 | 0,v,_=>v = .agg (rowOf M)
 | 1,v,W=>∃ g,v = .slice (some ⟨g,0,none⟩) 4 4∧rc < g∧RdF W [rc] (some ⟨g,0,none⟩) u1∧W.shape? g=some (5,4)
 | 2,v,W=>∃ g,v = .slice (some ⟨g,0,none⟩) 4 4∧RdF W [rc] (some ⟨g,0,none⟩) u1
 | 3,v,_=>v = .int .i64 z
 | 4,v,_=>v = .int .u64 z
 | 5,v,W=>∃ g,v = .slice (some ⟨g,0,none⟩) 8 8∧RdF W [rc] (some ⟨g,0,none⟩) u2
 | 6,v,W=>∃ q g1 g2,v = .slice (some ⟨q,0,none⟩) 2 2∧q≠rc∧q < W.heap.size∧W.cell? ⟨q,0,none⟩=some (.slice (some ⟨g1,0,none⟩) 4 4)∧W.cell? ⟨q,1,none⟩=some (.slice (some ⟨g2,0,none⟩) 8 8)∧RdF W [rc] (some ⟨g1,0,none⟩) u1∧RdF W [rc] (some ⟨g2,0,none⟩) u2
 | 7,v,W=>∃ A c,v = .slice A 12 c∧RdF W [rc] A use∧12≤c∧c≤9223372036854775807
 | 8,v,_=>v = .tuple #[.agg (rowOf L),.int .i64 0]
 | 9,v,_=>v = .agg (rowOf L)
 | 10,v,_=>v = .int .i64 0
 | 12,v,_=>v = .int .i64 0
 | _,_,_=>True
theorem KsR.stable {rc:Nat} {M u1 u2 use L:List UInt8} {z:Int} {W W':World} (hT:Kp rc W W'):∀ (j:Nat) (v:Value),KsR rc M u1 u2 use L z j v W→KsR rc M u1 u2 use L z j v W'
 | 0,_,h=>h
 | 1,_,h=>by
  obtain ⟨g,h1,h2,h3,h4⟩:=h
  exact ⟨g,h1,h2,h3.kp hT,hT.shape g _ (by omega) h4⟩
 | 2,_,h=>by
  obtain ⟨g,h1,h2⟩:=h
  exact ⟨g,h1,h2.kp hT⟩
 | 3,_,h=>h
 | 4,_,h=>h
 | 5,_,h=>by
  obtain ⟨g,h1,h2⟩:=h
  exact ⟨g,h1,h2.kp hT⟩
 | 6,_,h=>by
  obtain ⟨q,g1,g2,h1,h2,h3,h4,h5,h6,h7⟩:=h
  exact ⟨q,g1,g2,h1,h2,Nat.lt_of_lt_of_le h3 hT.size,hT.cell _ _ h2 h4,hT.cell _ _ h2 h5,h6.kp hT,h7.kp hT⟩
 | 7,_,h=>by
  obtain ⟨A,c,h1,h2,h3⟩:=h
  exact ⟨A,c,h1,h2.kp hT,h3⟩
 | 8,_,h=>h
 | 9,_,h=>h
 | 10,_,h=>h
 | 11,_,_=>trivial
 | 12,_,h=>h
 | _ + 13,_,_=>trivial
structure KsC (w:World) (r:Nat) (M:List UInt8) (W:World):Prop where
 below:Below r w W
 m:Bk W r 22 (rowOf M)
 lt:r + 1 < W.heap.size
theorem KsC.keep {w:World} {r:Nat} {M:List UInt8} {W W':World} (h:KsC w r M W) (hb:Below W.heap.size W W'):KsC w r M W' :=
 ⟨h.below.trans (hb.mono (by have:=h.lt;omega)),h.m.below hb h.m.lt,Nat.lt_of_lt_of_le h.lt hb.size⟩
theorem KsC.freeze {w:World} {r:Nat} {M:List UInt8} {W:World} (h:KsC w r M W) (g o n:Nat) (hg:r < g):KsC w r M (W.freeze ⟨g,o,none⟩ n) :=
 ⟨Below.freeze_ h.below (by omega) o n,Bk.freeze_ h.m (by omega) o n,by rw [freeze_size];exact h.lt⟩
def KsJ (rc:Nat) (L:List UInt8) (D:Nat→Bool) (W:World):Prop:=(D 11=false→Bk W rc 22 (rowOf (zbytes 32)))∧(D 11=true→Bk W rc 22 (rowOf L))
theorem KsJ.same {rc:Nat} {L:List UInt8} {D:Nat→Bool} {W W':World} (h:KsJ rc L D W) (hb:Below W.heap.size W W') (i:Nat) (h5:i≠11):KsJ rc L (fun j=>decide (j=i) || D j) W':=by
 have a5:=orf_ne (L:=D) (i:=i) (fun e:11=i=>h5 e.symm)
 unfold KsJ
 simp only [a5]
 exact ⟨fun e=>(h.1 e).below hb (h.1 e).lt,fun e=>(h.2 e).below hb (h.2 e).lt⟩
theorem KsJ.freeze {rc:Nat} {L:List UInt8} {D:Nat→Bool} {W:World} (h:KsJ rc L D W) (g o n:Nat) (hg:rc≠g) (i:Nat) (h5:i≠11):KsJ rc L (fun j=>decide (j=i) || D j) (W.freeze ⟨g,o,none⟩ n):=by
 have a5:=orf_ne (L:=D) (i:=i) (fun e:11=i=>h5 e.symm)
 unfold KsJ
 simp only [a5]
 exact ⟨fun e=>Bk.freeze_ (h.1 e) hg o n,fun e=>Bk.freeze_ (h.2 e) hg o n⟩
theorem kseal_no1 (w:World) (m:List UInt8) (z:Int) (h:z < 1) :
  Calls Tryz.prog 86 #[.agg (rowOf m),.int .i64 z] w fun e w'=>e = .returned (.tuple #[.agg (rowOf (zbytes 32)),.int .i64 1])∧Below w.heap.size w w':=by
 have hz:=z32
 have BK:=hidn_ (Bk.new (w.alloc (.cells (rowOf m) 22)) 22 (rowOf (zbytes 32)))
 have e1:(w.alloc (.cells (rowOf m) 22)).heap.size=w.heap.size + 1:=by simp
 have I:=hidn_ (i32r (zbytes 32) (zbytes_len 32))
 have HB:=hidn_ (((Below.refl w.heap.size w).alloc (Nat.le_refl _) (.cells (rowOf m) 22)).alloc (by omega) (.cells (rowOf (zbytes 32)) 22))
 rw [e1] at BK
 have d1:decide (z < 1)=true:=decide_eq_true h
 clear h
 generalize rowOf m=M at *
 go_enter Tryz.func86,Tryz.ntmps86
 go_wp2_with (first
  | (refine wpList_built rfl 22 _ rfl (rowOf (zbytes 32)) (by kernel_rfl) ?_)
  | (refine wpList_put_row rfl 22 _ _ rfl (w.heap.size + 1) (rowOf (zbytes 32)) rfl rfl 22 (rowOf (zbytes 32)) BK.out I.out rfl (bytes_one _) ?_;intro W9 k9 g9 s9))
 exact bodyPost_ret (results_cell_slot Tryz.results86 _ _ (w.heap.size + 1) rfl rfl (run_loadVar_row _ _ _ _ _ (0,0) _ k9 Tryz.underlying22 rfl I.out)) rfl ⟨rfl,HB.out.grown g9 HB.out.size (fun k hk=>by injection hk with hk;omega)⟩
theorem kseal_no2 (w:World) (m:List UInt8) (z:Int) (h:1≤z) (h2:1048576 < z) :
  Calls Tryz.prog 86 #[.agg (rowOf m),.int .i64 z] w fun e w'=>e = .returned (.tuple #[.agg (rowOf (zbytes 32)),.int .i64 1])∧Below w.heap.size w w':=by
 have hz:=z32
 have BK:=hidn_ (Bk.new (w.alloc (.cells (rowOf m) 22)) 22 (rowOf (zbytes 32)))
 have e1:(w.alloc (.cells (rowOf m) 22)).heap.size=w.heap.size + 1:=by simp
 have I:=hidn_ (i32r (zbytes 32) (zbytes_len 32))
 have HB:=hidn_ (((Below.refl w.heap.size w).alloc (Nat.le_refl _) (.cells (rowOf m) 22)).alloc (by omega) (.cells (rowOf (zbytes 32)) 22))
 rw [e1] at BK
 have d1:decide (z < 1)=false:=decide_eq_false (by omega)
 have d2:decide (1048576 < z)=true:=decide_eq_true h2
 clear h h2
 generalize rowOf m=M at *
 go_enter Tryz.func86,Tryz.ntmps86
 go_wp2_with (first
  | (refine wpList_built rfl 22 _ rfl (rowOf (zbytes 32)) (by kernel_rfl) ?_)
  | (refine wpList_put_row rfl 22 _ _ rfl (w.heap.size + 1) (rowOf (zbytes 32)) rfl rfl 22 (rowOf (zbytes 32)) BK.out I.out rfl (bytes_one _) ?_;intro W9 k9 g9 s9))
 exact bodyPost_ret (results_cell_slot Tryz.results86 _ _ (w.heap.size + 1) rfl rfl (run_loadVar_row _ _ _ _ _ (0,0) _ k9 Tryz.underlying22 rfl I.out)) rfl ⟨rfl,HB.out.grown g9 HB.out.size (fun k hk=>by injection hk with hk;omega)⟩
set_option maxHeartbeats 4000000 in
theorem kseal_yes (w:World) (M:List UInt8) (hm:M.length=32) (k:Nat) (h1:1≤k) (h2:k≤1048576) (ht:Tab w) (hg1:2 < w.heap.size) :
  Calls Tryz.prog 86 #[.agg (rowOf M),.int .i64 (k:Int)] w fun e w'=>e = .returned (.tuple #[.agg (rowOf (sealK M k)),.int .i64 0])∧Below w.heap.size w w':=by
 have hz:=z32
 have d1:decide ((k:Int) < 1)=false:=decide_eq_false (by omega)
 have d2:decide ((1048576:Int) < (k:Int))=false:=decide_eq_false (by omega)
 have d3:decide (1048576 < k)=false:=decide_eq_false (by omega)
 have d4:decide (k < 1)=false:=decide_eq_false (by omega)
 have hw1:IntKind.u64.wrap (k:Int)=(k:Int):=IntWalk.u64_in _ (by omega)
 obtain ⟨r,hre⟩:∃ r,w.heap.size=r:=⟨_,rfl⟩
 obtain ⟨wm,hwm⟩:∃ wm,w.alloc (.cells (rowOf M) 22)=wm:=⟨_,rfl⟩
 have Bm:Below r w wm:=by rw [← hwm,← hre];exact (Below.refl w.heap.size w).alloc (Nat.le_refl _) _
 have Km:Bk wm r 22 (rowOf M):=by rw [← hwm,← hre];exact Bk.new w _ _
 have Sm:wm.heap.size=r + 1:=by rw [← hwm,← hre];simp
 obtain ⟨w0,hw0⟩:∃ w0,wm.alloc (.cells (rowOf (zbytes 32)) 22)=w0:=⟨_,rfl⟩
 have B0:Below wm.heap.size wm w0:=by rw [← hw0];exact (Below.refl _ _).alloc (Nat.le_refl _) _
 have R0:Bk w0 (r + 1) 22 (rowOf (zbytes 32)):=by rw [← Sm,← hw0];exact Bk.new wm _ _
 have C0:=hidj_ (show KsC w r M w0 from ⟨Bm.trans (B0.mono (by omega)),Km.below B0 Km.lt,R0.lt⟩)
 have RR:=hidj_ R0
 have HRE:=hidj_ hre
 rw [hre] at hg1
 have HT:=hidj_ ht
 have ML:=hidj_ hm
 obtain ⟨L,hL⟩:∃ L,sealK M k=L:=⟨_,rfl⟩
 have LL:=hidj_ (show L.length=32 by rw [← hL];exact sealK_len _ _)
 have IM:=hidj_ (i32r M hm)
 have IL:=hidj_ (i32r L LL.out)
 have QL:=hidj_ (show (rowOf (zbytes 32)).size=(rowOf L).size by rw [rowOf_size,rowOf_size,LL.out,zbytes_len])
 have HU:=hidj_ (show sealU ++ highB 8 k=sealUse k from rfl)
 have UL:=hidj_ (sealUse_len k)
 have HL:=hidj_ (show expandB M (sealUse k) 32=L from hL)
 have HLen:=hidj_ (highB_len 8 k)
 have cp:=fun W=>putHigh_any k 8 8 (by omega) (by omega) (by omega) (.inr (.inl ⟨by omega,by omega,rfl⟩)) W
 rw [hL]
 clear hL ht hm Bm Km B0 R0
 generalize sealUse k=use at *
 generalize highB 8 k=u2 at *
 go_enter Tryz.func86,Tryz.ntmps86
 go_upto_region 3 with fail
 clear hw0 hwm hre Sm d1 d2 d3 d4
 refine region_byJF [13,14,15,16,17,18,19,20,21,22,23,5] (KsC w r M) (Kp (r + 1)) (KsR (r + 1) M sealU u2 use L (k:Int)) (fun D _ W=>KsJ (r + 1) L D W) (by kernel_rfl) (by kernel_rfl) (by kernel_rfl) (by kernel_rfl) (fun j v w w' hT hr=>?_) (fun j v w hlt hj _=>?_) ⟨C0.out.below.drew,C0.out.m.drew,C0.out.lt⟩ ?_ ⟨fun _=>RR.out.drew,fun e=>Bool.noConfusion e⟩ ?_
 ·exact KsR.stable hT j v hr
 ·rcases j with _ | _ | _ | _ | _ | _ | _ | _ | _ | _ | _ | _ | _ | j
  all_goals first
   | (exfalso;simp [dstOf] at hj;done)
   | trivial
 ·refine ⟨?_,?_,?_,?_,?_,?_,?_,?_,?_,?_,?_,?_,?_,trivial⟩
  all_goals intro D a W hC hd hsz hf hv hJ hL hW K hK
  ·clear hsz
   have e2:a.tmps.getD 2 undef = .pointer (some ⟨r,0,none⟩):=hf 2 (by kernel_rfl)
   exact step_load_rowW (wanted_none rfl) 22 (.tmp 2) rfl r (eval_of e2) 22 (rowOf M) hC.m _ Tryz.underlying22 rfl IM.out (hK _ _ hC (Kp.refl _ _) rfl (hJ.same (Below.refl _ _) 0 (by decide)))
  ·clear hsz
   have hbl:=(Below.refl W.heap.size W).alloc (Nat.le_refl _) (.cells #[.int .u8 115,.int .u8 101,.int .u8 97,.int .u8 108] 5)
   have hk:Blk8 (W.alloc (.cells #[.int .u8 115,.int .u8 101,.int .u8 97,.int .u8 108] 5)) W.heap.size sealU:=by rw [show (#[.int .u8 115,.int .u8 101,.int .u8 97,.int .u8 108]:Array Value)=rowOf sealU from rfl];exact Blk8.new W sealU
   have hrl:=hC.lt
   refine step_run (wanted_none rfl) (v:=.slice (some ⟨W.heap.size,0,none⟩) 4 4) (w':=W.alloc (.cells #[.int .u8 115,.int .u8 101,.int .u8 97,.int .u8 108] 5)) ?_ (hK _ _ (hC.keep hbl) (Kp.of_below hbl) ⟨_,rfl,hrl,RdF.of_block hk (by omega),by unfold World.shape?;rw [show (W.alloc (.cells #[.int .u8 115,.int .u8 101,.int .u8 97,.int .u8 108] 5)).heap[W.heap.size]? = _ from hk];rfl⟩ (hJ.same hbl 1 (by decide)))
   go_simp
  ·clear hsz
   obtain ⟨g,eg,hg1,hg2,hg3⟩:∃ g,a.tmps.getD 14 undef = .slice (some ⟨g,0,none⟩) 4 4∧r + 1 < g∧RdF W [r + 1] (some ⟨g,0,none⟩) sealU∧W.shape? g=some (5,4):=hv 1 (by kernel_rfl)
   have e1:=slot_of (a:=a) (s:=14) eg
   have h:=run_convert_mark W g 4 4 4 hg3
   refine step_run (wanted_none rfl) (v:=.slice (some ⟨g,0,none⟩) 4 4) (w':=W.freeze ⟨g,4,none⟩ 1) ?_ (hK _ _ (hC.freeze g 4 1 (by omega)) (Kp.freeze _ _ _ _ _) ⟨g,rfl,hg2.kp (Kp.freeze _ _ _ _ _)⟩ (hJ.freeze g 4 1 (by omega) 2 (by decide)))
   go_simp
  ·clear hsz
   have e1:=slot_of (a:=a) (s:=1) (v:=.int .i64 (k:Int)) (hf 1 (by kernel_rfl))
   refine step_run (wanted_none rfl) (v:=.int .i64 (k:Int)) (w':=W) ?_ (hK _ _ hC (Kp.refl _ _) rfl (hJ.same (Below.refl _ _) 3 (by decide)))
   go_simp
  ·clear hsz
   have e1:=slot_of (a:=a) (s:=16) (v:=.int .i64 (k:Int)) (hv 3 (by kernel_rfl))
   refine step_run (wanted_none rfl) (v:=.int .u64 (k:Int)) (w':=W) ?_ (hK _ _ hC (Kp.refl _ _) rfl (hJ.same (Below.refl _ _) 4 (by decide)))
   go_simp
  ·clear hsz
   have e1:=slot_of (a:=a) (s:=17) (v:=.int .u64 (k:Int)) (hv 4 (by kernel_rfl))
   have hrl:=hC.lt
   refine step_callx 73 #[.int .u64 (k:Int),.int .i64 8] (wanted_none rfl) (w':=W) ?_ ((cp W).mono fun e W2 hh=>?_)
   ·go_simp
   ·obtain ⟨rfl,hk,hbl⟩:=hh
    exact ⟨_,rfl,hK _ _ (hC.keep hbl) (Kp.of_below hbl) ⟨_,rfl,RdF.of_block hk (by omega)⟩ (hJ.same hbl 5 (by decide))⟩
  ·clear hsz
   obtain ⟨g1,eg1,hr1⟩:∃ g,a.tmps.getD 15 undef = .slice (some ⟨g,0,none⟩) 4 4∧RdF W [r + 1] (some ⟨g,0,none⟩) sealU:=hv 2 (by kernel_rfl)
   obtain ⟨g2,eg2,hr2⟩:∃ g,a.tmps.getD 18 undef = .slice (some ⟨g,0,none⟩) 8 8∧RdF W [r + 1] (some ⟨g,0,none⟩) u2:=hv 5 (by kernel_rfl)
   have e1:=slot_of (a:=a) (s:=15) eg1
   have e2:=slot_of (a:=a) (s:=18) eg2
   have hrl:=hC.lt
   have hbl:=(Below.refl W.heap.size W).alloc (Nat.le_refl _) (.cells #[.slice (some ⟨g1,0,none⟩) 4 4,.slice (some ⟨g2,0,none⟩) 8 8] 23)
   have hkp:Kp (r + 1) W _:=Kp.of_below hbl
   have hb:=Bk.new W 23 #[.slice (some ⟨g1,0,none⟩) 4 4,.slice (some ⟨g2,0,none⟩) 8 8]
   refine step_run (wanted_none rfl) (v:=.slice (some ⟨W.heap.size,0,none⟩) 2 2) (w':=W.alloc (.cells #[.slice (some ⟨g1,0,none⟩) 4 4,.slice (some ⟨g2,0,none⟩) 8 8] 23)) ?_ (hK _ _ (hC.keep hbl) hkp ⟨_,g1,g2,rfl,by omega,hb.lt,hb.cell 0,hb.cell 1,hr1.kp hkp,hr2.kp hkp⟩ (hJ.same hbl 6 (by decide)))
   go_simp
  ·clear hsz
   obtain ⟨q,g1,g2,eq,hq1,hq2,hq3,hq4,hq5,hq6⟩:∃ q g1 g2,a.tmps.getD 19 undef = .slice (some ⟨q,0,none⟩) 2 2∧q≠r + 1∧q < W.heap.size∧W.cell? ⟨q,0,none⟩=some (.slice (some ⟨g1,0,none⟩) 4 4)∧W.cell? ⟨q,1,none⟩=some (.slice (some ⟨g2,0,none⟩) 8 8)∧RdF W [r + 1] (some ⟨g1,0,none⟩) sealU∧RdF W [r + 1] (some ⟨g2,0,none⟩) u2:=hv 6 (by kernel_rfl)
   have e1:=slot_of (a:=a) (s:=19) eq
   have hrl:=hC.lt
   have hcat:CatAt W W.heap.size q [((some ⟨g1,0,none⟩:Option Addr),4,sealU),(some ⟨g2,0,none⟩,8,u2)]:=by
    refine ⟨hq2,fun i hi=>?_⟩
    have hlt:i < 2:=hi
    rcases i with _ | _ | i
    ·exact ⟨hq3,hq5.rd⟩
    ·exact ⟨by rw [hq4];simp [HLen.out],hq6.rd⟩
    ·omega
   have cc:=concat_any q 2 2 12 [(some ⟨g1,0,none⟩,4,sealU),(some ⟨g2,0,none⟩,8,u2)] W rfl (by simp [flat,HLen.out,sealU]) hcat (by omega) (by omega)
   rw [show flat [((some ⟨g1,0,none⟩:Option Addr),4,sealU),(some ⟨g2,0,none⟩,8,u2)]=use by simp [flat];exact HU.out] at cc
   refine step_callx 49 #[.slice (some ⟨q,0,none⟩) 2 2] (wanted_none rfl) (w':=W) ?_ (cc.mono fun e W2 hh=>?_)
   ·go_simp
   ·obtain ⟨A5,c5,rfl,ho,hbl⟩:=hh
    exact ⟨_,rfl,hK _ _ (hC.keep hbl) (Kp.of_below hbl) ⟨A5,c5,rfl,RdF.of_own ho hrl,ho.cap.1,ho.cap.2⟩ (hJ.same hbl 7 (by decide))⟩
  ·clear hsz
   obtain ⟨A5,c5,e5,hr5,hc5,hm5⟩:∃ A c,a.tmps.getD 20 undef = .slice A 12 c∧RdF W [r + 1] A use∧12≤c∧c≤9223372036854775807:=hv 7 (by kernel_rfl)
   have e1:=slot_of (a:=a) (s:=13) (v:=.agg (rowOf M)) (hv 0 (by kernel_rfl))
   have e2:=slot_of (a:=a) (s:=20) e5
   have hrl:=hC.lt
   have ck:=keyFor_any W M ML.out A5 12 c5 use UL.out (by omega) hc5 hm5 hr5.rd (fun t h=>(hC.below.cell (p:=⟨_,t,none⟩) hg1).trans (HT.out t h)) (by omega)
   rw [HL.out] at ck
   refine step_callx 82 #[.agg (rowOf M),.slice A5 12 c5] (wanted_none rfl) (w':=W) ?_ (ck.mono fun e W2 hh=>?_)
   ·go_simp
   ·obtain ⟨rfl,hbl⟩:=hh
    exact ⟨_,rfl,hK _ _ (hC.keep hbl) (Kp.of_below hbl) rfl (hJ.same hbl 8 (by decide))⟩
  ·clear hsz
   have e1:=slot_of (a:=a) (s:=21) (v:=.tuple #[.agg (rowOf L),.int .i64 0]) (hv 8 (by kernel_rfl))
   refine step_run (wanted_none rfl) (v:=.agg (rowOf L)) (w':=W) ?_ (hK _ _ hC (Kp.refl _ _) rfl (hJ.same (Below.refl _ _) 9 (by decide)))
   go_simp
  ·clear hsz
   have e1:=slot_of (a:=a) (s:=21) (v:=.tuple #[.agg (rowOf L),.int .i64 0]) (hv 8 (by kernel_rfl))
   refine step_run (wanted_none rfl) (v:=.int .i64 0) (w':=W) ?_ (hK _ _ hC (Kp.refl _ _) rfl (hJ.same (Below.refl _ _) 10 (by decide)))
   go_simp
  ·clear hsz
   refine step_put_row rfl 22 (.tmp 4) (.tmp 22) rfl (r + 1) (rowOf L) (eval_of (hf 4 (by kernel_rfl))) (eval_of (hv 9 (by kernel_rfl))) 22 (rowOf (zbytes 32)) (hJ.1 hL) IL.out QL.out (bytes_one _) ?_
   intro W2 k2 g2 s2
   have hrl:=hC.lt
   exact hK undef _ ⟨hC.below.grown g2 (by have:=hC.below.size;have:=HRE.out;omega) (fun k hk=>by injection hk with hk;omega),(g2.block r (by omega) (fun e=>by injection e with e;omega)).trans hC.m,by omega⟩ (Kp.of_grown g2) trivial ⟨fun e=>by simp at e,fun _=>k2⟩
  ·clear hsz
   have e1:=slot_of (a:=a) (s:=23) (v:=.int .i64 0) (hv 10 (by kernel_rfl))
   refine step_run (wanted_none rfl) (v:=.int .i64 0) (w':=W) ?_ (hK _ _ hC (Kp.refl _ _) rfl (hJ.same (Below.refl _ _) 12 (by decide)))
   go_simp
 ·intro f w7 hC7 hv7 D7 hD7 hJ7
  obtain ⟨a7,hJ,-⟩:=hJ7
  have K7:=hJ.2 (hD7 11 (by decide))
  have B7:=hC7.below
  have f5:f 5 = .int .i64 0:=hv7 12 (by decide)
  simp only [framed,List.foldl_cons,List.foldl_nil,List.setIfInBounds_toArray,List.set_cons_succ,List.set_cons_zero]
  rw [f5]
  clear hv7 hD7 hJ hC7
  go_wp2
  exact bodyPost_ret (results_cell_slot Tryz.results86 _ _ (r + 1) rfl rfl (run_loadVar_row _ _ _ _ _ (0,0) _ K7 Tryz.underlying22 rfl IL.out)) rfl ⟨rfl,HRE.out ▸ B7⟩
set_option maxHeartbeats 4000000 in
theorem blind_big (w:World) (m:List UInt8) (A:Option Addr) (n c:Nat) (hn:64 < n) :
  Calls Tryz.prog 51 #[.agg (rowOf m),.slice A n c] w fun e w'=>e = .returned (.tuple #[.agg (rowOf (zbytes 32)),.int .i64 1])∧Below w.heap.size w w':=by
 have hz:=zB
 have d1:decide ((n:Int) < 1)=false:=decide_eq_false (by omega)
 have d2:decide ((64:Int) < (n:Int))=true:=decide_eq_true (by omega)
 have d3:decide (64 < n)=true:=decide_eq_true hn
 have BK:=hidn_ (Bk.new (w.alloc (.cells (rowOf m) 22)) 39 (rowOf (zbytes 32)))
 have e1:(w.alloc (.cells (rowOf m) 22)).heap.size=w.heap.size + 1:=by simp
 have I:=hidn_ (iB (zbytes 32) (zbytes_len 32))
 have HB:=hidn_ (((Below.refl w.heap.size w).alloc (Nat.le_refl _) (.cells (rowOf m) 22)).alloc (by omega) (.cells (rowOf (zbytes 32)) 39))
 rw [e1] at BK
 clear hn
 generalize rowOf m=M at *
 go_enter Tryz.func51,Tryz.ntmps51
 go_wp2_with (first
  | (refine wpList_built rfl 39 _ rfl (rowOf (zbytes 32)) (by kernel_rfl) ?_)
  | (refine wpList_put_row rfl 39 _ _ rfl (w.heap.size + 1) (rowOf (zbytes 32)) rfl rfl 39 (rowOf (zbytes 32)) BK.out I.out rfl (bytes_one _) ?_;intro W9 k9 g9 s9))
 exact bodyPost_ret (results_cell_slot Tryz.results51 _ _ (w.heap.size + 1) rfl rfl (run_loadVar_row _ _ _ _ _ (0,0) _ k9 Tryz.underlying39 rfl I.out)) rfl ⟨rfl,HB.out.grown g9 HB.out.size (fun k hk=>by injection hk with hk;omega)⟩
set_option maxHeartbeats 4000000 in
theorem blind_yes (w:World) (M:List UInt8) (hm:M.length=32) (A8:Option Addr) (n8 c8:Nat) (name:List UInt8) (hn8:name.length=n8) (h1:1≤n8) (h2:n8≤64) (hc8:n8≤c8) (hcm8:c8≤9223372036854775807) (hr8:Rd w w.heap.size A8 name) (ht:Tab w) (hg1:2 < w.heap.size) :
  Calls Tryz.prog 51 #[.agg (rowOf M),.slice A8 n8 c8] w fun e w'=>e = .returned (.tuple #[.agg (rowOf (blindK M name)),.int .i64 0])∧Below w.heap.size w w':=by
 have hz:=z32
 have hzB:=zB
 have hall:=dig_all
 have d1:decide ((n8:Int) < 1)=false:=decide_eq_false (by omega)
 have d2:decide ((64:Int) < (n8:Int))=false:=decide_eq_false (by omega)
 have d3:decide (64 < n8)=false:=decide_eq_false (by omega)
 have d4:decide (n8 < 1)=false:=decide_eq_false (by omega)
 obtain ⟨r,hre⟩:∃ r,w.heap.size=r:=⟨_,rfl⟩
 obtain ⟨wm,hwm⟩:∃ wm,w.alloc (.cells (rowOf M) 22)=wm:=⟨_,rfl⟩
 have Bm:Below r w wm:=by rw [← hwm,← hre];exact (Below.refl w.heap.size w).alloc (Nat.le_refl _) _
 have Km:Bk wm r 22 (rowOf M):=by rw [← hwm,← hre];exact Bk.new w _ _
 have Sm:wm.heap.size=r + 1:=by rw [← hwm,← hre];simp
 obtain ⟨w0,hw0⟩:∃ w0,wm.alloc (.cells (rowOf (zbytes 32)) 39)=w0:=⟨_,rfl⟩
 have B0:Below wm.heap.size wm w0:=by rw [← hw0];exact (Below.refl _ _).alloc (Nat.le_refl _) _
 have R0:Bk w0 (r + 1) 39 (rowOf (zbytes 32)):=by rw [← Sm,← hw0];exact Bk.new wm _ _
 have S0:w0.heap.size=r + 2:=by rw [← hw0];simp [Sm]
 have C0:=show KsC w r M w0 from ⟨Bm.trans (B0.mono (by omega)),Km.below B0 Km.lt,R0.lt⟩
 obtain ⟨w1,hw1⟩:∃ w1,w0.alloc (.cells #[.int .u8 98,.int .u8 108,.int .u8 105,.int .u8 110,.int .u8 100] 5 (5,6))=w1:=⟨_,rfl⟩
 have B1:Below w0.heap.size w0 w1:=by rw [← hw1];exact (Below.refl _ _).alloc (Nat.le_refl _) _
 have RB:Rd w1 (r + 3) (some ⟨r + 2,0,none⟩) blindU:=by
  have h:=rd_mark w0 blindU (5,6)
  rw [show rowOf blindU = #[.int .u8 98,.int .u8 108,.int .u8 105,.int .u8 110,.int .u8 100] from rfl,hw1,S0] at h
  exact h
 have S1:w1.heap.size=r + 3:=by rw [← hw1];simp [S0]
 have C1:=hidj_ (C0.keep B1)
 have K0:=hidj_ C0.m
 have IM:=hidj_ (i32r M hm)
 have k1:=Lib.run_convert_bytes_const (P:=Tryz.prog) w0 23 5 #[.int .u8 98,.int .u8 108,.int .u8 105,.int .u8 110,.int .u8 100] 5 5 Tryz.underlying23 Tryz.underlying5
 rw [S0] at k1
 have RR:=hidj_ (R0.below B1 R0.lt)
 have HRE:=hidj_ hre
 rw [hre] at hg1 hr8
 have HT:=hidj_ ht
 have H8:=hidj_ hr8
 have N8:=hidj_ hn8
 have ck:=keyFor_any w1 M hm (some ⟨r + 2,0,none⟩) 5 5 blindU rfl (by omega) (Nat.le_refl _) (by omega) (RB.more (by omega)) (fun t h=>(C1.out.below.cell (p:=⟨_,t,none⟩) hg1).trans (ht t h)) (by omega)
 obtain ⟨K,hK⟩:∃ K,expandB M blindU 32=K:=⟨_,rfl⟩
 have KL:=hidj_ (show K.length=32 by rw [← hK];exact expandB_len _ _ _ (by omega))
 obtain ⟨L,hL⟩:∃ L,blindK M name=L:=⟨_,rfl⟩
 have LL:=hidj_ (show L.length=32 by rw [← hL];exact blindK_len _ _)
 have HLK:=hidj_ (show hmacB K name=L by rw [← hL,← hK];rfl)
 rw [hK] at ck
 rw [hL]
 have IK:=hidj_ (i32r K KL.out)
 have QK:=hidj_ (show (rowOf (zbytes 32)).size=(rowOf K).size by rw [rowOf_size,rowOf_size,KL.out,zbytes_len])
 have IL:=hidj_ (iB L LL.out)
 have QL:=hidj_ (show (rowOf (zbytes 32)).size=(rowOf L).size by rw [rowOf_size,rowOf_size,LL.out,zbytes_len])
 clear hL hK ht hm Bm Km B0 R0 C0 B1 RB hr8 hn8
 go_enter Tryz.func51,Tryz.ntmps51
 go_upto_region 6 with (first
  | (refine wpList_load_row rfl 22 (.tmp 2) rfl r rfl 22 (rowOf M) (0,0) _ K0.out Tryz.underlying22 rfl IM.out ?_)
  | (go_at_call 82;((with_reducible refine ck.mono ?_);rintro e w5 ⟨rfl,hb⟩;have C5:=hidj_ (C1.out.keep hb);have R5:=hidj_ (RR.out.below hb RR.out.lt);clear hb ck))
  | (refine wpList_put_row rfl 22 _ _ rfl w5.heap.size (rowOf K) rfl rfl 22 (rowOf (zbytes 32)) (Bk.new w5 _ _) IK.out QK.out (bytes_one _) ?_;intro w6 k6 g6 s6;have BX:Below w5.heap.size w5 w6:=(((Below.refl w5.heap.size w5).alloc (Nat.le_refl _) (.cells (rowOf (zbytes 32)) 22)).grown g6 (by simp) (fun k hk=>by injection hk with hk;omega));have D6:=hidj_ k6;have C6:=hidj_ (C5.out.keep BX);have R6:=hidj_ (R5.out.below BX R5.out.lt);clear k6 g6 s6 BX))
 have KL6:=hidj_ (D6.out.rd D6.out.lt)
 generalize w5.heap.size=gk at *
 obtain ⟨w7,hw7⟩:∃ w7,w6.alloc (.cells #[.slice A8 n8 c8] 23)=w7:=⟨_,rfl⟩
 have B7:Below w6.heap.size w6 w7:=by rw [← hw7];exact (Below.refl _ _).alloc (Nat.le_refl _) _
 have P7:Bk w7 w6.heap.size 23 #[.slice A8 n8 c8]:=by rw [← hw7];exact Bk.new w6 _ _
 have C7:=hidj_ (C6.out.keep B7)
 have R7:=hidj_ (R6.out.below B7 R6.out.lt)
 have hle7:r≤w7.heap.size:=by have:=C7.out.lt;omega
 have ch:=hmac_any w7 (some ⟨gk,0,none⟩) 32 32 K KL.out (by omega) (Nat.le_refl _) (by omega) ((KL6.out.below B7).more B7.size) (some ⟨w6.heap.size,0,none⟩) 1 1 [name] rfl (parts_1m P7 N8.out ((H8.out.below C7.out.below).more hle7) hc8 hcm8) (by omega) (by simp [N8.out];omega) (fun t h=>(C7.out.below.cell (p:=⟨_,t,none⟩) hg1).trans (HT.out t h)) (by omega)
 rw [show ([name]:List (List UInt8)).flatten=name by simp,HLK.out] at ch
 clear B7 P7
 go_wp2_with (first
  | (go_at_call 83;((with_reducible refine ch.mono ?_);rintro e w8 ⟨rfl,hb⟩;have C8:=hidj_ (C7.out.keep hb);have R8:=hidj_ (R7.out.below hb R7.out.lt);clear hb ch))
  | (refine wpList_put_row rfl 39 _ _ rfl (r + 1) (rowOf L) rfl rfl 39 (rowOf (zbytes 32)) R8.out IL.out QL.out (bytes_one _) ?_;intro W9 k9 g9 s9))
 exact bodyPost_ret (results_cell_slot Tryz.results51 _ _ (r + 1) rfl rfl (run_loadVar_row _ _ _ _ _ (0,0) _ k9 Tryz.underlying39 rfl IL.out)) rfl ⟨rfl,by rw [HRE.out];exact C8.out.below.grown g9 (by have:=C8.out.lt;omega) (fun k hk=>by injection hk with hk;omega)⟩
theorem eqIB32 (l m:List UInt8) (hl:l.length=32) (hm:m.length=32) (W:World) :
  (Op.equalIn 10000 39 (.agg (rowOf l)) (.agg (rowOf m))).run Tryz.prog W = .ok (l == m) W:=by
 have hs:∀ W:World,(sizeOf 5).run Tryz.prog W = .ok 1 W:=fun W=>by
  obtain ⟨i,hi,hz,hsize,hby⟩:=info_parts info8
  simp [sizeOf,typeInfo,hi,hsize]
 exact run_equalIn_bytes W 9998 39 5 32 Tryz.underlying39 Tryz.underlying5 hs l m hl hm
set_option maxHeartbeats 1000000 in
theorem refEpoch_any (w:World) (z:Int) (b:Bool) (hb:b=decide (1≤z∧z≤1048576)):Calls Tryz.prog 59 #[.int .i64 z] w fun e w'=>e = .returned (.bool b)∧w=w':=by
 by_cases h1:1≤z
 ·have d1:decide (1≤z)=true:=decide_eq_true h1
  by_cases h2:z≤1048576
  ·have d2:decide (z≤1048576)=true:=decide_eq_true h2
   obtain rfl:b=true:=by rw [hb];exact decide_eq_true ⟨h1,h2⟩
   clear hb
   go_enter Tryz.func59,Tryz.ntmps59
   go_wp2
   go_ret
   exact ⟨rfl,rfl⟩
  ·have d2:decide (z≤1048576)=false:=decide_eq_false h2
   obtain rfl:b=false:=by rw [hb];exact decide_eq_false (fun h=>h2 h.2)
   clear hb
   go_enter Tryz.func59,Tryz.ntmps59
   go_wp2
   go_ret
   exact ⟨rfl,rfl⟩
 ·have d1:decide (1≤z)=false:=decide_eq_false h1
  obtain rfl:b=false:=by rw [hb];exact decide_eq_false (fun h=>h1 h.1)
  clear hb
  go_enter Tryz.func59,Tryz.ntmps59
  go_wp2
  go_ret
  exact ⟨rfl,rfl⟩
set_option maxHeartbeats 1000000 in
theorem refName_any (w:World) (z:Int) (b:Bool) (hb:b=decide (1≤z∧z≤64)):Calls Tryz.prog 28 #[.int .i64 z] w fun e w'=>e = .returned (.bool b)∧w=w':=by
 by_cases h1:1≤z
 ·have d1:decide (1≤z)=true:=decide_eq_true h1
  by_cases h2:z≤64
  ·have d2:decide (z≤64)=true:=decide_eq_true h2
   obtain rfl:b=true:=by rw [hb];exact decide_eq_true ⟨h1,h2⟩
   clear hb
   go_enter Tryz.func28,Tryz.ntmps28
   go_wp2
   go_ret
   exact ⟨rfl,rfl⟩
  ·have d2:decide (z≤64)=false:=decide_eq_false h2
   obtain rfl:b=false:=by rw [hb];exact decide_eq_false (fun h=>h2 h.2)
   clear hb
   go_enter Tryz.func28,Tryz.ntmps28
   go_wp2
   go_ret
   exact ⟨rfl,rfl⟩
 ·have d1:decide (1≤z)=false:=decide_eq_false h1
  obtain rfl:b=false:=by rw [hb];exact decide_eq_false (fun h=>h1 h.1)
  clear hb
  go_enter Tryz.func28,Tryz.ntmps28
  go_wp2
  go_ret
  exact ⟨rfl,rfl⟩
set_option maxHeartbeats 2000000 in
theorem refSealK_any (w:World) (M:List UInt8) (hm:M.length=32) (k:Nat) (hk:k≤1048576):Calls Tryz.prog 66 #[.string (strOf M),.int .i64 (k:Int)] w fun e w'=>e = .returned (.string (strOf (sealK M k)))∧Below w.heap.size w w':=by
 have c1:=fun W=>refPut_any k 8 8 true (by omega) (by omega) (by omega) (.inr (.inl ⟨by omega,by omega,rfl⟩)) W
 have hw1:IntKind.u64.wrap (k:Int)=(k:Int):=IntWalk.u64_in _ (by omega)
 have ha:(⟨#[115,101,97,108]⟩:ByteArray) ++ strOf (putB true 8 k)=strOf (sealUse k):=strOf_append sealU (highB 8 k)
 have hs:(strOf (putB true 8 k)).size=8:=by rw [strOf_size,putB_len]
 have hsz:(⟨#[115,101,97,108]⟩:ByteArray).size + (strOf (putB true 8 k)).size≤9223372036854775807:=by rw [hs];show 4 + 8≤_;omega
 have c2:∀ W,Calls Tryz.prog 90 #[.string (strOf M),.string (strOf (sealUse k)),.int .i64 32] W fun e w'=>e = .returned (.string (strOf (sealK M k)))∧Below W.heap.size W w':=fun W=>refExpand_any W M (sealUse k) (by omega) (by rw [sealUse_len];omega) 32 (by omega)
 generalize putB true 8 k=X at *
 generalize sealUse k=U at *
 generalize sealK M k=L at *
 go_enter Tryz.func66,Tryz.ntmps66
 go_wp2_with (first
  | (go_at_call 77;((with_reducible refine (c1 _).mono ?_);rintro e w2 ⟨rfl,hb⟩;have B2:=hidn_ hb;clear hb))
  | (go_at_call 90;((with_reducible refine (c2 _).mono ?_);rintro e w3 ⟨rfl,hb⟩;have B3:=hidn_ (B2.out.trans (hb.mono B2.out.size));clear hb)))
 go_ret
 exact ⟨rfl,B3.out⟩
set_option maxHeartbeats 2000000 in
theorem refBlindK_any (w:World) (M name:List UInt8) (hm:M.length=32) (hn:name.length≤1000):Calls Tryz.prog 62 #[.string (strOf M),.string (strOf name)] w fun e w'=>e = .returned (.string (strOf (blindK M name)))∧Below w.heap.size w w':=by
 have c1:∀ W,Calls Tryz.prog 90 #[.string (strOf M),.string ⟨#[98,108,105,110,100]⟩,.int .i64 32] W fun e w'=>e = .returned (.string (strOf (expandB M blindU 32)))∧Below W.heap.size W w':=fun W=>refExpand_any W M blindU (by omega) (by simp [blindU]) 32 (by omega)
 have c2:∀ W,Calls Tryz.prog 89 #[.string (strOf (expandB M blindU 32)),.string (strOf name)] W fun e w'=>e = .returned (.string (strOf (blindK M name)))∧Below W.heap.size W w':=fun W=>refHmac_any W _ name (by rw [expandB_len _ _ _ (by omega)];omega) (by omega)
 generalize expandB M blindU 32=U at *
 generalize blindK M name=L at *
 go_enter Tryz.func62,Tryz.ntmps62
 go_wp2_with (first
  | (go_at_call 90;((with_reducible refine (c1 _).mono ?_);rintro e w2 ⟨rfl,hb⟩;have B2:=hidn_ hb;clear hb))
  | (go_at_call 89;((with_reducible refine (c2 _).mono ?_);rintro e w3 ⟨rfl,hb⟩;have B3:=hidn_ (B2.out.trans (hb.mono B2.out.size));clear hb)))
 go_ret
 exact ⟨rfl,B3.out⟩
end Go.Proofs.YtpcbmnmgefhaaaaGreatDoor
