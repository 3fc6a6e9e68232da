import Derived.Test.YtpcbmnmgefhaaaaGreatDoorHf
import Derived.Test.YtpcbmnmgefhaaaaGreatDoorHB
import Derived.BigQuiet
import Derived.Lib.SlBytesConst
import Derived.Test.YtpcbmnmgefhaaaaGreatDoorAm
import Derived.Test.YtpcbmnmgefhaaaaGreatDoorCc
import Derived.Lib.AppendZerosOnto
import Derived.Lib.ConvBytes
namespace Go.Proofs.YtpcbmnmgefhaaaaGreatDoor
set_option maxRecDepth 100000
open Go.ChangeShapes Go.WideShapes Go.ChangeAt Go.RowKit
set_option linter.unusedVariables false
set_option linter.unusedSimpArgs false
theorem padK_get (key:List UInt8) (k:Nat) (h:k < 64):(padK key).getD k 0=(keyB key).getD k 0:=by
 unfold padK zbytes
 by_cases h1:k < (keyB key).length
 ·simp [List.getD,List.getElem?_append_left h1]
 ·have h2:(keyB key)[k]? = none:=by simp;omega
  have h3:k - (keyB key).length < 64 - (keyB key).length:=by omega
  simp only [List.getD,List.getElem?_append_right (show (keyB key).length≤k by omega),h2,List.getElem?_replicate,h3,if_true]
  rfl
theorem maskB_get (key:List UInt8) (x:UInt8) (k:Nat) (h:k < 64):(maskB key x).getD k 0=(keyB key).getD k 0 ^^^ x:=by
 rw [maskB,mixB_get _ _ k (by rw [padK_len];exact h) (by simp;exact h),padK_get key k h]
 congr 1
 simp only [List.getD,List.getElem?_replicate,h,if_true]
 rfl
theorem maskB_snoc (key:List UInt8) (x:UInt8) (k:Nat) (h:k < 64):(maskB key x).take (k + 1)=(maskB key x).take k ++ [(keyB key).getD k 0 ^^^ x]:=by
 rw [take_snoc8 _ k (by rw [maskB_len];exact h),maskB_get key x k h]
def TwoRows (w:World) (v1 v2:Value) (l1 l2:List UInt8) (W:World):Prop :=
 Own8 W w.heap.size v1 l1∧Own8 W w.heap.size v2 l2∧(∀ b,v1.ownBlock=some b→v2.ownBlock≠some b)∧Below w.heap.size w W
theorem hid_h {p:Prop} (h:p):Hid p:=h
set_option maxHeartbeats 8000000 in
theorem refHmac_any (w:World) (key text:List UInt8) (hkl:key.length≤900000) (htl:text.length≤900000) :
  Calls Tryz.prog 89 #[.string (strOf key),.string (strOf text)] w fun e w'=>e = .returned (.string (strOf (hmacB key text)))∧Below w.heap.size w w':=by
 have hs0:(strOf key).size=key.length:=strOf_size key
 have cS:=fun (W:World) (l:List UInt8) (h:l.length≤1000000)=>refSum_any l W h
 have ck:=cS w key (by omega)
 obtain ⟨N,hN⟩:∃ N,key.length=N:=⟨_,rfl⟩
 obtain ⟨kk,hkk⟩:∃ kk,keyB key=kk:=⟨_,rfl⟩
 obtain ⟨n,hn⟩:∃ n,kk.length=n:=⟨_,rfl⟩
 have hn64:n≤64:=by rw [← hn,← hkk];exact keyB_len key
 have HS:=hid_h (fun k (h:k < 64)=>maskB_snoc key 54 k h)
 have HT:=hid_h (fun k (h:k < 64)=>maskB_snoc key 92 k h)
 rw [hkk] at HS HT
 have hres:hmacB key text=sha (maskB key 92 ++ sha (maskB key 54 ++ text)):=rfl
 rw [hres]
 have M1:=hid_h (maskB_len key 54)
 have M2:=hid_h (maskB_len key 92)
 generalize maskB key 54=X at *
 generalize maskB key 92=Y at *
 have HNN:=hid_h hn
 have hz1:(strOf kk).size=n:=by rw [strOf_size,hn]
 rw [hN] at hs0
 clear hres
 by_cases h64:64 < N
 ·have hd:decide (64 < (N:Int))=true:=decide_eq_true (by omega)
  have hd2:decide (64 < N)=true:=decide_eq_true h64
  have e:kk=sha key:=by rw [← hkk,keyB,if_pos (by omega)]
  rw [← e] at ck
  have HKL:=hid_h hkl
  clear e hkk hn hN
  go_enter Tryz.func89,Tryz.ntmps89
  go_upto_region 3 with (go_at_call 108;((with_reducible refine ck.mono ?_);rintro e w1 ⟨rfl,hb⟩;have BW:=hid_h hb;clear hb))
  clear ck hd hd2 hs0
  go_wp2
  go_loopw [5,6,7,8] (fun v1 v2 i _ wr=>∃ k:Nat,k≤64∧i = .int .i64 k∧Hid (TwoRows w v1 v2 (X.take k) (Y.take k) wr)) (fun _ _ i _ _=>64 - (intOf i).toNat)
  case atStart=>exact ⟨0,by omega,rfl,hid_h ⟨Own8.nil_ _ _,Own8.nil_ _ _,fun b hb=>by simp [Value.ownBlock] at hb,BW.out⟩⟩
  case round =>
   obtain ⟨k,hk,rfl,HR⟩:=hrel
   obtain ⟨o1,o2,hne,hB⟩:=HR.out
   obtain ⟨A1,c1,rfl,_,_⟩:=o1.form
   obtain ⟨A2,c2,rfl,_,_⟩:=o2.form
   have lx:(X.take k).length=k:=by rw [List.length_take,M1.out];omega
   have ly:(Y.take k).length=k:=by rw [List.length_take,M2.out];omega
   rw [lx] at o1 hne ⊢
   rw [ly] at o2 hne ⊢
   by_cases hlt:k < 64
   ·have hd1:decide ((k:Int) < 64)=true:=decide_eq_true (by omega)
    have hd2:decide (k < 64)=true:=decide_eq_true hlt
    have hX:=hid_h (HS.out k hlt)
    have hY:=hid_h (HT.out k hlt)
    have O1:=hid_h o1
    have O2:=hid_h o2
    have HNE:=hid_h hne
    have HB:=hid_h hB
    have LX:=hid_h lx
    have LY:=hid_h ly
    have t0:(0:Int)≤(k:Int):=by omega
    clear o1 o2 hne hB lx ly HR
    by_cases hkn:k < n
    ·have hd3:decide ((k:Int) < (n:Int))=true:=decide_eq_true (by omega)
     have hd4:decide (k < n)=true:=decide_eq_true hkn
     have hget:∀ h,((strOf kk)[k]'h).toNat=(kk.getD k 0).toNat:=fun h=>strOf_get kk k h
     have t1:(k:Int) < (n:Int):=by omega
     obtain ⟨v,hv⟩:∃ v,kk.getD k 0=v:=⟨_,rfl⟩
     rw [hv] at hget hX hY
     have hx1:bits .xor .u8 ((v.toNat:Nat):Int) 54=(((v ^^^ 54).toNat:Nat):Int):=xor8 v 54
     have hx2:bits .xor .u8 ((v.toNat:Nat):Int) 92=(((v ^^^ 92).toNat:Nat):Int):=xor8 v 92
     obtain ⟨x1,hx1e⟩:∃ x1,v ^^^ 54=x1:=⟨_,rfl⟩
     obtain ⟨x2,hx2e⟩:∃ x2,v ^^^ 92=x2:=⟨_,rfl⟩
     rw [hx1e] at hx1 hX
     rw [hx2e] at hx2 hY
     have r1:(#[Value.int .u8 ((x1.toNat:Nat):Int)]:Array Value)=rowOf [x1]:=by simp [rowOf]
     have r2:(#[Value.int .u8 ((x2.toNat:Nat):Int)]:Array Value)=rowOf [x2]:=by simp [rowOf]
     have RR1:=hid_h r1
     have RR2:=hid_h r2
     clear r1 r2 hv hx1e hx2e
     have B1:Below w.heap.size w (wr.alloc (.cells (rowOf [x1]) 5)):=HB.out.alloc HB.out.size _
     have hb1:w.heap.size≤(wr.alloc (.cells (rowOf [x1]) 5)).heap.size:=B1.size
     have R1:=hid_h ((Blk8.new wr [x1]).rd (Blk8.new wr [x1]).lt)
     have O1a:=hid_h (O1.out.alloc (.cells (rowOf [x1]) 5))
     have O2a:=hid_h (O2.out.alloc (.cells (rowOf [x1]) 5))
     have hl1:(X.take k).length + 1≤140737488355328:=by rw [LX.out];omega
     have hl2:(Y.take k).length + 1≤140737488355328:=by rw [LY.out];omega
     have HB1:=hid_h B1
     clear B1
     rw [← RR1.out] at O1a O2a R1 hb1 HB1
     go_wp2_with (first
      | (at_builtin;refine wpList_app rfl (.tmp 25) (.tmp 28) rfl O1a.out rfl 1 1 rfl R1.out rfl hl1 hb1 ?_;intro A3 c3 w3 h1 h2 h3;rw [LX.out] at h1 h3 ⊢;have hlt2:=O2a.out.lt;have hlt1:=O1a.out.lt;have O13:=hid_h h1;have B3:=hid_h (HB1.out.grown h2 hb1 (fun b hb=>(hlt1 b hb).1));have O23:=hid_h (O2a.out.kept h2 (by cases hv9:(Value.slice A2 k c2).ownBlock with | none=>exact .inl rfl | some b=>exact .inr (fun e=>HNE.out b e.symm hv9)));have HN3:=hid_h (show ∀ b,(Value.slice A3 (k + 1) c3).ownBlock=some b→(Value.slice A2 k c2).ownBlock≠some b from fun b hb e=>h3.elim (fun h=>HNE.out b (h.symm.trans hb) e) (fun h=>by rw [h] at hb;injection hb with hb;have:=(hlt2 b e).2;omega));have R2:=hid_h ((Blk8.new w3 [x2]).rd (Blk8.new w3 [x2]).lt);have O2b:=hid_h (O23.out.alloc (.cells (rowOf [x2]) 5));have O1b:=hid_h (O13.out.alloc (.cells (rowOf [x2]) 5));have HB4:=hid_h (B3.out.alloc B3.out.size (.cells (rowOf [x2]) 5));have hb4:=HB4.out.size;rw [← RR2.out] at O2b O1b R2 hb4 HB4;clear h1 h2 h3 hlt1 hlt2)
      | (at_builtin;refine wpList_app rfl (.tmp 30) (.tmp 33) rfl O2b.out rfl 1 1 rfl R2.out rfl hl2 hb4 ?_;intro A5 c5 w5 h1 h2 h3;rw [LY.out] at h1 h3 ⊢;have hlt2:=O2b.out.lt;have hlt1:=O1b.out.lt;have O25:=hid_h h1;have B5:=hid_h (HB4.out.grown h2 hb4 (fun b hb=>(hlt2 b hb).1));have O15:=hid_h (O1b.out.kept h2 (by cases hv9:(Value.slice A3 (k + 1) c3).ownBlock with | none=>exact .inl rfl | some b=>exact .inr (fun e=>HN3.out b hv9 e.symm)));have HN5:=hid_h (show ∀ b,(Value.slice A3 (k + 1) c3).ownBlock=some b→(Value.slice A5 (k + 1) c5).ownBlock≠some b from fun b hb e=>h3.elim (fun h=>HN3.out b hb (h.symm.trans e)) (fun h=>by rw [h] at e;injection e with e;have:=(hlt1 b hb).2;omega));clear h1 h2 h3 hlt1 hlt2))
     go_roundw
     case rel=>exact ⟨k + 1,by omega,by go_num,hid_h ⟨by rw [hX.out];exact O15.out,by rw [hY.out];exact O25.out,HN5.out,B5.out⟩⟩
     case measure=>simp [intOf];omega
    ·have hd3:decide ((k:Int) < (n:Int))=false:=decide_eq_false (by omega)
     have hd4:decide (k < n)=false:=decide_eq_false hkn
     have hv:kk.getD k 0=0:=by
      have h2:kk[k]? = none:=by simp;rw [HNN.out];omega
      simp [List.getD,h2]
     obtain ⟨v,hv2⟩:∃ v:UInt8,v=0:=⟨0,rfl⟩
     rw [hv,← hv2] at hX hY
     have hx1:bits .xor .u8 0 54=(((v ^^^ 54).toNat:Nat):Int):=by rw [hv2];rfl
     have hx2:bits .xor .u8 0 92=(((v ^^^ 92).toNat:Nat):Int):=by rw [hv2];rfl
     obtain ⟨x1,hx1e⟩:∃ x1,v ^^^ 54=x1:=⟨_,rfl⟩
     obtain ⟨x2,hx2e⟩:∃ x2,v ^^^ 92=x2:=⟨_,rfl⟩
     rw [hx1e] at hx1 hX
     rw [hx2e] at hx2 hY
     have r1:(#[Value.int .u8 ((x1.toNat:Nat):Int)]:Array Value)=rowOf [x1]:=by simp [rowOf]
     have r2:(#[Value.int .u8 ((x2.toNat:Nat):Int)]:Array Value)=rowOf [x2]:=by simp [rowOf]
     have RR1:=hid_h r1
     have RR2:=hid_h r2
     clear r1 r2 hv hv2 hx1e hx2e
     have B1:Below w.heap.size w (wr.alloc (.cells (rowOf [x1]) 5)):=HB.out.alloc HB.out.size _
     have hb1:w.heap.size≤(wr.alloc (.cells (rowOf [x1]) 5)).heap.size:=B1.size
     have R1:=hid_h ((Blk8.new wr [x1]).rd (Blk8.new wr [x1]).lt)
     have O1a:=hid_h (O1.out.alloc (.cells (rowOf [x1]) 5))
     have O2a:=hid_h (O2.out.alloc (.cells (rowOf [x1]) 5))
     have hl1:(X.take k).length + 1≤140737488355328:=by rw [LX.out];omega
     have hl2:(Y.take k).length + 1≤140737488355328:=by rw [LY.out];omega
     have HB1:=hid_h B1
     clear B1
     rw [← RR1.out] at O1a O2a R1 hb1 HB1
     go_wp2_with (first
      | (at_builtin;refine wpList_app rfl (.tmp 25) (.tmp 28) rfl O1a.out rfl 1 1 rfl R1.out rfl hl1 hb1 ?_;intro A3 c3 w3 h1 h2 h3;rw [LX.out] at h1 h3 ⊢;have hlt2:=O2a.out.lt;have hlt1:=O1a.out.lt;have O13:=hid_h h1;have B3:=hid_h (HB1.out.grown h2 hb1 (fun b hb=>(hlt1 b hb).1));have O23:=hid_h (O2a.out.kept h2 (by cases hv9:(Value.slice A2 k c2).ownBlock with | none=>exact .inl rfl | some b=>exact .inr (fun e=>HNE.out b e.symm hv9)));have HN3:=hid_h (show ∀ b,(Value.slice A3 (k + 1) c3).ownBlock=some b→(Value.slice A2 k c2).ownBlock≠some b from fun b hb e=>h3.elim (fun h=>HNE.out b (h.symm.trans hb) e) (fun h=>by rw [h] at hb;injection hb with hb;have:=(hlt2 b e).2;omega));have R2:=hid_h ((Blk8.new w3 [x2]).rd (Blk8.new w3 [x2]).lt);have O2b:=hid_h (O23.out.alloc (.cells (rowOf [x2]) 5));have O1b:=hid_h (O13.out.alloc (.cells (rowOf [x2]) 5));have HB4:=hid_h (B3.out.alloc B3.out.size (.cells (rowOf [x2]) 5));have hb4:=HB4.out.size;rw [← RR2.out] at O2b O1b R2 hb4 HB4;clear h1 h2 h3 hlt1 hlt2)
      | (at_builtin;refine wpList_app rfl (.tmp 30) (.tmp 33) rfl O2b.out rfl 1 1 rfl R2.out rfl hl2 hb4 ?_;intro A5 c5 w5 h1 h2 h3;rw [LY.out] at h1 h3 ⊢;have hlt2:=O2b.out.lt;have hlt1:=O1b.out.lt;have O25:=hid_h h1;have B5:=hid_h (HB4.out.grown h2 hb4 (fun b hb=>(hlt2 b hb).1));have O15:=hid_h (O1b.out.kept h2 (by cases hv9:(Value.slice A3 (k + 1) c3).ownBlock with | none=>exact .inl rfl | some b=>exact .inr (fun e=>HN3.out b hv9 e.symm)));have HN5:=hid_h (show ∀ b,(Value.slice A3 (k + 1) c3).ownBlock=some b→(Value.slice A5 (k + 1) c5).ownBlock≠some b from fun b hb e=>h3.elim (fun h=>HN3.out b hb (h.symm.trans e)) (fun h=>by rw [h] at e;injection e with e;have:=(hlt1 b hb).2;omega));clear h1 h2 h3 hlt1 hlt2))
     go_roundw
     case rel=>exact ⟨k + 1,by omega,by go_num,hid_h ⟨by rw [hX.out];exact O15.out,by rw [hY.out];exact O25.out,HN5.out,B5.out⟩⟩
     case measure=>simp [intOf];omega
   ·have hd1:decide ((k:Int) < 64)=false:=decide_eq_false (by omega)
    have hd2:decide (k < 64)=false:=decide_eq_false hlt
    obtain rfl:k=64:=by omega
    rw [List.take_of_length_le (by rw [M1.out];omega)] at o1
    rw [List.take_of_length_le (by rw [M2.out];omega)] at o2
    have O1:=hid_h o1
    have O2:=hid_h o2
    have HB:=hid_h hB
    clear o1 o2 hne hB lx ly HR hlt
    go_upto_region 11 with fail
    obtain ⟨S,hS⟩:∃ S,sha (X ++ text)=S:=⟨_,rfl⟩
    have hSl:S.length=32:=by rw [← hS];exact sha_len _
    have V1:Hid (∀ W:World,Below wr.heap.size wr W→(convert 23 9 (.slice A1 64 c1)).run Tryz.prog W = .ok (.string (strOf X)) W):=hid_h (fun W h=>conv_strn (O1.out.rd.1.below h) 64 c1 M1.out)
    have V2:Hid (∀ W:World,Below wr.heap.size wr W→(convert 23 9 (.slice A2 64 c2)).run Tryz.prog W = .ok (.string (strOf Y)) W):=hid_h (fun W h=>conv_strn (O2.out.rd.1.below h) 64 c2 M2.out)
    have P1:Hid (∀ W:World,Below wr.heap.size wr W→Calls Tryz.prog 108 #[.string (strOf (X ++ text))] W fun e w'=>e = .returned (.string (strOf S))∧Below wr.heap.size wr w'):=hid_h (fun W h=>(cS W (X ++ text) (by rw [List.length_append,M1.out];omega)).mono fun e w' hh=>⟨by rw [hh.1,hS],h.trans (hh.2.mono h.size)⟩)
    have P2:Hid (∀ W:World,Below wr.heap.size wr W→Calls Tryz.prog 108 #[.string (strOf (Y ++ S))] W fun e w'=>e = .returned (.string (strOf (sha (Y ++ S))))∧Below wr.heap.size wr w'):=hid_h (fun W h=>(cS W (Y ++ S) (by rw [List.length_append,M2.out,hSl];omega)).mono fun e w' hh=>⟨hh.1,h.trans (hh.2.mono h.size)⟩)
    have A1':=strOf_append X text
    have A2':=strOf_append Y S
    have z1:(strOf X).size + (strOf text).size≤9223372036854775807:=by rw [strOf_size,strOf_size,M1.out];omega
    have z2:(strOf Y).size + (strOf S).size≤9223372036854775807:=by rw [strOf_size,strOf_size,M2.out,hSl];omega
    refine region_quiet_in (C:=fun W=>Below wr.heap.size wr W) (by kernel_rfl) (by kernel_rfl) ((Below.refl _ _).drew) ?_
    repeat (go_big_quiet_want;(first
     | (refine BigFrame.quiet_move _ rfl ?_;go_simp)
     | (refine BigFrame.quiet_assign _ rfl ?_;go_simp)
     | (refine quiet_run (.string (strOf X)) ?_ ?_;(focus (intro W hW;have h:=V1.out W hW;go_simp;done));go_simp)
     | (refine quiet_run (.string (strOf Y)) ?_ ?_;(focus (intro W hW;have h:=V2.out W hW;go_simp;done));go_simp)
     | (refine quiet_run (.string (strOf (X ++ text))) ?_ ?_;(focus (intro W hW;go_simp;done));go_simp)
     | (refine quiet_run (.string (strOf (Y ++ S))) ?_ ?_;(focus (intro W hW;go_simp;done));go_simp)
     | (refine quiet_call (.string (strOf S)) 108 #[.string (strOf (X ++ text))] ?_ P1.out ?_;(focus (intro W;go_simp;done));go_simp)
     | (refine quiet_call (.string (strOf (sha (Y ++ S)))) 108 #[.string (strOf (Y ++ S))] ?_ P2.out ?_;(focus (intro W;go_simp;done));go_simp));go_big_quiet_on)
    refine wpQuiet_nil ?_
    intro w5 hw5
    have X5:Hid (Below w.heap.size w w5):=hid_h (HB.out.trans (Below.mono hw5 HB.out.size))
    clear hw5 V1 V2 P1 P2
    go_wp2
    go_ret
    rw [hS]
    exact ⟨rfl,X5.out⟩
 ·have hd:decide (64 < (N:Int))=false:=decide_eq_false (by omega)
  have hd2:decide (64 < N)=false:=decide_eq_false h64
  have hNn:n=N:=by rw [← hN,← hn,← hkk,keyB,if_neg (by omega)]
  subst hNn
  have e:kk=key:=by rw [← hkk,keyB,if_neg (by omega)]
  rw [show strOf key=strOf kk by rw [e]] at hs0 ⊢
  have BW:=hid_h (Below.refl w.heap.size w)
  clear e hkk hn hN hz1 ck
  go_enter Tryz.func89,Tryz.ntmps89
  go_upto_region 3 with fail
  clear hd hd2
  go_wp2
  go_loopw [5,6,7,8] (fun v1 v2 i _ wr=>∃ k:Nat,k≤64∧i = .int .i64 k∧Hid (TwoRows w v1 v2 (X.take k) (Y.take k) wr)) (fun _ _ i _ _=>64 - (intOf i).toNat)
  case atStart=>exact ⟨0,by omega,rfl,hid_h ⟨Own8.nil_ _ _,Own8.nil_ _ _,fun b hb=>by simp [Value.ownBlock] at hb,BW.out⟩⟩
  case round =>
   obtain ⟨k,hk,rfl,HR⟩:=hrel
   obtain ⟨o1,o2,hne,hB⟩:=HR.out
   obtain ⟨A1,c1,rfl,_,_⟩:=o1.form
   obtain ⟨A2,c2,rfl,_,_⟩:=o2.form
   have lx:(X.take k).length=k:=by rw [List.length_take,M1.out];omega
   have ly:(Y.take k).length=k:=by rw [List.length_take,M2.out];omega
   rw [lx] at o1 hne ⊢
   rw [ly] at o2 hne ⊢
   by_cases hlt:k < 64
   ·have hd1:decide ((k:Int) < 64)=true:=decide_eq_true (by omega)
    have hd2:decide (k < 64)=true:=decide_eq_true hlt
    have hX:=hid_h (HS.out k hlt)
    have hY:=hid_h (HT.out k hlt)
    have O1:=hid_h o1
    have O2:=hid_h o2
    have HNE:=hid_h hne
    have HB:=hid_h hB
    have LX:=hid_h lx
    have LY:=hid_h ly
    have t0:(0:Int)≤(k:Int):=by omega
    clear o1 o2 hne hB lx ly HR
    by_cases hkn:k < n
    ·have hd3:decide ((k:Int) < (n:Int))=true:=decide_eq_true (by omega)
     have hd4:decide (k < n)=true:=decide_eq_true hkn
     have hget:∀ h,((strOf kk)[k]'h).toNat=(kk.getD k 0).toNat:=fun h=>strOf_get kk k h
     have t1:(k:Int) < (n:Int):=by omega
     obtain ⟨v,hv⟩:∃ v,kk.getD k 0=v:=⟨_,rfl⟩
     rw [hv] at hget hX hY
     have hx1:bits .xor .u8 ((v.toNat:Nat):Int) 54=(((v ^^^ 54).toNat:Nat):Int):=xor8 v 54
     have hx2:bits .xor .u8 ((v.toNat:Nat):Int) 92=(((v ^^^ 92).toNat:Nat):Int):=xor8 v 92
     obtain ⟨x1,hx1e⟩:∃ x1,v ^^^ 54=x1:=⟨_,rfl⟩
     obtain ⟨x2,hx2e⟩:∃ x2,v ^^^ 92=x2:=⟨_,rfl⟩
     rw [hx1e] at hx1 hX
     rw [hx2e] at hx2 hY
     have r1:(#[Value.int .u8 ((x1.toNat:Nat):Int)]:Array Value)=rowOf [x1]:=by simp [rowOf]
     have r2:(#[Value.int .u8 ((x2.toNat:Nat):Int)]:Array Value)=rowOf [x2]:=by simp [rowOf]
     have RR1:=hid_h r1
     have RR2:=hid_h r2
     clear r1 r2 hv hx1e hx2e
     have B1:Below w.heap.size w (wr.alloc (.cells (rowOf [x1]) 5)):=HB.out.alloc HB.out.size _
     have hb1:w.heap.size≤(wr.alloc (.cells (rowOf [x1]) 5)).heap.size:=B1.size
     have R1:=hid_h ((Blk8.new wr [x1]).rd (Blk8.new wr [x1]).lt)
     have O1a:=hid_h (O1.out.alloc (.cells (rowOf [x1]) 5))
     have O2a:=hid_h (O2.out.alloc (.cells (rowOf [x1]) 5))
     have hl1:(X.take k).length + 1≤140737488355328:=by rw [LX.out];omega
     have hl2:(Y.take k).length + 1≤140737488355328:=by rw [LY.out];omega
     have HB1:=hid_h B1
     clear B1
     rw [← RR1.out] at O1a O2a R1 hb1 HB1
     go_wp2_with (first
      | (at_builtin;refine wpList_app rfl (.tmp 25) (.tmp 28) rfl O1a.out rfl 1 1 rfl R1.out rfl hl1 hb1 ?_;intro A3 c3 w3 h1 h2 h3;rw [LX.out] at h1 h3 ⊢;have hlt2:=O2a.out.lt;have hlt1:=O1a.out.lt;have O13:=hid_h h1;have B3:=hid_h (HB1.out.grown h2 hb1 (fun b hb=>(hlt1 b hb).1));have O23:=hid_h (O2a.out.kept h2 (by cases hv9:(Value.slice A2 k c2).ownBlock with | none=>exact .inl rfl | some b=>exact .inr (fun e=>HNE.out b e.symm hv9)));have HN3:=hid_h (show ∀ b,(Value.slice A3 (k + 1) c3).ownBlock=some b→(Value.slice A2 k c2).ownBlock≠some b from fun b hb e=>h3.elim (fun h=>HNE.out b (h.symm.trans hb) e) (fun h=>by rw [h] at hb;injection hb with hb;have:=(hlt2 b e).2;omega));have R2:=hid_h ((Blk8.new w3 [x2]).rd (Blk8.new w3 [x2]).lt);have O2b:=hid_h (O23.out.alloc (.cells (rowOf [x2]) 5));have O1b:=hid_h (O13.out.alloc (.cells (rowOf [x2]) 5));have HB4:=hid_h (B3.out.alloc B3.out.size (.cells (rowOf [x2]) 5));have hb4:=HB4.out.size;rw [← RR2.out] at O2b O1b R2 hb4 HB4;clear h1 h2 h3 hlt1 hlt2)
      | (at_builtin;refine wpList_app rfl (.tmp 30) (.tmp 33) rfl O2b.out rfl 1 1 rfl R2.out rfl hl2 hb4 ?_;intro A5 c5 w5 h1 h2 h3;rw [LY.out] at h1 h3 ⊢;have hlt2:=O2b.out.lt;have hlt1:=O1b.out.lt;have O25:=hid_h h1;have B5:=hid_h (HB4.out.grown h2 hb4 (fun b hb=>(hlt2 b hb).1));have O15:=hid_h (O1b.out.kept h2 (by cases hv9:(Value.slice A3 (k + 1) c3).ownBlock with | none=>exact .inl rfl | some b=>exact .inr (fun e=>HN3.out b hv9 e.symm)));have HN5:=hid_h (show ∀ b,(Value.slice A3 (k + 1) c3).ownBlock=some b→(Value.slice A5 (k + 1) c5).ownBlock≠some b from fun b hb e=>h3.elim (fun h=>HN3.out b hb (h.symm.trans e)) (fun h=>by rw [h] at e;injection e with e;have:=(hlt1 b hb).2;omega));clear h1 h2 h3 hlt1 hlt2))
     go_roundw
     case rel=>exact ⟨k + 1,by omega,by go_num,hid_h ⟨by rw [hX.out];exact O15.out,by rw [hY.out];exact O25.out,HN5.out,B5.out⟩⟩
     case measure=>simp [intOf];omega
    ·have hd3:decide ((k:Int) < (n:Int))=false:=decide_eq_false (by omega)
     have hd4:decide (k < n)=false:=decide_eq_false hkn
     have hv:kk.getD k 0=0:=by
      have h2:kk[k]? = none:=by simp;rw [HNN.out];omega
      simp [List.getD,h2]
     obtain ⟨v,hv2⟩:∃ v:UInt8,v=0:=⟨0,rfl⟩
     rw [hv,← hv2] at hX hY
     have hx1:bits .xor .u8 0 54=(((v ^^^ 54).toNat:Nat):Int):=by rw [hv2];rfl
     have hx2:bits .xor .u8 0 92=(((v ^^^ 92).toNat:Nat):Int):=by rw [hv2];rfl
     obtain ⟨x1,hx1e⟩:∃ x1,v ^^^ 54=x1:=⟨_,rfl⟩
     obtain ⟨x2,hx2e⟩:∃ x2,v ^^^ 92=x2:=⟨_,rfl⟩
     rw [hx1e] at hx1 hX
     rw [hx2e] at hx2 hY
     have r1:(#[Value.int .u8 ((x1.toNat:Nat):Int)]:Array Value)=rowOf [x1]:=by simp [rowOf]
     have r2:(#[Value.int .u8 ((x2.toNat:Nat):Int)]:Array Value)=rowOf [x2]:=by simp [rowOf]
     have RR1:=hid_h r1
     have RR2:=hid_h r2
     clear r1 r2 hv hv2 hx1e hx2e
     have B1:Below w.heap.size w (wr.alloc (.cells (rowOf [x1]) 5)):=HB.out.alloc HB.out.size _
     have hb1:w.heap.size≤(wr.alloc (.cells (rowOf [x1]) 5)).heap.size:=B1.size
     have R1:=hid_h ((Blk8.new wr [x1]).rd (Blk8.new wr [x1]).lt)
     have O1a:=hid_h (O1.out.alloc (.cells (rowOf [x1]) 5))
     have O2a:=hid_h (O2.out.alloc (.cells (rowOf [x1]) 5))
     have hl1:(X.take k).length + 1≤140737488355328:=by rw [LX.out];omega
     have hl2:(Y.take k).length + 1≤140737488355328:=by rw [LY.out];omega
     have HB1:=hid_h B1
     clear B1
     rw [← RR1.out] at O1a O2a R1 hb1 HB1
     go_wp2_with (first
      | (at_builtin;refine wpList_app rfl (.tmp 25) (.tmp 28) rfl O1a.out rfl 1 1 rfl R1.out rfl hl1 hb1 ?_;intro A3 c3 w3 h1 h2 h3;rw [LX.out] at h1 h3 ⊢;have hlt2:=O2a.out.lt;have hlt1:=O1a.out.lt;have O13:=hid_h h1;have B3:=hid_h (HB1.out.grown h2 hb1 (fun b hb=>(hlt1 b hb).1));have O23:=hid_h (O2a.out.kept h2 (by cases hv9:(Value.slice A2 k c2).ownBlock with | none=>exact .inl rfl | some b=>exact .inr (fun e=>HNE.out b e.symm hv9)));have HN3:=hid_h (show ∀ b,(Value.slice A3 (k + 1) c3).ownBlock=some b→(Value.slice A2 k c2).ownBlock≠some b from fun b hb e=>h3.elim (fun h=>HNE.out b (h.symm.trans hb) e) (fun h=>by rw [h] at hb;injection hb with hb;have:=(hlt2 b e).2;omega));have R2:=hid_h ((Blk8.new w3 [x2]).rd (Blk8.new w3 [x2]).lt);have O2b:=hid_h (O23.out.alloc (.cells (rowOf [x2]) 5));have O1b:=hid_h (O13.out.alloc (.cells (rowOf [x2]) 5));have HB4:=hid_h (B3.out.alloc B3.out.size (.cells (rowOf [x2]) 5));have hb4:=HB4.out.size;rw [← RR2.out] at O2b O1b R2 hb4 HB4;clear h1 h2 h3 hlt1 hlt2)
      | (at_builtin;refine wpList_app rfl (.tmp 30) (.tmp 33) rfl O2b.out rfl 1 1 rfl R2.out rfl hl2 hb4 ?_;intro A5 c5 w5 h1 h2 h3;rw [LY.out] at h1 h3 ⊢;have hlt2:=O2b.out.lt;have hlt1:=O1b.out.lt;have O25:=hid_h h1;have B5:=hid_h (HB4.out.grown h2 hb4 (fun b hb=>(hlt2 b hb).1));have O15:=hid_h (O1b.out.kept h2 (by cases hv9:(Value.slice A3 (k + 1) c3).ownBlock with | none=>exact .inl rfl | some b=>exact .inr (fun e=>HN3.out b hv9 e.symm)));have HN5:=hid_h (show ∀ b,(Value.slice A3 (k + 1) c3).ownBlock=some b→(Value.slice A5 (k + 1) c5).ownBlock≠some b from fun b hb e=>h3.elim (fun h=>HN3.out b hb (h.symm.trans e)) (fun h=>by rw [h] at e;injection e with e;have:=(hlt1 b hb).2;omega));clear h1 h2 h3 hlt1 hlt2))
     go_roundw
     case rel=>exact ⟨k + 1,by omega,by go_num,hid_h ⟨by rw [hX.out];exact O15.out,by rw [hY.out];exact O25.out,HN5.out,B5.out⟩⟩
     case measure=>simp [intOf];omega
   ·have hd1:decide ((k:Int) < 64)=false:=decide_eq_false (by omega)
    have hd2:decide (k < 64)=false:=decide_eq_false hlt
    obtain rfl:k=64:=by omega
    rw [List.take_of_length_le (by rw [M1.out];omega)] at o1
    rw [List.take_of_length_le (by rw [M2.out];omega)] at o2
    have O1:=hid_h o1
    have O2:=hid_h o2
    have HB:=hid_h hB
    clear o1 o2 hne hB lx ly HR hlt
    go_upto_region 11 with fail
    obtain ⟨S,hS⟩:∃ S,sha (X ++ text)=S:=⟨_,rfl⟩
    have hSl:S.length=32:=by rw [← hS];exact sha_len _
    have V1:Hid (∀ W:World,Below wr.heap.size wr W→(convert 23 9 (.slice A1 64 c1)).run Tryz.prog W = .ok (.string (strOf X)) W):=hid_h (fun W h=>conv_strn (O1.out.rd.1.below h) 64 c1 M1.out)
    have V2:Hid (∀ W:World,Below wr.heap.size wr W→(convert 23 9 (.slice A2 64 c2)).run Tryz.prog W = .ok (.string (strOf Y)) W):=hid_h (fun W h=>conv_strn (O2.out.rd.1.below h) 64 c2 M2.out)
    have P1:Hid (∀ W:World,Below wr.heap.size wr W→Calls Tryz.prog 108 #[.string (strOf (X ++ text))] W fun e w'=>e = .returned (.string (strOf S))∧Below wr.heap.size wr w'):=hid_h (fun W h=>(cS W (X ++ text) (by rw [List.length_append,M1.out];omega)).mono fun e w' hh=>⟨by rw [hh.1,hS],h.trans (hh.2.mono h.size)⟩)
    have P2:Hid (∀ W:World,Below wr.heap.size wr W→Calls Tryz.prog 108 #[.string (strOf (Y ++ S))] W fun e w'=>e = .returned (.string (strOf (sha (Y ++ S))))∧Below wr.heap.size wr w'):=hid_h (fun W h=>(cS W (Y ++ S) (by rw [List.length_append,M2.out,hSl];omega)).mono fun e w' hh=>⟨hh.1,h.trans (hh.2.mono h.size)⟩)
    have A1':=strOf_append X text
    have A2':=strOf_append Y S
    have z1:(strOf X).size + (strOf text).size≤9223372036854775807:=by rw [strOf_size,strOf_size,M1.out];omega
    have z2:(strOf Y).size + (strOf S).size≤9223372036854775807:=by rw [strOf_size,strOf_size,M2.out,hSl];omega
    refine region_quiet_in (C:=fun W=>Below wr.heap.size wr W) (by kernel_rfl) (by kernel_rfl) ((Below.refl _ _).drew) ?_
    repeat (go_big_quiet_want;(first
     | (refine BigFrame.quiet_move _ rfl ?_;go_simp)
     | (refine BigFrame.quiet_assign _ rfl ?_;go_simp)
     | (refine quiet_run (.string (strOf X)) ?_ ?_;(focus (intro W hW;have h:=V1.out W hW;go_simp;done));go_simp)
     | (refine quiet_run (.string (strOf Y)) ?_ ?_;(focus (intro W hW;have h:=V2.out W hW;go_simp;done));go_simp)
     | (refine quiet_run (.string (strOf (X ++ text))) ?_ ?_;(focus (intro W hW;go_simp;done));go_simp)
     | (refine quiet_run (.string (strOf (Y ++ S))) ?_ ?_;(focus (intro W hW;go_simp;done));go_simp)
     | (refine quiet_call (.string (strOf S)) 108 #[.string (strOf (X ++ text))] ?_ P1.out ?_;(focus (intro W;go_simp;done));go_simp)
     | (refine quiet_call (.string (strOf (sha (Y ++ S)))) 108 #[.string (strOf (Y ++ S))] ?_ P2.out ?_;(focus (intro W;go_simp;done));go_simp));go_big_quiet_on)
    refine wpQuiet_nil ?_
    intro w5 hw5
    have X5:Hid (Below w.heap.size w w5):=hid_h (HB.out.trans (Below.mono hw5 HB.out.size))
    clear hw5 V1 V2 P1 P2
    go_wp2
    go_ret
    rw [hS]
    exact ⟨rfl,X5.out⟩
open Go.RowKit Go.Lib
section
variable {w : World} {base : Nat} {v : Value} {l : List UInt8}
end
theorem conv_bytes (W:World) (l:List UInt8) (n:Nat) (hn:l.length=n) (hm:n≤maxLen):∃ W' c,(convert 9 23 (.string (strOf l))).run Tryz.prog W = .ok (.slice (some ⟨W.heap.size,0,none⟩) n c) W'∧Below W.heap.size W W'∧Rd W' W'.heap.size (some ⟨W.heap.size,0,none⟩) l∧n≤c∧c≤9223372036854775807:=by
 subst hn
 have hs:(strOf l).size=l.length:=by simp [strOf,ByteArray.size]
 have h:=Go.Lib.run_convert_string_bytes (P:=Tryz.prog) W 9 23 5 (strOf l) Tryz.underlying9 Tryz.underlying23 Tryz.underlying5
 have hG1:=grownCap_ge W (strOf l).size 0 5
 have hG2:=grownCap_le_maxLen W (strOf l).size 0 5 (by rw [hs];exact hm)
 have hz:=bytesWorld_size W 5 (strOf l)
 refine ⟨bytesWorld W 5 (strOf l),grownCap W (strOf l).size 0 5,by rw [h,hs],⟨rfl,rfl,rfl,by rw [hz];omega,fun k hk=>bytesWorld_at_old W _ _ k hk⟩,fun _=>⟨_,0,rfl,by rw [hz];omega,fun j hj=>?_⟩,by rw [← hs];exact hG1,by unfold maxLen at hG2;omega⟩
 rw [Nat.zero_add,bytesWorld_cell W _ _ j (by rw [hs];exact hj)]
 simp [strOf]
theorem step_load_rowW {P:Program} {ops:Array Oper} {o:Oper} {a:Act} {w:World} {K:Act→World→Prop} {Q:Exit→Act→World→Prop} {E:Prop} (hw:Region.wanted o (yielded ops a.tmps)=true) (ty:TypeId) (x:Operand) (ho:o.op = .load ty x) (g:Nat) (hx:a.eval x = .pointer (some ⟨g,0,none⟩)) (t:TypeId) (cs:Array Value) (hb:Bk w g t cs) (d:TypeDesc)
  (hu:P.underlying ty=some d) (hd:(match d with | .struct _ | .array _ _=>true | _=>false)=true) (hi:(P.info? ty).map (·.size)=some cs.size)
  (hk:K (a.put o.dst (.agg cs)) w):if Region.wanted o (yielded ops a.tmps)=true then Oper.wp P o a w K Q else E:=by
 have hrun:(loadVar ty ⟨g,0,none⟩).run P w = .ok (.agg cs) w:=run_loadVar_row _ _ _ _ _ (0,0) _ hb hu hd hi
 refine step_run hw (v:=.agg cs) (w':=w) ?_ hk
 unfold execOp
 simp only [ho,hx,Instr.loadAt,Instr.sureAddr,Sem.run_bind,Sem.run_pure,Result.andThen_ok,hrun]
end Go.Proofs.YtpcbmnmgefhaaaaGreatDoor
