import Derived.Test.YtpcbmnmgefhaaaaGreatDoorEd
import Derived.Test.YtpcbmnmgefhaaaaGreatDoorUU
namespace Go.Proofs.YtpcbmnmgefhaaaaGreatDoor
set_option maxRecDepth 100000
open Go.RowKit
set_option linter.unusedVariables false
set_option linter.unusedSimpArgs false
theorem below2 {a b c:World} (h1:Below a.heap.size a b) (h2:Below b.heap.size b c):Below a.heap.size a c:=h1.trans (h2.mono h1.size)
theorem below4 {a b c d e:World} (h1:Below a.heap.size a b) (h2:Below b.heap.size b c) (h3:Below c.heap.size c d) (h4:Below d.heap.size d e):Below a.heap.size a e:=below2 (below2 h1 h2) (below2 h3 h4)
theorem fill_more (n j:Nat) (hj:j≤fillN n):((n + j) % 16=0↔j=fillN n):=by
 unfold fillN at *
 omega
theorem fill_lt (n:Nat):fillN n < 16:=by unfold fillN;omega
theorem zbytes_snoc (l:List UInt8) (j:Nat):strOf (l ++ zbytes j) ++ (⟨#[0]⟩:ByteArray)=strOf (l ++ zbytes (j + 1)):=by
 have e:(⟨#[0]⟩:ByteArray)=strOf [0]:=rfl
 rw [e,strOf_append,List.append_assoc]
 congr 2
 unfold zbytes
 rw [List.replicate_succ']
set_option maxHeartbeats 1000000 in
theorem refPad_any (l:List UInt8) (n:Nat) (w:World) (hn:l.length=n) (hm:n≤1000000) :
  Calls Tryz.prog 113 #[.string (strOf l)] w fun e w'=>e = .returned (.string (strOf (l ++ zbytes (fillN n))))∧w=w':=by
 have HN:=hide_ hn
 have hf:=fill_lt n
 have HF:=hide_ (fill_more n)
 obtain ⟨f,hff⟩:∃ f,Hid (fillN n=f):=⟨_,rfl⟩
 rw [hff.out] at hf HF ⊢
 clear hn
 go_enter Tryz.func113,Tryz.ntmps113
 go_wp2
 go_loop [0] (fun s=>∃ j:Nat,j≤f∧s = .string (strOf (l ++ zbytes j))) (fun s=>f + n - sizeV s)
 case atStart=>exact ⟨0,by omega,by rw [show zbytes 0 = [] from rfl,List.append_nil]⟩
 case round =>
  obtain ⟨j,hj,rfl⟩:=hrel
  have hsz:(strOf (l ++ zbytes j)).size=n + j:=by rw [strOf_size,List.length_append,zbytes_len,HN.out]
  have HZ:=hide_ (zbytes_snoc l j)
  have hj2:=HF.out j hj
  have HS1:Hid ((strOf (l ++ zbytes (j + 1))).size=n + (j + 1)):=hide_ (by rw [strOf_size,List.length_append,zbytes_len,HN.out])
  by_cases hlt:j < f
  ·have h1:((n:Int) + (j:Int)) % 16≠0:=by omega
   have e1:(((n:Int) + (j:Int)) % 16 == 0)=false:=by simpa using h1
   have e2:(((n:Int) + (j:Int)) % 16 != 0)=true:=by simpa using h1
   have hbd:(strOf (l ++ zbytes j)).size + (⟨#[0]⟩:ByteArray).size≤9223372036854775807:=by rw [hsz];show n + j + 1≤_;omega
   clear hj2 h1
   go_wp2
   go_round
   case rel=>exact ⟨j + 1,by omega,by rw [HZ.out]⟩
   case measure =>
    rw [HZ.out]
    show f + n - (strOf (l ++ zbytes (j + 1))).size < f + n - (strOf (l ++ zbytes j)).size
    rw [HS1.out,hsz];omega
  ·have hjf:j=f:=by omega
   have h1:((n:Int) + (j:Int)) % 16=0:=by omega
   have e1:(((n:Int) + (j:Int)) % 16 == 0)=true:=by simpa using h1
   have e2:(((n:Int) + (j:Int)) % 16 != 0)=false:=by simpa using h1
   clear hj2 h1
   have HJ:=hide_ hjf
   clear hjf
   go_wp2
   go_ret
   exact ⟨by rw [HJ.out];rfl,rfl⟩
set_option maxHeartbeats 2000000 in
theorem refATag_any (key nonce wi hi:List UInt8) (nw nh:Nat) (w:World) (hk:key.length=32) (hn:nonce.length=12) (hw:wi.length=nw) (hh:hi.length=nh) (hmw:nw≤1000000) (hmh:nh≤1000000) :
  Calls Tryz.prog 92 #[.string (strOf key),.string (strOf nonce),.string (strOf wi),.string (strOf hi)] w fun e w'=>e = .returned (.string (strOf (tagB key nonce wi hi)))∧Below w.heap.size w w':=by
 have cb:=fun W=>refBlock_any key nonce 0 W hk hn ok32_zeroq
 have LB:=blockB_len key 0 nonce
 have hT:tagB key nonce wi hi=polyTag ((blockB key 0 nonce).take 32) (msgB wi hi):=rfl
 have hML:=msgB_len wi hi
 have f1:=fill_lt nw
 have f2:=fill_lt nh
 have c1:=fun W=>refPad_any wi nw W hw hmw
 have c2:=fun W=>refPad_any hi nh W hh hmh
 have c3:∀ W:World,Calls Tryz.prog 77 #[.int .u64 (nw:Int),.int .i64 8,.bool false] W fun e w'=>e = .returned (.string (strOf (lowB 8 nw)))∧Below W.heap.size W w':=fun W=>refPut_any nw 8 8 false (by omega) (by omega) (by omega) (by omega) W
 have c4:∀ W:World,Calls Tryz.prog 77 #[.int .u64 (nh:Int),.int .i64 8,.bool false] W fun e w'=>e = .returned (.string (strOf (lowB 8 nh)))∧Below W.heap.size W w':=fun W=>refPut_any nh 8 8 false (by omega) (by omega) (by omega) (by omega) W
 have hsw:(strOf wi).size=nw:=by rw [strOf_size,hw]
 have hsh:(strOf hi).size=nh:=by rw [strOf_size,hh]
 have hmsg:msgB wi hi=wi ++ zbytes (fillN nw) ++ (hi ++ zbytes (fillN nh)) ++ lowB 8 nw ++ lowB 8 nh:=by
  simp [msgB,hw,hh]
 obtain ⟨x1,hx1⟩:∃ x,Hid (wi ++ zbytes (fillN nw)=x):=⟨_,rfl⟩
 obtain ⟨x2,hx2⟩:∃ x,Hid (hi ++ zbytes (fillN nh)=x):=⟨_,rfl⟩
 have l1:x1.length=nw + fillN nw:=by rw [← hx1.out,List.length_append,zbytes_len,hw]
 have l2:x2.length=nh + fillN nh:=by rw [← hx2.out,List.length_append,zbytes_len,hh]
 rw [hx1.out] at c1 hmsg
 rw [hx2.out] at c2 hmsg
 have a1:=strOf_append x1 x2
 have a2:=strOf_append (x1 ++ x2) (lowB 8 nw)
 have a3:=strOf_append (x1 ++ x2 ++ lowB 8 nw) (lowB 8 nh)
 have b1:(strOf x1).size + (strOf x2).size≤9223372036854775807:=by rw [strOf_size,strOf_size,l1,l2];omega
 have b2:(strOf (x1 ++ x2)).size + (strOf (lowB 8 nw)).size≤9223372036854775807:=by rw [strOf_size,strOf_size,List.length_append,l1,l2,lowB_len];omega
 have b3:(strOf (x1 ++ x2 ++ lowB 8 nw)).size + (strOf (lowB 8 nh)).size≤9223372036854775807:=by rw [strOf_size,strOf_size,List.length_append,List.length_append,l1,l2,lowB_len,lowB_len];omega
 rw [← hmsg] at a3
 have htk:=strOf_take (blockB key 0 nonce) 32
 have hsb:(strOf (blockB key 0 nonce)).size=64:=by rw [strOf_size,LB]
 have kbl:((blockB key 0 nonce).take 32).length=32:=by rw [List.length_take,LB];rfl
 obtain ⟨bl,hbl⟩:∃ bl,Hid (blockB key 0 nonce=bl):=⟨_,rfl⟩
 rw [hbl.out] at cb htk hsb hT kbl
 obtain ⟨kb,hkb⟩:∃ kb,Hid (bl.take 32=kb):=⟨_,rfl⟩
 rw [hkb.out] at htk hT kbl
 have hml:(msgB wi hi).length≤3000000:=by rw [hML,hw,hh];omega
 have ct:=fun W=>refTag_any kb (msgB wi hi) _ W kbl rfl (by omega)
 rw [← hT] at ct
 clear hT hML hw hh hk hn LB kbl l1 l2 hmsg f1 f2
 generalize tagB key nonce wi hi=T at *
 generalize msgB wi hi=M at *
 generalize x1 ++ x2 ++ lowB 8 nw=y3 at *
 generalize x1 ++ x2=y2 at *
 generalize lowB 8 nw=z1 at *
 generalize lowB 8 nh=z2 at *
 go_enter Tryz.func92,Tryz.ntmps92
 go_wp2_with (first
  | (go_at_call 110;((with_reducible refine (cb _).mono ?_);rintro e w1 ⟨rfl,hb1⟩;have HB1:=hide_ hb1;clear hb1))
  | (go_at_call 113;((with_reducible refine (c1 _).mono ?_);rintro e w2 ⟨rfl,rfl⟩))
  | (go_at_call 113;((with_reducible refine (c2 _).mono ?_);rintro e w2 ⟨rfl,rfl⟩))
  | (go_at_call 77;((with_reducible refine (c3 _).mono ?_);rintro e w3 ⟨rfl,hb3⟩;have HB3:=hide_ hb3;clear hb3))
  | (go_at_call 77;((with_reducible refine (c4 _).mono ?_);rintro e w4 ⟨rfl,hb4⟩;have HB4:=hide_ hb4;clear hb4))
  | (go_at_call 112;((with_reducible refine (ct _).mono ?_);rintro e w5 ⟨rfl,hb5⟩;have HB5:=hide_ hb5;clear hb5)))
 go_ret
 exact ⟨rfl,below4 HB1.out HB3.out HB4.out HB5.out⟩
set_option maxHeartbeats 2000000 in
theorem refASeal_any (key nonce wi b:List UInt8) (nw nb:Nat) (w:World) (hk:key.length=32) (hn:nonce.length=12) (hw:wi.length=nw) (hb:b.length=nb) (hmw:nw≤1000000) (hmb:nb≤1000000) :
  Calls Tryz.prog 65 #[.string (strOf key),.string (strOf nonce),.string (strOf wi),.string (strOf b)] w fun e w'=>e = .returned (.string (strOf (sealB key nonce wi b)))∧Below w.heap.size w w':=by
 have cs:=fun W=>refStream_any key nonce 1 nb b W hk hn ok32_one hb hmb
 have hsl:=streamB_len key nonce 1 b
 rw [hb] at hsl
 have ct:=fun W=>refATag_any key nonce wi (streamB key nonce 1 b) nw nb W hk hn hw hsl hmw hmb
 have hT:sealB key nonce wi b=streamB key nonce 1 b ++ tagB key nonce wi (streamB key nonce 1 b):=rfl
 have hTl:=tagB_len key nonce wi (streamB key nonce 1 b)
 obtain ⟨x,hx⟩:∃ x,Hid (streamB key nonce 1 b=x):=⟨_,rfl⟩
 rw [hx.out] at cs hsl ct hT hTl
 obtain ⟨y,hy⟩:∃ y,Hid (tagB key nonce wi x=y):=⟨_,rfl⟩
 rw [hy.out] at ct hT hTl
 have a1:=strOf_append x y
 rw [← hT] at a1
 have b1:(strOf x).size + (strOf y).size≤9223372036854775807:=by rw [strOf_size,strOf_size,hsl,hTl];omega
 clear hT hTl hsl hk hn hw hb
 generalize sealB key nonce wi b=S at *
 go_enter Tryz.func65,Tryz.ntmps65
 go_wp2_with (first
  | (go_at_call 91;((with_reducible refine (cs _).mono ?_);rintro e w1 ⟨rfl,hb1⟩;have HB1:=hide_ hb1;clear hb1))
  | (go_at_call 92;((with_reducible refine (ct _).mono ?_);rintro e w2 ⟨rfl,hb2⟩;have HB2:=hide_ hb2;clear hb2)))
 go_ret
 exact ⟨rfl,below2 HB1.out HB2.out⟩
set_option maxHeartbeats 2000000 in
theorem refAOpen_no (key nonce wi s:List UInt8) (nw m:Nat) (w:World) (hk:key.length=32) (hn:nonce.length=12) (hw:wi.length=nw) (hs:s.length=m + 16) (hmw:nw≤1000000) (hmm:m≤1000000) (ho:tagB key nonce wi (s.take m)≠s.drop m) :
  Calls Tryz.prog 78 #[.string (strOf key),.string (strOf nonce),.string (strOf wi),.string (strOf s)] w fun e w'=>e = .returned (.tuple #[.string (strOf []),.bool false])∧Below w.heap.size w w':=by
 have hsz:(strOf s).size=m + 16:=by rw [strOf_size,hs]
 have L1:(s.take m).length=m:=by rw [List.length_take];omega
 have htk:=strOf_take s m
 have hdr:=fun W=>str_rest s (m + 16) m hs (by omega) W
 have ct:=fun W=>refATag_any key nonce wi (s.take m) nw m W hk hn hw L1 hmw (by omega)
 have cs:=fun W=>refStream_any key nonce 1 m (s.take m) W hk hn ok32_one L1 (by omega)
 have hne:((strOf (tagB key nonce wi (s.take m))).toList == (strOf (s.drop m)).toList)=false:=strOf_ne _ _ ho
 have hne2:((strOf (tagB key nonce wi (s.take m))).toList != (strOf (s.drop m)).toList)=true:=by rw [bne,hne];rfl
 have q1:IntKind.i64.wrap ((m:Int) + 16 - 16)=(m:Int):=by
  have:(m:Int) + 16 - 16=(m:Int):=by omega
  rw [this];exact IntWalk.i64_in _ (by omega)
 have q2:(m:Int) + 16 - 16=(m:Int):=by omega
 have q3:IntKind.i64.wrap (m:Int)=(m:Int):=IntWalk.i64_in _ (by omega)
 have d0:decide ((m:Int) + 16 < 16)=false:=decide_eq_false (by omega)
 have d2:(m:Int)≤(m:Int) + 16:=by omega
 clear ho hk hn hw hs L1
 generalize tagB key nonce wi (s.take m)=T at *
 generalize streamB key nonce 1 (s.take m)=D at *
 generalize s.take m=hid at *
 generalize s.drop m=told at *
 have P1:Hid (∀ W:World,Below w.heap.size w W→Calls Tryz.prog 92 #[.string (strOf key),.string (strOf nonce),.string (strOf wi),.string (strOf hid)] W fun e w'=>e = .returned (.string (strOf T))∧Below w.heap.size w w'):=hide_ (fun W h=>(ct W).mono fun e w' hh=>⟨hh.1,h.trans (hh.2.mono h.size)⟩)
 clear ct
 go_enter Tryz.func78,Tryz.ntmps78
 go_upto_region 4 with fail
 refine region_quiet_in (C:=fun W=>Below w.heap.size w W) (by kernel_rfl) (by kernel_rfl) ((Below.refl _ _).drew) ?_
 repeat (go_big_quiet_want;(first
  | (refine BigFrame.quiet_move _ rfl ?_;go_simp)
  | (refine BigFrame.quiet_assign _ rfl ?_;go_simp)
  | (refine quiet_call (.string (strOf T)) 92 #[.string (strOf key),.string (strOf nonce),.string (strOf wi),.string (strOf hid)] ?_ P1.out ?_;(focus (intro W;go_simp;done));go_simp)
  | (refine quiet_run (.int .i64 ((m:Int) + 16)) ?_ ?_;(focus (intro W hW;go_simp;done));go_simp)
  | (refine quiet_run (.int .i64 (m:Int)) ?_ ?_;(focus (intro W hW;go_simp;done));go_simp)
  | (refine quiet_run (.string (strOf told)) ?_ ?_;(focus (intro W hW;go_simp;done));go_simp)
  | (refine quiet_run (.bool true) ?_ ?_;(focus (intro W hW;go_simp;done));go_simp));go_big_quiet_on)
 refine wpQuiet_nil ?_
 intro W hW
 have HW:=hide_ hW
 clear hW
 go_wp2
 go_ret2
 exact ⟨rfl,HW.out⟩
set_option maxHeartbeats 2000000 in
theorem refAOpen_yes (key nonce wi s:List UInt8) (nw m:Nat) (w:World) (hk:key.length=32) (hn:nonce.length=12) (hw:wi.length=nw) (hs:s.length=m + 16) (hmw:nw≤1000000) (hmm:m≤1000000) (ho:tagB key nonce wi (s.take m)=s.drop m) :
  Calls Tryz.prog 78 #[.string (strOf key),.string (strOf nonce),.string (strOf wi),.string (strOf s)] w fun e w'=>e = .returned (.tuple #[.string (strOf (streamB key nonce 1 (s.take m))),.bool true])∧Below w.heap.size w w':=by
 have hsz:(strOf s).size=m + 16:=by rw [strOf_size,hs]
 have L1:(s.take m).length=m:=by rw [List.length_take];omega
 have htk:=strOf_take s m
 have hdr:=fun W=>str_rest s (m + 16) m hs (by omega) W
 have ct:=fun W=>refATag_any key nonce wi (s.take m) nw m W hk hn hw L1 hmw (by omega)
 have cs:=fun W=>refStream_any key nonce 1 m (s.take m) W hk hn ok32_one L1 (by omega)
 have hne:((strOf (tagB key nonce wi (s.take m))).toList == (strOf (s.drop m)).toList)=true:=strOf_eq _ _ ho
 have hne2:((strOf (tagB key nonce wi (s.take m))).toList != (strOf (s.drop m)).toList)=false:=by rw [bne,hne];rfl
 have q1:IntKind.i64.wrap ((m:Int) + 16 - 16)=(m:Int):=by
  have:(m:Int) + 16 - 16=(m:Int):=by omega
  rw [this];exact IntWalk.i64_in _ (by omega)
 have q2:(m:Int) + 16 - 16=(m:Int):=by omega
 have q3:IntKind.i64.wrap (m:Int)=(m:Int):=IntWalk.i64_in _ (by omega)
 have d0:decide ((m:Int) + 16 < 16)=false:=decide_eq_false (by omega)
 have d2:(m:Int)≤(m:Int) + 16:=by omega
 clear ho hk hn hw hs L1
 generalize tagB key nonce wi (s.take m)=T at *
 generalize streamB key nonce 1 (s.take m)=D at *
 generalize s.take m=hid at *
 generalize s.drop m=told at *
 have P1:Hid (∀ W:World,Below w.heap.size w W→Calls Tryz.prog 92 #[.string (strOf key),.string (strOf nonce),.string (strOf wi),.string (strOf hid)] W fun e w'=>e = .returned (.string (strOf T))∧Below w.heap.size w w'):=hide_ (fun W h=>(ct W).mono fun e w' hh=>⟨hh.1,h.trans (hh.2.mono h.size)⟩)
 clear ct
 go_enter Tryz.func78,Tryz.ntmps78
 go_upto_region 4 with fail
 refine region_quiet_in (C:=fun W=>Below w.heap.size w W) (by kernel_rfl) (by kernel_rfl) ((Below.refl _ _).drew) ?_
 repeat (go_big_quiet_want;(first
  | (refine BigFrame.quiet_move _ rfl ?_;go_simp)
  | (refine BigFrame.quiet_assign _ rfl ?_;go_simp)
  | (refine quiet_call (.string (strOf T)) 92 #[.string (strOf key),.string (strOf nonce),.string (strOf wi),.string (strOf hid)] ?_ P1.out ?_;(focus (intro W;go_simp;done));go_simp)
  | (refine quiet_run (.int .i64 ((m:Int) + 16)) ?_ ?_;(focus (intro W hW;go_simp;done));go_simp)
  | (refine quiet_run (.int .i64 (m:Int)) ?_ ?_;(focus (intro W hW;go_simp;done));go_simp)
  | (refine quiet_run (.string (strOf told)) ?_ ?_;(focus (intro W hW;go_simp;done));go_simp)
  | (refine quiet_run (.bool false) ?_ ?_;(focus (intro W hW;go_simp;done));go_simp));go_big_quiet_on)
 refine wpQuiet_nil ?_
 intro W hW
 have HW:=hide_ hW
 clear hW
 go_wp2_with (go_at_call 91;((with_reducible refine (cs _).mono ?_);rintro e w2 ⟨rfl,hb2⟩;have HB2:=hide_ hb2;clear hb2))
 go_ret2
 exact ⟨rfl,HW.out.trans (HB2.out.mono HW.out.size)⟩
end Go.Proofs.YtpcbmnmgefhaaaaGreatDoor
