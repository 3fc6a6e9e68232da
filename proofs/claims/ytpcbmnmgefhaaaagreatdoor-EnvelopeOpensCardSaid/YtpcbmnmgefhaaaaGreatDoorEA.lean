import Derived.Test.YtpcbmnmgefhaaaaGreatDoorBx
import Derived.Test.YtpcbmnmgefhaaaaGreatDoorKK
import Derived.Test.YtpcbmnmgefhaaaaGreatDoorPP
import Derived.Test.YtpcbmnmgefhaaaaGreatDoorQQ
namespace Go.Proofs.YtpcbmnmgefhaaaaGreatDoor
set_option maxRecDepth 100000
open Go.RowKit
set_option linter.unusedVariables false
theorem or8 (a b:UInt8):bits .or .u8 (a.toNat:Int) (b.toNat:Int)=(((a ||| b).toNat:Nat):Int):=by
 have ha:=a.toNat_lt
 have hb:=b.toNat_lt
 have hx:a.toNat ||| b.toNat < 2 ^ 8:=Nat.or_lt_two_pow (by omega) (by omega)
 have h1:(BitVec.ofInt 8 (a.toNat:Int)).toNat=a.toNat:=by
  rw [BitVec.ofInt_natCast,BitVec.toNat_ofNat];exact Nat.mod_eq_of_lt (by omega)
 have h2:(BitVec.ofInt 8 (b.toNat:Int)).toNat=b.toNat:=by
  rw [BitVec.ofInt_natCast,BitVec.toNat_ofNat];exact Nat.mod_eq_of_lt (by omega)
 show IntKind.u8.wrap ((BitVec.ofInt 8 (a.toNat:Int) ||| BitVec.ofInt 8 (b.toNat:Int)).toNat:Int)=_
 rw [BitVec.toNat_or,h1,h2,UInt8.toNat_or]
 simp [IntKind.wrap,IntKind.signed,IntKind.bits]
 omega
theorem or_zero8 (a b:UInt8):(a ||| b)=0↔a=0∧b=0:=by
 constructor
 ·intro h
  have h':=congrArg UInt8.toNat h
  rw [UInt8.toNat_or] at h'
  have h2:a.toNat ||| b.toNat=0:=h'
  have h3:=Nat.or_eq_zero_iff.1 h2
  exact ⟨UInt8.toNat_inj.1 (by simpa using h3.1),UInt8.toNat_inj.1 (by simpa using h3.2)⟩
 ·rintro ⟨rfl,rfl⟩;rfl
theorem xor_zero8 (a b:UInt8):(a ^^^ b)=0↔a=b:=UInt8.xor_eq_zero_iff
theorem ne_zero8 {u:UInt8} (h:¬ u=0):¬ ((u.toNat:Nat):Int)=0:=fun e=>h (UInt8.toNat_inj.1 (by simpa using e))
theorem beq_nat (x y:Nat):((x:Int) == (y:Int))=decide (x=y):=by
 rw [Bool.eq_iff_iff]
 simp
 omega
def unlike (l m:List UInt8):Nat→UInt8
 | 0=>0
 | k + 1=>unlike l m k ||| (l.getD k 0 ^^^ m.getD k 0)
theorem unlike_zero (l m:List UInt8):∀ k,k≤l.length→k≤m.length→(unlike l m k=0↔l.take k=m.take k)
 | 0,_,_=>by simp [unlike]
 | k + 1,h1,h2=>by
  have ih:=unlike_zero l m k (by omega) (by omega)
  have e1:l.getD k 0=l[k]'(by omega):=by simp [List.getD,List.getElem?_eq_getElem (show k < l.length by omega)]
  have e2:m.getD k 0=m[k]'(by omega):=by simp [List.getD,List.getElem?_eq_getElem (show k < m.length by omega)]
  rw [unlike,or_zero8,xor_zero8,ih,List.take_succ_eq_append_getElem (by omega),List.take_succ_eq_append_getElem (by omega),e1,e2]
  constructor
  ·rintro ⟨h,h'⟩;rw [h,h']
  ·intro h
   have:=List.append_inj' h rfl
   exact ⟨this.1,by simpa using this.2⟩
theorem same_of (l m:List UInt8) (n:Nat) (hn:n=min l.length m.length):((decide (unlike l m n=0)) && decide (l.length=m.length))=(l == m):=by
 have h:=unlike_zero l m n (by omega) (by omega)
 by_cases he:l.length=m.length
 ·have h1:l.take n=l:=List.take_of_length_le (by omega)
  have h2:m.take n=m:=List.take_of_length_le (by omega)
  rw [h1,h2] at h
  by_cases hq:l=m
  ·have h0:=h.2 hq
   rw [h0,hq]
   simp
  ·have:¬ unlike l m n=0:=fun e=>hq (h.1 e)
   simp [he,this,hq]
 ·have hq:¬ l=m:=fun e=>he (by rw [e])
  simp [he,hq]
set_option maxHeartbeats 1000000 in
theorem same_any (A B:Option Addr) (c d:Nat) (l m:List UInt8) (a b:Nat) (w:World) (hla:l.length=a) (hmb:m.length=b) (hr:Rd w w.heap.size A l) (hs:Rd w w.heap.size B m) (ha:a≤9223372036854775807) (hb:b≤9223372036854775807) :
  Calls Tryz.prog 93 #[.slice A a c,.slice B b d] w fun e w'=>e = .returned (.bool (l == m))∧Below w.heap.size w w':=by
 obtain ⟨n,hn⟩:∃ n,n=min a b:=⟨_,rfl⟩
 have HN:Hid (n=min l.length m.length):=by rw [hla,hmb];exact hn
 have HSM:=hidx_ (same_of l m n HN.out)
 rw [hla,hmb] at HSM
 have HR:Hid (Rd w w.heap.size A l):=hr
 have HS:Hid (Rd w w.heap.size B m):=hs
 have HLA:Hid (l.length=a):=hla
 have HMB:Hid (m.length=b):=hmb
 have hna:n≤a:=by omega
 have hnb:n≤b:=by omega
 clear hr hs hla hmb
 rcases Nat.lt_or_ge b a with hba | hba
 case' inl=>obtain rfl:n=b:=by omega
 case' inr=>obtain rfl:n=a:=by omega
 all_goals
  clear hn
  go_enter Tryz.func93,Tryz.ntmps93
  go_wp2
  go_loopw [5,6,12] (fun u _ i wr=>∃ k:Nat,k≤n∧i = .int .i64 k∧u = .int .u8 (((unlike l m k).toNat:Nat):Int)∧Below w.heap.size w wr) (fun _ _ i _=>n - (intOf i).toNat)
  case atStart=>exact ⟨0,Nat.zero_le _,rfl,rfl,Below.refl _ _⟩
  case round =>
   obtain ⟨k,hk,rfl,rfl,hb⟩:=hrel
   have HB:=hidx_ hb
   clear hb
   by_cases hlt:k < n
   ·obtain ⟨b1,o1,z1,rfl,hb1,hc1,hz1,hx1⟩:=(HR.out.below HB.out).atz (k:=k) (by rw [HLA.out];omega)
    obtain ⟨b2,o2,z2,rfl,hb2,hc2,hz2,hx2⟩:=(HS.out.below HB.out).atz (k:=k) (by rw [HMB.out];omega)
    have HX:Hid (bits .or .u8 (((unlike l m k).toNat:Nat):Int) (bits .xor .u8 (z1:Int) (z2:Int))=(((unlike l m (k + 1)).toNat:Nat):Int)):=by rw [← hx1.out,← hx2.out,xor8];exact or8 _ _
    obtain ⟨u,hu⟩:∃ u:Nat,Hid ((unlike l m k).toNat=u):=⟨_,rfl⟩
    rw [hu.out] at HX ⊢
    have t0:(0:Int)≤(k:Int):=by omega
    first | have ta:(k:Int) < (a:Int):=by omega | skip
    first | have tb:(k:Int) < (b:Int):=by omega | skip
    have tn:(k:Int) < (n:Int):=by omega
    go_wp2
    go_quiet (fail)
    go_wp2
    go_roundw
    case rel=>exact ⟨k + 1,by omega,by go_num,by rw [HX.out],below_drewN HB.out nq⟩
    case measure=>simp [intOf];omega
   ·obtain rfl:k=n:=by omega
    by_cases h0:unlike l m k=0
    ·rw [h0] at HSM ⊢
     have hz:(((0:UInt8).toNat:Nat):Int)=0:=rfl
     rw [hz]
     go_wp2
     rw [beq_nat,← HSM.out]
     go_ret
     exact ⟨by simp,HB.out⟩
    ·have hf:(l == m)=false:=by rw [← HSM.out];simp [h0]
     have hz:=ne_zero8 h0
     obtain ⟨u,hu⟩:∃ u:Nat,Hid ((unlike l m k).toNat=u):=⟨_,rfl⟩
     rw [hu.out] at hz ⊢
     have hz':((u:Int) == 0)=false:=by simpa using hz
     go_wp2
     rw [hf]
     go_ret
     exact ⟨rfl,HB.out⟩
set_option linter.unusedSimpArgs false
theorem hide_ {p:Prop} (h:p):Hid p:=h
def fillN (n:Nat):Nat:=(16 - n % 16) % 16
def msgB (wi hi:List UInt8):List UInt8:=wi ++ (zbytes (fillN wi.length) ++ (hi ++ (zbytes (fillN hi.length) ++ (lowB 8 wi.length ++ lowB 8 hi.length))))
def tagB (key nonce wi hi:List UInt8):List UInt8:=polyTag ((blockB key 0 nonce).take 32) (msgB wi hi)
theorem tagB_len (key nonce wi hi:List UInt8):(tagB key nonce wi hi).length=16:=polyTag_len _ _
theorem msgB_len (wi hi:List UInt8):(msgB wi hi).length=wi.length + fillN wi.length + hi.length + fillN hi.length + 16:=by
 simp [msgB,zbytes_len,lowB_len];omega
set_option maxHeartbeats 1000000 in
theorem filler_any (A:Option Addr) (n c:Nat) (w:World) (hm:n≤9223372036854775807) :
  Calls Tryz.prog 106 #[.slice A n c] w fun e w'=>e = .returned (.slice (some ⟨w.heap.size,0,none⟩) (fillN n) (fillN n))∧w.alloc (.cells (rowOf (zbytes (fillN n))) 5)=w':=by
 obtain ⟨f,hf⟩:∃ f,Hid (fillN n=f):=⟨_,rfl⟩
 have hfi:(16 - (n:Int) % 16) % 16=(f:Int):=by
  have h:(16 - n % 16) % 16=f:=hf.out
  omega
 have hf16:f < 16:=by have h:(16 - n % 16) % 16=f:=hf.out;omega
 have hmk:=fun W=>mk8 f (by omega) W
 rw [hf.out]
 go_enter Tryz.func106,Tryz.ntmps106
 go_wp2
 go_ret
 exact ⟨rfl,rfl⟩
set_option maxHeartbeats 1000000 in
theorem count_any (A:Option Addr) (n c:Nat) (w:World) (hm:n≤9223372036854775807) :
  Calls Tryz.prog 107 #[.slice A n c] w fun e w'=>e = .returned (.slice (some ⟨w.heap.size,0,none⟩) 8 8)∧w.alloc (.cells (rowOf (lowB 8 n)) 5)=w':=by
 have c2:=putLow_any n 8 8 (by omega) (by omega) (by omega) (by omega) w
 go_enter Tryz.func107,Tryz.ntmps107
 go_wp2_with (go_at_call 94;((with_reducible refine c2.mono ?_);rintro e w' ⟨rfl,rfl⟩))
 go_ret
 exact ⟨rfl,rfl⟩
theorem RdN.rd {w:World} {g:Nat} {A:Option Addr} {l:List UInt8} (h:RdN w g A l):Rd w w.heap.size A l:=fun hn=>by
 obtain ⟨b,off,e,_,hb,hc⟩:=h hn
 exact ⟨b,off,e,hb,hc⟩
def TgR (g8 g9:Nat) (kb:List UInt8) (Aw:Option Addr) (nw cw:Nat) (Ah:Option Addr) (nh ch:Nat) (N:Nat) (msg T:List UInt8):Nat→Value→World→Prop
 | 0,v,_=>v = .slice (some ⟨g9,0,none⟩) 32 64
 | 1,v,_=>v = .pointer (some ⟨g9,0,none⟩)
 | 2,v,_=>v = .agg (rowOf kb)
 | 3,v,_=>v = .slice Aw nw cw
 | 4,v,_=>v = .slice Aw nw cw
 | 5,v,w=>∃ q,v = .slice (some ⟨q,0,none⟩) (fillN nw) (fillN nw)∧g8 < q∧Bk w q 5 (rowOf (zbytes (fillN nw)))
 | 6,v,_=>v = .slice Ah nh ch
 | 7,v,_=>v = .slice Ah nh ch
 | 8,v,w=>∃ q,v = .slice (some ⟨q,0,none⟩) (fillN nh) (fillN nh)∧g8 < q∧Bk w q 5 (rowOf (zbytes (fillN nh)))
 | 9,v,_=>v = .slice Aw nw cw
 | 10,v,w=>∃ q,v = .slice (some ⟨q,0,none⟩) 8 8∧g8 < q∧Bk w q 5 (rowOf (lowB 8 nw))
 | 11,v,_=>v = .slice Ah nh ch
 | 12,v,w=>∃ q,v = .slice (some ⟨q,0,none⟩) 8 8∧g8 < q∧Bk w q 5 (rowOf (lowB 8 nh))
 | 13,v,w=>∃ q q1 q2 q3 q4,v = .slice (some ⟨q,0,none⟩) 6 6∧g8 < q∧Bk w q 23 #[.slice Aw nw cw,.slice (some ⟨q1,0,none⟩) (fillN nw) (fillN nw),.slice Ah nh ch,.slice (some ⟨q2,0,none⟩) (fillN nh) (fillN nh),.slice (some ⟨q3,0,none⟩) 8 8,.slice (some ⟨q4,0,none⟩) 8 8] ∧
   (g8 < q1∧Bk w q1 5 (rowOf (zbytes (fillN nw))))∧(g8 < q2∧Bk w q2 5 (rowOf (zbytes (fillN nh))))∧(g8 < q3∧Bk w q3 5 (rowOf (lowB 8 nw)))∧(g8 < q4∧Bk w q4 5 (rowOf (lowB 8 nh)))
 | 14,v,w=>∃ A c,v = .slice A N c∧Own8 w (g8 + 1) (.slice A N c) msg
 | 15,v,_=>v = .agg (rowOf T)
 | 16,_,w=>Bk w g8 150 (rowOf T)
 | _,_,_=>True
def TgT (g8:Nat) (T:List UInt8) (w w':World):Prop:=w.grownBy w' (some g8)∧(Bk w g8 150 (rowOf T)→Bk w' g8 150 (rowOf T))
theorem TgT.refl (g8:Nat) (T:List UInt8) (w:World):TgT g8 T w w:=⟨World.grownBy.refl w _,id⟩
theorem TgT.of_below {g8:Nat} {T:List UInt8} {w w':World} (hb:Below w.heap.size w w'):TgT g8 T w w':=⟨grown_of_below (World.grownBy.refl w _) hb,fun h=>h.below hb h.lt⟩
def TgC (g8 g9 B:Nat) (bl:List UInt8) (Aw:Option Addr) (wi:List UInt8) (Ah:Option Addr) (hi:List UInt8) (w0 w:World):Prop :=
 (∃ cs,Bk w g8 150 cs∧cs.size=16)∧Bk w g9 164 (rowOf bl)∧RdN w g8 Aw wi∧RdN w g8 Ah hi∧Below B w0 w
section
variable {g8 g9 : Nat} {w w' : World}
theorem TgC.below {B:Nat} {bl:List UInt8} {Aw:Option Addr} {wi:List UInt8} {Ah:Option Addr} {hi:List UInt8} {w0:World} (h:TgC g8 g9 B bl Aw wi Ah hi w0 w) (hb:Below w.heap.size w w') (hB:B≤g8):TgC g8 g9 B bl Aw wi Ah hi w0 w':=by
 obtain ⟨⟨cs,h1,h2⟩,h3,h4,h5,h6⟩:=h
 exact ⟨⟨cs,h1.below hb h1.lt,h2⟩,h3.below hb h3.lt,h4.grown (grown_of_below (World.grownBy.refl w _) hb),h5.grown (grown_of_below (World.grownBy.refl w _) hb),h6.trans (hb.mono (by have:=h1.lt;omega))⟩
theorem TgR.keep {kb:List UInt8} {Aw:Option Addr} {nw cw:Nat} {Ah:Option Addr} {nh ch N:Nat} {msg T:List UInt8} (j:Nat) (v:Value) (w w':World) (hT:TgT g8 T w w') (h:TgR g8 g9 kb Aw nw cw Ah nh ch N msg T j v w):TgR g8 g9 kb Aw nw cw Ah nh ch N msg T j v w':=by
 have hk:∀ {q:Nat} {t:TypeId} {cs:Array Value},g8 < q→Bk w q t cs→Bk w' q t cs:=fun hq hb=>hb.grown hT.1 (fun e=>by injection e with e;omega)
 rcases j with _ | _ | _ | _ | _ | _ | _ | _ | _ | _ | _ | _ | _ | _ | _ | _ | _ | j
 all_goals first
  | exact h
  | (obtain ⟨q,e,hq,hg⟩:=h;exact ⟨q,e,hq,hk hq hg⟩)
  | (obtain ⟨q,q1,q2,q3,q4,e,hq,hg,h1,h2,h3,h4⟩:=h;exact ⟨q,q1,q2,q3,q4,e,hq,hk hq hg,⟨h1.1,hk h1.1 h1.2⟩,⟨h2.1,hk h2.1 h2.2⟩,⟨h3.1,hk h3.1 h3.2⟩,⟨h4.1,hk h4.1 h4.2⟩⟩)
  | (obtain ⟨A,c,e,ho⟩:=h;exact ⟨A,c,e,ho.kept hT.1 (by
    cases hv:(Value.slice A N c).ownBlock with
    | none=>exact .inl rfl
    | some q=>exact .inr (by have:=(ho.lt q hv).1;intro e;injection e with e;omega))⟩)
  | exact hT.2 h
end
theorem sl64_32 (g:Nat) (W:World) :
  (Instr.sliceAt 164 (.pointer (some ⟨g,0,none⟩)) none (some (.int .i64 32)) none).run Tryz.prog W = .ok (.slice (some ⟨g,0,none⟩) 32 64) W:=by
 have he:Tryz.prog.elem 164=5:=by kernel_rfl
 have hn:Tryz.prog.arrayLen 164=64:=by kernel_rfl
 have ht:Tryz.prog.underlying 164=some (.array (Tryz.prog.arrayLen 164) (Tryz.prog.elem 164)):=by rw [he,hn];exact Tryz.underlying164
 rw [run_sliceAt_array_h W 164 ⟨g,0,none⟩ ht .i64 32 (by omega) (by rw [hn];omega),he,size8w,hn]
 rfl
theorem arr32_at (g:Nat) (W:World):(Instr.arrayAt 22 (.slice (some ⟨g,0,none⟩) 32 64)).run Tryz.prog W = .ok (.pointer (some ⟨g,0,none⟩)) W :=
 run_arrayAt W 22 5 32 _ 32 64 Tryz.underlying22 (by omega)
set_option maxHeartbeats 4000000 in
theorem tagOf_any (key nonce:List UInt8) (Aw:Option Addr) (nw cw:Nat) (wi:List UInt8) (Ah:Option Addr) (nh ch:Nat) (hi:List UInt8) (w:World) (hk:key.length=32) (hn:nonce.length=12)
  (hw:wi.length=nw) (hh:hi.length=nh) (hrw:Rd w w.heap.size Aw wi) (hrh:Rd w w.heap.size Ah hi) (hmw:nw≤1000000) (hmh:nh≤1000000) :
  Calls Tryz.prog 88 #[.agg (rowOf key),.agg (rowOf nonce),.slice Aw nw cw,.slice Ah nh ch] w fun e w'=>e = .returned (.agg (rowOf (tagB key nonce wi hi)))∧Below w.heap.size w w':=by
 have hz16:=z16
 have hzb:=zb64
 have HK:=hide_ hk
 have HN:=hide_ hn
 have HW:=hide_ hw
 have HH:=hide_ hh
 obtain ⟨g,hg⟩:∃ g,Hid (w.heap.size=g):=⟨_,rfl⟩
 obtain ⟨w0,hw0⟩:∃ W,Hid (((w.alloc (.cells (rowOf key) 22)).alloc (.cells (rowOf nonce) 107)).alloc (.cells (rowOf (zbytes 16)) 150)=W):=⟨_,rfl⟩
 have B0:Hid (Bk w0 g 22 (rowOf key)):=hide_ (by rw [← hw0.out,← hg.out];exact ((Bk.new w _ _).alloc _).alloc _)
 have B1:Hid (Bk w0 (g + 1) 107 (rowOf nonce)):=hide_ (by
  have h:=(Bk.new (w.alloc (.cells (rowOf key) 22)) 107 (rowOf nonce)).alloc (.cells (rowOf (zbytes 16)) 150)
  rw [← hw0.out,← hg.out]
  simpa using h)
 have B2:Hid (Bk w0 (g + 1 + 1) 150 (rowOf (zbytes 16))):=hide_ (by
  have h:=Bk.new ((w.alloc (.cells (rowOf key) 22)).alloc (.cells (rowOf nonce) 107)) 150 (rowOf (zbytes 16))
  rw [← hw0.out,← hg.out]
  simpa using h)
 have X0:Hid (Below g w w0):=hide_ (by rw [← hw0.out,← hg.out];exact (((Below.refl _ _).alloc (Nat.le_refl _) _).alloc (by simp) _).alloc (by simp;omega) _)
 have RW:Hid (Rd w0 g Aw wi):=hide_ (by have h:=hrw.below (B:=w.heap.size) (w':=w0) (by rw [hg.out];exact X0.out);rwa [hg.out] at h)
 have RH:Hid (Rd w0 g Ah hi):=hide_ (by have h:=hrh.below (B:=w.heap.size) (w':=w0) (by rw [hg.out];exact X0.out);rwa [hg.out] at h)
 have cb:=fun W=>block_anyq key nonce 0 W hk hn ok32_zeroq
 have LB:=hide_ (blockB_len key 0 nonce)
 obtain ⟨bl,hbl⟩:∃ bl,Hid (blockB key 0 nonce=bl):=⟨_,rfl⟩
 have hT0:Hid (tagB key nonce wi hi=polyTag (bl.take 32) (msgB wi hi)):=hide_ (by rw [← hbl.out];rfl)
 rw [hbl.out] at cb LB
 obtain ⟨T,hT⟩:∃ T,Hid (tagB key nonce wi hi=T):=⟨_,rfl⟩
 have TL:Hid (T.length=16):=hide_ (by rw [← hT.out];exact tagB_len _ _ _ _)
 rw [hT.out] at hT0 ⊢
 have I32:=hide_ (ib32 key hk)
 have I12:=hide_ (ib12 nonce hn)
 have I64:=hide_ (ib64 bl LB.out)
 have IT:Hid ((Tryz.prog.info? 150).map (·.size)=some (rowOf T).size):=hide_ (by rw [rowOf_size,TL.out];exact i16_)
 have S64:Hid ((rowOf (zbytes 64)).size=(rowOf bl).size):=hide_ (by rw [rowOf_size,rowOf_size,LB.out,zbytes_len])
 have hs1:(w.alloc (.cells (rowOf key) 22)).heap.size=g + 1:=by rw [← hg.out];simp
 have hs2:((w.alloc (.cells (rowOf key) 22)).alloc (.cells (rowOf nonce) 107)).heap.size=g + 1 + 1:=by rw [← hg.out];simp
 clear hk hn hw hh hrw hrh
 go_enter Tryz.func88,Tryz.ntmps88
 go_upto_region 1 with fail
 first | rw [hs1] | skip
 first | rw [hs2] | skip
 rw [hg.out,hw0.out]
 clear hs1 hs2
 have K0:=B0.out
 have K1:=B1.out
 go_upto_region 2 with (first
  | (refine wpList_load_row rfl 22 (.tmp 4) rfl g rfl 22 (rowOf key) (0,0) _ K0 Tryz.underlying22 rfl I32.out ?_)
  | (refine wpList_load_row rfl 107 (.tmp 5) rfl (g + 1) rfl 107 (rowOf nonce) (0,0) _ K1 Tryz.underlying107 rfl I12.out ?_)
  | (go_at_call 103;((with_reducible refine (cb _).mono ?_);rintro e w1 ⟨rfl,hb1⟩;have HB1:=hide_ hb1;clear hb1))
  | (refine wpList_put_row rfl 164 (.tmp 9) (.tmp 12) rfl w1.heap.size (rowOf bl) rfl rfl 164 (rowOf (zbytes 64)) (Bk.new w1 _ _) I64.out S64.out (bytes_one _) ?_;intro w2 k2 g2 s2))
 rw [put_none]
 have hl1:=HB1.out.size
 have hl0:=B2.out.lt
 have Y2:Below w0.heap.size w0 w2:=(HB1.out.alloc hl1 (.cells (rowOf (zbytes 64)) 164)).grown g2 (by simp;omega) (fun i hi=>by injection hi with hi;omega)
 have C2:=hide_ (B2.out.below Y2 B2.out.lt)
 have CX:=hide_ (X0.out.trans (Y2.mono (by omega)))
 have CW:=hide_ ((RW.out.below (Y2.mono (by omega))).rdn (g:=g + 1 + 1) (by omega) (by have:=C2.out.lt;omega))
 have CH:=hide_ ((RH.out.below (Y2.mono (by omega))).rdn (g:=g + 1 + 1) (by omega) (by have:=C2.out.lt;omega))
 have C9:=hide_ k2
 obtain ⟨g9,hg9⟩:∃ g9,Hid (w1.heap.size=g9):=⟨_,rfl⟩
 obtain ⟨g8,hg8⟩:∃ g8,Hid (g + 1 + 1=g8):=⟨_,rfl⟩
 have h89:g8 < g9:=by rw [← hg9.out,← hg8.out];omega
 have hgg8:g≤g8:=by rw [← hg8.out];omega
 rw [hg9.out] at C9 ⊢
 rw [hg8.out] at C2 CW CH ⊢
 obtain ⟨N,hN⟩:∃ N,Hid ((msgB wi hi).length=N):=⟨_,rfl⟩
 have hN2:N≤3000000:=by
  have h:=msgB_len wi hi
  have f1:fillN wi.length < 16:=by unfold fillN;omega
  have f2:fillN hi.length < 16:=by unfold fillN;omega
  rw [HW.out,HH.out] at h
  rw [HW.out] at f1
  rw [HH.out] at f2
  have:=hN.out
  omega
 have kbl:Hid ((bl.take 32).length=32):=hide_ (by rw [List.length_take,LB.out];rfl)
 have ikb:=hide_ (ib32 (bl.take 32) kbl.out)
 have hfn:Hid (zbytes (fillN wi.length)=zbytes (fillN nw)∧zbytes (fillN hi.length)=zbytes (fillN nh)∧lowB 8 wi.length=lowB 8 nw∧lowB 8 hi.length=lowB 8 nh):=hide_ (by rw [HW.out,HH.out];exact ⟨rfl,rfl,rfl,rfl⟩)
 clear k2 g2 s2 hl1 hl0 Y2 B0 B1 B2 X0 RW RH K0 K1 cb hzb hz16 I64 S64
 refine region_by (TgC g8 g9 g bl Aw wi Ah hi w) (TgT g8 T) (TgR g8 g9 (bl.take 32) Aw nw cw Ah nh ch N (msgB wi hi) T) (by kernel_rfl) (by kernel_rfl) (by kernel_rfl) (fun j v w w' hT h=>h.keep j v w w' hT) (fun j v w hlt hj h=>by
  rcases j with _ | _ | _ | _ | _ | _ | _ | _ | _ | _ | _ | _ | _ | _ | _ | _ | _ | j
  all_goals first
   | exact h
   | (exfalso;simp [dstOf] at hj;done)
   | (exfalso;simp at hlt;omega)) ⟨⟨_,C2.out.drew,by rw [rowOf_size,zbytes_len]⟩,C9.out.drew,CW.out,CH.out,CX.out.drew⟩ ?_ ?_
 ·refine ⟨?_,?_,?_,?_,?_,?_,?_,?_,?_,?_,?_,?_,?_,?_,?_,?_,?_,trivial⟩
  all_goals intro a w hC hd hf hv K hK
  ·-- 0: block[:32]
   have e1:=slot_of (a:=a) (s:=9) (v:=.pointer (some ⟨g9,0,none⟩)) (hf 9 (by kernel_rfl))
   have q:=sl64_32 g9 w
   refine step_run (wanted_none rfl) (v:=.slice (some ⟨g9,0,none⟩) 32 64) (w':=w) ?_ (hK _ _ hC (TgT.refl _ _ _) rfl)
   go_simp
  ·have e1:=slot_of (a:=a) (s:=13) (v:=.slice (some ⟨g9,0,none⟩) 32 64) (hv 0 (by kernel_rfl))
   have q:=arr32_at g9 w
   refine step_run (wanted_none rfl) (v:=.pointer (some ⟨g9,0,none⟩)) (w':=w) ?_ (hK _ _ hC (TgT.refl _ _ _) rfl)
   go_simp
  ·have e1:=eval_of (a:=a) (s:=14) (v:=.pointer (some ⟨g9,0,none⟩)) (hv 1 (by kernel_rfl))
   refine step_load_sub (wanted_none rfl) 22 (.tmp 14) rfl g9 0 e1 (rowOf (bl.take 32)) (fun j hj=>?_) _ Tryz.underlying22 rfl ikb.out (hK _ _ hC (TgT.refl _ _ _) rfl)
   rw [rowOf_size,kbl.out] at hj
   rw [hC.2.1.cell,Nat.zero_add,rowOf_get,rowOf_get,List.getElem?_take_of_lt hj]
  ·have e1:=slot_of (a:=a) (s:=2) (v:=.slice Aw nw cw) (hf 2 (by kernel_rfl))
   refine step_run (wanted_none rfl) (v:=.slice Aw nw cw) (w':=w) ?_ (hK _ _ hC (TgT.refl _ _ _) rfl)
   go_simp
  ·have e1:=slot_of (a:=a) (s:=2) (v:=.slice Aw nw cw) (hf 2 (by kernel_rfl))
   refine step_run (wanted_none rfl) (v:=.slice Aw nw cw) (w':=w) ?_ (hK _ _ hC (TgT.refl _ _ _) rfl)
   go_simp
  ·have e1:=slot_of (a:=a) (s:=17) (v:=.slice Aw nw cw) (hv 4 (by kernel_rfl))
   have hbn:=(Below.refl w.heap.size w).alloc (Nat.le_refl _) (.cells (rowOf (zbytes (fillN nw))) 5)
   refine step_call 106 #[.slice Aw nw cw] (.slice (some ⟨w.heap.size,0,none⟩) (fillN nw) (fillN nw)) (wanted_none rfl) (w':=w) ?_ ((filler_any Aw nw cw w (by omega)).mono fun e w2 hh=>⟨hh.1,?_⟩)
   ·go_simp
   ·rw [← hh.2]
    exact hK _ _ (hC.below hbn hgg8) (TgT.of_below hbn) ⟨_,rfl,by obtain ⟨cs,h1,_⟩:=hC.1;exact h1.lt,Bk.new w _ _⟩
  ·have e1:=slot_of (a:=a) (s:=3) (v:=.slice Ah nh ch) (hf 3 (by kernel_rfl))
   refine step_run (wanted_none rfl) (v:=.slice Ah nh ch) (w':=w) ?_ (hK _ _ hC (TgT.refl _ _ _) rfl)
   go_simp
  ·have e1:=slot_of (a:=a) (s:=3) (v:=.slice Ah nh ch) (hf 3 (by kernel_rfl))
   refine step_run (wanted_none rfl) (v:=.slice Ah nh ch) (w':=w) ?_ (hK _ _ hC (TgT.refl _ _ _) rfl)
   go_simp
  ·have e1:=slot_of (a:=a) (s:=20) (v:=.slice Ah nh ch) (hv 7 (by kernel_rfl))
   have hbn:=(Below.refl w.heap.size w).alloc (Nat.le_refl _) (.cells (rowOf (zbytes (fillN nh))) 5)
   refine step_call 106 #[.slice Ah nh ch] (.slice (some ⟨w.heap.size,0,none⟩) (fillN nh) (fillN nh)) (wanted_none rfl) (w':=w) ?_ ((filler_any Ah nh ch w (by omega)).mono fun e w2 hh=>⟨hh.1,?_⟩)
   ·go_simp
   ·rw [← hh.2]
    exact hK _ _ (hC.below hbn hgg8) (TgT.of_below hbn) ⟨_,rfl,by obtain ⟨cs,h1,_⟩:=hC.1;exact h1.lt,Bk.new w _ _⟩
  ·have e1:=slot_of (a:=a) (s:=2) (v:=.slice Aw nw cw) (hf 2 (by kernel_rfl))
   refine step_run (wanted_none rfl) (v:=.slice Aw nw cw) (w':=w) ?_ (hK _ _ hC (TgT.refl _ _ _) rfl)
   go_simp
  ·have e1:=slot_of (a:=a) (s:=22) (v:=.slice Aw nw cw) (hv 9 (by kernel_rfl))
   have hbn:=(Below.refl w.heap.size w).alloc (Nat.le_refl _) (.cells (rowOf (lowB 8 nw)) 5)
   refine step_call 107 #[.slice Aw nw cw] (.slice (some ⟨w.heap.size,0,none⟩) 8 8) (wanted_none rfl) (w':=w) ?_ ((count_any Aw nw cw w (by omega)).mono fun e w2 hh=>⟨hh.1,?_⟩)
   ·go_simp
   ·rw [← hh.2]
    exact hK _ _ (hC.below hbn hgg8) (TgT.of_below hbn) ⟨_,rfl,by obtain ⟨cs,h1,_⟩:=hC.1;exact h1.lt,Bk.new w _ _⟩
  ·have e1:=slot_of (a:=a) (s:=3) (v:=.slice Ah nh ch) (hf 3 (by kernel_rfl))
   refine step_run (wanted_none rfl) (v:=.slice Ah nh ch) (w':=w) ?_ (hK _ _ hC (TgT.refl _ _ _) rfl)
   go_simp
  ·have e1:=slot_of (a:=a) (s:=24) (v:=.slice Ah nh ch) (hv 11 (by kernel_rfl))
   have hbn:=(Below.refl w.heap.size w).alloc (Nat.le_refl _) (.cells (rowOf (lowB 8 nh)) 5)
   refine step_call 107 #[.slice Ah nh ch] (.slice (some ⟨w.heap.size,0,none⟩) 8 8) (wanted_none rfl) (w':=w) ?_ ((count_any Ah nh ch w (by omega)).mono fun e w2 hh=>⟨hh.1,?_⟩)
   ·go_simp
   ·rw [← hh.2]
    exact hK _ _ (hC.below hbn hgg8) (TgT.of_below hbn) ⟨_,rfl,by obtain ⟨cs,h1,_⟩:=hC.1;exact h1.lt,Bk.new w _ _⟩
  ·-- 13: the row of parts
   have e1:=slot_of (a:=a) (s:=16) (v:=.slice Aw nw cw) (hv 3 (by kernel_rfl))
   obtain ⟨q1,e2',hq1,hb1⟩:∃ q,a.tmps.getD 18 undef = .slice (some ⟨q,0,none⟩) (fillN nw) (fillN nw)∧g8 < q∧Bk w q 5 (rowOf (zbytes (fillN nw))):=hv 5 (by kernel_rfl)
   have e3:=slot_of (a:=a) (s:=19) (v:=.slice Ah nh ch) (hv 6 (by kernel_rfl))
   obtain ⟨q2,e4',hq2,hb2⟩:∃ q,a.tmps.getD 21 undef = .slice (some ⟨q,0,none⟩) (fillN nh) (fillN nh)∧g8 < q∧Bk w q 5 (rowOf (zbytes (fillN nh))):=hv 8 (by kernel_rfl)
   obtain ⟨q3,e5',hq3,hb3⟩:∃ q,a.tmps.getD 23 undef = .slice (some ⟨q,0,none⟩) 8 8∧g8 < q∧Bk w q 5 (rowOf (lowB 8 nw)):=hv 10 (by kernel_rfl)
   obtain ⟨q4,e6',hq4,hb4⟩:∃ q,a.tmps.getD 25 undef = .slice (some ⟨q,0,none⟩) 8 8∧g8 < q∧Bk w q 5 (rowOf (lowB 8 nh)):=hv 12 (by kernel_rfl)
   have e2:=slot_of e2'
   have e4:=slot_of e4'
   have e5:=slot_of e5'
   have e6:=slot_of e6'
   have hbn:=(Below.refl w.heap.size w).alloc (Nat.le_refl _) (.cells #[.slice Aw nw cw,.slice (some ⟨q1,0,none⟩) (fillN nw) (fillN nw),.slice Ah nh ch,.slice (some ⟨q2,0,none⟩) (fillN nh) (fillN nh),.slice (some ⟨q3,0,none⟩) 8 8,.slice (some ⟨q4,0,none⟩) 8 8] 23)
   refine step_run (wanted_none rfl) (v:=.slice (some ⟨w.heap.size,0,none⟩) 6 6) (w':=w.alloc (.cells #[.slice Aw nw cw,.slice (some ⟨q1,0,none⟩) (fillN nw) (fillN nw),.slice Ah nh ch,.slice (some ⟨q2,0,none⟩) (fillN nh) (fillN nh),.slice (some ⟨q3,0,none⟩) 8 8,.slice (some ⟨q4,0,none⟩) 8 8] 23)) ?_ (hK _ _ (hC.below hbn hgg8) (TgT.of_below hbn) ⟨_,q1,q2,q3,q4,rfl,by obtain ⟨cs,h1,_⟩:=hC.1;exact h1.lt,Bk.new w _ _,⟨hq1,hb1.alloc _⟩,⟨hq2,hb2.alloc _⟩,⟨hq3,hb3.alloc _⟩,⟨hq4,hb4.alloc _⟩⟩)
   clear hv hK hf hb1 hb2 hb3 hb4 e2' e4' e5' e6' hbn
   go_simp
  ·-- 14: all of them
   obtain ⟨q,q1,q2,q3,q4,e1',hq,hb,h1,h2,h3,h4⟩:∃ q q1 q2 q3 q4,a.tmps.getD 26 undef = .slice (some ⟨q,0,none⟩) 6 6∧g8 < q∧Bk w q 23 #[.slice Aw nw cw,.slice (some ⟨q1,0,none⟩) (fillN nw) (fillN nw),.slice Ah nh ch,.slice (some ⟨q2,0,none⟩) (fillN nh) (fillN nh),.slice (some ⟨q3,0,none⟩) 8 8,.slice (some ⟨q4,0,none⟩) 8 8] ∧
    (g8 < q1∧Bk w q1 5 (rowOf (zbytes (fillN nw))))∧(g8 < q2∧Bk w q2 5 (rowOf (zbytes (fillN nh))))∧(g8 < q3∧Bk w q3 5 (rowOf (lowB 8 nw)))∧(g8 < q4∧Bk w q4 5 (rowOf (lowB 8 nh))):=hv 13 (by kernel_rfl)
   have e1:=slot_of e1'
   have hpa:CatAt w w.heap.size q [(Aw,cw,wi),(some ⟨q1,0,none⟩,fillN nw,zbytes (fillN nw)),(Ah,ch,hi),(some ⟨q2,0,none⟩,fillN nh,zbytes (fillN nh)),(some ⟨q3,0,none⟩,8,lowB 8 nw),(some ⟨q4,0,none⟩,8,lowB 8 nh)]:=by
    refine ⟨hb.lt,fun i hi=>?_⟩
    have hcell:=hb.cell i
    have hlt:i < 6:=hi
    rcases i with _ | _ | _ | _ | _ | _ | i
    ·exact ⟨hcell.trans (by simp [HW.out]),hC.2.2.1.rd⟩
    ·exact ⟨hcell.trans (by simp [zbytes_len]),h1.2.rd h1.2.lt⟩
    ·exact ⟨hcell.trans (by simp [HH.out]),hC.2.2.2.1.rd⟩
    ·exact ⟨hcell.trans (by simp [zbytes_len]),h2.2.rd h2.2.lt⟩
    ·exact ⟨hcell.trans (by simp [lowB_len]),h3.2.rd h3.2.lt⟩
    ·exact ⟨hcell.trans (by simp [lowB_len]),h4.2.rd h4.2.lt⟩
    ·omega
   have hfl:flat [(Aw,cw,wi),(some ⟨q1,0,none⟩,fillN nw,zbytes (fillN nw)),(Ah,ch,hi),(some ⟨q2,0,none⟩,fillN nh,zbytes (fillN nh)),(some ⟨q3,0,none⟩,8,lowB 8 nw),(some ⟨q4,0,none⟩,8,lowB 8 nh)]=msgB wi hi:=by
    simp [flat,msgB,HW.out,HH.out]
   have cc:=concat_any q 6 6 N _ w rfl (by rw [hfl];exact hN.out) hpa (by omega) (by omega)
   rw [hfl] at cc
   clear hfl hpa h1 h2 h3 h4 hb e1'
   refine step_callx 49 #[.slice (some ⟨q,0,none⟩) 6 6] (wanted_none rfl) (w':=w) ?_ (cc.mono fun e w2 hh=>?_)
   ·go_simp
   ·obtain ⟨A,c,he,ho,hb2⟩:=hh
    exact ⟨_,he,hK _ _ (hC.below hb2 hgg8) (TgT.of_below hb2) ⟨A,c,rfl,ho.lower (by obtain ⟨cs,h1,_⟩:=hC.1;exact h1.lt)⟩⟩
  ·-- 15: the tag
   have e1:=slot_of (a:=a) (s:=15) (v:=.agg (rowOf (bl.take 32))) (hv 2 (by kernel_rfl))
   obtain ⟨A,c,e2',ho⟩:∃ A c,a.tmps.getD 27 undef = .slice A N c∧Own8 w (g8 + 1) (.slice A N c) (msgB wi hi):=hv 14 (by kernel_rfl)
   have e2:=slot_of e2'
   have hcap:=ho.cap
   have ct:=tag_any (bl.take 32) A N c (msgB wi hi) w kbl.out hN.out hcap.1 hcap.2 ho.rd.1
   rw [← hT0.out] at ct
   clear e2' hcap ho
   refine step_call 105 #[.agg (rowOf (bl.take 32)),.slice A N c] (.agg (rowOf T)) (wanted_none rfl) (w':=w) ?_ (ct.mono fun e w2 hh=>⟨hh.1,hK _ _ (hC.below hh.2 hgg8) (TgT.of_below hh.2) rfl⟩)
   go_simp
  ·-- 16: it is laid
   have e1:=eval_of (a:=a) (s:=8) (v:=.pointer (some ⟨g8,0,none⟩)) (hf 8 (by kernel_rfl))
   have e2:=eval_of (a:=a) (s:=28) (v:=.agg (rowOf T)) (hv 15 (by kernel_rfl))
   obtain ⟨⟨cs,h1,h2⟩,h3,h4,h5,h6⟩:=hC
   refine step_put_row rfl 150 (.tmp 8) (.tmp 28) rfl g8 (rowOf T) e1 e2 150 cs h1 IT.out (by rw [h2,rowOf_size,TL.out]) (bytes_one _) fun w2 k2 g2 s2=>?_
   exact hK _ _ ⟨⟨_,k2,by rw [rowOf_size,TL.out]⟩,h3.grown g2 (fun e=>by injection e with e;omega),h4.grown g2,h5.grown g2,h6.grown g2 (by have:=h1.lt;omega) (fun i hi=>by injection hi with hi;omega)⟩ ⟨g2,fun _=>k2⟩ k2
 ·intro a W hC hd hsz hf hv
  have e0:=eval_of (a:=a) (s:=8) (v:=.pointer (some ⟨g8,0,none⟩)) (hf 8 (by kernel_rfl))
  have HR:Bk W g8 150 (rowOf T):=hv 16 (by decide)
  have HX:=hide_ hC.2.2.2.2
  clear hC hf hv
  rename_i K hK
  refine hK _ _ ?_
  obtain ⟨tm,df⟩:=a
  obtain rfl:df = []:=hd
  go_wp2
  exact bodyPost_ret (results_cell_row Tryz.results88 _ _ g8 150 _ (0,0) _ e0 HR Tryz.underlying150 rfl IT.out) rfl ⟨rfl,by rw [hg.out];exact HX.out⟩
def sealB (key nonce wi b:List UInt8):List UInt8:=streamB key nonce 1 b ++ tagB key nonce wi (streamB key nonce 1 b)
theorem sealB_len (key nonce wi b:List UInt8):(sealB key nonce wi b).length=b.length + 16:=by
 rw [sealB,List.length_append,streamB_len,tagB_len]
theorem ok32_one:ok32q 1:=⟨by decide,by decide⟩
theorem sl16_all (g:Nat) (W:World) :
  (Instr.sliceAt 150 (.pointer (some ⟨g,0,none⟩)) none none none).run Tryz.prog W = .ok (.slice (some ⟨g,0,none⟩) 16 16) W:=slice_all16 g W
set_option maxHeartbeats 2000000 in
theorem seal_any (key nonce:List UInt8) (Aw:Option Addr) (nw cw:Nat) (wi:List UInt8) (Ab:Option Addr) (nb cb:Nat) (b:List UInt8) (w:World) (hk:key.length=32) (hn:nonce.length=12)
  (hw:wi.length=nw) (hb:b.length=nb) (hrw:Rd w w.heap.size Aw wi) (hrb:Rd w w.heap.size Ab b) (hcb:nb≤cb) (hcm:cb≤9223372036854775807) (hmw:nw≤1000000) (hmb:nb≤1000000) :
  Calls Tryz.prog 58 #[.agg (rowOf key),.agg (rowOf nonce),.slice Aw nw cw,.slice Ab nb cb] w (NewP w (nb + 16) (sealB key nonce wi b)):=by
 have hz16:=z16
 obtain ⟨g,hg⟩:∃ g,Hid (w.heap.size=g):=⟨_,rfl⟩
 obtain ⟨w0,hw0⟩:∃ W,Hid ((w.alloc (.cells (rowOf key) 22)).alloc (.cells (rowOf nonce) 107)=W):=⟨_,rfl⟩
 have B0:Hid (Bk w0 g 22 (rowOf key)):=hide_ (by rw [← hw0.out,← hg.out];exact (Bk.new w _ _).alloc _)
 have B1:Hid (Bk w0 (g + 1) 107 (rowOf nonce)):=hide_ (by
  have h:=Bk.new (w.alloc (.cells (rowOf key) 22)) 107 (rowOf nonce)
  rw [← hw0.out,← hg.out]
  simpa using h)
 have X0:Hid (Below g w w0):=hide_ (by rw [← hw0.out,← hg.out];exact ((Below.refl _ _).alloc (Nat.le_refl _) _).alloc (by simp) _)
 have hsz:Hid (w0.heap.size=g + 2):=hide_ (by rw [← hw0.out,← hg.out];simp)
 have RW:Hid (Rd w0 w0.heap.size Aw wi):=hide_ (by have h:=hrw.below (B:=w.heap.size) (w':=w0) (by rw [hg.out];exact X0.out);exact h.more (by rw [hsz.out,hg.out];omega))
 have RB:Rd w0 w0.heap.size Ab b:=by have h:=hrb.below (B:=w.heap.size) (w':=w0) (by rw [hg.out];exact X0.out);exact h.more (by rw [hsz.out,hg.out];omega)
 have cs:=stream_any key nonce 1 Ab nb cb b w0 hk hn ok32_one hb RB hcb hcm (by omega)
 have hsl:=streamB_len key nonce 1 b
 rw [hb] at hsl
 have HSl:=hide_ hsl
 have HD:Hid (sealB key nonce wi b=streamB key nonce 1 b ++ tagB key nonce wi (streamB key nonce 1 b)):=hide_ rfl
 obtain ⟨hid,hhid⟩:∃ hid,Hid (streamB key nonce 1 b=hid):=⟨_,rfl⟩
 rw [hhid.out] at cs HSl HD
 have HK:=hide_ hk
 have HN:=hide_ hn
 have HW:=hide_ hw
 have I32:=hide_ (ib32 key hk)
 have I12:=hide_ (ib12 nonce hn)
 obtain ⟨T,hT⟩:∃ T,Hid (tagB key nonce wi hid=T):=⟨_,rfl⟩
 have TL:Hid (T.length=16):=hide_ (by rw [← hT.out];exact tagB_len _ _ _ _)
 have IT:Hid ((Tryz.prog.info? 150).map (·.size)=some (rowOf T).size):=hide_ (by rw [rowOf_size,TL.out];exact i16_)
 rw [hT.out] at HD
 have K0:=B0.out
 have K1:=B1.out
 clear hk hn hw hb hrw hrb RB hsl
 go_enter Tryz.func58,Tryz.ntmps58
 go_upto_region 1 with fail
 rw [hg.out,hw0.out]
 go_upto_region 2 with (first
  | (refine wpList_load_row rfl 22 (.tmp 4) rfl g rfl 22 (rowOf key) (0,0) _ K0 Tryz.underlying22 rfl I32.out ?_)
  | (refine wpList_load_row rfl 107 (.tmp 5) rfl (g + 1) rfl 107 (rowOf nonce) (0,0) _ K1 Tryz.underlying107 rfl I12.out ?_)
  | (go_at_call 84;((with_reducible refine cs.mono ?_);rintro e w1 ⟨A1,c1,rfl,ho1,hb1⟩;have HO1:=hide_ ho1;have HB1:=hide_ hb1;clear ho1 hb1)))
 clear cs K0 K1
 have C0:=hide_ (B0.out.below HB1.out B0.out.lt)
 have C1:=hide_ (B1.out.below HB1.out B1.out.lt)
 have CX:=hide_ (X0.out.trans (HB1.out.mono (by rw [hsz.out];omega)))
 have RW1:=(RW.out.below HB1.out).more HB1.out.size
 have ct:=tagOf_any key nonce Aw nw cw wi A1 nb c1 hid w1 HK.out HN.out HW.out HSl.out RW1 HO1.out.rd.1 hmw hmb
 rw [hT.out] at ct
 have K0:=C0.out
 have K1:=C1.out
 clear RW1
 go_upto_region 3 with (first
  | (refine wpList_load_row rfl 22 (.tmp 4) rfl g rfl 22 (rowOf key) (0,0) _ K0 Tryz.underlying22 rfl I32.out ?_)
  | (refine wpList_load_row rfl 107 (.tmp 5) rfl (g + 1) rfl 107 (rowOf nonce) (0,0) _ K1 Tryz.underlying107 rfl I12.out ?_)
  | (go_at_call 88;((with_reducible refine ct.mono ?_);rintro e w2 ⟨rfl,hb2⟩;have HB2:=hide_ hb2;clear hb2))
  | (refine wpList_put_row rfl 150 (.tmp 10) (.tmp 19) rfl w2.heap.size (rowOf T) rfl rfl 150 (rowOf (zbytes 16)) (Bk.new w2 _ _) IT.out (by rw [rowOf_size,rowOf_size,TL.out,zbytes_len]) (bytes_one _) ?_;intro w3 k3 g3 s3))
 rw [put_none]
 have hl2:=HB2.out.size
 have Y3:Below w1.heap.size w1 w3:=(HB2.out.alloc hl2 (.cells (rowOf (zbytes 16)) 150)).grown g3 (by simp;omega) (fun i hi=>by injection hi with hi;omega)
 have HO3:=HO1.out.below Y3 (Nat.le_refl _)
 have C3:=hide_ (CX.out.trans (Y3.mono (by have:=C1.out.lt;omega)))
 have RT:=rd_of_bk k3 (Nat.lt_succ_self _)
 have hbs:w0.heap.size≤w3.heap.size:=Nat.le_trans HB1.out.size Y3.size
 have hlt3:=HO3.lt
 have HL3:=hide_ hlt3
 have s1:=sl16_all w2.heap.size
 clear k3 g3 s3 Y3 ct K0 K1 hl2 hlt3
 go_wp2_with (at_builtin;refine wpList_app rfl (.tmp 20) (.tmp 21) rfl HO3 rfl 16 16 rfl RT TL.out ?_ ?_ ?_;(rw [HSl.out];omega);(exact hbs);(intro A' c' w4 k1 k2 k3;rw [HSl.out] at k1 ⊢))
 have E1:=hide_ (k1.lower (b':=g) (by rw [hsz.out];omega))
 have E2:=hide_ (C3.out.grown k2 (by rw [hsz.out] at hbs;omega) (fun t ht=>by have:=(HL3.out t ht).1;rw [hsz.out] at this;omega))
 clear k1 k2 k3 HO3 RT
 go_wp2
 go_ret
 exact ⟨A',c',rfl,by rw [HD.out,hg.out];exact E1.out,by rw [hg.out];exact E2.out⟩
def OpenedP (w:World) (n:Nat) (l:List UInt8) (e:Ending) (w':World):Prop :=
 ∃ A c,e = .returned (.tuple #[.slice A n c,.int .i64 0])∧Own8 w' w.heap.size (.slice A n c) l∧Below w.heap.size w w'
def FailedP (w:World) (z:Int) (e:Ending) (w':World):Prop:=e = .returned (.tuple #[.slice none 0 0,.int .i64 z])∧Below w.heap.size w w'
set_option maxHeartbeats 1000000 in
theorem aopen_short (key nonce:List UInt8) (Aw:Option Addr) (nw cw:Nat) (As:Option Addr) (ns cs:Nat) (w:World) (h:ns < 16) :
  Calls Tryz.prog 70 #[.agg (rowOf key),.agg (rowOf nonce),.slice Aw nw cw,.slice As ns cs] w (FailedP w 2):=by
 go_enter Tryz.func70,Tryz.ntmps70
 go_wp2
 go_ret2
 exact ⟨rfl,((Below.refl _ _).alloc (Nat.le_refl _) _).alloc (by simp) _⟩
set_option maxHeartbeats 2000000 in
theorem aopen_no (key nonce:List UInt8) (Aw:Option Addr) (nw cw:Nat) (wi:List UInt8) (As:Option Addr) (m cs:Nat) (s:List UInt8) (w:World) (hk:key.length=32) (hn:nonce.length=12)
  (hw:wi.length=nw) (hs:s.length=m + 16) (hrw:Rd w w.heap.size Aw wi) (hrs:Rd w w.heap.size As s) (hcs:m + 16≤cs) (hcm:cs≤9223372036854775807) (hmw:nw≤1000000) (hmm:m≤1000000)
  (ho:tagB key nonce wi (s.take m)≠s.drop m) :
  Calls Tryz.prog 70 #[.agg (rowOf key),.agg (rowOf nonce),.slice Aw nw cw,.slice As (m + 16:Nat) cs] w (FailedP w 6):=by
 have hz16:=z16
 obtain ⟨g,hg⟩:∃ g,Hid (w.heap.size=g):=⟨_,rfl⟩
 obtain ⟨w0,hw0⟩:∃ W,Hid ((w.alloc (.cells (rowOf key) 22)).alloc (.cells (rowOf nonce) 107)=W):=⟨_,rfl⟩
 have B0:Hid (Bk w0 g 22 (rowOf key)):=hide_ (by rw [← hw0.out,← hg.out];exact (Bk.new w _ _).alloc _)
 have B1:Hid (Bk w0 (g + 1) 107 (rowOf nonce)):=hide_ (by
  have h:=Bk.new (w.alloc (.cells (rowOf key) 22)) 107 (rowOf nonce)
  rw [← hw0.out,← hg.out]
  simpa using h)
 have X0:Hid (Below g w w0):=hide_ (by rw [← hw0.out,← hg.out];exact ((Below.refl _ _).alloc (Nat.le_refl _) _).alloc (by simp) _)
 have hsz:Hid (w0.heap.size=g + 2):=hide_ (by rw [← hw0.out,← hg.out];simp)
 have RW:Hid (Rd w0 w0.heap.size Aw wi):=hide_ (by have h:=hrw.below (B:=w.heap.size) (w':=w0) (by rw [hg.out];exact X0.out);exact h.more (by rw [hsz.out,hg.out];omega))
 have RS:Rd w0 w0.heap.size As s:=by have h:=hrs.below (B:=w.heap.size) (w':=w0) (by rw [hg.out];exact X0.out);exact h.more (by rw [hsz.out,hg.out];omega)
 have R1:=hide_ (RS.take m)
 have R2:=hide_ (rd_from RS cs m (by omega) (by omega))
 have L1:Hid ((s.take m).length=m):=hide_ (by rw [List.length_take];omega)
 have L2:Hid ((s.drop m).length=16):=hide_ (by rw [List.length_drop];omega)
 have s1:=fun W=>slice_to As (m + 16) cs (m:Int) m rfl (by omega) W
 have s2:=fun W=>slice_from As (m + 16) cs m (by omega) W
 rw [show m + 16 - m=16 by omega] at s2
 generalize (if cs=m then As else As.map (·.add m))=At at *
 generalize s.take m=hid at *
 generalize s.drop m=told at *
 have HK:=hide_ hk
 have HN:=hide_ hn
 have HW:=hide_ hw
 have I32:=hide_ (ib32 key hk)
 have I12:=hide_ (ib12 nonce hn)
 obtain ⟨T,hT⟩:∃ T,Hid (tagB key nonce wi hid=T):=⟨_,rfl⟩
 have TL:Hid (T.length=16):=hide_ (by rw [← hT.out];exact tagB_len _ _ _ _)
 have IT:Hid ((Tryz.prog.info? 150).map (·.size)=some (rowOf T).size):=hide_ (by rw [rowOf_size,TL.out];exact i16_)
 rw [hT.out] at ho
 have hbe:Hid ((T == told)=false):=hide_ (by exact beq_false_of_ne ho)
 clear hk hn hw hs hrw hrs RS ho
 go_enter Tryz.func70,Tryz.ntmps70
 go_upto_region 1 with fail
 rw [hg.out,hw0.out]
 have d0:decide ((m:Int) + 16 < 16)=false:=decide_eq_false (by omega)
 go_upto_region 3 with fail
 have q1:IntKind.i64.wrap ((m:Int) + 16 - 16)=(m:Int):=by
  have:(m:Int) + 16 - 16=(m:Int):=by omega
  rw [this];exact IntWalk.i64_in _ (by omega)
 have q2:(m:Int) + 16 - 16=(m:Int):=by omega
 go_quiet (fail)
 obtain ⟨wd,hwd⟩:∃ wd,w0.drewN nq=wd:=⟨_,rfl⟩
 have D0:Hid (Bk wd g 22 (rowOf key)):=hide_ (by rw [← hwd];exact B0.out.drewN nq)
 have D1:Hid (Bk wd (g + 1) 107 (rowOf nonce)):=hide_ (by rw [← hwd];exact B1.out.drewN nq)
 have DX:Hid (Below g w wd):=hide_ (by rw [← hwd];exact below_drewN X0.out nq)
 have DW:Hid (Rd wd wd.heap.size Aw wi):=hide_ (by rw [← hwd];exact RW.out.drewN nq)
 have DR1:Hid (Rd wd wd.heap.size As hid):=hide_ (by rw [← hwd];exact R1.out.drewN nq)
 have DR2:Hid (Rd wd wd.heap.size At told):=hide_ (by rw [← hwd];exact R2.out.drewN nq)
 have hszd:Hid (wd.heap.size=g + 2):=hide_ (by rw [← hwd];exact hsz.out)
 rw [hwd]
 clear hwd s1 s2 q1 q2 B0 B1 X0 RW R1 R2 hw0 hsz
 have ct:=tagOf_any key nonce Aw nw cw wi As m cs hid wd HK.out HN.out HW.out L1.out DW.out DR1.out hmw hmm
 rw [hT.out] at ct
 have K0:=D0.out
 have K1:=D1.out
 go_upto_region 5 with (first
  | (refine wpList_load_row rfl 22 (.tmp 4) rfl g rfl 22 (rowOf key) (0,0) _ K0 Tryz.underlying22 rfl I32.out ?_)
  | (refine wpList_load_row rfl 107 (.tmp 5) rfl (g + 1) rfl 107 (rowOf nonce) (0,0) _ K1 Tryz.underlying107 rfl I12.out ?_)
  | (go_at_call 88;((with_reducible refine ct.mono ?_);rintro e w2 ⟨rfl,hb2⟩;have HB2:=hide_ hb2;clear hb2))
  | (refine wpList_put_row rfl 150 (.tmp 12) (.tmp 30) rfl w2.heap.size (rowOf T) rfl rfl 150 (rowOf (zbytes 16)) (Bk.new w2 _ _) IT.out (by rw [rowOf_size,rowOf_size,TL.out,zbytes_len]) (bytes_one _) ?_;intro w3 k3 g3 s3))
 rw [put_none]
 have hl2:=HB2.out.size
 have Y3:Below wd.heap.size wd w3:=(HB2.out.alloc hl2 (.cells (rowOf (zbytes 16)) 150)).grown g3 (by simp;omega) (fun i hi=>by injection hi with hi;omega)
 have E0:=hide_ (D0.out.below Y3 D0.out.lt)
 have E1:=hide_ (D1.out.below Y3 D1.out.lt)
 have EX:=hide_ (DX.out.trans (Y3.mono (by rw [hszd.out];omega)))
 have ER1:=hide_ ((DR1.out.below Y3).more Y3.size)
 have ER2:=hide_ ((DR2.out.below Y3).more Y3.size)
 have hsz3:g + 2≤w3.heap.size:=by have:=Y3.size;rw [hszd.out] at this;exact this
 have HT:=hide_ (rd_of_bk k3 (Nat.lt_succ_self _))
 have hTl3:=k3.lt
 have RT:Rd w3 w3.heap.size (some ⟨w2.heap.size,0,none⟩) T:=HT.out.more (by omega)
 have cq:=same_any (some ⟨w2.heap.size,0,none⟩) At 16 (cs - m) T told 16 16 w3 TL.out L2.out RT ER2.out (by omega) (by omega)
 rw [hbe.out] at cq
 have s1:=sl16_all w2.heap.size
 clear k3 g3 s3 Y3 ct K0 K1 hl2 HT RT hTl3 D0 D1 DX DW DR1 DR2 HB2
 go_wp2_with (go_at_call 93;((with_reducible refine cq.mono ?_);rintro e w4 ⟨rfl,hb4⟩;have HB4:=hide_ hb4;clear hb4))
 go_ret2
 exact ⟨rfl,by rw [hg.out];exact EX.out.trans (HB4.out.mono (by omega))⟩
set_option maxHeartbeats 2000000 in
theorem aopen_yes (key nonce:List UInt8) (Aw:Option Addr) (nw cw:Nat) (wi:List UInt8) (As:Option Addr) (m cs:Nat) (s:List UInt8) (w:World) (hk:key.length=32) (hn:nonce.length=12)
  (hw:wi.length=nw) (hs:s.length=m + 16) (hrw:Rd w w.heap.size Aw wi) (hrs:Rd w w.heap.size As s) (hcs:m + 16≤cs) (hcm:cs≤9223372036854775807) (hmw:nw≤1000000) (hmm:m≤1000000)
  (ho:tagB key nonce wi (s.take m)=s.drop m) :
  Calls Tryz.prog 70 #[.agg (rowOf key),.agg (rowOf nonce),.slice Aw nw cw,.slice As (m + 16:Nat) cs] w (OpenedP w m (streamB key nonce 1 (s.take m))):=by
 have hz16:=z16
 obtain ⟨g,hg⟩:∃ g,Hid (w.heap.size=g):=⟨_,rfl⟩
 obtain ⟨w0,hw0⟩:∃ W,Hid ((w.alloc (.cells (rowOf key) 22)).alloc (.cells (rowOf nonce) 107)=W):=⟨_,rfl⟩
 have B0:Hid (Bk w0 g 22 (rowOf key)):=hide_ (by rw [← hw0.out,← hg.out];exact (Bk.new w _ _).alloc _)
 have B1:Hid (Bk w0 (g + 1) 107 (rowOf nonce)):=hide_ (by
  have h:=Bk.new (w.alloc (.cells (rowOf key) 22)) 107 (rowOf nonce)
  rw [← hw0.out,← hg.out]
  simpa using h)
 have X0:Hid (Below g w w0):=hide_ (by rw [← hw0.out,← hg.out];exact ((Below.refl _ _).alloc (Nat.le_refl _) _).alloc (by simp) _)
 have hsz:Hid (w0.heap.size=g + 2):=hide_ (by rw [← hw0.out,← hg.out];simp)
 have RW:Hid (Rd w0 w0.heap.size Aw wi):=hide_ (by have h:=hrw.below (B:=w.heap.size) (w':=w0) (by rw [hg.out];exact X0.out);exact h.more (by rw [hsz.out,hg.out];omega))
 have RS:Rd w0 w0.heap.size As s:=by have h:=hrs.below (B:=w.heap.size) (w':=w0) (by rw [hg.out];exact X0.out);exact h.more (by rw [hsz.out,hg.out];omega)
 have R1:=hide_ (RS.take m)
 have R2:=hide_ (rd_from RS cs m (by omega) (by omega))
 have L1:Hid ((s.take m).length=m):=hide_ (by rw [List.length_take];omega)
 have L2:Hid ((s.drop m).length=16):=hide_ (by rw [List.length_drop];omega)
 have s1:=fun W=>slice_to As (m + 16) cs (m:Int) m rfl (by omega) W
 have s2:=fun W=>slice_from As (m + 16) cs m (by omega) W
 rw [show m + 16 - m=16 by omega] at s2
 generalize (if cs=m then As else As.map (·.add m))=At at *
 generalize s.take m=hid at *
 generalize s.drop m=told at *
 have HK:=hide_ hk
 have HN:=hide_ hn
 have HW:=hide_ hw
 have I32:=hide_ (ib32 key hk)
 have I12:=hide_ (ib12 nonce hn)
 obtain ⟨T,hT⟩:∃ T,Hid (tagB key nonce wi hid=T):=⟨_,rfl⟩
 have TL:Hid (T.length=16):=hide_ (by rw [← hT.out];exact tagB_len _ _ _ _)
 have IT:Hid ((Tryz.prog.info? 150).map (·.size)=some (rowOf T).size):=hide_ (by rw [rowOf_size,TL.out];exact i16_)
 rw [hT.out] at ho
 have hbe:Hid ((T == told)=true):=hide_ (by rw [ho];exact beq_self_eq_true _)
 clear hk hn hw hs hrw hrs RS ho
 go_enter Tryz.func70,Tryz.ntmps70
 go_upto_region 1 with fail
 rw [hg.out,hw0.out]
 have d0:decide ((m:Int) + 16 < 16)=false:=decide_eq_false (by omega)
 go_upto_region 3 with fail
 have q1:IntKind.i64.wrap ((m:Int) + 16 - 16)=(m:Int):=by
  have:(m:Int) + 16 - 16=(m:Int):=by omega
  rw [this];exact IntWalk.i64_in _ (by omega)
 have q2:(m:Int) + 16 - 16=(m:Int):=by omega
 go_quiet (fail)
 obtain ⟨wd,hwd⟩:∃ wd,w0.drewN nq=wd:=⟨_,rfl⟩
 have D0:Hid (Bk wd g 22 (rowOf key)):=hide_ (by rw [← hwd];exact B0.out.drewN nq)
 have D1:Hid (Bk wd (g + 1) 107 (rowOf nonce)):=hide_ (by rw [← hwd];exact B1.out.drewN nq)
 have DX:Hid (Below g w wd):=hide_ (by rw [← hwd];exact below_drewN X0.out nq)
 have DW:Hid (Rd wd wd.heap.size Aw wi):=hide_ (by rw [← hwd];exact RW.out.drewN nq)
 have DR1:Hid (Rd wd wd.heap.size As hid):=hide_ (by rw [← hwd];exact R1.out.drewN nq)
 have DR2:Hid (Rd wd wd.heap.size At told):=hide_ (by rw [← hwd];exact R2.out.drewN nq)
 have hszd:Hid (wd.heap.size=g + 2):=hide_ (by rw [← hwd];exact hsz.out)
 rw [hwd]
 clear hwd s1 s2 q1 q2 B0 B1 X0 RW R1 R2 hw0 hsz
 have ct:=tagOf_any key nonce Aw nw cw wi As m cs hid wd HK.out HN.out HW.out L1.out DW.out DR1.out hmw hmm
 rw [hT.out] at ct
 have K0:=D0.out
 have K1:=D1.out
 go_upto_region 5 with (first
  | (refine wpList_load_row rfl 22 (.tmp 4) rfl g rfl 22 (rowOf key) (0,0) _ K0 Tryz.underlying22 rfl I32.out ?_)
  | (refine wpList_load_row rfl 107 (.tmp 5) rfl (g + 1) rfl 107 (rowOf nonce) (0,0) _ K1 Tryz.underlying107 rfl I12.out ?_)
  | (go_at_call 88;((with_reducible refine ct.mono ?_);rintro e w2 ⟨rfl,hb2⟩;have HB2:=hide_ hb2;clear hb2))
  | (refine wpList_put_row rfl 150 (.tmp 12) (.tmp 30) rfl w2.heap.size (rowOf T) rfl rfl 150 (rowOf (zbytes 16)) (Bk.new w2 _ _) IT.out (by rw [rowOf_size,rowOf_size,TL.out,zbytes_len]) (bytes_one _) ?_;intro w3 k3 g3 s3))
 rw [put_none]
 have hl2:=HB2.out.size
 have Y3:Below wd.heap.size wd w3:=(HB2.out.alloc hl2 (.cells (rowOf (zbytes 16)) 150)).grown g3 (by simp;omega) (fun i hi=>by injection hi with hi;omega)
 have E0:=hide_ (D0.out.below Y3 D0.out.lt)
 have E1:=hide_ (D1.out.below Y3 D1.out.lt)
 have EX:=hide_ (DX.out.trans (Y3.mono (by rw [hszd.out];omega)))
 have ER1:=hide_ ((DR1.out.below Y3).more Y3.size)
 have ER2:=hide_ ((DR2.out.below Y3).more Y3.size)
 have hsz3:g + 2≤w3.heap.size:=by have:=Y3.size;rw [hszd.out] at this;exact this
 have HT:=hide_ (rd_of_bk k3 (Nat.lt_succ_self _))
 have hTl3:=k3.lt
 have RT:Rd w3 w3.heap.size (some ⟨w2.heap.size,0,none⟩) T:=HT.out.more (by omega)
 have cq:=same_any (some ⟨w2.heap.size,0,none⟩) At 16 (cs - m) T told 16 16 w3 TL.out L2.out RT ER2.out (by omega) (by omega)
 rw [hbe.out] at cq
 have s1:=sl16_all w2.heap.size
 clear k3 g3 s3 Y3 ct K0 K1 hl2 HT RT hTl3 D0 D1 DX DW DR1 DR2 HB2
 go_upto_region 7 with (go_at_call 93;((with_reducible refine cq.mono ?_);rintro e w4 ⟨rfl,hb4⟩;have HB4:=hide_ hb4;clear hb4))
 have F0:=hide_ (E0.out.below HB4.out E0.out.lt)
 have F1:=hide_ (E1.out.below HB4.out E1.out.lt)
 have FX:=hide_ (EX.out.trans (HB4.out.mono (by omega)))
 have FR:=(ER1.out.below HB4.out).more HB4.out.size
 have css:=stream_any key nonce 1 As m cs hid w4 HK.out HN.out ok32_one L1.out FR (by omega) hcm (by omega)
 have K0:=F0.out
 have K1:=F1.out
 have hsz4:g + 2≤w4.heap.size:=Nat.le_trans hsz3 HB4.out.size
 clear FR cq s1
 go_wp2_with (first
  | (refine wpList_load_row rfl 22 (.tmp 4) rfl g rfl 22 (rowOf key) (0,0) _ K0 Tryz.underlying22 rfl I32.out ?_)
  | (refine wpList_load_row rfl 107 (.tmp 5) rfl (g + 1) rfl 107 (rowOf nonce) (0,0) _ K1 Tryz.underlying107 rfl I12.out ?_)
  | (go_at_call 84;((with_reducible refine css.mono ?_);rintro e w5 ⟨A5,c5,rfl,ho5,hb5⟩;have HO5:=hide_ ho5;have HB5:=hide_ hb5;clear ho5 hb5)))
 go_ret2
 exact ⟨A5,c5,rfl,by rw [hg.out];exact HO5.out.lower (by omega),by rw [hg.out];exact FX.out.trans (HB5.out.mono (by omega))⟩
end Go.Proofs.YtpcbmnmgefhaaaaGreatDoor
