import Derived.Test.YtpcbmnmgefhaaaaGreatDoorZs
import Derived.Test.YtpcbmnmgefhaaaaGreatDoorZa
import Derived.Test.YtpcbmnmgefhaaaaGreatDoorZw
namespace Go.Proofs.YtpcbmnmgefhaaaaGreatDoor
set_option maxRecDepth 100000
open Go.ChangeShapes Go.WideShapes Go.ChangeAt Go.RowKit
set_option linter.unusedVariables false
set_option linter.unusedSimpArgs false
def cn (t:SealV):Nat × Nat:=(t.c,t.n)
def VS (id:Bool) (v sp nm kn:Nat) (K:List UInt8) (N:List (List UInt8)) (L:List SealV) (w:World) (F:List Nat):Prop :=
 match id with
 | true=>VltI w v sp nm kn K N (L.map cn) L F
 | false=>VltR w v sp K (L.map cn) F
def RS (id:Bool) (g:Nat) (K:List UInt8) (N:List (List UInt8)) (L:List SealV) (w:World) (G:List Nat):Prop:=∃ vn vl,RefV w g id K vn vl N L G
theorem VS.foot (id:Bool) (v sp nm kn:Nat) (K:List UInt8) (N:List (List UInt8)) (L:List SealV):Foot (VS id v sp nm kn K N L):=by
 cases id
 ·exact ⟨fun h=>VltR.hF h,fun {w w' F H} h hu hd=>VltR.keep h (fun k hk=>hu.block k (VltR.hF h k hk) (hd k hk)) hu.size⟩
 ·exact ⟨fun h=>VltI.hF h,fun h hu hd=>VltI.untouched h hu hd⟩
theorem RS.foot (id:Bool) (g:Nat) (K:List UInt8) (N:List (List UInt8)) (L:List SealV):Foot (RS id g K N L) :=
 ⟨fun ⟨_,_,h⟩=>h.hG,fun ⟨vn,vl,h⟩ hu hd=>⟨vn,vl,h.keep hu hd⟩⟩
theorem VS.blk {id:Bool} {v sp nm kn:Nat} {K:List UInt8} {N:List (List UInt8)} {L:List SealV} {w:World} {F:List Nat} (h:VS id v sp nm kn K N L w F) :
  ∃ nmo kno,Bk w v 95 (vrow id K (some sp) nmo kno)∧K.length=32∧MapIs w 111 sp (L.map cn).length (fS (L.map cn)):=by
 cases id
 ·exact ⟨none,none,VltR.blk h,VltR.len h,VltR.spent h⟩
 ·exact ⟨some nm,some kn,VltI.blk h,VltI.len h,VltI.spent h⟩
def nmBad (name:List UInt8):Prop:=name.length=0∨64 < name.length
instance (name:List UInt8):Decidable (nmBad name):=by unfold nmBad;infer_instance
def bE (name:List UInt8):Int:=if nmBad name then 1 else 0
def bB (id:Bool) (K:List UInt8) (N:List (List UInt8)) (name:List UInt8):List UInt8:=if id then drawB K 0 (ordN N name) 24 else blindK K name
def bN (id:Bool) (N:List (List UInt8)) (name:List UInt8):List (List UInt8):=if nmBad name then N else if id then addNm N name else N
theorem bB_len (id:Bool) (K:List UInt8) (N:List (List UInt8)) (name:List UInt8):(bB id K N name).length=32:=by
 unfold bB
 split
 ·exact drawB_len _ _ _ _
 ·exact blindK_len _ _
theorem bN_len (id:Bool) (N:List (List UInt8)) (name:List UInt8):(bN id N name).length≤N.length + 1:=by
 unfold bN
 split
 ·omega
 ·split
  ·exact addNm_len _ _
  ·omega
def bV (id:Bool) (K:List UInt8) (N:List (List UInt8)) (name:List UInt8):List UInt8:=if nmBad name then zbytes 32 else bB id K N name
theorem bV_len (id:Bool) (K:List UInt8) (N:List (List UInt8)) (name:List UInt8):(bV id K N name).length=32:=by
 unfold bV
 split
 ·exact zbytes_len _
 ·exact bB_len _ _ _ _
section
variable {id : Bool} {v sp nm kn : Nat} {K : List UInt8} {N : List (List UInt8)} {L : List SealV} {w : World} {F : List Nat}
theorem vblind_x (h:VS id v sp nm kn K N L w F) (A:Option Addr) (n c:Nat) (name:List UInt8) (hn:name.length=n) (hc:n≤c) (hcm:c≤9223372036854775807) (hr:Rd w w.heap.size A name) (hN:N.length≤100000) (ht:Tab w) (hg1:2 < w.heap.size) :
  Calls Tryz.prog 23 #[.pointer (some ⟨v,0,none⟩),.slice A n c] w fun e w'=>e = .returned (.tuple #[.agg (rowOf (bV id K N name)),.int .i64 (bE name)])∧Leaves (VS id v sp nm kn K (bN id N name) L) w F w':=by
 obtain ⟨nmo,kno,hb,hK,hs⟩:=h.blk
 by_cases hbad:nmBad name
 ·have hbad2:n=0∨64 < n:=by rw [← hn];exact hbad
  refine (vblind_no hb hK A n c hbad2).mono ?_
  rintro e w' ⟨rfl,hB⟩
  refine ⟨by unfold bV bE;rw [if_pos hbad,if_pos hbad],?_⟩
  unfold bN
  rw [if_pos hbad]
  exact Leaves.below (VS.foot id v sp nm kn K N L) h hB
 ·have h1:1≤n:=by unfold nmBad at hbad;omega
  have h2:n≤64:=by unfold nmBad at hbad;omega
  cases id
  ·refine (vblind_real (VltR.blk h) hK A n c name hn h1 h2 hc hcm hr ht hg1).mono ?_
   rintro e w' ⟨rfl,hB⟩
   refine ⟨by unfold bV bE bB;rw [if_neg hbad,if_neg hbad];rfl,?_⟩
   unfold bN
   rw [if_neg hbad]
   exact Leaves.below (VS.foot false v sp nm kn K N L) h hB
  ·refine (vblind_yes h A n c name hn h1 h2 hc hcm hr hN ht hg1).mono ?_
   rintro e w' ⟨rfl,hl⟩
   refine ⟨by unfold bV bE bB;rw [if_neg hbad,if_neg hbad];rfl,?_⟩
   unfold bN
   rw [if_neg hbad]
   exact ⟨F,hl.1,hl.2.1,hl.2.2⟩
def sE (L:List SealV) (e c n:Int):Int:=if slOk e c n then (if (c.toNat,n.toNat)∈L.map cn then 13 else 0) else 1
def sO (id:Bool) (K:List UInt8) (L:List SealV) (e c n:Nat) (x b:List UInt8):List UInt8:=if id then drawB K 1 (L.length + 1) (b.length + 8) else sealB (sealK K e) (nonceB c n) x b
theorem sO_len (id:Bool) (K:List UInt8) (L:List SealV) (e c n:Nat) (x b:List UInt8):(sO id K L e c n x b).length=b.length + 16:=by
 unfold sO
 split
 ·rw [drawB_len];omega
 ·rw [sealB_len]
def sB (id:Bool) (K:List UInt8) (L:List SealV) (e c n:Int) (x b:List UInt8):List UInt8:=if slOk e c n∧(c.toNat,n.toNat)∉L.map cn then sO id K L e.toNat c.toNat n.toNat x b else []
def sL (id:Bool) (K:List UInt8) (L:List SealV) (e c n:Int) (x b:List UInt8):List SealV:=if slOk e c n∧(c.toNat,n.toNat)∉L.map cn then L ++ [⟨e.toNat,c.toNat,n.toNat,x,sO id K L e.toNat c.toNat n.toNat x b,b⟩] else L
theorem keys_no {nmo kno:Option Nat} (hb:Bk w v 95 (vrow id K (some sp) nmo kno)) (hK:K.length=32) (e c n:Int) (ht:Tab w) (hg1:2 < w.heap.size) (hok:¬ slOk e c n) :
  Calls Tryz.prog 57 #[.pointer (some ⟨v,0,none⟩),.int .i64 e,.int .i64 c,.int .i64 n] w fun r w'=>r = .returned noKeys∧Below w.heap.size w w':=by
 by_cases he:1≤e∧e≤1048576
 ·obtain ⟨e,rfl⟩:∃ k:Nat,e=(k:Int):=⟨e.toNat,by omega⟩
  exact keysOf_no2 hb hK e c n (by omega) (by omega) (fun h=>hok ⟨he,h⟩) ht hg1
 ·exact keysOf_no1 hb hK e c n he
theorem ownX {A:Option Addr} {m d:Nat} {l:List UInt8} {w':World} {base:Nat} (h:Own8 w' base (.slice A m d) l):∀ a,A=some a→base≤a.block∧a.block < w'.heap.size:=fun a e=>World.ownsRow.lt h a.block (by rw [e];rfl)
def hitS (e c n:Nat) (x s:List UInt8) (t:SealV):Bool:=decide (t.e=e) && decide (t.c=c) && decide (t.n=n) && decide (t.x=x) && decide (t.s=s)
theorem hitS_iff {e c n:Nat} {x s:List UInt8} {t:SealV}:hitS e c n x s t=true↔t.e=e∧t.c=c∧t.n=n∧t.x=x∧t.s=s:=by
 simp [hitS,and_assoc]
def oT (id:Bool) (K:List UInt8) (L:List SealV) (e c n:Nat) (x s:List UInt8):Option (List UInt8) :=
 if id then (L.find? (hitS e c n x s)).map (·.b) else (if tagB (sealK K e) (nonceB c n) x (s.take (s.length - 16))=s.drop (s.length - 16) then some (streamB (sealK K e) (nonceB c n) 1 (s.take (s.length - 16))) else none)
def oE (id:Bool) (K:List UInt8) (L:List SealV) (e c n:Int) (x s:List UInt8):Int:=if slOk e c n then (if s.length < 16 then 2 else (if (oT id K L e.toNat c.toNat n.toNat x s).isSome then 0 else 6)) else 1
def oB (id:Bool) (K:List UInt8) (L:List SealV) (e c n:Int) (x s:List UInt8):List UInt8:=if slOk e c n then (if s.length < 16 then [] else (oT id K L e.toNat c.toNat n.toNat x s).getD []) else []
theorem vopen_x (h:VS id v sp nm kn K N L w F) (Aw As:Option Addr) (na ca ns cs:Nat) (x s:List UInt8) (hx:x.length=na) (hs:s.length=ns) (hrx:Rd w w.heap.size Aw x) (hrs:Rd w w.heap.size As s) (hna:na≤100000) (hns:ns≤100000) (hcs:ns≤cs) (hcm:cs≤9223372036854775807)
  (hLb:∀ t∈L,t.b.length≤100000) (e c n:Int) (ht:Tab w) (hg1:2 < w.heap.size) :
  Calls Tryz.prog 35 #[.pointer (some ⟨v,0,none⟩),.int .i64 e,.int .i64 c,.int .i64 n,.slice Aw na ca,.slice As ns cs] w fun r w'=>∃ A d,r = .returned (.tuple #[.slice A (oB id K L e c n x s).length d,.int .i64 (oE id K L e c n x s)])∧Rd w' w'.heap.size A (oB id K L e c n x s)∧Below w.heap.size w w':=by
 obtain ⟨nmo,kno,hbk,hK,hsp⟩:=h.blk
 have no:∀ (z:Int) (r:Ending) (w':World),oE id K L e c n x s=z→oB id K L e c n x s = []→r = .returned (.tuple #[.slice none 0 0,.int .i64 z])→Below w.heap.size w w'→∃ A d,r = .returned (.tuple #[.slice A (oB id K L e c n x s).length d,.int .i64 (oE id K L e c n x s)])∧Rd w' w'.heap.size A (oB id K L e c n x s)∧Below w.heap.size w w':=by
  intro z r w' h1 h2 h3 h4
  refine ⟨none,0,?_,?_,h4⟩
  ·rw [h3,h1,h2];rfl
  ·rw [h2];exact Rd.nil
 by_cases hok:slOk e c n
 ·have hok':=hok
  obtain ⟨⟨he1,he2⟩,hc1,hc2,hn1,hn2⟩:=hok'
  obtain ⟨e,rfl⟩:∃ k:Nat,e=(k:Int):=⟨e.toNat,by omega⟩
  obtain ⟨c,rfl⟩:∃ k:Nat,c=(k:Int):=⟨c.toNat,by omega⟩
  obtain ⟨n,rfl⟩:∃ k:Nat,n=(k:Int):=⟨n.toNat,by omega⟩
  have ck:=keysOf_yes hbk hK e c n (by omega) (by omega) (by omega) (by omega) (by omega) (by omega) ht hg1
  by_cases hsh:s.length < 16
  ·have e1:oE id K L (e:Int) (c:Int) (n:Int) x s=2:=by unfold oE;rw [if_pos hok,if_pos hsh]
   have e2:oB id K L (e:Int) (c:Int) (n:Int) x s = []:=by unfold oB;rw [if_pos hok,if_pos hsh]
   cases id
   ·refine (vopen_r h Aw As na ca ns cs e c n (fun r w'=>r = .returned (.tuple #[.slice none 0 0,.int .i64 2])∧Below w.heap.size w w') ck (fun W hW=>?_)).mono (fun r w' hh=>no 2 r w' e1 e2 hh.1 hh.2)
    refine (aopen_short _ _ Aw na ca As ns cs W (by omega)).mono ?_
    rintro r w' ⟨hr,hB⟩
    exact ⟨none,0,0,2,hr,hr,hW.trans (hB.mono hW.size)⟩
   ·exact (vopen_short h Aw As na ca ns cs (by omega) e c n ck).mono (fun r w' hh=>no 2 r w' e1 e2 hh.1 hh.2)
  ·have e1:oE id K L (e:Int) (c:Int) (n:Int) x s=(if (oT id K L e c n x s).isSome then 0 else 6):=by unfold oE;rw [if_pos hok,if_neg hsh];rfl
   have e2:oB id K L (e:Int) (c:Int) (n:Int) x s=(oT id K L e c n x s).getD []:=by unfold oB;rw [if_pos hok,if_neg hsh];rfl
   cases id
   ·obtain ⟨m,rfl⟩:∃ m,ns=m + 16:=⟨ns - 16,by omega⟩
    have hm:s.length - 16=m:=by omega
    refine vopen_r h Aw As na ca (m + 16) cs e c n _ ck (fun W hW=>?_)
    by_cases htag:tagB (sealK K e) (nonceB c n) x (s.take m)=s.drop m
    ·have e3:oT false K L e c n x s=some (streamB (sealK K e) (nonceB c n) 1 (s.take m)):=by unfold oT;rw [if_neg (by decide),hm,if_pos htag]
     rw [e1,e2,e3]
     refine (aopen_yes (sealK K e) (nonceB c n) Aw na ca x As m cs s W (sealK_len _ _) (nonceB_len _ _) hx hs ((hrx.below hW).more hW.size) ((hrs.below hW).more hW.size) hcs hcm (by omega) (by omega) htag).mono ?_
     rintro r w' ⟨A,d,hr,ho,hB⟩
     have hl:(streamB (sealK K e) (nonceB c n) 1 (s.take m)).length=m:=by rw [streamB_len,List.length_take];omega
     refine ⟨A,m,d,0,hr,A,d,?_,ho.rd.1,hW.trans (hB.mono hW.size)⟩
     rw [hr,Option.getD_some,hl]
     rfl
    ·have e3:oT false K L e c n x s=none:=by unfold oT;rw [if_neg (by decide),hm,if_neg htag]
     refine (aopen_no (sealK K e) (nonceB c n) Aw na ca x As m cs s W (sealK_len _ _) (nonceB_len _ _) hx hs ((hrx.below hW).more hW.size) ((hrs.below hW).more hW.size) hcs hcm (by omega) (by omega) htag).mono ?_
     rintro r w' ⟨hr,hB⟩
     exact ⟨none,0,0,6,hr,no 6 r w' (by rw [e1,e3];rfl) (by rw [e2,e3];rfl) hr (hW.trans (hB.mono hW.size))⟩
   ·have e3:oT true K L e c n x s=(L.find? (hitS e c n x s)).map (·.b):=by unfold oT;rw [if_pos rfl]
    cases hf:L.find? (hitS e c n x s) with
    | none =>
     have hno:∀ u∈L,u.key≠bKey (e:Int) (c:Int) (n:Int) x s:=fun u hu hk=>by
      have h1:=List.find?_eq_none.1 hf u hu
      obtain ⟨k1,k2,k3,k4,k5⟩:=bKey_inj hk
      exact h1 (hitS_iff.2 ⟨by omega,by omega,by omega,k4,k5⟩)
     refine (vopen_miss h Aw As na ca ns cs x s hx hs hrx hrs (by omega) (by omega) (by omega) e c n (by omega) (by omega) (by omega) hno ck).mono ?_
     rintro r w' ⟨hr,hB⟩
     exact no 6 r w' (by rw [e1,e3,hf];rfl) (by rw [e2,e3,hf];rfl) hr hB
    | some t =>
     have ht1:=List.mem_of_find?_eq_some hf
     obtain ⟨k1,k2,k3,k4,k5⟩:=hitS_iff.1 (List.find?_some hf)
     have htb:=hLb t ht1
     have hmem:(⟨e,c,n,x,s,t.b⟩:SealV)∈L:=by
      obtain ⟨te,tc,tn,tx,ts,tb⟩:=t
      simp only at k1 k2 k3 k4 k5
      subst k1 k2 k3 k4 k5
      exact ht1
     refine (vopen_hit h Aw As na ca ns cs x s hx hs hrx hrs (by omega) (by omega) (by omega) e c n (by omega) (by omega) (by omega) t.b t.b.length rfl (by omega) hmem ck).mono ?_
     rintro r w' ⟨A,d,hr,ho,hB⟩
     rw [e1,e2,e3,hf]
     exact ⟨A,d,hr,ho.rd.1,hB⟩
 ·refine (vopen_no Aw As na ca ns cs e c n (keys_no hbk hK e c n ht hg1 hok)).mono (fun r w' hh=>no 1 r w' ?_ ?_ hh.1 hh.2)
  ·unfold oE;rw [if_neg hok]
  ·unfold oB;rw [if_neg hok]
end
end Go.Proofs.YtpcbmnmgefhaaaaGreatDoor
