import Derived.Test.YtpcbmnmgefhaaaaGreatDoorBB
import Derived.Test.YtpcbmnmgefhaaaaGreatDoorR3
import Derived.Test.YtpcbmnmgefhaaaaGreatDoorQt
import Derived.Deep.DeepCutAuto
import Derived.RegionTactic
import Derived.Laws.Rows
import Derived.Test.YtpcbmnmgefhaaaaGreatDoorQc
import Derived.Test.YtpcbmnmgefhaaaaGreatDoorQd
import Derived.BigCall
import Derived.Test.YtpcbmnmgefhaaaaGreatDoorDn
import Derived.Test.YtpcbmnmgefhaaaaGreatDoorBx
import Derived.Laws.MakeOwn
namespace Go.Proofs.YtpcbmnmgefhaaaaGreatDoor
set_option maxRecDepth 100000
open Go.RowKit
set_option linter.unusedVariables false
def rowW (l:List Int):Array Value:=(l.map (Value.int .u32)).toArray
theorem rowW_size (l:List Int):(rowW l).size=l.length:=by simp [rowW]
theorem rowW_at (l:List Int) (i:Nat) (h:i < l.length):(rowW l)[i]? = some (.int .u32 (l.getD i 0)):=by
 simp [rowW,List.getD,h]
theorem rowW_set (l:List Int) (i:Nat) (x:Int):(rowW l).setIfInBounds i (.int .u32 x)=rowW (l.set i x):=by
 simp [rowW,List.map_set]
theorem rowW_one (l:List Int):(rowW l).all (·.oneCell')=true:=by
 rw [Array.all_eq_true_iff_forall_mem]
 intro v hv
 simp [rowW] at hv
 obtain ⟨x,_,rfl⟩:=hv
 rfl
def ok32q (x:Int):Prop:=0≤x∧x≤4294967295
theorem ok32_bitsq (op:BinOp) (x y:Int):ok32q (bits op .u32 x y):=bounds_u32 (wf_bits op .u32 x y)
theorem ok32_modq (x:Int):ok32q (x % 4294967296):=⟨by omega,by omega⟩
theorem ok32_rotnq {x:Int} (k:Nat) (h:ok32q x):ok32q (rotn k x):=rotn_bd k h.1 h.2
theorem ok32_zeroq:ok32q 0:=⟨by decide,by decide⟩
def okL (l:List Int):Prop:=∀ x∈l,ok32q x
theorem getD_okW {l:List Int} (h:okL l) (i:Nat):ok32q (l.getD i 0):=by
 by_cases hi:i < l.length
 ·have e:l.getD i 0=l[i]:=by simp [List.getD,hi]
  rw [e]
  exact h _ (List.getElem_mem hi)
 ·have e:l.getD i 0=0:=by simp [List.getD,Nat.le_of_not_lt hi]
  rw [e]
  exact ok32_zeroq
theorem okL_set {l:List Int} (h:okL l) (i:Nat) {x:Int} (hx:ok32q x):okL (l.set i x):=by
 intro y hy
 rcases List.mem_or_eq_of_mem_set hy with h1 | h1
 ·exact h y h1
 ·rw [h1];exact hx
def addAt (l:List Int) (i j:Nat):List Int:=l.set i ((l.getD i 0 + l.getD j 0) % 4294967296)
def turnAt (l:List Int) (i j n:Nat):List Int:=l.set i (rotn n (bits .xor .u32 (l.getD i 0) (l.getD j 0)))
theorem addAt_len (l:List Int) (i j:Nat):(addAt l i j).length=l.length:=by simp [addAt]
theorem turnAt_len (l:List Int) (i j n:Nat):(turnAt l i j n).length=l.length:=by simp [turnAt]
theorem addAt_ok {l:List Int} (h:okL l) (i j:Nat):okL (addAt l i j):=okL_set h i (ok32_modq _)
theorem turnAt_ok {l:List Int} (h:okL l) (i j n:Nat):okL (turnAt l i j n):=okL_set h i (ok32_rotnq n (ok32_bitsq _ _ _))
def quarterL (l:List Int) (a b c d:Nat):List Int :=
 turnAt (addAt (turnAt (addAt (turnAt (addAt (turnAt (addAt l a b) d a 16) c d) b c 12) a b) d a 8) c d) b c 7
theorem quarterL_len (l:List Int) (a b c d:Nat):(quarterL l a b c d).length=l.length:=by simp [quarterL,turnAt_len,addAt_len]
theorem quarterL_ok {l:List Int} (h:okL l) (a b c d:Nat):okL (quarterL l a b c d) :=
 turnAt_ok (addAt_ok (turnAt_ok (addAt_ok (turnAt_ok (addAt_ok (turnAt_ok (addAt_ok h _ _) _ _ _) _ _) _ _ _) _ _) _ _ _) _ _) _ _ _
def colsL (l:List Int):Nat→List Int
 | 0=>l
 | k + 1=>quarterL (colsL l k) k (4 + k) (8 + k) (12 + k)
def diagsL (l:List Int):Nat→List Int
 | 0=>l
 | k + 1=>quarterL (diagsL l k) k (4 + (k + 1) % 4) (8 + (k + 2) % 4) (12 + (k + 3) % 4)
def roundsL (l:List Int):Nat→List Int
 | 0=>l
 | k + 1=>diagsL (colsL (roundsL l k) 4) 4
theorem colsL_len (l:List Int) (k:Nat):(colsL l k).length=l.length:=by
 induction k with
 | zero=>rfl
 | succ k ih=>rw [colsL,quarterL_len,ih]
theorem diagsL_len (l:List Int) (k:Nat):(diagsL l k).length=l.length:=by
 induction k with
 | zero=>rfl
 | succ k ih=>rw [diagsL,quarterL_len,ih]
theorem roundsL_len (l:List Int) (k:Nat):(roundsL l k).length=l.length:=by
 induction k with
 | zero=>rfl
 | succ k ih=>rw [roundsL,diagsL_len,colsL_len,ih]
theorem colsL_ok {l:List Int} (h:okL l) (k:Nat):okL (colsL l k):=by
 induction k with
 | zero=>exact h
 | succ k ih=>exact quarterL_ok ih _ _ _ _
theorem diagsL_ok {l:List Int} (h:okL l) (k:Nat):okL (diagsL l k):=by
 induction k with
 | zero=>exact h
 | succ k ih=>exact quarterL_ok ih _ _ _ _
theorem roundsL_ok {l:List Int} (h:okL l) (k:Nat):okL (roundsL l k):=by
 induction k with
 | zero=>exact h
 | succ k ih=>exact diagsL_ok (colsL_ok ih 4) 4
def leWord (b:List UInt8) (k:Nat):Int:=(leN ((b.drop (4 * k)).take 4):Nat)
theorem leWord_ok (b:List UInt8) (k:Nat):ok32q (leWord b k):=by
 have h:=leN_lt ((b.drop (4 * k)).take 4)
 have hl:((b.drop (4 * k)).take 4).length≤4:=by rw [List.length_take];omega
 have hp:256 ^ ((b.drop (4 * k)).take 4).length≤256 ^ 4:=Nat.pow_le_pow_right (by omega) hl
 have e4:(256:Nat) ^ 4=4294967296:=by decide
 unfold leWord ok32q
 omega
def fillL (l:List Int) (i:Nat) (b:List UInt8):Nat→List Int
 | 0=>l
 | k + 1=>(fillL l i b k).set (i + k) (leWord b k)
theorem fillL_len (l:List Int) (i:Nat) (b:List UInt8) (k:Nat):(fillL l i b k).length=l.length:=by
 induction k with
 | zero=>rfl
 | succ k ih=>rw [fillL,List.length_set,ih]
theorem fillL_ok {l:List Int} (h:okL l) (i:Nat) (b:List UInt8) (k:Nat):okL (fillL l i b k):=by
 induction k with
 | zero=>exact h
 | succ k ih=>exact okL_set ih _ (leWord_ok b k)
def sigmaL:List Int:=[1634760805,857760878,2036477234,1797285236,0,0,0,0,0,0,0,0,0,0,0,0]
theorem sigmaL_ok:okL sigmaL:=by
 have h:sigmaL.all (fun x=>decide (0≤x) && decide (x≤4294967295))=true:=by decide +kernel
 intro x hx
 have:=(List.all_eq_true.1 h) x hx
 simp only [Bool.and_eq_true,decide_eq_true_eq] at this
 exact this
def stateL (key:List UInt8) (counter:Int) (nonce:List UInt8):List Int:=fillL ((fillL sigmaL 4 key 8).set 12 counter) 13 nonce 3
theorem stateL_len (key:List UInt8) (counter:Int) (nonce:List UInt8):(stateL key counter nonce).length=16:=by
 rw [stateL,fillL_len,List.length_set,fillL_len];rfl
theorem stateL_ok (key:List UInt8) {counter:Int} (nonce:List UInt8) (hc:ok32q counter):okL (stateL key counter nonce) :=
 fillL_ok (okL_set (fillL_ok sigmaL_ok 4 key 8) 12 hc) 13 nonce 3
def outBq (s v:List Int) (k:Nat):List UInt8:=(List.range k).flatMap fun i=>lowB 4 ((v.getD i 0 + s.getD i 0) % 4294967296).toNat
theorem outB_succ (s v:List Int) (k:Nat):outBq s v (k + 1)=outBq s v k ++ lowB 4 ((v.getD k 0 + s.getD k 0) % 4294967296).toNat:=by
 simp [outBq,List.range_succ]
theorem outB_lenq (s v:List Int) (k:Nat):(outBq s v k).length=4 * k:=by
 induction k with
 | zero=>rfl
 | succ k ih=>rw [outB_succ,List.length_append,ih,lowB_len];omega
def blockB (key:List UInt8) (counter:Int) (nonce:List UInt8):List UInt8 :=
 outBq (stateL key counter nonce) (roundsL (stateL key counter nonce) 10) 16
theorem blockB_len (key:List UInt8) (counter:Int) (nonce:List UInt8):(blockB key counter nonce).length=64:=outB_lenq _ _ 16
theorem hidq_ {p:Prop} (h:p):Hid p:=h
theorem grown_drewN_ {a w:World} {row:Option Nat} (h:a.grownBy w row) (n:Nat):a.grownBy (w.drewN n) row:=⟨h.os,h.tape,h.output,h.size,h.block⟩
set_option maxHeartbeats 4000000 in
theorem quarter_any (g a b c d:Nat) (l:List Int) (w:World) (hl:l.length=16) (ho:okL l) (hg:Bk w g 177 (rowW l)) (ha:a < 16) (hb:b < 16) (hc:c < 16) (hd:d < 16) :
  Calls Tryz.prog 139 #[.pointer (some ⟨g,0,none⟩),.int .i64 (a:Int),.int .i64 (b:Int),.int .i64 (c:Int),.int .i64 (d:Int)] w fun e w'=>e = .returned (.tuple #[])∧Bk w' g 177 (rowW (quarterL l a b c d))∧w.grownBy w' (some g):=by
 have HL:=hidq_ hl
 have HO:=hidq_ ho
 have HG:=hidq_ hg
 have HR:Hid (w.grownBy w (some g)):=hidq_ (World.grownBy.refl w _)
 clear hl ho hg
 go_enter Tryz.func139,Tryz.ntmps139
 have ci:=HG.out.cell a
 have cj:=HG.out.cell b
 rw [rowW_at _ _ (by rw [HL.out];exact ha)] at ci
 rw [rowW_at _ _ (by rw [HL.out];exact hb)] at cj
 obtain ⟨x,hx⟩:∃ x,Hid (l.getD a 0=x):=⟨_,rfl⟩
 obtain ⟨y,hy⟩:∃ x,Hid (l.getD b 0=x):=⟨_,rfl⟩
 have bx:=getD_okW HO.out a
 have by_:=getD_okW HO.out b
 rw [hx.out] at ci bx
 rw [hy.out] at cj by_
 obtain ⟨bx0,bx1⟩:=bx
 obtain ⟨by0,by1⟩:=by_
 have ti:(a:Int) < 16:=by omega
 have tj:(b:Int) < 16:=by omega
 have zi:(0:Int)≤(a:Int):=by omega
 have zj:(0:Int)≤(b:Int):=by omega
 go_wp2
 refine region_quiet_tail_lit 13 (by kernel_rfl) (by kernel_rfl) ?_
 simp only [List.take_succ_cons,List.take_zero]
 repeat (go_big_quiet_step (fail))
 refine wpQuiet_nil ?_
 intro w' hw'
 obtain ⟨nq,rfl⟩:=hw'
 simp only [List.drop_succ_cons,List.drop_zero]
 have hf:=(HG.out.drewN nq).frozen a
 have hset:=(HG.out.drewN nq).set_ a (.int .u32 ((x + y) % 4294967296))
 rw [rowW_set] at hset
 refine wpList_plain rfl fun K hK=>?_
 go_simp
 refine hK _ _ ?_
 clear hK K
 have HR2:=hidq_ (grown_put (grown_drewN_ HR.out nq) a (.int .u32 ((x + y) % 4294967296)))
 have HG2:=hidq_ hset
 clear hset hf ci cj HG HR
 obtain ⟨w1,hw1⟩:∃ W,Hid ((w.drewN nq).setCell ⟨g,a,none⟩ (.int .u32 ((x + y) % 4294967296))=W):=⟨_,rfl⟩
 rw [hw1.out] at HR2 HG2
 change Exit.then _ _ .normal _ ((w.drewN nq).setCell ⟨g,a,none⟩ (.int .u32 ((x + y) % 4294967296)))
 rw [hw1.out]
 obtain ⟨l1,HE1⟩:∃ l',Hid (addAt l a b=l'):=⟨_,rfl⟩
 have HG:Hid (Bk w1 g 177 (rowW l1)):=hidq_ (by rw [← HE1.out];unfold addAt;rw [hx.out,hy.out];exact HG2.out)
 have HL2:Hid (l1.length=16):=hidq_ (by rw [← HE1.out,addAt_len,HL.out])
 have HO2:Hid (okL l1):=hidq_ (by rw [← HE1.out];exact addAt_ok HO.out _ _)
 have HR:=HR2
 clear HG2 HR2 hx hy bx0 bx1 by0 by1 ti tj zi zj HL HO hw1
 have HL:=HL2
 have HO:=HO2
 clear HL2 HO2
 rename_i K hK
 refine hK _ _ ?_
 go_upto_region 1 with fail
 have ci:=HG.out.cell d
 have cj:=HG.out.cell a
 rw [rowW_at _ _ (by rw [HL.out];exact hd)] at ci
 rw [rowW_at _ _ (by rw [HL.out];exact ha)] at cj
 obtain ⟨x,hx⟩:∃ x,Hid (l1.getD d 0=x):=⟨_,rfl⟩
 obtain ⟨y,hy⟩:∃ x,Hid (l1.getD a 0=x):=⟨_,rfl⟩
 have bx:=getD_okW HO.out d
 have by_:=getD_okW HO.out a
 rw [hx.out] at ci bx
 rw [hy.out] at cj by_
 obtain ⟨bx0,bx1⟩:=bx
 obtain ⟨by0,by1⟩:=by_
 have ti:(d:Int) < 16:=by omega
 have tj:(a:Int) < 16:=by omega
 have zi:(0:Int)≤(d:Int):=by omega
 have zj:(0:Int)≤(a:Int):=by omega
 have hz:=ok32_bitsq .xor x y
 have cl:=fun W=>left_any (bits .xor .u32 x y) 16 hz.1 hz.2 W
 rw [show ((16:Int) % 32).toNat=16 from rfl] at cl
 clear hz
 refine region_quiet_tail_lit 16 (by kernel_rfl) (by kernel_rfl) ?_
 simp only [List.take_succ_cons,List.take_zero]
 repeat (go_big_quiet_step ((go_at_call 151;exact (cl _).mono fun _ _ hh=>⟨hh.1,_,hh.2.symm⟩)))
 refine wpQuiet_nil ?_
 intro w' hw'
 obtain ⟨nq,rfl⟩:=hw'
 simp only [List.drop_succ_cons,List.drop_zero]
 have hf:=(HG.out.drewN nq).frozen d
 have hset:=(HG.out.drewN nq).set_ d (.int .u32 (rotn 16 (bits .xor .u32 x y)))
 rw [rowW_set] at hset
 refine wpList_plain rfl fun K hK=>?_
 go_simp
 refine hK _ _ ?_
 clear hK K
 have HR2:=hidq_ (grown_put (grown_drewN_ HR.out nq) d (.int .u32 (rotn 16 (bits .xor .u32 x y))))
 have HG2:=hidq_ hset
 clear hset hf ci cj HG HR
 obtain ⟨w2,hw2⟩:∃ W,Hid ((w1.drewN nq).setCell ⟨g,d,none⟩ (.int .u32 (rotn 16 (bits .xor .u32 x y)))=W):=⟨_,rfl⟩
 rw [hw2.out] at HR2 HG2
 change Exit.then _ _ .normal _ ((w1.drewN nq).setCell ⟨g,d,none⟩ (.int .u32 (rotn 16 (bits .xor .u32 x y))))
 rw [hw2.out]
 obtain ⟨l2,HE2⟩:∃ l',Hid (turnAt l1 d a 16=l'):=⟨_,rfl⟩
 have HG:Hid (Bk w2 g 177 (rowW l2)):=hidq_ (by rw [← HE2.out];unfold turnAt;rw [hx.out,hy.out];exact HG2.out)
 have HL2:Hid (l2.length=16):=hidq_ (by rw [← HE2.out,turnAt_len,HL.out])
 have HO2:Hid (okL l2):=hidq_ (by rw [← HE2.out];exact turnAt_ok HO.out _ _ _)
 have HR:=HR2
 clear HG2 HR2 hx hy bx0 bx1 by0 by1 ti tj zi zj HL HO cl hw2
 have HL:=HL2
 have HO:=HO2
 clear HL2 HO2
 rename_i K hK
 refine hK _ _ ?_
 go_upto_region 2 with fail
 have ci:=HG.out.cell c
 have cj:=HG.out.cell d
 rw [rowW_at _ _ (by rw [HL.out];exact hc)] at ci
 rw [rowW_at _ _ (by rw [HL.out];exact hd)] at cj
 obtain ⟨x,hx⟩:∃ x,Hid (l2.getD c 0=x):=⟨_,rfl⟩
 obtain ⟨y,hy⟩:∃ x,Hid (l2.getD d 0=x):=⟨_,rfl⟩
 have bx:=getD_okW HO.out c
 have by_:=getD_okW HO.out d
 rw [hx.out] at ci bx
 rw [hy.out] at cj by_
 obtain ⟨bx0,bx1⟩:=bx
 obtain ⟨by0,by1⟩:=by_
 have ti:(c:Int) < 16:=by omega
 have tj:(d:Int) < 16:=by omega
 have zi:(0:Int)≤(c:Int):=by omega
 have zj:(0:Int)≤(d:Int):=by omega
 refine region_quiet_tail_lit 13 (by kernel_rfl) (by kernel_rfl) ?_
 simp only [List.take_succ_cons,List.take_zero]
 repeat (go_big_quiet_step (fail))
 refine wpQuiet_nil ?_
 intro w' hw'
 obtain ⟨nq,rfl⟩:=hw'
 simp only [List.drop_succ_cons,List.drop_zero]
 have hf:=(HG.out.drewN nq).frozen c
 have hset:=(HG.out.drewN nq).set_ c (.int .u32 ((x + y) % 4294967296))
 rw [rowW_set] at hset
 refine wpList_plain rfl fun K hK=>?_
 go_simp
 refine hK _ _ ?_
 clear hK K
 have HR2:=hidq_ (grown_put (grown_drewN_ HR.out nq) c (.int .u32 ((x + y) % 4294967296)))
 have HG2:=hidq_ hset
 clear hset hf ci cj HG HR
 obtain ⟨w3,hw3⟩:∃ W,Hid ((w2.drewN nq).setCell ⟨g,c,none⟩ (.int .u32 ((x + y) % 4294967296))=W):=⟨_,rfl⟩
 rw [hw3.out] at HR2 HG2
 change Exit.then _ _ .normal _ ((w2.drewN nq).setCell ⟨g,c,none⟩ (.int .u32 ((x + y) % 4294967296)))
 rw [hw3.out]
 obtain ⟨l3,HE3⟩:∃ l',Hid (addAt l2 c d=l'):=⟨_,rfl⟩
 have HG:Hid (Bk w3 g 177 (rowW l3)):=hidq_ (by rw [← HE3.out];unfold addAt;rw [hx.out,hy.out];exact HG2.out)
 have HL2:Hid (l3.length=16):=hidq_ (by rw [← HE3.out,addAt_len,HL.out])
 have HO2:Hid (okL l3):=hidq_ (by rw [← HE3.out];exact addAt_ok HO.out _ _)
 have HR:=HR2
 clear HG2 HR2 hx hy bx0 bx1 by0 by1 ti tj zi zj HL HO hw3
 have HL:=HL2
 have HO:=HO2
 clear HL2 HO2
 rename_i K hK
 refine hK _ _ ?_
 go_upto_region 3 with fail
 have ci:=HG.out.cell b
 have cj:=HG.out.cell c
 rw [rowW_at _ _ (by rw [HL.out];exact hb)] at ci
 rw [rowW_at _ _ (by rw [HL.out];exact hc)] at cj
 obtain ⟨x,hx⟩:∃ x,Hid (l3.getD b 0=x):=⟨_,rfl⟩
 obtain ⟨y,hy⟩:∃ x,Hid (l3.getD c 0=x):=⟨_,rfl⟩
 have bx:=getD_okW HO.out b
 have by_:=getD_okW HO.out c
 rw [hx.out] at ci bx
 rw [hy.out] at cj by_
 obtain ⟨bx0,bx1⟩:=bx
 obtain ⟨by0,by1⟩:=by_
 have ti:(b:Int) < 16:=by omega
 have tj:(c:Int) < 16:=by omega
 have zi:(0:Int)≤(b:Int):=by omega
 have zj:(0:Int)≤(c:Int):=by omega
 have hz:=ok32_bitsq .xor x y
 have cl:=fun W=>left_any (bits .xor .u32 x y) 12 hz.1 hz.2 W
 rw [show ((12:Int) % 32).toNat=12 from rfl] at cl
 clear hz
 refine region_quiet_tail_lit 16 (by kernel_rfl) (by kernel_rfl) ?_
 simp only [List.take_succ_cons,List.take_zero]
 repeat (go_big_quiet_step ((go_at_call 151;exact (cl _).mono fun _ _ hh=>⟨hh.1,_,hh.2.symm⟩)))
 refine wpQuiet_nil ?_
 intro w' hw'
 obtain ⟨nq,rfl⟩:=hw'
 simp only [List.drop_succ_cons,List.drop_zero]
 have hf:=(HG.out.drewN nq).frozen b
 have hset:=(HG.out.drewN nq).set_ b (.int .u32 (rotn 12 (bits .xor .u32 x y)))
 rw [rowW_set] at hset
 refine wpList_plain rfl fun K hK=>?_
 go_simp
 refine hK _ _ ?_
 clear hK K
 have HR2:=hidq_ (grown_put (grown_drewN_ HR.out nq) b (.int .u32 (rotn 12 (bits .xor .u32 x y))))
 have HG2:=hidq_ hset
 clear hset hf ci cj HG HR
 obtain ⟨w4,hw4⟩:∃ W,Hid ((w3.drewN nq).setCell ⟨g,b,none⟩ (.int .u32 (rotn 12 (bits .xor .u32 x y)))=W):=⟨_,rfl⟩
 rw [hw4.out] at HR2 HG2
 change Exit.then _ _ .normal _ ((w3.drewN nq).setCell ⟨g,b,none⟩ (.int .u32 (rotn 12 (bits .xor .u32 x y))))
 rw [hw4.out]
 obtain ⟨l4,HE4⟩:∃ l',Hid (turnAt l3 b c 12=l'):=⟨_,rfl⟩
 have HG:Hid (Bk w4 g 177 (rowW l4)):=hidq_ (by rw [← HE4.out];unfold turnAt;rw [hx.out,hy.out];exact HG2.out)
 have HL2:Hid (l4.length=16):=hidq_ (by rw [← HE4.out,turnAt_len,HL.out])
 have HO2:Hid (okL l4):=hidq_ (by rw [← HE4.out];exact turnAt_ok HO.out _ _ _)
 have HR:=HR2
 clear HG2 HR2 hx hy bx0 bx1 by0 by1 ti tj zi zj HL HO cl hw4
 have HL:=HL2
 have HO:=HO2
 clear HL2 HO2
 rename_i K hK
 refine hK _ _ ?_
 go_upto_region 4 with fail
 have ci:=HG.out.cell a
 have cj:=HG.out.cell b
 rw [rowW_at _ _ (by rw [HL.out];exact ha)] at ci
 rw [rowW_at _ _ (by rw [HL.out];exact hb)] at cj
 obtain ⟨x,hx⟩:∃ x,Hid (l4.getD a 0=x):=⟨_,rfl⟩
 obtain ⟨y,hy⟩:∃ x,Hid (l4.getD b 0=x):=⟨_,rfl⟩
 have bx:=getD_okW HO.out a
 have by_:=getD_okW HO.out b
 rw [hx.out] at ci bx
 rw [hy.out] at cj by_
 obtain ⟨bx0,bx1⟩:=bx
 obtain ⟨by0,by1⟩:=by_
 have ti:(a:Int) < 16:=by omega
 have tj:(b:Int) < 16:=by omega
 have zi:(0:Int)≤(a:Int):=by omega
 have zj:(0:Int)≤(b:Int):=by omega
 refine region_quiet_tail_lit 13 (by kernel_rfl) (by kernel_rfl) ?_
 simp only [List.take_succ_cons,List.take_zero]
 repeat (go_big_quiet_step (fail))
 refine wpQuiet_nil ?_
 intro w' hw'
 obtain ⟨nq,rfl⟩:=hw'
 simp only [List.drop_succ_cons,List.drop_zero]
 have hf:=(HG.out.drewN nq).frozen a
 have hset:=(HG.out.drewN nq).set_ a (.int .u32 ((x + y) % 4294967296))
 rw [rowW_set] at hset
 refine wpList_plain rfl fun K hK=>?_
 go_simp
 refine hK _ _ ?_
 clear hK K
 have HR2:=hidq_ (grown_put (grown_drewN_ HR.out nq) a (.int .u32 ((x + y) % 4294967296)))
 have HG2:=hidq_ hset
 clear hset hf ci cj HG HR
 obtain ⟨w5,hw5⟩:∃ W,Hid ((w4.drewN nq).setCell ⟨g,a,none⟩ (.int .u32 ((x + y) % 4294967296))=W):=⟨_,rfl⟩
 rw [hw5.out] at HR2 HG2
 change Exit.then _ _ .normal _ ((w4.drewN nq).setCell ⟨g,a,none⟩ (.int .u32 ((x + y) % 4294967296)))
 rw [hw5.out]
 obtain ⟨l5,HE5⟩:∃ l',Hid (addAt l4 a b=l'):=⟨_,rfl⟩
 have HG:Hid (Bk w5 g 177 (rowW l5)):=hidq_ (by rw [← HE5.out];unfold addAt;rw [hx.out,hy.out];exact HG2.out)
 have HL2:Hid (l5.length=16):=hidq_ (by rw [← HE5.out,addAt_len,HL.out])
 have HO2:Hid (okL l5):=hidq_ (by rw [← HE5.out];exact addAt_ok HO.out _ _)
 have HR:=HR2
 clear HG2 HR2 hx hy bx0 bx1 by0 by1 ti tj zi zj HL HO hw5
 have HL:=HL2
 have HO:=HO2
 clear HL2 HO2
 rename_i K hK
 refine hK _ _ ?_
 go_upto_region 5 with fail
 have ci:=HG.out.cell d
 have cj:=HG.out.cell a
 rw [rowW_at _ _ (by rw [HL.out];exact hd)] at ci
 rw [rowW_at _ _ (by rw [HL.out];exact ha)] at cj
 obtain ⟨x,hx⟩:∃ x,Hid (l5.getD d 0=x):=⟨_,rfl⟩
 obtain ⟨y,hy⟩:∃ x,Hid (l5.getD a 0=x):=⟨_,rfl⟩
 have bx:=getD_okW HO.out d
 have by_:=getD_okW HO.out a
 rw [hx.out] at ci bx
 rw [hy.out] at cj by_
 obtain ⟨bx0,bx1⟩:=bx
 obtain ⟨by0,by1⟩:=by_
 have ti:(d:Int) < 16:=by omega
 have tj:(a:Int) < 16:=by omega
 have zi:(0:Int)≤(d:Int):=by omega
 have zj:(0:Int)≤(a:Int):=by omega
 have hz:=ok32_bitsq .xor x y
 have cl:=fun W=>left_any (bits .xor .u32 x y) 8 hz.1 hz.2 W
 rw [show ((8:Int) % 32).toNat=8 from rfl] at cl
 clear hz
 refine region_quiet_tail_lit 16 (by kernel_rfl) (by kernel_rfl) ?_
 simp only [List.take_succ_cons,List.take_zero]
 repeat (go_big_quiet_step ((go_at_call 151;exact (cl _).mono fun _ _ hh=>⟨hh.1,_,hh.2.symm⟩)))
 refine wpQuiet_nil ?_
 intro w' hw'
 obtain ⟨nq,rfl⟩:=hw'
 simp only [List.drop_succ_cons,List.drop_zero]
 have hf:=(HG.out.drewN nq).frozen d
 have hset:=(HG.out.drewN nq).set_ d (.int .u32 (rotn 8 (bits .xor .u32 x y)))
 rw [rowW_set] at hset
 refine wpList_plain rfl fun K hK=>?_
 go_simp
 refine hK _ _ ?_
 clear hK K
 have HR2:=hidq_ (grown_put (grown_drewN_ HR.out nq) d (.int .u32 (rotn 8 (bits .xor .u32 x y))))
 have HG2:=hidq_ hset
 clear hset hf ci cj HG HR
 obtain ⟨w6,hw6⟩:∃ W,Hid ((w5.drewN nq).setCell ⟨g,d,none⟩ (.int .u32 (rotn 8 (bits .xor .u32 x y)))=W):=⟨_,rfl⟩
 rw [hw6.out] at HR2 HG2
 change Exit.then _ _ .normal _ ((w5.drewN nq).setCell ⟨g,d,none⟩ (.int .u32 (rotn 8 (bits .xor .u32 x y))))
 rw [hw6.out]
 obtain ⟨l6,HE6⟩:∃ l',Hid (turnAt l5 d a 8=l'):=⟨_,rfl⟩
 have HG:Hid (Bk w6 g 177 (rowW l6)):=hidq_ (by rw [← HE6.out];unfold turnAt;rw [hx.out,hy.out];exact HG2.out)
 have HL2:Hid (l6.length=16):=hidq_ (by rw [← HE6.out,turnAt_len,HL.out])
 have HO2:Hid (okL l6):=hidq_ (by rw [← HE6.out];exact turnAt_ok HO.out _ _ _)
 have HR:=HR2
 clear HG2 HR2 hx hy bx0 bx1 by0 by1 ti tj zi zj HL HO cl hw6
 have HL:=HL2
 have HO:=HO2
 clear HL2 HO2
 rename_i K hK
 refine hK _ _ ?_
 go_upto_region 6 with fail
 have ci:=HG.out.cell c
 have cj:=HG.out.cell d
 rw [rowW_at _ _ (by rw [HL.out];exact hc)] at ci
 rw [rowW_at _ _ (by rw [HL.out];exact hd)] at cj
 obtain ⟨x,hx⟩:∃ x,Hid (l6.getD c 0=x):=⟨_,rfl⟩
 obtain ⟨y,hy⟩:∃ x,Hid (l6.getD d 0=x):=⟨_,rfl⟩
 have bx:=getD_okW HO.out c
 have by_:=getD_okW HO.out d
 rw [hx.out] at ci bx
 rw [hy.out] at cj by_
 obtain ⟨bx0,bx1⟩:=bx
 obtain ⟨by0,by1⟩:=by_
 have ti:(c:Int) < 16:=by omega
 have tj:(d:Int) < 16:=by omega
 have zi:(0:Int)≤(c:Int):=by omega
 have zj:(0:Int)≤(d:Int):=by omega
 refine region_quiet_tail_lit 13 (by kernel_rfl) (by kernel_rfl) ?_
 simp only [List.take_succ_cons,List.take_zero]
 repeat (go_big_quiet_step (fail))
 refine wpQuiet_nil ?_
 intro w' hw'
 obtain ⟨nq,rfl⟩:=hw'
 simp only [List.drop_succ_cons,List.drop_zero]
 have hf:=(HG.out.drewN nq).frozen c
 have hset:=(HG.out.drewN nq).set_ c (.int .u32 ((x + y) % 4294967296))
 rw [rowW_set] at hset
 refine wpList_plain rfl fun K hK=>?_
 go_simp
 refine hK _ _ ?_
 clear hK K
 have HR2:=hidq_ (grown_put (grown_drewN_ HR.out nq) c (.int .u32 ((x + y) % 4294967296)))
 have HG2:=hidq_ hset
 clear hset hf ci cj HG HR
 obtain ⟨w7,hw7⟩:∃ W,Hid ((w6.drewN nq).setCell ⟨g,c,none⟩ (.int .u32 ((x + y) % 4294967296))=W):=⟨_,rfl⟩
 rw [hw7.out] at HR2 HG2
 change Exit.then _ _ .normal _ ((w6.drewN nq).setCell ⟨g,c,none⟩ (.int .u32 ((x + y) % 4294967296)))
 rw [hw7.out]
 obtain ⟨l7,HE7⟩:∃ l',Hid (addAt l6 c d=l'):=⟨_,rfl⟩
 have HG:Hid (Bk w7 g 177 (rowW l7)):=hidq_ (by rw [← HE7.out];unfold addAt;rw [hx.out,hy.out];exact HG2.out)
 have HL2:Hid (l7.length=16):=hidq_ (by rw [← HE7.out,addAt_len,HL.out])
 have HO2:Hid (okL l7):=hidq_ (by rw [← HE7.out];exact addAt_ok HO.out _ _)
 have HR:=HR2
 clear HG2 HR2 hx hy bx0 bx1 by0 by1 ti tj zi zj HL HO hw7
 have HL:=HL2
 have HO:=HO2
 clear HL2 HO2
 rename_i K hK
 refine hK _ _ ?_
 go_upto_region 7 with fail
 have ci:=HG.out.cell b
 have cj:=HG.out.cell c
 rw [rowW_at _ _ (by rw [HL.out];exact hb)] at ci
 rw [rowW_at _ _ (by rw [HL.out];exact hc)] at cj
 obtain ⟨x,hx⟩:∃ x,Hid (l7.getD b 0=x):=⟨_,rfl⟩
 obtain ⟨y,hy⟩:∃ x,Hid (l7.getD c 0=x):=⟨_,rfl⟩
 have bx:=getD_okW HO.out b
 have by_:=getD_okW HO.out c
 rw [hx.out] at ci bx
 rw [hy.out] at cj by_
 obtain ⟨bx0,bx1⟩:=bx
 obtain ⟨by0,by1⟩:=by_
 have ti:(b:Int) < 16:=by omega
 have tj:(c:Int) < 16:=by omega
 have zi:(0:Int)≤(b:Int):=by omega
 have zj:(0:Int)≤(c:Int):=by omega
 have hz:=ok32_bitsq .xor x y
 have cl:=fun W=>left_any (bits .xor .u32 x y) 7 hz.1 hz.2 W
 rw [show ((7:Int) % 32).toNat=7 from rfl] at cl
 clear hz
 refine region_quiet_tail_lit 16 (by kernel_rfl) (by kernel_rfl) ?_
 simp only [List.take_succ_cons,List.take_zero]
 repeat (go_big_quiet_step ((go_at_call 151;exact (cl _).mono fun _ _ hh=>⟨hh.1,_,hh.2.symm⟩)))
 refine wpQuiet_nil ?_
 intro w' hw'
 obtain ⟨nq,rfl⟩:=hw'
 simp only [List.drop_succ_cons,List.drop_zero]
 have hf:=(HG.out.drewN nq).frozen b
 have hset:=(HG.out.drewN nq).set_ b (.int .u32 (rotn 7 (bits .xor .u32 x y)))
 rw [rowW_set] at hset
 refine wpList_plain rfl fun K hK=>?_
 go_simp
 refine hK _ _ ?_
 clear hK K
 have HR2:=hidq_ (grown_put (grown_drewN_ HR.out nq) b (.int .u32 (rotn 7 (bits .xor .u32 x y))))
 have HG2:=hidq_ hset
 clear hset hf ci cj HG HR
 obtain ⟨l8,HE8⟩:∃ l',Hid (turnAt l7 b c 7=l'):=⟨_,rfl⟩
 have HG:Hid (Bk ((w7.drewN nq).setCell ⟨g,b,none⟩ (.int .u32 (rotn 7 (bits .xor .u32 x y)))) g 177 (rowW l8)):=hidq_ (by rw [← HE8.out];unfold turnAt;rw [hx.out,hy.out];exact HG2.out)
 have HL2:Hid (l8.length=16):=hidq_ (by rw [← HE8.out,turnAt_len,HL.out])
 have HO2:Hid (okL l8):=hidq_ (by rw [← HE8.out];exact turnAt_ok HO.out _ _ _)
 have HR:=HR2
 clear HG2 HR2 hx hy bx0 bx1 by0 by1 ti tj zi zj HL HO cl
 have HL:=HL2
 have HO:=HO2
 clear HL2 HO2
 have hq:quarterL l a b c d=l8:=by unfold quarterL;rw [HE1.out,HE2.out,HE3.out,HE4.out,HE5.out,HE6.out,HE7.out,HE8.out]
 go_wp2
 go_end0
 exact ⟨rfl,by rw [hq];exact HG.out,HR.out⟩
def zerosW:List Int:=[0,0,0,0,0,0,0,0,0,0,0,0,0,0,0,0]
theorem zw16 (W:World):(zeroValue 177).run Tryz.prog W = .ok (.agg (rowW zerosW)) W:=by kernel_rfl
theorem iw16_:(Tryz.prog.info? 177).map (·.size)=some 16:=by kernel_rfl
theorem iw16 (l:List Int) (h:l.length=16):(Tryz.prog.info? 177).map (·.size)=some (rowW l).size:=by rw [rowW_size,h];exact iw16_
set_option maxHeartbeats 4000000 in
theorem refQuarter_any (a b c d:Nat) (l:List Int) (w:World) (hl:l.length=16) (ho:okL l) (ha:a < 16) (hb:b < 16) (hc:c < 16) (hd:d < 16) :
  Calls Tryz.prog 132 #[.agg (rowW l),.int .i64 (a:Int),.int .i64 (b:Int),.int .i64 (c:Int),.int .i64 (d:Int)] w fun e w'=>e = .returned (.agg (rowW (quarterL l a b c d)))∧Below w.heap.size w w':=by
 have hzw:=zw16
 obtain ⟨g,hg⟩:∃ g,Hid (w.heap.size=g):=⟨_,rfl⟩
 obtain ⟨w0,hw0⟩:∃ W,Hid ((w.alloc (.cells (rowW l) 177)).alloc (.cells (rowW zerosW) 177)=W):=⟨_,rfl⟩
 have HL:=hidq_ hl
 have HO:=hidq_ ho
 have HG:Hid (Bk w0 g 177 (rowW l)):=hidq_ (by rw [← hw0.out,← hg.out];exact (Bk.new w _ _).alloc _)
 have HZ:Hid (Bk w0 (g + 1) 177 (rowW zerosW)):=hidq_ (by
  have h:=Bk.new (w.alloc (.cells (rowW l) 177)) 177 (rowW zerosW)
  rw [← hw0.out,← hg.out]
  simpa using h)
 have HR:Hid (Below g w w0):=hidq_ (by rw [← hw0.out,← hg.out];exact ((Below.refl _ _).alloc (Nat.le_refl _) _).alloc (by simp) _)
 clear hl ho
 go_enter Tryz.func132,Tryz.ntmps132
 go_upto_region 1 with fail
 rw [hg.out,hw0.out]
 clear hzw
 have ci:=HG.out.cell a
 have cj:=HG.out.cell b
 rw [rowW_at _ _ (by rw [HL.out];exact ha)] at ci
 rw [rowW_at _ _ (by rw [HL.out];exact hb)] at cj
 obtain ⟨x,hx⟩:∃ x,Hid (l.getD a 0=x):=⟨_,rfl⟩
 obtain ⟨y,hy⟩:∃ x,Hid (l.getD b 0=x):=⟨_,rfl⟩
 have bx:=getD_okW HO.out a
 have by_:=getD_okW HO.out b
 rw [hx.out] at ci bx
 rw [hy.out] at cj by_
 obtain ⟨bx0,bx1⟩:=bx
 obtain ⟨by0,by1⟩:=by_
 have ti:(a:Int) < 16:=by omega
 have tj:(b:Int) < 16:=by omega
 have zi:(0:Int)≤(a:Int):=by omega
 have zj:(0:Int)≤(b:Int):=by omega
 refine region_quiet_tail_lit 9 (by kernel_rfl) (by kernel_rfl) ?_
 simp only [List.take_succ_cons,List.take_zero]
 repeat (go_big_quiet_step (fail))
 refine wpQuiet_nil ?_
 intro w' hw'
 obtain ⟨nq,rfl⟩:=hw'
 simp only [List.drop_succ_cons,List.drop_zero]
 have hf:=(HG.out.drewN nq).frozen a
 have hset:=(HG.out.drewN nq).set_ a (.int .u32 ((x + y) % 4294967296))
 rw [rowW_set] at hset
 refine wpList_plain rfl fun K hK=>?_
 go_simp
 refine hK _ _ ?_
 clear hK K
 have HR2:=hidq_ ((below_drewN HR.out nq).setCell (p:=⟨g,a,none⟩) (Nat.le_refl _) (.int .u32 ((x + y) % 4294967296)))
 have HZ2:=hidq_ ((HZ.out.drewN nq).far (p:=⟨g,a,none⟩) (by simp) (.int .u32 ((x + y) % 4294967296)))
 have HG2:=hidq_ hset
 clear hset hf ci cj HG HR HZ
 obtain ⟨w1,hw1⟩:∃ W,Hid ((w0.drewN nq).setCell ⟨g,a,none⟩ (.int .u32 ((x + y) % 4294967296))=W):=⟨_,rfl⟩
 rw [hw1.out] at HR2 HG2 HZ2
 change Exit.then _ _ .normal _ ((w0.drewN nq).setCell ⟨g,a,none⟩ (.int .u32 ((x + y) % 4294967296)))
 rw [hw1.out]
 obtain ⟨l1,HE1⟩:∃ l',Hid (addAt l a b=l'):=⟨_,rfl⟩
 have HG:Hid (Bk w1 g 177 (rowW l1)):=hidq_ (by rw [← HE1.out];unfold addAt;rw [hx.out,hy.out];exact HG2.out)
 have HL2:Hid (l1.length=16):=hidq_ (by rw [← HE1.out,addAt_len,HL.out])
 have HO2:Hid (okL l1):=hidq_ (by rw [← HE1.out];exact addAt_ok HO.out _ _)
 have HR:=HR2
 have HZ:=HZ2
 clear HG2 HR2 HZ2 hx hy bx0 bx1 by0 by1 ti tj zi zj HL HO hw1
 have HL:=HL2
 have HO:=HO2
 clear HL2 HO2
 rename_i K hK
 refine hK _ _ ?_
 go_upto_region 2 with fail
 have ci:=HG.out.cell d
 have cj:=HG.out.cell a
 rw [rowW_at _ _ (by rw [HL.out];exact hd)] at ci
 rw [rowW_at _ _ (by rw [HL.out];exact ha)] at cj
 obtain ⟨x,hx⟩:∃ x,Hid (l1.getD d 0=x):=⟨_,rfl⟩
 obtain ⟨y,hy⟩:∃ x,Hid (l1.getD a 0=x):=⟨_,rfl⟩
 have bx:=getD_okW HO.out d
 have by_:=getD_okW HO.out a
 rw [hx.out] at ci bx
 rw [hy.out] at cj by_
 obtain ⟨bx0,bx1⟩:=bx
 obtain ⟨by0,by1⟩:=by_
 have ti:(d:Int) < 16:=by omega
 have tj:(a:Int) < 16:=by omega
 have zi:(0:Int)≤(d:Int):=by omega
 have zj:(0:Int)≤(a:Int):=by omega
 have hz:=ok32_bitsq .xor x y
 have cl:=fun W=>refLeft_any (bits .xor .u32 x y) 16 hz.1 hz.2 W
 rw [show ((16:Int) % 32).toNat=16 from rfl] at cl
 clear hz
 refine region_quiet_tail_lit 10 (by kernel_rfl) (by kernel_rfl) ?_
 simp only [List.take_succ_cons,List.take_zero]
 repeat (go_big_quiet_step ((go_at_call 143;exact (cl _).mono fun _ _ hh=>⟨hh.1,_,hh.2.symm⟩)))
 refine wpQuiet_nil ?_
 intro w' hw'
 obtain ⟨nq,rfl⟩:=hw'
 simp only [List.drop_succ_cons,List.drop_zero]
 have hf:=(HG.out.drewN nq).frozen d
 have hset:=(HG.out.drewN nq).set_ d (.int .u32 (rotn 16 (bits .xor .u32 x y)))
 rw [rowW_set] at hset
 refine wpList_plain rfl fun K hK=>?_
 go_simp
 refine hK _ _ ?_
 clear hK K
 have HR2:=hidq_ ((below_drewN HR.out nq).setCell (p:=⟨g,d,none⟩) (Nat.le_refl _) (.int .u32 (rotn 16 (bits .xor .u32 x y))))
 have HZ2:=hidq_ ((HZ.out.drewN nq).far (p:=⟨g,d,none⟩) (by simp) (.int .u32 (rotn 16 (bits .xor .u32 x y))))
 have HG2:=hidq_ hset
 clear hset hf ci cj HG HR HZ
 obtain ⟨w2,hw2⟩:∃ W,Hid ((w1.drewN nq).setCell ⟨g,d,none⟩ (.int .u32 (rotn 16 (bits .xor .u32 x y)))=W):=⟨_,rfl⟩
 rw [hw2.out] at HR2 HG2 HZ2
 change Exit.then _ _ .normal _ ((w1.drewN nq).setCell ⟨g,d,none⟩ (.int .u32 (rotn 16 (bits .xor .u32 x y))))
 rw [hw2.out]
 obtain ⟨l2,HE2⟩:∃ l',Hid (turnAt l1 d a 16=l'):=⟨_,rfl⟩
 have HG:Hid (Bk w2 g 177 (rowW l2)):=hidq_ (by rw [← HE2.out];unfold turnAt;rw [hx.out,hy.out];exact HG2.out)
 have HL2:Hid (l2.length=16):=hidq_ (by rw [← HE2.out,turnAt_len,HL.out])
 have HO2:Hid (okL l2):=hidq_ (by rw [← HE2.out];exact turnAt_ok HO.out _ _ _)
 have HR:=HR2
 have HZ:=HZ2
 clear HG2 HR2 HZ2 hx hy bx0 bx1 by0 by1 ti tj zi zj HL HO cl hw2
 have HL:=HL2
 have HO:=HO2
 clear HL2 HO2
 rename_i K hK
 refine hK _ _ ?_
 go_upto_region 3 with fail
 have ci:=HG.out.cell c
 have cj:=HG.out.cell d
 rw [rowW_at _ _ (by rw [HL.out];exact hc)] at ci
 rw [rowW_at _ _ (by rw [HL.out];exact hd)] at cj
 obtain ⟨x,hx⟩:∃ x,Hid (l2.getD c 0=x):=⟨_,rfl⟩
 obtain ⟨y,hy⟩:∃ x,Hid (l2.getD d 0=x):=⟨_,rfl⟩
 have bx:=getD_okW HO.out c
 have by_:=getD_okW HO.out d
 rw [hx.out] at ci bx
 rw [hy.out] at cj by_
 obtain ⟨bx0,bx1⟩:=bx
 obtain ⟨by0,by1⟩:=by_
 have ti:(c:Int) < 16:=by omega
 have tj:(d:Int) < 16:=by omega
 have zi:(0:Int)≤(c:Int):=by omega
 have zj:(0:Int)≤(d:Int):=by omega
 refine region_quiet_tail_lit 9 (by kernel_rfl) (by kernel_rfl) ?_
 simp only [List.take_succ_cons,List.take_zero]
 repeat (go_big_quiet_step (fail))
 refine wpQuiet_nil ?_
 intro w' hw'
 obtain ⟨nq,rfl⟩:=hw'
 simp only [List.drop_succ_cons,List.drop_zero]
 have hf:=(HG.out.drewN nq).frozen c
 have hset:=(HG.out.drewN nq).set_ c (.int .u32 ((x + y) % 4294967296))
 rw [rowW_set] at hset
 refine wpList_plain rfl fun K hK=>?_
 go_simp
 refine hK _ _ ?_
 clear hK K
 have HR2:=hidq_ ((below_drewN HR.out nq).setCell (p:=⟨g,c,none⟩) (Nat.le_refl _) (.int .u32 ((x + y) % 4294967296)))
 have HZ2:=hidq_ ((HZ.out.drewN nq).far (p:=⟨g,c,none⟩) (by simp) (.int .u32 ((x + y) % 4294967296)))
 have HG2:=hidq_ hset
 clear hset hf ci cj HG HR HZ
 obtain ⟨w3,hw3⟩:∃ W,Hid ((w2.drewN nq).setCell ⟨g,c,none⟩ (.int .u32 ((x + y) % 4294967296))=W):=⟨_,rfl⟩
 rw [hw3.out] at HR2 HG2 HZ2
 change Exit.then _ _ .normal _ ((w2.drewN nq).setCell ⟨g,c,none⟩ (.int .u32 ((x + y) % 4294967296)))
 rw [hw3.out]
 obtain ⟨l3,HE3⟩:∃ l',Hid (addAt l2 c d=l'):=⟨_,rfl⟩
 have HG:Hid (Bk w3 g 177 (rowW l3)):=hidq_ (by rw [← HE3.out];unfold addAt;rw [hx.out,hy.out];exact HG2.out)
 have HL2:Hid (l3.length=16):=hidq_ (by rw [← HE3.out,addAt_len,HL.out])
 have HO2:Hid (okL l3):=hidq_ (by rw [← HE3.out];exact addAt_ok HO.out _ _)
 have HR:=HR2
 have HZ:=HZ2
 clear HG2 HR2 HZ2 hx hy bx0 bx1 by0 by1 ti tj zi zj HL HO hw3
 have HL:=HL2
 have HO:=HO2
 clear HL2 HO2
 rename_i K hK
 refine hK _ _ ?_
 go_upto_region 4 with fail
 have ci:=HG.out.cell b
 have cj:=HG.out.cell c
 rw [rowW_at _ _ (by rw [HL.out];exact hb)] at ci
 rw [rowW_at _ _ (by rw [HL.out];exact hc)] at cj
 obtain ⟨x,hx⟩:∃ x,Hid (l3.getD b 0=x):=⟨_,rfl⟩
 obtain ⟨y,hy⟩:∃ x,Hid (l3.getD c 0=x):=⟨_,rfl⟩
 have bx:=getD_okW HO.out b
 have by_:=getD_okW HO.out c
 rw [hx.out] at ci bx
 rw [hy.out] at cj by_
 obtain ⟨bx0,bx1⟩:=bx
 obtain ⟨by0,by1⟩:=by_
 have ti:(b:Int) < 16:=by omega
 have tj:(c:Int) < 16:=by omega
 have zi:(0:Int)≤(b:Int):=by omega
 have zj:(0:Int)≤(c:Int):=by omega
 have hz:=ok32_bitsq .xor x y
 have cl:=fun W=>refLeft_any (bits .xor .u32 x y) 12 hz.1 hz.2 W
 rw [show ((12:Int) % 32).toNat=12 from rfl] at cl
 clear hz
 refine region_quiet_tail_lit 10 (by kernel_rfl) (by kernel_rfl) ?_
 simp only [List.take_succ_cons,List.take_zero]
 repeat (go_big_quiet_step ((go_at_call 143;exact (cl _).mono fun _ _ hh=>⟨hh.1,_,hh.2.symm⟩)))
 refine wpQuiet_nil ?_
 intro w' hw'
 obtain ⟨nq,rfl⟩:=hw'
 simp only [List.drop_succ_cons,List.drop_zero]
 have hf:=(HG.out.drewN nq).frozen b
 have hset:=(HG.out.drewN nq).set_ b (.int .u32 (rotn 12 (bits .xor .u32 x y)))
 rw [rowW_set] at hset
 refine wpList_plain rfl fun K hK=>?_
 go_simp
 refine hK _ _ ?_
 clear hK K
 have HR2:=hidq_ ((below_drewN HR.out nq).setCell (p:=⟨g,b,none⟩) (Nat.le_refl _) (.int .u32 (rotn 12 (bits .xor .u32 x y))))
 have HZ2:=hidq_ ((HZ.out.drewN nq).far (p:=⟨g,b,none⟩) (by simp) (.int .u32 (rotn 12 (bits .xor .u32 x y))))
 have HG2:=hidq_ hset
 clear hset hf ci cj HG HR HZ
 obtain ⟨w4,hw4⟩:∃ W,Hid ((w3.drewN nq).setCell ⟨g,b,none⟩ (.int .u32 (rotn 12 (bits .xor .u32 x y)))=W):=⟨_,rfl⟩
 rw [hw4.out] at HR2 HG2 HZ2
 change Exit.then _ _ .normal _ ((w3.drewN nq).setCell ⟨g,b,none⟩ (.int .u32 (rotn 12 (bits .xor .u32 x y))))
 rw [hw4.out]
 obtain ⟨l4,HE4⟩:∃ l',Hid (turnAt l3 b c 12=l'):=⟨_,rfl⟩
 have HG:Hid (Bk w4 g 177 (rowW l4)):=hidq_ (by rw [← HE4.out];unfold turnAt;rw [hx.out,hy.out];exact HG2.out)
 have HL2:Hid (l4.length=16):=hidq_ (by rw [← HE4.out,turnAt_len,HL.out])
 have HO2:Hid (okL l4):=hidq_ (by rw [← HE4.out];exact turnAt_ok HO.out _ _ _)
 have HR:=HR2
 have HZ:=HZ2
 clear HG2 HR2 HZ2 hx hy bx0 bx1 by0 by1 ti tj zi zj HL HO cl hw4
 have HL:=HL2
 have HO:=HO2
 clear HL2 HO2
 rename_i K hK
 refine hK _ _ ?_
 go_upto_region 5 with fail
 have ci:=HG.out.cell a
 have cj:=HG.out.cell b
 rw [rowW_at _ _ (by rw [HL.out];exact ha)] at ci
 rw [rowW_at _ _ (by rw [HL.out];exact hb)] at cj
 obtain ⟨x,hx⟩:∃ x,Hid (l4.getD a 0=x):=⟨_,rfl⟩
 obtain ⟨y,hy⟩:∃ x,Hid (l4.getD b 0=x):=⟨_,rfl⟩
 have bx:=getD_okW HO.out a
 have by_:=getD_okW HO.out b
 rw [hx.out] at ci bx
 rw [hy.out] at cj by_
 obtain ⟨bx0,bx1⟩:=bx
 obtain ⟨by0,by1⟩:=by_
 have ti:(a:Int) < 16:=by omega
 have tj:(b:Int) < 16:=by omega
 have zi:(0:Int)≤(a:Int):=by omega
 have zj:(0:Int)≤(b:Int):=by omega
 refine region_quiet_tail_lit 9 (by kernel_rfl) (by kernel_rfl) ?_
 simp only [List.take_succ_cons,List.take_zero]
 repeat (go_big_quiet_step (fail))
 refine wpQuiet_nil ?_
 intro w' hw'
 obtain ⟨nq,rfl⟩:=hw'
 simp only [List.drop_succ_cons,List.drop_zero]
 have hf:=(HG.out.drewN nq).frozen a
 have hset:=(HG.out.drewN nq).set_ a (.int .u32 ((x + y) % 4294967296))
 rw [rowW_set] at hset
 refine wpList_plain rfl fun K hK=>?_
 go_simp
 refine hK _ _ ?_
 clear hK K
 have HR2:=hidq_ ((below_drewN HR.out nq).setCell (p:=⟨g,a,none⟩) (Nat.le_refl _) (.int .u32 ((x + y) % 4294967296)))
 have HZ2:=hidq_ ((HZ.out.drewN nq).far (p:=⟨g,a,none⟩) (by simp) (.int .u32 ((x + y) % 4294967296)))
 have HG2:=hidq_ hset
 clear hset hf ci cj HG HR HZ
 obtain ⟨w5,hw5⟩:∃ W,Hid ((w4.drewN nq).setCell ⟨g,a,none⟩ (.int .u32 ((x + y) % 4294967296))=W):=⟨_,rfl⟩
 rw [hw5.out] at HR2 HG2 HZ2
 change Exit.then _ _ .normal _ ((w4.drewN nq).setCell ⟨g,a,none⟩ (.int .u32 ((x + y) % 4294967296)))
 rw [hw5.out]
 obtain ⟨l5,HE5⟩:∃ l',Hid (addAt l4 a b=l'):=⟨_,rfl⟩
 have HG:Hid (Bk w5 g 177 (rowW l5)):=hidq_ (by rw [← HE5.out];unfold addAt;rw [hx.out,hy.out];exact HG2.out)
 have HL2:Hid (l5.length=16):=hidq_ (by rw [← HE5.out,addAt_len,HL.out])
 have HO2:Hid (okL l5):=hidq_ (by rw [← HE5.out];exact addAt_ok HO.out _ _)
 have HR:=HR2
 have HZ:=HZ2
 clear HG2 HR2 HZ2 hx hy bx0 bx1 by0 by1 ti tj zi zj HL HO hw5
 have HL:=HL2
 have HO:=HO2
 clear HL2 HO2
 rename_i K hK
 refine hK _ _ ?_
 go_upto_region 6 with fail
 have ci:=HG.out.cell d
 have cj:=HG.out.cell a
 rw [rowW_at _ _ (by rw [HL.out];exact hd)] at ci
 rw [rowW_at _ _ (by rw [HL.out];exact ha)] at cj
 obtain ⟨x,hx⟩:∃ x,Hid (l5.getD d 0=x):=⟨_,rfl⟩
 obtain ⟨y,hy⟩:∃ x,Hid (l5.getD a 0=x):=⟨_,rfl⟩
 have bx:=getD_okW HO.out d
 have by_:=getD_okW HO.out a
 rw [hx.out] at ci bx
 rw [hy.out] at cj by_
 obtain ⟨bx0,bx1⟩:=bx
 obtain ⟨by0,by1⟩:=by_
 have ti:(d:Int) < 16:=by omega
 have tj:(a:Int) < 16:=by omega
 have zi:(0:Int)≤(d:Int):=by omega
 have zj:(0:Int)≤(a:Int):=by omega
 have hz:=ok32_bitsq .xor x y
 have cl:=fun W=>refLeft_any (bits .xor .u32 x y) 8 hz.1 hz.2 W
 rw [show ((8:Int) % 32).toNat=8 from rfl] at cl
 clear hz
 refine region_quiet_tail_lit 10 (by kernel_rfl) (by kernel_rfl) ?_
 simp only [List.take_succ_cons,List.take_zero]
 repeat (go_big_quiet_step ((go_at_call 143;exact (cl _).mono fun _ _ hh=>⟨hh.1,_,hh.2.symm⟩)))
 refine wpQuiet_nil ?_
 intro w' hw'
 obtain ⟨nq,rfl⟩:=hw'
 simp only [List.drop_succ_cons,List.drop_zero]
 have hf:=(HG.out.drewN nq).frozen d
 have hset:=(HG.out.drewN nq).set_ d (.int .u32 (rotn 8 (bits .xor .u32 x y)))
 rw [rowW_set] at hset
 refine wpList_plain rfl fun K hK=>?_
 go_simp
 refine hK _ _ ?_
 clear hK K
 have HR2:=hidq_ ((below_drewN HR.out nq).setCell (p:=⟨g,d,none⟩) (Nat.le_refl _) (.int .u32 (rotn 8 (bits .xor .u32 x y))))
 have HZ2:=hidq_ ((HZ.out.drewN nq).far (p:=⟨g,d,none⟩) (by simp) (.int .u32 (rotn 8 (bits .xor .u32 x y))))
 have HG2:=hidq_ hset
 clear hset hf ci cj HG HR HZ
 obtain ⟨w6,hw6⟩:∃ W,Hid ((w5.drewN nq).setCell ⟨g,d,none⟩ (.int .u32 (rotn 8 (bits .xor .u32 x y)))=W):=⟨_,rfl⟩
 rw [hw6.out] at HR2 HG2 HZ2
 change Exit.then _ _ .normal _ ((w5.drewN nq).setCell ⟨g,d,none⟩ (.int .u32 (rotn 8 (bits .xor .u32 x y))))
 rw [hw6.out]
 obtain ⟨l6,HE6⟩:∃ l',Hid (turnAt l5 d a 8=l'):=⟨_,rfl⟩
 have HG:Hid (Bk w6 g 177 (rowW l6)):=hidq_ (by rw [← HE6.out];unfold turnAt;rw [hx.out,hy.out];exact HG2.out)
 have HL2:Hid (l6.length=16):=hidq_ (by rw [← HE6.out,turnAt_len,HL.out])
 have HO2:Hid (okL l6):=hidq_ (by rw [← HE6.out];exact turnAt_ok HO.out _ _ _)
 have HR:=HR2
 have HZ:=HZ2
 clear HG2 HR2 HZ2 hx hy bx0 bx1 by0 by1 ti tj zi zj HL HO cl hw6
 have HL:=HL2
 have HO:=HO2
 clear HL2 HO2
 rename_i K hK
 refine hK _ _ ?_
 go_upto_region 7 with fail
 have ci:=HG.out.cell c
 have cj:=HG.out.cell d
 rw [rowW_at _ _ (by rw [HL.out];exact hc)] at ci
 rw [rowW_at _ _ (by rw [HL.out];exact hd)] at cj
 obtain ⟨x,hx⟩:∃ x,Hid (l6.getD c 0=x):=⟨_,rfl⟩
 obtain ⟨y,hy⟩:∃ x,Hid (l6.getD d 0=x):=⟨_,rfl⟩
 have bx:=getD_okW HO.out c
 have by_:=getD_okW HO.out d
 rw [hx.out] at ci bx
 rw [hy.out] at cj by_
 obtain ⟨bx0,bx1⟩:=bx
 obtain ⟨by0,by1⟩:=by_
 have ti:(c:Int) < 16:=by omega
 have tj:(d:Int) < 16:=by omega
 have zi:(0:Int)≤(c:Int):=by omega
 have zj:(0:Int)≤(d:Int):=by omega
 refine region_quiet_tail_lit 9 (by kernel_rfl) (by kernel_rfl) ?_
 simp only [List.take_succ_cons,List.take_zero]
 repeat (go_big_quiet_step (fail))
 refine wpQuiet_nil ?_
 intro w' hw'
 obtain ⟨nq,rfl⟩:=hw'
 simp only [List.drop_succ_cons,List.drop_zero]
 have hf:=(HG.out.drewN nq).frozen c
 have hset:=(HG.out.drewN nq).set_ c (.int .u32 ((x + y) % 4294967296))
 rw [rowW_set] at hset
 refine wpList_plain rfl fun K hK=>?_
 go_simp
 refine hK _ _ ?_
 clear hK K
 have HR2:=hidq_ ((below_drewN HR.out nq).setCell (p:=⟨g,c,none⟩) (Nat.le_refl _) (.int .u32 ((x + y) % 4294967296)))
 have HZ2:=hidq_ ((HZ.out.drewN nq).far (p:=⟨g,c,none⟩) (by simp) (.int .u32 ((x + y) % 4294967296)))
 have HG2:=hidq_ hset
 clear hset hf ci cj HG HR HZ
 obtain ⟨w7,hw7⟩:∃ W,Hid ((w6.drewN nq).setCell ⟨g,c,none⟩ (.int .u32 ((x + y) % 4294967296))=W):=⟨_,rfl⟩
 rw [hw7.out] at HR2 HG2 HZ2
 change Exit.then _ _ .normal _ ((w6.drewN nq).setCell ⟨g,c,none⟩ (.int .u32 ((x + y) % 4294967296)))
 rw [hw7.out]
 obtain ⟨l7,HE7⟩:∃ l',Hid (addAt l6 c d=l'):=⟨_,rfl⟩
 have HG:Hid (Bk w7 g 177 (rowW l7)):=hidq_ (by rw [← HE7.out];unfold addAt;rw [hx.out,hy.out];exact HG2.out)
 have HL2:Hid (l7.length=16):=hidq_ (by rw [← HE7.out,addAt_len,HL.out])
 have HO2:Hid (okL l7):=hidq_ (by rw [← HE7.out];exact addAt_ok HO.out _ _)
 have HR:=HR2
 have HZ:=HZ2
 clear HG2 HR2 HZ2 hx hy bx0 bx1 by0 by1 ti tj zi zj HL HO hw7
 have HL:=HL2
 have HO:=HO2
 clear HL2 HO2
 rename_i K hK
 refine hK _ _ ?_
 go_upto_region 8 with fail
 have ci:=HG.out.cell b
 have cj:=HG.out.cell c
 rw [rowW_at _ _ (by rw [HL.out];exact hb)] at ci
 rw [rowW_at _ _ (by rw [HL.out];exact hc)] at cj
 obtain ⟨x,hx⟩:∃ x,Hid (l7.getD b 0=x):=⟨_,rfl⟩
 obtain ⟨y,hy⟩:∃ x,Hid (l7.getD c 0=x):=⟨_,rfl⟩
 have bx:=getD_okW HO.out b
 have by_:=getD_okW HO.out c
 rw [hx.out] at ci bx
 rw [hy.out] at cj by_
 obtain ⟨bx0,bx1⟩:=bx
 obtain ⟨by0,by1⟩:=by_
 have ti:(b:Int) < 16:=by omega
 have tj:(c:Int) < 16:=by omega
 have zi:(0:Int)≤(b:Int):=by omega
 have zj:(0:Int)≤(c:Int):=by omega
 have hz:=ok32_bitsq .xor x y
 have cl:=fun W=>refLeft_any (bits .xor .u32 x y) 7 hz.1 hz.2 W
 rw [show ((7:Int) % 32).toNat=7 from rfl] at cl
 clear hz
 refine region_quiet_tail_lit 10 (by kernel_rfl) (by kernel_rfl) ?_
 simp only [List.take_succ_cons,List.take_zero]
 repeat (go_big_quiet_step ((go_at_call 143;exact (cl _).mono fun _ _ hh=>⟨hh.1,_,hh.2.symm⟩)))
 refine wpQuiet_nil ?_
 intro w' hw'
 obtain ⟨nq,rfl⟩:=hw'
 simp only [List.drop_succ_cons,List.drop_zero]
 have hf:=(HG.out.drewN nq).frozen b
 have hset:=(HG.out.drewN nq).set_ b (.int .u32 (rotn 7 (bits .xor .u32 x y)))
 rw [rowW_set] at hset
 refine wpList_plain rfl fun K hK=>?_
 go_simp
 refine hK _ _ ?_
 clear hK K
 have HR2:=hidq_ ((below_drewN HR.out nq).setCell (p:=⟨g,b,none⟩) (Nat.le_refl _) (.int .u32 (rotn 7 (bits .xor .u32 x y))))
 have HZ2:=hidq_ ((HZ.out.drewN nq).far (p:=⟨g,b,none⟩) (by simp) (.int .u32 (rotn 7 (bits .xor .u32 x y))))
 have HG2:=hidq_ hset
 clear hset hf ci cj HG HR HZ
 obtain ⟨w8,hw8⟩:∃ W,Hid ((w7.drewN nq).setCell ⟨g,b,none⟩ (.int .u32 (rotn 7 (bits .xor .u32 x y)))=W):=⟨_,rfl⟩
 rw [hw8.out] at HR2 HG2 HZ2
 change Exit.then _ _ .normal _ ((w7.drewN nq).setCell ⟨g,b,none⟩ (.int .u32 (rotn 7 (bits .xor .u32 x y))))
 rw [hw8.out]
 obtain ⟨l8,HE8⟩:∃ l',Hid (turnAt l7 b c 7=l'):=⟨_,rfl⟩
 have HG:Hid (Bk w8 g 177 (rowW l8)):=hidq_ (by rw [← HE8.out];unfold turnAt;rw [hx.out,hy.out];exact HG2.out)
 have HL2:Hid (l8.length=16):=hidq_ (by rw [← HE8.out,turnAt_len,HL.out])
 have HO2:Hid (okL l8):=hidq_ (by rw [← HE8.out];exact turnAt_ok HO.out _ _ _)
 have HR:=HR2
 have HZ:=HZ2
 clear HG2 HR2 HZ2 hx hy bx0 bx1 by0 by1 ti tj zi zj HL HO cl hw8
 have HL:=HL2
 have HO:=HO2
 clear HL2 HO2
 rename_i K hK
 refine hK _ _ ?_
 have hq:quarterL l a b c d=l8:=by unfold quarterL;rw [HE1.out,HE2.out,HE3.out,HE4.out,HE5.out,HE6.out,HE7.out,HE8.out]
 have HQ:=hidq_ hq
 clear hq
 have hs8:(rowW zerosW).size=(rowW l8).size:=by rw [rowW_size,rowW_size,HL.out];rfl
 have S8:=hidq_ hs8
 have E8:=hidq_ (iw16 l8 HL.out)
 clear hs8
 have bb:=HR.out
 have zz:=HZ.out
 have gg:=HG.out
 go_wp2_with (first
  | (refine wpList_load_row rfl 177 _ rfl g rfl 177 (rowW l8) (0,0) _ gg Tryz.underlying177 rfl E8.out ?_)
  | (refine wpList_put_row rfl 177 _ _ rfl (g + 1) (rowW l8) rfl rfl 177 (rowW zerosW) zz E8.out S8.out (rowW_one _) ?_;intro W9 k9 g9 s9))
 refine bodyPost_ret (results_cell_row Tryz.results132 _ _ (g + 1) 177 _ (0,0) _ rfl k9 Tryz.underlying177 rfl E8.out) rfl ⟨by rw [HQ.out],by rw [hg.out];exact bb.grown g9 (by have:=zz.lt;omega) (fun k hk=>by injection hk with hk;omega)⟩
theorem quarter_int (g a b c d:Nat) (l:List Int) (w:World) (za zb zc zd:Int) (ea:za=(a:Int)) (eb:zb=(b:Int)) (ec:zc=(c:Int)) (ed:zd=(d:Int)) (hl:l.length=16) (ho:okL l) (hg:Bk w g 177 (rowW l)) (ha:a < 16) (hb:b < 16) (hc:c < 16) (hd:d < 16) :
  Calls Tryz.prog 139 #[.pointer (some ⟨g,0,none⟩),.int .i64 za,.int .i64 zb,.int .i64 zc,.int .i64 zd] w fun e w'=>e = .returned (.tuple #[])∧Bk w' g 177 (rowW (quarterL l a b c d))∧w.grownBy w' (some g):=by
 subst ea eb ec ed
 exact quarter_any g a b c d l w hl ho hg ha hb hc hd
set_option maxHeartbeats 4000000 in
theorem stirred_any (l:List Int) (w:World) (hl:l.length=16) (ho:okL l) :
  Calls Tryz.prog 122 #[.agg (rowW l)] w fun e w'=>e = .returned (.agg (rowW (roundsL l 10)))∧Below w.heap.size w w':=by
 have hzw:=zw16
 obtain ⟨g,hg⟩:∃ g,Hid (w.heap.size=g):=⟨_,rfl⟩
 obtain ⟨w0,hw0⟩:∃ W,Hid ((w.alloc (.cells (rowW l) 177)).alloc (.cells (rowW zerosW) 177)=W):=⟨_,rfl⟩
 have HL:=hidq_ hl
 have HO:=hidq_ ho
 have HG:Hid (Bk w0 g 177 (rowW l)):=hidq_ (by rw [← hw0.out,← hg.out];exact (Bk.new w _ _).alloc _)
 have HZ:Hid (Bk w0 (g + 1) 177 (rowW zerosW)):=hidq_ (by
  have h:=Bk.new (w.alloc (.cells (rowW l) 177)) 177 (rowW zerosW)
  rw [← hw0.out,← hg.out]
  simpa using h)
 have HR:Hid (Below g w w0):=hidq_ (by rw [← hw0.out,← hg.out];exact ((Below.refl _ _).alloc (Nat.le_refl _) _).alloc (by simp) _)
 clear hl ho
 go_enter Tryz.func122,Tryz.ntmps122
 go_wp2
 rw [hg.out,hw0.out]
 clear hzw
 go_loopw [5] (fun i wr=>∃ k:Nat,k≤10∧i = .int .i64 k∧Bk wr g 177 (rowW (roundsL l k))∧Bk wr (g + 1) 177 (rowW zerosW)∧Below g w wr) (fun i _=>10 - (intOf i).toNat)
 case atStart=>exact ⟨0,by omega,rfl,HG.out,HZ.out,HR.out⟩
 case round =>
  obtain ⟨k,hk,rfl,h1,h2,h3⟩:=hrel
  have G1:=hidq_ h1
  have G2:=hidq_ h2
  have G3:=hidq_ h3
  clear h1 h2 h3 HG HZ HR
  by_cases hlt:k < 10
  ·have hd10:decide ((k:Int) < 10)=true:=decide_eq_true (by omega)
   have LK:Hid ((roundsL l k).length=16):=hidq_ (by rw [roundsL_len,HL.out])
   have OK:=hidq_ (roundsL_ok HO.out k)
   go_wp2
   go_loopw [7] (fun i wr=>∃ j:Nat,j≤4∧i = .int .i64 j∧Bk wr g 177 (rowW (colsL (roundsL l k) j))∧Bk wr (g + 1) 177 (rowW zerosW)∧Below g w wr) (fun i _=>4 - (intOf i).toNat)
   case atStart=>exact ⟨0,by omega,rfl,G1.out,G2.out,G3.out⟩
   case round =>
    obtain ⟨j,hj,rfl,h1,h2,h3⟩:=hrel
    have H1:=hidq_ h1
    have H2:=hidq_ h2
    have H3:=hidq_ h3
    clear h1 h2 h3 G1 G2 G3
    by_cases hlj:j < 4
    ·have hd4:decide ((j:Int) < 4)=true:=decide_eq_true (by omega)
     have LJ:Hid ((colsL (roundsL l k) j).length=16):=hidq_ (by rw [colsL_len,LK.out])
     have OJ:=hidq_ (colsL_ok OK.out j)
     go_wp2_with (go_at_call 139;((refine (quarter_int g j (4 + j) (8 + j) (12 + j) _ _ _ _ _ _ (by omega) (by omega) (by omega) (by omega) LJ.out OJ.out H1.out (by omega) (by omega) (by omega) (by omega)).mono ?_);rintro e w5 ⟨rfl,q1,q2⟩))
     have Q1:=hidq_ q1
     have Q2:=hidq_ (H2.out.grown q2 (by intro e;injection e with e;omega))
     have Q3:=hidq_ (H3.out.grown q2 (by have:=H2.out.lt;omega) (fun i hi=>by injection hi with hi;omega))
     clear q1 q2
     go_roundw
     case rel=>exact ⟨j + 1,by omega,by go_num,Q1.out,Q2.out,Q3.out⟩
     case measure=>simp [intOf];omega
    ·have hj4:Hid (j=4):=hidq_ (by omega)
     have hd4:decide ((j:Int) < 4)=false:=decide_eq_false (by omega)
     have H1':Hid (Bk wr g 177 (rowW (colsL (roundsL l k) 4))):=hidq_ (by have h:=H1.out;rwa [hj4.out] at h)
     clear H1
     have H1:=H1'
     clear H1'
     have LC:Hid ((colsL (roundsL l k) 4).length=16):=hidq_ (by rw [colsL_len,LK.out])
     have OC:=hidq_ (colsL_ok OK.out 4)
     go_wp2
     go_loopw [19] (fun i wr=>∃ j:Nat,j≤4∧i = .int .i64 j∧Bk wr g 177 (rowW (diagsL (colsL (roundsL l k) 4) j))∧Bk wr (g + 1) 177 (rowW zerosW)∧Below g w wr) (fun i _=>4 - (intOf i).toNat)
     case atStart=>exact ⟨0,by omega,rfl,H1.out,H2.out,H3.out⟩
     case round =>
      obtain ⟨j,hj,rfl,h1,h2,h3⟩:=hrel
      have K1:=hidq_ h1
      have K2:=hidq_ h2
      have K3:=hidq_ h3
      clear h1 h2 h3 H1 H2 H3
      by_cases hlj:j < 4
      ·have hd4:decide ((j:Int) < 4)=true:=decide_eq_true (by omega)
       have LJ:Hid ((diagsL (colsL (roundsL l k) 4) j).length=16):=hidq_ (by rw [diagsL_len,LC.out])
       have OJ:=hidq_ (diagsL_ok OC.out j)
       go_wp2_with (go_at_call 139;((refine (quarter_int g j (4 + (j + 1) % 4) (8 + (j + 2) % 4) (12 + (j + 3) % 4) _ _ _ _ _ _ (by omega) (by omega) (by omega) (by omega) LJ.out OJ.out K1.out (by omega) (by omega) (by omega) (by omega)).mono ?_);rintro e w5 ⟨rfl,q1,q2⟩))
       have Q1:=hidq_ q1
       have Q2:=hidq_ (K2.out.grown q2 (by intro e;injection e with e;omega))
       have Q3:=hidq_ (K3.out.grown q2 (by have:=K2.out.lt;omega) (fun i hi=>by injection hi with hi;omega))
       clear q1 q2
       go_roundw
       case rel=>exact ⟨j + 1,by omega,by go_num,Q1.out,Q2.out,Q3.out⟩
       case measure=>simp [intOf];omega
      ·obtain rfl:j=4:=by omega
       go_wp2
       go_roundw
       case rel=>exact ⟨k + 1,by omega,by go_num,K1.out,K2.out,K3.out⟩
       case measure=>simp [intOf];omega
  ·obtain rfl:k=10:=by omega
   have L10:Hid ((roundsL l 10).length=16):=hidq_ (by rw [roundsL_len,HL.out])
   have hs8:(rowW zerosW).size=(rowW (roundsL l 10)).size:=by rw [rowW_size,rowW_size,L10.out];rfl
   have S8:=hidq_ hs8
   have E8:=hidq_ (iw16 _ L10.out)
   clear hs8
   have bb:=G3.out
   have zz:=G2.out
   have gg:=G1.out
   go_wp2_with (first
    | (refine wpList_load_row rfl 177 _ rfl g rfl 177 (rowW (roundsL l 10)) (0,0) _ gg Tryz.underlying177 rfl E8.out ?_)
    | (refine wpList_put_row rfl 177 _ _ rfl (g + 1) (rowW (roundsL l 10)) rfl rfl 177 (rowW zerosW) zz E8.out S8.out (rowW_one _) ?_;intro W9 k9 g9 s9))
   refine bodyPost_ret (results_cell_row Tryz.results122 _ _ (g + 1) 177 _ (0,0) _ rfl k9 Tryz.underlying177 rfl E8.out) rfl ⟨rfl,by rw [hg.out];exact bb.grown g9 (by have:=zz.lt;omega) (fun k hk=>by injection hk with hk;omega)⟩
theorem size8w (W:World):(sizeOf 5).run Tryz.prog W = .ok 1 W:=by
 obtain ⟨i,hi,hz,hsize,hby⟩:=info_parts info8
 simp [sizeOf,typeInfo,hi,hsize]
theorem size32w (W:World):(sizeOf 144).run Tryz.prog W = .ok 1 W:=by
 have h:(Tryz.prog.info? 144).map (·.size)=some 1:=by kernel_rfl
 cases hq:Tryz.prog.info? 144 with
 | none=>simp [hq] at h
 | some i =>
  have hs:i.size=1:=by simpa [hq] using h
  simp [sizeOf,typeInfo,hq,hs]
theorem slice_four (gk k c:Nat) (hk:4 * k + 4≤c) (W:World) :
  (Instr.slice 23 (.slice (some ⟨gk,0,none⟩) c c) (some (.int .i64 (4 * (k:Int)))) (some (.int .i64 (4 * ((k:Int) + 1)))) none).run Tryz.prog W = .ok (.slice (some ⟨gk,4 * k,none⟩) 4 (c - 4 * k)) W:=by
 have he:Tryz.prog.elem 23=5:=by kernel_rfl
 rw [run_slice_lh W 23 _ c c (by rw [he];exact Tryz.underlying23) .i64 .i64 _ _ (by omega) (by omega) (by omega),he,size8w]
 simp only [Result.andThen,sliced]
 have e1:(4 * (k:Int)).toNat=4 * k:=by omega
 have e2:(4 * ((k:Int) + 1)).toNat=4 * k + 4:=by omega
 rw [e1,e2,if_neg (by omega),show 4 * k + 4 - 4 * k=4 by omega]
 congr 3
 unfold Addr.add
 split
 ·simp at *
 ·simp
set_option maxHeartbeats 2000000 in
theorem fill_any (g gk i n cap:Nat) (T:TypeId) (l:List Int) (b:List UInt8) (w:World) (hl:l.length=16) (hb:b.length=4 * n) (hi:i + n≤16) (hn:n≤8) (hne:gk≠g) (hg:Bk w g 177 (rowW l)) (hk:Bk w gk T (rowOf b)) :
  Calls Tryz.prog 138 #[.slice (some ⟨g,i,none⟩) n cap,.slice (some ⟨gk,0,none⟩) (4 * n) (4 * n)] w fun e w'=>e = .returned (.tuple #[])∧Bk w' g 177 (rowW (fillL l i b n))∧w.grownBy w' (some g):=by
 have HL:=hidq_ hl
 have HB:=hidq_ hb
 have HG:=hidq_ hg
 have HK:=hidq_ hk
 have HNE:=hidq_ hne
 clear hl hb hg hk hne
 go_enter Tryz.func138,Tryz.ntmps138
 go_wp2
 go_loopw [7] (fun x wr=>∃ k:Nat,k≤n∧x = .int .i64 k∧Bk wr g 177 (rowW (fillL l i b k))∧Bk wr gk T (rowOf b)∧w.grownBy wr (some g)) (fun x _=>n - (intOf x).toNat)
 case atStart=>exact ⟨0,Nat.zero_le _,rfl,HG.out,HK.out,World.grownBy.refl w _⟩
 case round =>
  obtain ⟨k,hk,rfl,h1,h2,h3⟩:=hrel
  have G1:=hidq_ h1
  have G2:=hidq_ h2
  have G3:=hidq_ h3
  clear h1 h2 h3 HG HK
  by_cases hlt:k < n
  ·have hd:decide ((k:Int) < (n:Int))=true:=decide_eq_true (by omega)
   have hs:=fun W=>slice_four gk k (4 * n) (by omega) W
   have hlen:(((b.drop (4 * k)).take 4).length)=4:=by rw [List.length_take,List.length_drop,HB.out];omega
   have hrd:=(((Bk.rd G2.out (B:=wr.heap.size) G2.out.lt).drop (4 * k)).take 4)
   rw [Nat.zero_add] at hrd
   have c1:=low32_yes (some ⟨gk,4 * k,none⟩) wr.heap.size (4 * n - 4 * k) ((b.drop (4 * k)).take 4) wr hlen hrd
   have hwk:((leN ((b.drop (4 * k)).take 4):Nat):Int)=leWord b k:=rfl
   rw [hwk] at c1
   obtain ⟨x,hx⟩:∃ x,Hid (leWord b k=x):=⟨_,rfl⟩
   rw [hx.out] at c1
   have hc:=G1.out.cell (i + k)
   rw [rowW_at _ _ (by rw [fillL_len,HL.out];omega)] at hc
   have hf:=G1.out.frozen (i + k)
   have hset:=G1.out.set_ (i + k) (.int .u32 x)
   rw [rowW_set] at hset
   have HS:Hid (Bk (wr.setCell ⟨g,i + k,none⟩ (.int .u32 x)) g 177 (rowW (fillL l i b (k + 1)))):=hidq_ (by rw [fillL,hx.out];exact hset)
   have t0:(0:Int)≤(k:Int):=by omega
   clear hlen hrd hwk hset
   go_wp2_with (go_at_call 150;((with_reducible refine c1.mono ?_);rintro e w' ⟨rfl,rfl⟩))
   go_roundw
   case rel=>exact ⟨k + 1,by omega,by go_num,HS.out,G2.out.far (p:=⟨g,i + k,none⟩) HNE.out _,grown_put G3.out _ _⟩
   case measure=>simp [intOf];omega
  ·obtain rfl:k=n:=by omega
   go_wp2
   go_end0
   exact ⟨rfl,G1.out,G3.out⟩
theorem size_l32:Tryz.prog.elem 177=144:=by kernel_rfl
theorem sl_state (g:Nat) (W:World) :
  (Instr.sliceAt 177 (.pointer (some ⟨g,0,none⟩)) (some (.int .i64 4)) (some (.int .i64 12)) none).run Tryz.prog W = .ok (.slice (some ⟨g,4,none⟩) 8 12) W:=by
 have hn:Tryz.prog.arrayLen 177=16:=by kernel_rfl
 have ht:Tryz.prog.underlying 177=some (.array (Tryz.prog.arrayLen 177) (Tryz.prog.elem 177)):=by rw [size_l32,hn];exact Tryz.underlying177
 rw [run_sliceAt_array_lh W 177 ⟨g,0,none⟩ ht .i64 .i64 4 12 (by omega) (by omega) (by rw [hn];omega),size_l32,size32w,hn]
 rfl
theorem sl_state2 (g:Nat) (W:World) :
  (Instr.sliceAt 177 (.pointer (some ⟨g,0,none⟩)) (some (.int .i64 13)) none none).run Tryz.prog W = .ok (.slice (some ⟨g,13,none⟩) 3 3) W:=by
 have hn:Tryz.prog.arrayLen 177=16:=by kernel_rfl
 have ht:Tryz.prog.underlying 177=some (.array (Tryz.prog.arrayLen 177) (Tryz.prog.elem 177)):=by rw [size_l32,hn];exact Tryz.underlying177
 rw [run_sliceAt_array_l W 177 ⟨g,0,none⟩ ht .i64 13 (by omega) (by rw [hn];omega),size_l32,size32w,hn]
 rfl
theorem sl_key (g:Nat) (W:World) :
  (Instr.sliceAt 22 (.pointer (some ⟨g,0,none⟩)) none none none).run Tryz.prog W = .ok (.slice (some ⟨g,0,none⟩) 32 32) W:=by
 have he:Tryz.prog.elem 22=5:=by kernel_rfl
 have hn:Tryz.prog.arrayLen 22=32:=by kernel_rfl
 have ht:Tryz.prog.underlying 22=some (.array (Tryz.prog.arrayLen 22) (Tryz.prog.elem 22)):=by rw [he,hn];exact Tryz.underlying22
 rw [run_sliceAt_array_all W 22 ⟨g,0,none⟩ ht,he,size8w,hn]
 rfl
theorem sl_nonce (g:Nat) (W:World) :
  (Instr.sliceAt 107 (.pointer (some ⟨g,0,none⟩)) none none none).run Tryz.prog W = .ok (.slice (some ⟨g,0,none⟩) 12 12) W:=by
 have he:Tryz.prog.elem 107=5:=by kernel_rfl
 have hn:Tryz.prog.arrayLen 107=12:=by kernel_rfl
 have ht:Tryz.prog.underlying 107=some (.array (Tryz.prog.arrayLen 107) (Tryz.prog.elem 107)):=by rw [he,hn];exact Tryz.underlying107
 rw [run_sliceAt_array_all W 107 ⟨g,0,none⟩ ht,he,size8w,hn]
 rfl
set_option maxHeartbeats 4000000 in
theorem state_any (key nonce:List UInt8) (counter:Int) (w:World) (hk:key.length=32) (hn:nonce.length=12) (hc:ok32q counter) :
  Calls Tryz.prog 121 #[.agg (rowOf key),.int .u32 counter,.agg (rowOf nonce)] w fun e w'=>e = .returned (.agg (rowW (stateL key counter nonce)))∧Below w.heap.size w w':=by
 have hzw:=zw16
 obtain ⟨g,hg⟩:∃ g,Hid (w.heap.size=g):=⟨_,rfl⟩
 obtain ⟨w0,hw0⟩:∃ W,Hid ((((w.alloc (.cells (rowOf key) 22)).alloc (.cells (rowOf nonce) 107)).alloc (.cells (rowW zerosW) 177)).alloc (.cells (rowW zerosW) 177)=W):=⟨_,rfl⟩
 have HK:Hid (Bk w0 g 22 (rowOf key)):=hidq_ (by rw [← hw0.out,← hg.out];exact (((Bk.new w _ _).alloc _).alloc _).alloc _)
 have HN:Hid (Bk w0 (g + 1) 107 (rowOf nonce)):=hidq_ (by
  have h:=((Bk.new (w.alloc (.cells (rowOf key) 22)) 107 (rowOf nonce)).alloc (.cells (rowW zerosW) 177)).alloc (.cells (rowW zerosW) 177)
  rw [← hw0.out,← hg.out]
  simpa using h)
 have HZ:Hid (Bk w0 (g + 1 + 1) 177 (rowW zerosW)):=hidq_ (by
  have h:=(Bk.new ((w.alloc (.cells (rowOf key) 22)).alloc (.cells (rowOf nonce) 107)) 177 (rowW zerosW)).alloc (.cells (rowW zerosW) 177)
  rw [← hw0.out,← hg.out]
  simpa using h)
 have HS:Hid (Bk w0 (g + 1 + 1 + 1) 177 (rowW zerosW)):=hidq_ (by
  have h:=Bk.new (((w.alloc (.cells (rowOf key) 22)).alloc (.cells (rowOf nonce) 107)).alloc (.cells (rowW zerosW) 177)) 177 (rowW zerosW)
  rw [← hw0.out,← hg.out]
  simpa using h)
 have HR:Hid (Below g w w0):=hidq_ (by rw [← hw0.out,← hg.out];exact ((((Below.refl _ _).alloc (Nat.le_refl _) _).alloc (by simp) _).alloc (by simp;omega) _).alloc (by simp;omega) _)
 have HKL:=hidq_ hk
 have HNL:=hidq_ hn
 have HC:=hidq_ hc
 have HZW:Hid ((rowW zerosW).size=(rowW sigmaL).size):=hidq_ rfl
 have HI:=hidq_ (iw16 sigmaL rfl)
 clear hk hn hc
 go_enter Tryz.func121,Tryz.ntmps121
 go_upto_region 2 with (first
  | (refine wpList_built rfl 177 _ rfl (rowW sigmaL) (by kernel_rfl) ?_)
  | (rw [hg.out,hw0.out];refine wpList_put_row rfl 177 _ _ rfl (g + 1 + 1 + 1) (rowW sigmaL) rfl rfl 177 (rowW zerosW) HS.out HI.out HZW.out (rowW_one _) ?_;intro w1 k1 g1 s1))
 rw [put_none]
 have A1:=hidq_ k1
 have AK:=hidq_ (HK.out.grown g1 (by intro e;injection e with e;omega))
 have AN:=hidq_ (HN.out.grown g1 (by intro e;injection e with e;omega))
 have AZ:=hidq_ (HZ.out.grown g1 (by intro e;injection e with e;omega))
 have AR:=hidq_ (HR.out.grown g1 (by have:=HS.out.lt;omega) (fun i hi=>by injection hi with hi;omega))
 clear k1 g1 s1 HK HN HZ HS HR hzw HZW HI
 refine region_quiet_tail_lit 2 (by kernel_rfl) (by kernel_rfl) ?_
 simp only [List.take_succ_cons,List.take_zero]
 have q1:=sl_state (g + 1 + 1 + 1)
 have q2:=sl_key g
 repeat (go_big_quiet_step (fail))
 refine wpQuiet_nil ?_
 intro w' hw'
 obtain ⟨nq,rfl⟩:=hw'
 simp only [List.drop_succ_cons,List.drop_zero]
 have cf:=fill_any (g + 1 + 1 + 1) g 4 8 12 22 sigmaL key (w1.drewN nq) rfl HKL.out (by omega) (by omega) (by omega) (A1.out.drewN nq) (AK.out.drewN nq)
 clear q1 q2
 refine wpList_plain rfl fun K hK=>?_
 go_simp
 go_at_call 138
 refine cf.mono ?_
 rintro e w2 ⟨rfl,k1,g1⟩
 refine hK _ _ ?_
 clear hK K cf
 have B1:=hidq_ k1
 have BN:=hidq_ ((AN.out.drewN nq).grown g1 (by intro e;injection e with e;omega))
 have BZ:=hidq_ ((AZ.out.drewN nq).grown g1 (by intro e;injection e with e;omega))
 have BR:=hidq_ ((below_drewN AR.out nq).grown g1 (by have:=A1.out.lt;have h:(w1.drewN nq).heap.size=w1.heap.size:=rfl;omega) (fun i hi=>by injection hi with hi;omega))
 clear k1 g1 A1 AK AN AZ AR
 obtain ⟨l1,HE1⟩:∃ l1,Hid (fillL sigmaL 4 key 8=l1):=⟨_,rfl⟩
 have L1:Hid (l1.length=16):=hidq_ (by rw [← HE1.out,fillL_len];rfl)
 have O1:Hid (okL l1):=hidq_ (by rw [← HE1.out];exact fillL_ok sigmaL_ok 4 key 8)
 rw [HE1.out] at B1
 have hc:=B1.out.cell 12
 rw [rowW_at _ _ (by rw [L1.out];omega)] at hc
 have hf:=B1.out.frozen 12
 have hset:=B1.out.set_ 12 (.int .u32 counter)
 rw [rowW_set] at hset
 have C1:=hidq_ hset
 have CN:=hidq_ (BN.out.far (p:=⟨g + 1 + 1 + 1,12,none⟩) (by simp) (.int .u32 counter))
 have CZ:=hidq_ (BZ.out.far (p:=⟨g + 1 + 1 + 1,12,none⟩) (by simp) (.int .u32 counter))
 have CR:=hidq_ (BR.out.setCell (p:=⟨g + 1 + 1 + 1,12,none⟩) (by simp;omega) (.int .u32 counter))
 clear hset BN BZ BR B1
 rename_i K hK
 refine hK _ _ ?_
 go_upto_region 4 with fail
 clear hc hf
 obtain ⟨w3,hw3⟩:∃ W,Hid (w2.setCell ⟨g + 1 + 1 + 1,12,none⟩ (.int .u32 counter)=W):=⟨_,rfl⟩
 rw [hw3.out] at C1 CN CZ CR ⊢
 refine region_quiet_tail_lit 2 (by kernel_rfl) (by kernel_rfl) ?_
 simp only [List.take_succ_cons,List.take_zero]
 have q1:=sl_state2 (g + 1 + 1 + 1)
 have q2:=sl_nonce (g + 1)
 repeat (go_big_quiet_step (fail))
 refine wpQuiet_nil ?_
 intro w' hw'
 obtain ⟨nq2,rfl⟩:=hw'
 simp only [List.drop_succ_cons,List.drop_zero]
 have cf:=fill_any (g + 1 + 1 + 1) (g + 1) 13 3 3 107 (l1.set 12 counter) nonce (w3.drewN nq2) (by rw [List.length_set,L1.out]) HNL.out (by omega) (by omega) (by omega) (C1.out.drewN nq2) (CN.out.drewN nq2)
 clear q1 q2
 refine wpList_plain rfl fun K hK=>?_
 go_simp
 go_at_call 138
 refine cf.mono ?_
 rintro e w4 ⟨rfl,k1,g1⟩
 refine hK _ _ ?_
 clear hK K cf
 have hst:fillL (l1.set 12 counter) 13 nonce 3=stateL key counter nonce:=by rw [stateL,HE1.out]
 rw [hst] at k1
 clear hst
 have LS:=stateL_len key counter nonce
 obtain ⟨ls,HLS⟩:∃ l1,Hid (stateL key counter nonce=l1):=⟨_,rfl⟩
 rw [HLS.out] at k1 LS
 have D1:=k1
 have DZ:=(CZ.out.drewN nq2).grown g1 (by intro e;injection e with e;omega)
 have DR:=hidq_ ((below_drewN CR.out nq2).grown g1 (by have:=C1.out.lt;have h:(w3.drewN nq2).heap.size=w3.heap.size:=rfl;omega) (fun i hi=>by injection hi with hi;omega))
 have E8:=hidq_ (iw16 ls LS)
 have S8:Hid ((rowW zerosW).size=(rowW ls).size):=hidq_ (by rw [rowW_size,rowW_size,LS];rfl)
 clear g1 LS C1 CN CZ CR
 go_wp2_with (first
  | (refine wpList_load_row rfl 177 _ rfl (g + 1 + 1 + 1) rfl 177 (rowW ls) (0,0) _ D1 Tryz.underlying177 rfl E8.out ?_)
  | (refine wpList_put_row rfl 177 _ _ rfl (g + 1 + 1) (rowW ls) rfl rfl 177 (rowW zerosW) DZ E8.out S8.out (rowW_one _) ?_;intro W9 k9 g9 s9))
 refine bodyPost_ret (results_cell_row Tryz.results121 _ _ (g + 1 + 1) 177 _ (0,0) _ rfl k9 Tryz.underlying177 rfl E8.out) rfl ⟨by rw [HLS.out],by rw [hg.out];exact DR.out.grown g9 (by have:=DZ.lt;omega) (fun k hk=>by injection hk with hk;omega)⟩
set_option linter.unusedSimpArgs false
theorem agg32w (W:World):(isAgg 144).run Tryz.prog W = .ok false W:=by
 unfold isAgg
 rw [Sem.run_bind,run_underlying Tryz.underlying144 W]
 rfl
theorem index_word (v:List Int) (k:Nat) (hv:v.length=16) (hk:k < 16) (W:World) :
  (Instr.index 177 (.agg (rowW v)) (.int .i64 (k:Int))).run Tryz.prog W = .ok (.int .u32 (v.getD k 0)) W:=by
 have hc:=rowW_at v k (by omega)
 have h1:(0:Int)≤(k:Int)∧(k:Int) < ((16:Nat):Int):=by omega
 unfold Instr.index
 simp only [asIntOf,Sem.run_bind,Sem.run_pure,Result.andThen_ok,run_underlying Tryz.underlying177 W]
 simp only [if_pos h1,Sem.run_bind,size32w,Result.andThen_ok,part,agg32w,Int.toNat_natCast,Nat.mul_one]
 simp [hc]
theorem zb64 (W:World):(zeroValue 164).run Tryz.prog W = .ok (.agg (rowOf (zbytes 64))) W:=by kernel_rfl
theorem ib64_:(Tryz.prog.info? 164).map (·.size)=some 64:=by kernel_rfl
theorem ib32_:(Tryz.prog.info? 22).map (·.size)=some 32:=by kernel_rfl
theorem ib12_:(Tryz.prog.info? 107).map (·.size)=some 12:=by kernel_rfl
theorem ib64 (l:List UInt8) (h:l.length=64):(Tryz.prog.info? 164).map (·.size)=some (rowOf l).size:=by rw [rowOf_size,h];exact ib64_
theorem ib32 (l:List UInt8) (h:l.length=32):(Tryz.prog.info? 22).map (·.size)=some (rowOf l).size:=by rw [rowOf_size,h];exact ib32_
theorem ib12 (l:List UInt8) (h:l.length=12):(Tryz.prog.info? 107).map (·.size)=some (rowOf l).size:=by rw [rowOf_size,h];exact ib12_
theorem sl_out (g k:Nat) (hk:k≤16) (W:World) :
  (Instr.sliceAt 164 (.pointer (some ⟨g,0,none⟩)) (some (.int .i64 (4 * (k:Int)))) none none).run Tryz.prog W = .ok (.slice (if 64=4 * k then some ⟨g,0,none⟩ else some ⟨g,4 * k,none⟩) (64 - 4 * k) (64 - 4 * k)) W:=by
 have he:Tryz.prog.elem 164=5:=by kernel_rfl
 have hn:Tryz.prog.arrayLen 164=64:=by kernel_rfl
 have ht:Tryz.prog.underlying 164=some (.array (Tryz.prog.arrayLen 164) (Tryz.prog.elem 164)):=by rw [he,hn];exact Tryz.underlying164
 rw [run_sliceAt_array_l W 164 ⟨g,0,none⟩ ht .i64 _ (by omega) (by rw [hn];omega),he,size8w,hn]
 have e1:(4 * (k:Int)).toNat=4 * k:=by omega
 simp only [Result.andThen,slicedAt,e1]
 congr 2
 by_cases h:64=4 * k
 ·rw [if_pos h,if_pos h]
 ·rw [if_neg h,if_neg h]
  congr 1
  unfold Addr.add
  split
  ·simp at *
  ·simp
theorem sl_all64 (g:Nat) (W:World) :
  (Instr.sliceAt 164 (.pointer (some ⟨g,0,none⟩)) none none none).run Tryz.prog W = .ok (.slice (some ⟨g,0,none⟩) 64 64) W:=by
 have he:Tryz.prog.elem 164=5:=by kernel_rfl
 have hn:Tryz.prog.arrayLen 164=64:=by kernel_rfl
 have ht:Tryz.prog.underlying 164=some (.array (Tryz.prog.arrayLen 164) (Tryz.prog.elem 164)):=by rw [he,hn];exact Tryz.underlying164
 rw [run_sliceAt_array_all W 164 ⟨g,0,none⟩ ht,he,size8w,hn]
 rfl
def outRow (s v:List Int) (k:Nat):List UInt8:=outBq s v k ++ zbytes (64 - 4 * k)
theorem outRow_len (s v:List Int) (k:Nat) (hk:k≤16):(outRow s v k).length=64:=by
 rw [outRow,List.length_append,outB_lenq,zbytes_len];omega
theorem outRow_next (s v:List Int) (k:Nat) (hk:k < 16):laid (outRow s v k) (4 * k) (lowB 4 ((v.getD k 0 + s.getD k 0) % 4294967296).toNat)=outRow s v (k + 1):=by
 have h:=laid_app (outBq s v k) (zbytes (64 - 4 * k)) (lowB 4 ((v.getD k 0 + s.getD k 0) % 4294967296).toNat)
 rw [outB_lenq] at h
 rw [outRow,h,outRow,outB_succ,lowB_len]
 congr 1
 simp [zbytes]
 omega
set_option maxHeartbeats 4000000 in
theorem block_anyq (key nonce:List UInt8) (counter:Int) (w:World) (hk:key.length=32) (hn:nonce.length=12) (hc:ok32q counter) :
  Calls Tryz.prog 103 #[.agg (rowOf key),.int .u32 counter,.agg (rowOf nonce)] w fun e w'=>e = .returned (.agg (rowOf (blockB key counter nonce)))∧Below w.heap.size w w':=by
 have hzw:=zw16
 have hzb:=zb64
 obtain ⟨g,hg⟩:∃ g,Hid (w.heap.size=g):=⟨_,rfl⟩
 obtain ⟨w0,hw0⟩:∃ W,Hid (((w.alloc (.cells (rowOf key) 22)).alloc (.cells (rowOf nonce) 107)).alloc (.cells (rowOf (zbytes 64)) 164)=W):=⟨_,rfl⟩
 have HK:Hid (Bk w0 g 22 (rowOf key)):=hidq_ (by rw [← hw0.out,← hg.out];exact ((Bk.new w _ _).alloc _).alloc _)
 have HN:Hid (Bk w0 (g + 1) 107 (rowOf nonce)):=hidq_ (by
  have h:=(Bk.new (w.alloc (.cells (rowOf key) 22)) 107 (rowOf nonce)).alloc (.cells (rowOf (zbytes 64)) 164)
  rw [← hw0.out,← hg.out]
  simpa using h)
 have HZ:Hid (Bk w0 (g + 1 + 1) 164 (rowOf (zbytes 64))):=hidq_ (by
  have h:=Bk.new ((w.alloc (.cells (rowOf key) 22)).alloc (.cells (rowOf nonce) 107)) 164 (rowOf (zbytes 64))
  rw [← hw0.out,← hg.out]
  simpa using h)
 have HR:Hid (Below g w w0):=hidq_ (by rw [← hw0.out,← hg.out];exact (((Below.refl _ _).alloc (Nat.le_refl _) _).alloc (by simp) _).alloc (by simp;omega) _)
 have I32:=hidq_ (ib32 key hk)
 have I12:=hidq_ (ib12 nonce hn)
 have LS:=stateL_len key counter nonce
 have OS:=hidq_ (stateL_ok key nonce hc)
 have cs:=state_any key nonce counter w0 hk hn hc
 have HB:Hid (blockB key counter nonce=outBq (stateL key counter nonce) (roundsL (stateL key counter nonce) 10) 16):=hidq_ rfl
 rw [HB.out]
 clear HB hk hn hc
 obtain ⟨ls,hls⟩:∃ x,Hid (stateL key counter nonce=x):=⟨_,rfl⟩
 rw [hls.out] at cs LS OS ⊢
 have LV:=roundsL_len ls 10
 rw [LS] at LV
 have EW:=hidq_ (iw16 ls LS)
 have SW:Hid ((rowW zerosW).size=(rowW ls).size):=hidq_ (by rw [rowW_size,rowW_size,LS];rfl)
 have EV:=hidq_ (iw16 _ LV)
 have SV:Hid ((rowW zerosW).size=(rowW (roundsL ls 10)).size):=hidq_ (by rw [rowW_size,rowW_size,LV];rfl)
 have HLS:=hidq_ LS
 have HLV:=hidq_ LV
 have cv:=fun W=>stirred_any ls W LS OS.out
 obtain ⟨vs,hvs⟩:∃ x,Hid (roundsL ls 10=x):=⟨_,rfl⟩
 rw [hvs.out] at cv HLV EV SV ⊢
 clear LS LV
 go_enter Tryz.func103,Tryz.ntmps103
 go_upto_region 1 with fail
 rw [hg.out,hw0.out]
 go_upto_region 2 with (first
  | (refine wpList_load_row rfl 22 (.tmp 3) rfl g rfl 22 (rowOf key) (0,0) _ HK.out Tryz.underlying22 rfl I32.out ?_)
  | (refine wpList_load_row rfl 107 (.tmp 5) rfl (g + 1) rfl 107 (rowOf nonce) (0,0) _ HN.out Tryz.underlying107 rfl I12.out ?_)
  | (go_at_call 121;((with_reducible refine cs.mono ?_);rintro e w1 ⟨rfl,b1⟩;have HB1:=hidq_ b1;clear b1))
  | (refine wpList_put_row rfl 177 (.tmp 7) (.tmp 15) rfl w1.heap.size (rowW ls) rfl rfl 177 (rowW zerosW) (Bk.new w1 _ _) EW.out SW.out (rowW_one _) ?_;intro w2 k2 g2 s2))
 have Z1:=HZ.out.below HB1.out HZ.out.lt
 have hgl:g≤w.heap.size:=by rw [hg.out];exact Nat.le_refl _
 have R1:=HR.out.trans (HB1.out.mono (by have:=HR.out.size;omega))
 have A2:=hidq_ k2
 have Z2:=hidq_ ((Z1.alloc (.cells (rowW zerosW) 177)).grown g2 (by intro e;injection e with e;have:=Z1.lt;omega))
 have R2:=hidq_ ((R1.alloc (by have:=R1.size;omega) (.cells (rowW zerosW) 177)).grown g2 (by have:=R1.size;simp;omega) (fun i hi=>by injection hi with hi;have:=R1.size;omega))
 have b2:g + 1 + 1 < w1.heap.size:=Z1.lt
 obtain ⟨sb,hsb⟩:∃ x,Hid (w1.heap.size=x):=⟨_,rfl⟩
 rw [hsb.out] at A2 b2 ⊢
 clear Z1 R1 k2 g2 s2 HK HN HZ HR HB1 I32 I12 cs
 have cv1:=cv w2
 clear cv
 rename_i K hK
 go_upto_region 3 with (first
  | (refine wpList_load_row rfl 177 (.tmp 7) rfl sb rfl 177 (rowW ls) (0,0) _ A2.out Tryz.underlying177 rfl EW.out ?_)
  | (go_at_call 122;((with_reducible refine cv1.mono ?_);rintro e w3 ⟨rfl,b1⟩;have HB3:=hidq_ b1;clear b1))
  | (refine wpList_put_row rfl 177 (.tmp 8) (.tmp 17) rfl w3.heap.size (rowW vs) rfl rfl 177 (rowW zerosW) (Bk.new w3 _ _) EV.out SV.out (rowW_one _) ?_;intro w4 k4 g4 s4))
 have Z3:=Z2.out.below HB3.out Z2.out.lt
 have A3:=A2.out.below HB3.out A2.out.lt
 have R3:=R2.out.trans (HB3.out.mono (by have:=R2.out.size;omega))
 have l3:=A3.lt
 have B4:=hidq_ k4
 have A4:=hidq_ ((A3.alloc (.cells (rowW zerosW) 177)).grown g4 (by intro e;injection e with e;omega))
 have Z4:=hidq_ ((Z3.alloc (.cells (rowW zerosW) 177)).grown g4 (by intro e;injection e with e;omega))
 have R4:=hidq_ ((R3.alloc (by have:=R3.size;omega) (.cells (rowW zerosW) 177)).grown g4 (by have:=R3.size;simp;omega) (fun i hi=>by injection hi with hi;have:=R3.size;omega))
 have s5:w4.heap.size=w3.heap.size + 1:=by rw [s4];simp
 obtain ⟨vb,hvb⟩:∃ x,Hid (w3.heap.size=x):=⟨_,rfl⟩
 rw [hvb.out] at B4 l3 s5 ⊢
 have S5:=hidq_ s5
 clear Z3 A3 R3 k4 g4 s4 A2 Z2 R2 HB3 cv1 s5
 have B5:=hidq_ (B4.out.alloc (.cells (rowOf (zbytes 64)) 164))
 have A5:=hidq_ (A4.out.alloc (.cells (rowOf (zbytes 64)) 164))
 have Z5:=hidq_ (Z4.out.alloc (.cells (rowOf (zbytes 64)) 164))
 have R5:=hidq_ (R4.out.alloc (by have:=R4.out.size;omega) (.cells (rowOf (zbytes 64)) 164))
 have O5:Hid (Bk (w4.alloc (.cells (rowOf (zbytes 64)) 164)) (vb + 1) 164 (rowOf (zbytes 64))):=hidq_ (by
  have h:=Bk.new w4 164 (rowOf (zbytes 64))
  rwa [S5.out] at h)
 go_upto_region 4 with fail
 rw [S5.out]
 obtain ⟨w5,hw5⟩:∃ W,Hid (w4.alloc (.cells (rowOf (zbytes 64)) 164)=W):=⟨_,rfl⟩
 rw [hw5.out] at A5 B5 Z5 R5 O5 ⊢
 clear A4 B4 Z4 R4 hw5 S5 hzw hzb
 go_wp2_with (refine wpList_load_row rfl 177 (.tmp 8) rfl vb rfl 177 (rowW vs) (0,0) _ B5.out Tryz.underlying177 rfl EV.out ?_)
 go_loopw [19] (fun x wr=>∃ k:Nat,k≤16∧x = .int .i64 k∧Bk wr (vb + 1) 164 (rowOf (outRow ls vs k))∧Bk wr sb 177 (rowW ls)∧Bk wr (g + 1 + 1) 164 (rowOf (zbytes 64))∧Below g w wr) (fun x _=>16 - (intOf x).toNat)
 case atStart=>exact ⟨0,by omega,rfl,O5.out,A5.out,Z5.out,R5.out⟩
 case round =>
  obtain ⟨k,hk,rfl,h1,h2,h3,h4⟩:=hrel
  have H1:=hidq_ h1
  have H2:=hidq_ h2
  have H3:=hidq_ h3
  have H4:=hidq_ h4
  clear h1 h2 h3 h4 O5 A5 Z5 R5 B5
  by_cases hlt:k < 16
  ·have hd:decide ((k:Int) < 16)=true:=decide_eq_true (by omega)
   have hix:=fun W=>index_word vs k HLV.out hlt W
   have hsl:=fun W=>sl_out (vb + 1) k hk W
   have hne:¬ 64=4 * k:=by omega
   simp only [if_neg hne] at hsl
   have hcl:=H2.out.cell k
   rw [rowW_at _ _ (by rw [HLS.out];exact hlt)] at hcl
   have t0:(0:Int)≤(k:Int):=by omega
   have t1:(k:Int) < 16:=by omega
   obtain ⟨x,hx⟩:∃ x:Nat,Hid (((vs.getD k 0 + ls.getD k 0) % 4294967296).toNat=x):=⟨_,rfl⟩
   have hx4:(vs.getD k 0 + ls.getD k 0) % 4294967296=((x:Nat):Int):=by rw [← hx.out];omega
   have hxl:x≤4294967295:=by omega
   have HN:Hid (laid (outRow ls vs k) (4 * k) (lowB 4 x)=outRow ls vs (k + 1)):=hidq_ (by rw [← hx.out];exact outRow_next ls vs k hlt)
   have HL64:=hidq_ (outRow_len ls vs k hk)
   obtain ⟨xa,hxa⟩:∃ x,Hid (vs.getD k 0=x):=⟨_,rfl⟩
   obtain ⟨xb,hxb⟩:∃ x,Hid (ls.getD k 0=x):=⟨_,rfl⟩
   rw [hxa.out] at hix
   rw [hxb.out] at hcl
   rw [hxa.out,hxb.out] at hx4
   have c1:=fun W=>putLow_any x 4 4 (by omega) (by omega) (by omega) (by omega) W
   have hw4:IntKind.i64.wrap (4 * (k:Int))=4 * (k:Int):=IntWalk.i64_in _ (by omega)
   clear hne
   go_wp2
   refine wp_region_any (by kernel_rfl) ?_
   change wpAny _ _ _ _ _ _ _ (World.drew _)
   refine wpAny_take (i:=0) (v:=.int .i64 (k:Int)) rfl (by kernel_rfl) (by kernel_rfl) (by kernel_rfl) (fun _ _ _ h=>h) (Or.inl ⟨by rfl,by intro W;go_simp⟩) ?_
   simp only [Act.put,List.getElem_toArray,List.getElem_cons_succ,List.getElem_cons_zero,List.setIfInBounds_toArray,List.set_cons_succ,List.set_cons_zero]
   refine wpAny_take (i:=1) (v:=.int .i64 (4 * (k:Int))) rfl (by kernel_rfl) (by kernel_rfl) (by kernel_rfl) (fun _ _ _ h=>h) (Or.inl ⟨by rfl,by intro W;go_simp⟩) ?_
   simp only [Act.put,List.getElem_toArray,List.getElem_cons_succ,List.getElem_cons_zero,List.setIfInBounds_toArray,List.set_cons_succ,List.set_cons_zero]
   refine wpAny_take (i:=2) (v:=.slice (some ⟨vb + 1,4 * k,none⟩) (64 - 4 * k) (64 - 4 * k)) rfl (by kernel_rfl) (by kernel_rfl) (by kernel_rfl) (fun _ _ _ h=>h) (Or.inl ⟨by rfl,by intro W;go_simp⟩) ?_
   simp only [Act.put,List.getElem_toArray,List.getElem_cons_succ,List.getElem_cons_zero,List.setIfInBounds_toArray,List.set_cons_succ,List.set_cons_zero]
   refine wpAny_take (i:=3) (v:=.int .u32 xa) rfl (by kernel_rfl) (by kernel_rfl) (by kernel_rfl) (fun _ _ _ h=>h) (Or.inl ⟨by rfl,by intro W;go_simp⟩) ?_
   simp only [Act.put,List.getElem_toArray,List.getElem_cons_succ,List.getElem_cons_zero,List.setIfInBounds_toArray,List.set_cons_succ,List.set_cons_zero]
   refine wpAny_take (i:=4) (v:=.int .i64 (k:Int)) rfl (by kernel_rfl) (by kernel_rfl) (by kernel_rfl) (fun _ _ _ h=>h) (Or.inl ⟨by rfl,by intro W;go_simp⟩) ?_
   simp only [Act.put,List.getElem_toArray,List.getElem_cons_succ,List.getElem_cons_zero,List.setIfInBounds_toArray,List.set_cons_succ,List.set_cons_zero]
   refine wpAny_rest 5 6 (by kernel_rfl) (by kernel_rfl) ?_
   simp only [List.drop_zero,List.drop_succ_cons]
   have l1:=H1.out.lt
   have D1:=hidq_ (H1.out.drew.alloc (.cells (rowOf (lowB 4 x)) 5))
   have N1:=hidq_ (Blk8.rdn (g:=vb + 1) (Blk8.new wr.drew (lowB 4 x)) (by have h:wr.drew.heap.size=wr.heap.size:=rfl;omega))
   clear hsl hix
   go_wp2_with (first
    | (go_at_call 94;((with_reducible refine (c1 _).mono ?_);rintro e w6 ⟨rfl,rfl⟩))
    | (refine wpList_copy8 rfl (.tmp 25) (.tmp 32) rfl (vb + 1) (4 * k) (64 - 4 * k) (64 - 4 * k) rfl _ 4 4 rfl (lowB 4 x) 4 (lowB_len _ _) (by omega) (by show 4=min 4 (64 - 4 * k);omega) (vb + 1) N1.out 164 (rowOf (outRow ls vs k)) D1.out (by rw [rowOf_size,HL64.out];omega) ?_;intro w7 k7 g7 s7))
   rw [row_laid,HN.out] at k7
   have Q1:=hidq_ k7
   have Q2:=hidq_ ((H2.out.drew.alloc (.cells (rowOf (lowB 4 x)) 5)).grown g7 (by intro e;injection e with e;omega))
   have Q3:=hidq_ ((H3.out.drew.alloc (.cells (rowOf (lowB 4 x)) 5)).grown g7 (by intro e;injection e with e;omega))
   have Q4:=hidq_ ((H4.out.drew.alloc (by have h:wr.drew.heap.size=wr.heap.size:=rfl;omega) (.cells (rowOf (lowB 4 x)) 5)).grown g7 (by have h:wr.drew.heap.size=wr.heap.size:=rfl;simp;omega) (fun i hi=>by injection hi with hi;omega))
   clear k7 g7 s7 D1 N1 c1
   go_wp2
   go_roundw
   case rel=>exact ⟨k + 1,by omega,by go_num,Q1.out,Q2.out,Q3.out,Q4.out⟩
   case measure=>simp [intOf];omega
  ·obtain rfl:k=16:=by omega
   have hend:outRow ls vs 16=outBq ls vs 16:=by unfold outRow;simp [zbytes]
   have hob:(outBq ls vs 16).length=64:=outB_lenq _ _ 16
   have H1':=H1.out
   rw [hend] at H1'
   obtain ⟨ob,hobn⟩:∃ x,Hid (outBq ls vs 16=x):=⟨_,rfl⟩
   rw [hobn.out] at hob H1'
   have E8:=hidq_ (ib64 ob hob)
   have S8:Hid ((rowOf (zbytes 64)).size=(rowOf ob).size):=hidq_ (by rw [rowOf_size,rowOf_size,hob,zbytes_len])
   have zz:=H3.out
   clear hend hob H1
   go_wp2_with (first
    | (refine wpList_load_row rfl 164 _ rfl (vb + 1) rfl 164 (rowOf ob) (0,0) _ H1' Tryz.underlying164 rfl E8.out ?_)
    | (refine wpList_put_row rfl 164 _ _ rfl (g + 1 + 1) (rowOf ob) rfl rfl 164 (rowOf (zbytes 64)) zz E8.out S8.out (bytes_one _) ?_;intro W9 k9 g9 s9))
   refine bodyPost_ret (results_cell_row Tryz.results103 _ _ (g + 1 + 1) 164 _ (0,0) _ rfl k9 Tryz.underlying164 rfl E8.out) rfl ⟨by rw [hobn.out],by rw [hg.out];exact H4.out.grown g9 (by have:=H4.out.size;omega) (fun k hk=>by injection hk with hk;omega)⟩
def ctrN (c:Int) (k:Nat):Int:=(c + k) % 4294967296
theorem ctrN_ok (c:Int) (k:Nat):ok32q (ctrN c k):=ok32_modq _
theorem ctrN_next (c:Int) (k:Nat):(ctrN c k + 1) % 4294967296=ctrN c (k + 1):=by unfold ctrN;omega
theorem ctrN_zero {c:Int} (h:ok32q c):ctrN c 0=c:=by
 obtain ⟨h0,h1⟩:=h
 unfold ctrN
 omega
def soFar (key nonce:List UInt8) (c:Int) (b:List UInt8):Nat→List UInt8
 | 0=>[]
 | k + 1=>soFar key nonce c b k ++ mixB (b.drop (64 * k)) (blockB key (ctrN c k) nonce)
theorem soFar_len (key nonce:List UInt8) (c:Int) (b:List UInt8) (k:Nat):(soFar key nonce c b k).length=min (64 * k) b.length:=by
 induction k with
 | zero=>simp [soFar]
 | succ k ih =>
  rw [soFar,List.length_append,ih,mixB_len,List.length_drop,blockB_len]
  omega
def streamB (key nonce:List UInt8) (c:Int) (b:List UInt8):List UInt8:=soFar key nonce c b ((b.length + 63) / 64)
theorem streamB_len (key nonce:List UInt8) (c:Int) (b:List UInt8):(streamB key nonce c b).length=b.length:=by
 rw [streamB,soFar_len];omega
theorem mk8c (n:Nat) (hn:n≤281474976710656) (w:World) :
  (Instr.makeSlice 23 (.int .i64 0) (.int .i64 (n:Int))).run Tryz.prog w = .ok (.slice (some ⟨w.heap.size,0,none⟩) 0 n) (w.alloc (.cells (rowOf (List.replicate n 0)) 5)):=by
 obtain ⟨i,hi,hz,hsize,hby⟩:=info_parts info8
 have h:=run_make w 23 5 i (.int .u8 0) Tryz.underlying23 hi hz .i64 .i64 0 (n:Int) (by omega) (by omega) (by rw [hby];omega) (by omega)
 rw [hsize,Int.toNat_natCast,Nat.mul_one] at h
 rw [h,← rowOf_made]
 rfl
theorem own_made (w:World) (base n:Nat) (hb:base≤w.heap.size) (hm:n≤maxLen):Own8 (w.alloc (.cells (rowOf (List.replicate n 0)) 5)) base (.slice (some ⟨w.heap.size,0,none⟩) 0 n) []:=by
 refine ⟨rfl,.inr ⟨w.heap.size,n,_,rfl,hb,heap_alloc_new w _,Nat.zero_le _,hm,?_,rfl⟩⟩
 simp [rowOf]
theorem Bk.far_own {w w':World} {g base:Nat} {t:TypeId} {cs:Array Value} {v:Value} (h:Bk w g t cs) (hg:w.grownBy w' v.ownBlock) (hne:∀ i,v.ownBlock=some i→base≤i) (hlt:g < base):Bk w' g t cs :=
 h.grown hg (by
  cases hv:v.ownBlock with
  | none=>exact fun e=>by cases e
  | some i=>exact fun e=>by injection e with e;have:=hne i hv;omega)
set_option maxHeartbeats 4000000 in
theorem stream_any (key nonce:List UInt8) (counter:Int) (A:Option Addr) (n cap:Nat) (b:List UInt8) (w:World) (hk:key.length=32) (hn:nonce.length=12) (hc:ok32q counter) (hbl:b.length=n) (hr:Rd w w.heap.size A b) (hcap:n≤cap) (hcm:cap≤9223372036854775807) (hm:n≤70368744177664) :
  Calls Tryz.prog 84 #[.agg (rowOf key),.int .u32 counter,.agg (rowOf nonce),.slice A n cap] w (NewP w n (streamB key nonce counter b)):=by
 have hzb:=zb64
 obtain ⟨g,hg⟩:∃ g,Hid (w.heap.size=g):=⟨_,rfl⟩
 have hgl:g≤w.heap.size:=by rw [hg.out];exact Nat.le_refl _
 obtain ⟨w0,hw0⟩:∃ W,Hid ((w.alloc (.cells (rowOf key) 22)).alloc (.cells (rowOf nonce) 107)=W):=⟨_,rfl⟩
 have HK:Hid (Bk w0 g 22 (rowOf key)):=hidq_ (by rw [← hw0.out,← hg.out];exact (Bk.new w _ _).alloc _)
 have HN:Hid (Bk w0 (g + 1) 107 (rowOf nonce)):=hidq_ (by
  have h:=Bk.new (w.alloc (.cells (rowOf key) 22)) 107 (rowOf nonce)
  rw [← hw0.out,← hg.out]
  simpa using h)
 have HR:Hid (Below g w w0):=hidq_ (by rw [← hw0.out,← hg.out];exact ((Below.refl _ _).alloc (Nat.le_refl _) _).alloc (by simp) _)
 have HS0:Hid (w0.heap.size=g + 1 + 1):=hidq_ (by rw [← hw0.out,← hg.out];simp)
 have I32:=hidq_ (ib32 key hk)
 have I12:=hidq_ (ib12 nonce hn)
 have cb:=fun k W=>block_anyq key nonce (ctrN counter k) W hk hn (ctrN_ok counter k)
 have HBL:=hidq_ hbl
 have HRD:Hid (Rd w g A b):=hidq_ (by rw [← hg.out];exact hr)
 have HC0:=hidq_ (ctrN_zero hc)
 have hmk:=mk8c n (by omega) w0
 have O0:=hidq_ (own_made w0 (g + 1 + 1) n (by rw [HS0.out];exact Nat.le_refl _) (by unfold maxLen;omega))
 have A0:=hidq_ (HK.out.alloc (.cells (rowOf (List.replicate n 0)) 5))
 have B0:=hidq_ (HN.out.alloc (.cells (rowOf (List.replicate n 0)) 5))
 have R0:=hidq_ (HR.out.alloc (by have:=HR.out.size;omega) (.cells (rowOf (List.replicate n 0)) 5))
 clear hk hn hc hbl hr HK HN HR
 go_enter Tryz.func84,Tryz.ntmps84
 go_upto_region 1 with fail
 rw [hg.out,hw0.out]
 go_wp2
 obtain ⟨w1,hw1⟩:∃ W,Hid (w0.alloc (.cells (rowOf (List.replicate n 0)) 5)=W):=⟨_,rfl⟩
 rw [hw1.out] at O0 A0 B0 R0 ⊢
 clear hmk
 go_loopw [1,9] (fun cx v wr=>∃ k:Nat,(k=0∨64 * (k - 1) < n)∧cx = .int .u32 (ctrN counter k)∧Own8 wr (g + 1 + 1) v (soFar key nonce counter b k)∧Bk wr g 22 (rowOf key)∧Bk wr (g + 1) 107 (rowOf nonce)∧Below g w wr) (fun _ v _=>n - lenOf v)
 case atStart=>exact ⟨0,.inl rfl,by rw [HC0.out],O0.out,A0.out,B0.out,R0.out⟩
 case round =>
  obtain ⟨k,hk,rfl,h1,h2,h3,h4⟩:=hrel
  obtain ⟨Av,cv,rfl,_⟩:=h1.form
  have hlt0:=h1.lt
  have HV:=hidq_ h1
  have HK:=hidq_ h2
  have HN:=hidq_ h3
  have HR:=hidq_ h4
  have HLT:=hidq_ hlt0
  have hln:=soFar_len key nonce counter b k
  rw [HBL.out] at hln
  have HLN:=hidq_ hln
  clear h1 h2 h3 h4 hlt0 O0 A0 B0 R0
  by_cases hlt:64 * k < n
  ·have hq:Hid ((soFar key nonce counter b k).length=64 * k):=hidq_ (by omega)
   rw [hq.out] at HV HLT ⊢
   have hd:decide (((64 * k:Nat):Int) < (n:Int))=true:=decide_eq_true (by omega)
   have cb1:=cb k wr
   have LB:=hidq_ (blockB_len key (ctrN counter k) nonce)
   have HSN:Hid (soFar key nonce counter b (k + 1)=soFar key nonce counter b k ++ mixB (b.drop (64 * k)) (blockB key (ctrN counter k) nonce)):=hidq_ rfl
   have CN:=hidq_ (ctrN_next counter k)
   have CO:=ctrN_ok counter k
   obtain ⟨bk,hbk⟩:∃ x,Hid (blockB key (ctrN counter k) nonce=x):=⟨_,rfl⟩
   rw [hbk.out] at cb1 LB HSN
   obtain ⟨cx,hcx⟩:∃ x,Hid (ctrN counter k=x):=⟨_,rfl⟩
   rw [hcx.out] at cb1 CN CO ⊢
   obtain ⟨CO0,CO1⟩:=CO
   have EB:=hidq_ (ib64 bk LB.out)
   have SB:Hid ((rowOf (zbytes 64)).size=(rowOf bk).size):=hidq_ (by rw [rowOf_size,rowOf_size,LB.out,zbytes_len])
   have sl1:∀ W:World,(Instr.slice 23 (.slice A n cap) (some (.int .i64 (64 * (k:Int)))) none none).run Tryz.prog W = .ok (.slice (if cap=64 * k then A else A.map (·.add (64 * k))) (n - 64 * k) (cap - 64 * k)) W:=fun W=>by
    have h:=slice_from A n cap (64 * k) (by omega) W
    rwa [show ((64 * k:Nat):Int)=64 * (k:Int) by omega] at h
   have rd1:=rd_from HRD.out cap (64 * k) (by rw [HBL.out];omega) (by rw [HBL.out];exact hcap)
   obtain ⟨A2,hA2⟩:∃ x,Hid ((if cap=64 * k then A else A.map (·.add (64 * k)))=x):=⟨_,rfl⟩
   rw [hA2.out] at sl1 rd1
   have RD1:=hidq_ rd1
   clear rd1
   clear hln
   go_upto_region 4 with (first
    | (refine wpList_load_row rfl 22 (.tmp 4) rfl g rfl 22 (rowOf key) (0,0) _ HK.out Tryz.underlying22 rfl I32.out ?_)
    | (refine wpList_load_row rfl 107 (.tmp 6) rfl (g + 1) rfl 107 (rowOf nonce) (0,0) _ HN.out Tryz.underlying107 rfl I12.out ?_)
    | (go_at_call 103;((with_reducible refine cb1.mono ?_);rintro e w2 ⟨rfl,g1⟩;have HB1:=hidq_ g1;clear g1))
    | (refine wpList_put_row rfl 164 (.tmp 10) (.tmp 22) rfl w2.heap.size (rowOf bk) rfl rfl 164 (rowOf (zbytes 64)) (Bk.new w2 _ _) EB.out SB.out (bytes_one _) ?_;intro w3 k3 g3 s3))
   rw [put_none]
   have Y1:=HR.out.trans (HB1.out.mono (by have:=HR.out.size;omega))
   have hs1:=HR.out.size
   have hs2:=HB1.out.size
   have lN:=HN.out.lt
   have K3:=hidq_ (((HK.out.below HB1.out HK.out.lt).alloc (.cells (rowOf (zbytes 64)) 164)).grown g3 (by intro e;injection e with e;omega))
   have N3:=hidq_ (((HN.out.below HB1.out HN.out.lt).alloc (.cells (rowOf (zbytes 64)) 164)).grown g3 (by intro e;injection e with e;omega))
   have Y3:=hidq_ ((Y1.alloc (by omega) (.cells (rowOf (zbytes 64)) 164)).grown g3 (by simp;omega) (fun i hi=>by injection hi with hi;omega))
   have V3:=hidq_ ((((HV.out.below HB1.out (Nat.le_refl _)).alloc (.cells (rowOf (zbytes 64)) 164))).kept g3 (by
    cases hq2:(Value.slice Av (64 * k) cv).ownBlock with
    | none=>exact .inl rfl
    | some i=>exact .inr (fun e=>by injection e with e;have:=(HLT.out i hq2).2;omega)))
   have B3:=hidq_ k3
   have S3:w3.heap.size=w2.heap.size + 1:=by rw [s3];simp
   obtain ⟨gb,hgb⟩:∃ x,Hid (w2.heap.size=x):=⟨_,rfl⟩
   rw [hgb.out] at B3 S3 ⊢
   have hs3:g + 1 + 1≤w3.heap.size:=by rw [hgb.out] at hs2;omega
   clear S3
   obtain ⟨gm,hgm⟩:∃ x,Hid (w3.heap.size=x):=⟨_,rfl⟩
   have hs4:w.heap.size≤w3.heap.size:=Y3.out.size
   clear k3 g3 s3 HK HN HR HV HLT HB1 Y1 lN hs1 hs2
   have q5:=fun W=>sl_all64 gb W
   refine wp_region_any (by kernel_rfl) ?_
   change wpAny _ _ _ _ _ _ _ (World.drew _)
   refine wpAny_take (i:=0) (v:=.slice Av (64 * k) cv) rfl (by kernel_rfl) (by kernel_rfl) (by kernel_rfl) (fun _ _ _ h=>h) (Or.inl ⟨by rfl,by intro W;go_simp⟩) ?_
   simp only [Act.put,List.getElem_toArray,List.getElem_cons_succ,List.getElem_cons_zero,List.setIfInBounds_toArray,List.set_cons_succ,List.set_cons_zero]
   refine wpAny_take (i:=1) (v:=.slice A n cap) rfl (by kernel_rfl) (by kernel_rfl) (by kernel_rfl) (fun _ _ _ h=>h) (Or.inl ⟨by rfl,by intro W;go_simp⟩) ?_
   simp only [Act.put,List.getElem_toArray,List.getElem_cons_succ,List.getElem_cons_zero,List.setIfInBounds_toArray,List.set_cons_succ,List.set_cons_zero]
   refine wpAny_take (i:=2) (v:=.slice Av (64 * k) cv) rfl (by kernel_rfl) (by kernel_rfl) (by kernel_rfl) (fun _ _ _ h=>h) (Or.inl ⟨by rfl,by intro W;go_simp⟩) ?_
   simp only [Act.put,List.getElem_toArray,List.getElem_cons_succ,List.getElem_cons_zero,List.setIfInBounds_toArray,List.set_cons_succ,List.set_cons_zero]
   refine wpAny_take (i:=3) (v:=.int .i64 (64 * (k:Int))) rfl (by kernel_rfl) (by kernel_rfl) (by kernel_rfl) (fun _ _ _ h=>h) (Or.inl ⟨by rfl,by intro W;go_simp⟩) ?_
   simp only [Act.put,List.getElem_toArray,List.getElem_cons_succ,List.getElem_cons_zero,List.setIfInBounds_toArray,List.set_cons_succ,List.set_cons_zero]
   refine wpAny_take (i:=4) (v:=.slice A2 (n - 64 * k) (cap - 64 * k)) rfl (by kernel_rfl) (by kernel_rfl) (by kernel_rfl) (fun _ _ _ h=>h) (Or.inl ⟨by rfl,by intro W;go_simp⟩) ?_
   simp only [Act.put,List.getElem_toArray,List.getElem_cons_succ,List.getElem_cons_zero,List.setIfInBounds_toArray,List.set_cons_succ,List.set_cons_zero]
   refine wpAny_take (i:=5) (v:=.slice (some ⟨gb,0,none⟩) 64 64) rfl (by kernel_rfl) (by kernel_rfl) (by kernel_rfl) (fun _ _ _ h=>h) (Or.inl ⟨by rfl,by intro W;go_simp⟩) ?_
   simp only [Act.put,List.getElem_toArray,List.getElem_cons_succ,List.getElem_cons_zero,List.setIfInBounds_toArray,List.set_cons_succ,List.set_cons_zero]
   refine wpAny_rest 6 3 (by kernel_rfl) (by kernel_rfl) ?_
   simp only [List.drop_zero,List.drop_succ_cons]
   clear sl1 q5
   obtain ⟨u,hu⟩:∃ u,Hid (u=min (n - 64 * k) 64):=⟨_,rfl⟩
   have cm0:=mix8_any A2 (some ⟨gb,0,none⟩) (cap - 64 * k) 64 (b.drop (64 * k)) bk u (n - 64 * k) 64 w3.drew (by rw [List.length_drop,HBL.out]) LB.out hu.out (((RD1.out.below Y3.out).drew).more (by show g≤w3.heap.size;omega)) ((B3.out.drew.rd B3.out.drew.lt)) (by have:=hu.out;omega) (by omega) (by omega)
   have cm:Calls Tryz.prog 104 #[.slice A2 (n - 64 * k) (cap - 64 * k),.slice (some ⟨gb,0,none⟩) 64 64] w3.drew fun e w'=>e = .returned (.slice (some ⟨gm,0,none⟩) u u)∧Below w3.heap.size w3.drew w'∧Blk8 w' gm (mixB (b.drop (64 * k)) bk):=by rw [← hgm.out];exact cm0
   clear cm0
   have hmx:Hid ((mixB (b.drop (64 * k)) bk).length=u):=hidq_ (by rw [mixB_len,List.length_drop,HBL.out,LB.out,hu.out])
   have hu64:u≤64:=by have:=hu.out;omega
   have hw3:w3.drew.heap.size=w3.heap.size:=rfl
   go_wp2_with (first
    | (go_at_call 104;((with_reducible refine cm.mono ?_);rintro e w4 ⟨rfl,g4,m4⟩;have G4:=hidq_ g4;have M4:=hidq_ m4;have V4:=hidq_ (V3.out.drew.below G4.out (Nat.le_refl _));clear g4 m4))
    | (at_builtin;refine wpList_app rfl (.tmp 23) (.tmp 29) rfl V4.out rfl u u rfl (M4.out.rd M4.out.lt) hmx.out ?_ ?_ ?_;(rw [hq.out];omega);(have:=G4.out.size;rw [hw3] at this;omega);(intro A5 c5 w5 k1 k2 k3;rw [hq.out] at *)))
   have K5:=((K3.out.drew.below G4.out K3.out.drew.lt).far_own k2 (fun i hi=>(V4.out.lt i hi).1) (by omega))
   have N5:=((N3.out.drew.below G4.out N3.out.drew.lt).far_own k2 (fun i hi=>(V4.out.lt i hi).1) (by omega))
   have Y4:=Y3.out.drew.trans (G4.out.mono (by omega))
   have Y5:=Y4.grown k2 (by have:=Y4.size;omega) (fun i hi=>by have:=(V4.out.lt i hi).1;omega)
   have hu0:=hu.out
   refine ⟨⟨k + 1,.inr (by omega),by rw [CN.out],by rw [HSN.out];exact k1,K5,N5,Y5⟩,?_⟩
   show n - (64 * k + u) < n - 64 * k
   omega
  ·have hq:Hid ((soFar key nonce counter b k).length=n):=hidq_ (by omega)
   have hst:streamB key nonce counter b=soFar key nonce counter b k:=by
    rw [streamB,HBL.out,show (n + 63) / 64=k by omega]
   rw [hq.out] at HV HLT ⊢
   have HV9:=hidq_ HV.out
   have HST:=hidq_ hst
   have hd:decide ((n:Int) < (n:Int))=false:=decide_eq_false (by omega)
   clear hst hln
   go_wp2
   go_ret
   exact ⟨Av,cv,rfl,by rw [HST.out];exact HV9.out.lower (by rw [hg.out];omega),by rw [hg.out];exact HR.out⟩
end Go.Proofs.YtpcbmnmgefhaaaaGreatDoor
