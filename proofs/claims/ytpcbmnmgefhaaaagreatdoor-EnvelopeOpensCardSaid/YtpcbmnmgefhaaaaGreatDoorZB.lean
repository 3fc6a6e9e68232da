import Derived.Test.YtpcbmnmgefhaaaaGreatDoorZZ
import Derived.Test.YtpcbmnmgefhaaaaGreatDoorK7K
import Derived.Test.YtpcbmnmgefhaaaaGreatDoorHM
import Derived.Test.YtpcbmnmgefhaaaaGreatDoorEe
namespace Go.Proofs.YtpcbmnmgefhaaaaGreatDoor
set_option maxRecDepth 100000
open Go.ChangeShapes Go.WideShapes Go.ChangeAt Go.RowKit
set_option linter.unusedVariables false
set_option linter.unusedSimpArgs false
theorem hidzb_ {p:Prop} (h:p):Hid p:=h
def RdR (g:Nat) (K No o8 Sm:List UInt8) (ord n:Nat):Nat→Value→World→Prop
 | 0,u,_=>u = .int .i64 (ord:Int)
 | 1,u,_=>u = .int .u64 (ord:Int)
 | 2,u,_=>u = .string (strOf o8)
 | 3,u,_=>u = .string (strOf K)
 | 4,u,_=>u = .string (strOf No)
 | 5,u,_=>u = .int .i64 ((n:Int) + 8)
 | 6,u,_=>u = .int .i64 (n:Int)
 | 7,u,W=>∃ q,u = .slice (some ⟨q,0,none⟩) n n∧Rd W W.heap.size (some ⟨q,0,none⟩) (zbytes n)
 | 8,u,_=>u = .string (strOf (zbytes n))
 | 9,u,_=>u = .string (strOf Sm)
 | 10,u,_=>u = .string (strOf (o8 ++ Sm))
 | 11,u,_=>u = .string (strOf (o8 ++ Sm))
 | _,_,_=>True
theorem RdR.stable {g:Nat} {K No o8 Sm:List UInt8} {ord n:Nat} {W W':World} (hT:Below W.heap.size W W'):∀ (j:Nat) (u:Value),RdR g K No o8 Sm ord n j u W→RdR g K No o8 Sm ord n j u W'
 | 0,_,h=>h
 | 1,_,h=>h
 | 2,_,h=>h
 | 3,_,h=>h
 | 4,_,h=>h
 | 5,_,h=>h
 | 6,_,h=>h
 | 7,_,⟨q,e,h⟩=>⟨q,e,(h.below hT).more hT.size⟩
 | 8,_,h=>h
 | 9,_,h=>h
 | 10,_,h=>h
 | 11,_,h=>h
 | _ + 12,_,_=>trivial
set_option maxHeartbeats 4000000 in
theorem rdraw_any (w:World) (K:List UInt8) (hK:K.length=32) (kind ord n:Nat) (hk:kind≤1) (ho:ord≤4611686018427387904) (hn:n≤1000000) :
  Calls Tryz.prog 63 #[.string (strOf K),.int .i64 (kind:Int),.int .i64 (ord:Int),.int .i64 ((n:Int) + 8)] w fun e w'=>e = .returned (.string (strOf (drawB K kind ord n)))∧Below w.heap.size w w':=by
 have hw1:IntKind.u64.wrap (kind:Int)=(kind:Int):=IntWalk.u64_in _ (by omega)
 have hw2:IntKind.u64.wrap (ord:Int)=(ord:Int):=IntWalk.u64_in _ (by omega)
 have hw3:IntKind.i64.wrap ((n:Int) + 8 - 8)=(n:Int):=by
  have:(n:Int) + 8 - 8=(n:Int):=by omega
  rw [this];exact IntWalk.i64_in _ (by omega)
 have hw4:(n:Int) + 8 - 8=(n:Int):=by omega
 have c1:∀ W:World,Calls Tryz.prog 77 #[.int .u64 (kind:Int),.int .i64 4,.bool true] W fun e w'=>e = .returned (.string (strOf (highB 4 kind)))∧Below W.heap.size W w':=fun W=>refPut_any kind 4 4 true (by omega) (by omega) (by omega) (by omega) W
 have c2:∀ W:World,Calls Tryz.prog 77 #[.int .u64 (ord:Int),.int .i64 8,.bool true] W fun e w'=>e = .returned (.string (strOf (highB 8 ord)))∧Below W.heap.size W w':=fun W=>refPut_any ord 8 8 true (by omega) (by omega) (by omega) (by omega) W
 have hst:=fun W=>refStream_any K (nonceB kind ord) 0 n (zbytes n) W hK (nonceB_len _ _) ok32_zeroq (zbytes_len n) hn
 have a1:strOf (highB 4 kind) ++ strOf (highB 8 ord)=strOf (nonceB kind ord):=strOf_append _ _
 have b1:(strOf (highB 4 kind)).size + (strOf (highB 8 ord)).size≤9223372036854775807:=by rw [strOf_size,strOf_size,highB_len,highB_len];omega
 have HD:=hidzb_ (show highB 8 ord ++ streamB K (nonceB kind ord) 0 (zbytes n)=drawB K kind ord n from rfl)
 have O8L:=hidzb_ (highB_len 8 ord)
 have SL:=hidzb_ (show (streamB K (nonceB kind ord) 0 (zbytes n)).length=n by rw [streamB_len,zbytes_len])
 have HN:=hidzb_ hn
 have W3:=hidzb_ hw3
 have W4:=hidzb_ hw4
 have W2:=hidzb_ hw2
 generalize streamB K (nonceB kind ord) 0 (zbytes n)=Sm at *
 generalize nonceB kind ord=No at *
 generalize highB 8 ord=o8 at *
 generalize highB 4 kind=o4 at *
 clear hK hk ho hn
 obtain ⟨K0,hK0⟩:∃ D,K=D:=⟨_,rfl⟩
 rw [hK0] at hst HD ⊢
 clear hK0
 go_enter Tryz.func63,Tryz.ntmps63
 go_upto_region 2 with (first
  | (go_at_call 77;((with_reducible refine (c1 _).mono ?_);rintro e w1 ⟨rfl,hb⟩;have B1:=hidzb_ hb;clear hb))
  | (go_at_call 77;((with_reducible refine (c2 _).mono ?_);rintro e w2 ⟨rfl,hb⟩;have B2:=hidzb_ (B1.out.trans (hb.mono B1.out.size));clear hb)))
 rename_i K9 hK9
 obtain ⟨g,hg⟩:∃ g,w2.heap.size=g:=⟨_,rfl⟩
 have G:=hidzb_ hg
 have C2:=hidzb_ c2
 have CS:=hidzb_ hst
 clear c1 c2 hst a1 b1 hw1 hw2 hw3 hw4 hg
 refine region_byF [17,18,19,20,21,22,23,24,25,26,27,8] (fun W=>Below g w2 W) (fun W W'=>Below W.heap.size W W') (RdR g K0 No o8 Sm ord n) (by kernel_rfl) (by kernel_rfl) (by kernel_rfl) (by kernel_rfl) (fun j v w w' hT hr=>?_) (fun j v w hlt hj _=>?_) (by rw [← G.out];exact (Below.refl _ _).drew) ?_ ?_
 ·exact RdR.stable hT j v hr
 ·rcases j with _ | _ | _ | _ | _ | _ | _ | _ | _ | _ | _ | _ | j
  all_goals first
   | (exfalso;simp [dstOf] at hj;done)
   | trivial
 ·refine ⟨?_,?_,?_,?_,?_,?_,?_,?_,?_,?_,?_,?_,trivial⟩
  all_goals intro a W hC hd hf hv K hK
  ·have e1:=slot_of (a:=a) (s:=2) (v:=.int .i64 (ord:Int)) (hf 2 (by kernel_rfl))
   refine step_run (wanted_none rfl) (v:=.int .i64 (ord:Int)) (w':=W) ?_ (hK _ _ hC (Below.refl _ _) rfl)
   go_simp
  ·have e1:=slot_of (a:=a) (s:=17) (v:=.int .i64 (ord:Int)) (hv 0 (by kernel_rfl))
   have q:=W2.out
   refine step_run (wanted_none rfl) (v:=.int .u64 (ord:Int)) (w':=W) ?_ (hK _ _ hC (Below.refl _ _) rfl)
   go_simp
  ·have e1:=slot_of (a:=a) (s:=18) (v:=.int .u64 (ord:Int)) (hv 1 (by kernel_rfl))
   have cc:=C2.out W
   refine step_callx 77 #[.int .u64 (ord:Int),.int .i64 8,.bool true] (wanted_none rfl) (w':=W) ?_ (cc.mono fun e W2 hh=>?_)
   ·go_simp
   ·obtain ⟨rfl,hb⟩:=hh
    exact ⟨_,rfl,hK _ _ (hC.trans (hb.mono (G.out ▸ hC.size))) hb rfl⟩
  ·have e1:=slot_of (a:=a) (s:=0) (v:=.string (strOf K0)) (hf 0 (by kernel_rfl))
   refine step_run (wanted_none rfl) (v:=.string (strOf K0)) (w':=W) ?_ (hK _ _ hC (Below.refl _ _) rfl)
   go_simp
  ·have e1:=slot_of (a:=a) (s:=9) (v:=.string (strOf No)) (hf 9 (by kernel_rfl))
   refine step_run (wanted_none rfl) (v:=.string (strOf No)) (w':=W) ?_ (hK _ _ hC (Below.refl _ _) rfl)
   go_simp
  ·have e1:=slot_of (a:=a) (s:=3) (v:=.int .i64 ((n:Int) + 8)) (hf 3 (by kernel_rfl))
   refine step_run (wanted_none rfl) (v:=.int .i64 ((n:Int) + 8)) (w':=W) ?_ (hK _ _ hC (Below.refl _ _) rfl)
   go_simp
  ·have e1:=slot_of (a:=a) (s:=22) (v:=.int .i64 ((n:Int) + 8)) (hv 5 (by kernel_rfl))
   have q:=W3.out
   have q2:=W4.out
   rw [q2] at q
   refine step_run (wanted_none rfl) (v:=.int .i64 (n:Int)) (w':=W) ?_ (hK _ _ hC (Below.refl _ _) rfl)
   go_simp
  ·have e1:=slot_of (a:=a) (s:=23) (v:=.int .i64 (n:Int)) (hv 6 (by kernel_rfl))
   have hm:(Instr.makeSlice 23 (.int .i64 (n:Int)) (.int .i64 (n:Int))).run Tryz.prog W = .ok (.slice (some ⟨W.heap.size,0,none⟩) n n) (W.alloc (.cells (rowOf (zbytes n)) 5)):=mk8 n (by have:=HN.out;omega) W
   have hbl:=(Below.refl W.heap.size W).alloc (Nat.le_refl _) (.cells (rowOf (zbytes n)) 5)
   refine step_run (wanted_none rfl) (v:=.slice (some ⟨W.heap.size,0,none⟩) n n) (w':=W.alloc (.cells (rowOf (zbytes n)) 5)) ?_ (hK _ _ (hC.trans (hbl.mono (G.out ▸ hC.size))) hbl ⟨W.heap.size,rfl,(Blk8.new W (zbytes n)).rd (by simp)⟩)
   go_simp
  ·obtain ⟨q,eq,hq⟩:∃ q,a.tmps.getD 24 undef = .slice (some ⟨q,0,none⟩) n n∧Rd W W.heap.size (some ⟨q,0,none⟩) (zbytes n):=hv 7 (by kernel_rfl)
   have e1:=slot_of (a:=a) (s:=24) eq
   have cv:=conv_strn hq n n (zbytes_len n)
   refine step_run (wanted_none rfl) (v:=.string (strOf (zbytes n))) (w':=W) ?_ (hK _ _ hC (Below.refl _ _) rfl)
   go_simp
  ·have e1:=slot_of (a:=a) (s:=20) (v:=.string (strOf K0)) (hv 3 (by kernel_rfl))
   have e2:=slot_of (a:=a) (s:=21) (v:=.string (strOf No)) (hv 4 (by kernel_rfl))
   have e3:=slot_of (a:=a) (s:=25) (v:=.string (strOf (zbytes n))) (hv 8 (by kernel_rfl))
   have cc:=CS.out W
   refine step_callx 91 #[.string (strOf K0),.int .u32 0,.string (strOf No),.string (strOf (zbytes n))] (wanted_none rfl) (w':=W) ?_ (cc.mono fun e W2 hh=>?_)
   ·go_simp
   ·obtain ⟨rfl,hb⟩:=hh
    exact ⟨_,rfl,hK _ _ (hC.trans (hb.mono (G.out ▸ hC.size))) hb rfl⟩
  ·have e1:=slot_of (a:=a) (s:=19) (v:=.string (strOf o8)) (hv 2 (by kernel_rfl))
   have e2:=slot_of (a:=a) (s:=26) (v:=.string (strOf Sm)) (hv 9 (by kernel_rfl))
   have a3:=strOf_append o8 Sm
   have b3:(strOf o8).size + (strOf Sm).size≤9223372036854775807:=by rw [strOf_size,strOf_size,O8L.out,SL.out];have:=HN.out;omega
   refine step_run (wanted_none rfl) (v:=.string (strOf (o8 ++ Sm))) (w':=W) ?_ (hK _ _ hC (Below.refl _ _) rfl)
   go_simp
  ·have e1:=slot_of (a:=a) (s:=27) (v:=.string (strOf (o8 ++ Sm))) (hv 10 (by kernel_rfl))
   refine step_run (wanted_none rfl) (v:=.string (strOf (o8 ++ Sm))) (w':=W) ?_ (hK _ _ hC (Below.refl _ _) rfl)
   go_simp
 ·intro f w7 hC7 hv7
  have e8:f 8 = .string (strOf (o8 ++ Sm)):=hv7 11 (by decide)
  have HB:=hidzb_ hC7
  simp only [framed,List.foldl_cons,List.foldl_nil,List.setIfInBounds_toArray,List.set_cons_succ,List.set_cons_zero]
  rw [e8]
  clear hv7 hC7
  refine hK9 _ _ ?_
  go_wp2
  go_ret
  exact ⟨by rw [HD.out];rfl,B2.out.trans (HB.out.mono (by rw [← G.out];exact B2.out.size))⟩
set_option maxHeartbeats 1000000 in
theorem rright_any (w:World) (e c n:Int):Calls Tryz.prog 64 #[.int .i64 e,.int .i64 c,.int .i64 n] w fun r w'=>r = .returned (.bool (decide (slOk e c n)))∧w=w':=by
 have c1:=refEpoch_any w e _ rfl
 have c2:=refClient_any w c
 have c3:=refCounter_any w n
 by_cases h1:1≤e∧e≤1048576
 ·by_cases h2:clientB c=true
  ·have hq:decide (slOk e c n)=counterB n:=by
    have h3:=nonceOk_iff c n
    rw [h2,Bool.true_and] at h3
    unfold slOk
    cases h4:counterB n with
    | true=>exact decide_eq_true ⟨h1,h3.1 h4⟩
    | false=>exact decide_eq_false (fun hh=>by rw [h3.2 hh.2] at h4;cases h4)
   rw [hq]
   rw [decide_eq_true h1] at c1
   rw [h2] at c2
   clear hq h1 h2
   go_enter Tryz.func64,Tryz.ntmps64
   go_wp2_with (first
    | (go_at_call 59;((with_reducible refine c1.mono ?_);clear c1;rintro e w' ⟨rfl,rfl⟩))
    | (go_at_call 61;((with_reducible refine c2.mono ?_);clear c2;rintro e w' ⟨rfl,rfl⟩))
    | (go_at_call 60;((with_reducible refine c3.mono ?_);clear c3;rintro e w' ⟨rfl,rfl⟩)))
   go_ret
   exact ⟨rfl,rfl⟩
  ·have h2:clientB c=false:=by simpa using h2
   have hq:decide (slOk e c n)=false:=decide_eq_false (fun hh=>by
    have h3:=(nonceOk_iff c n).2 hh.2
    rw [h2] at h3
    cases h3)
   rw [hq]
   rw [decide_eq_true h1] at c1
   rw [h2] at c2
   clear hq h1 h2
   go_enter Tryz.func64,Tryz.ntmps64
   go_wp2_with (first
    | (go_at_call 59;((with_reducible refine c1.mono ?_);clear c1;rintro e w' ⟨rfl,rfl⟩))
    | (go_at_call 61;((with_reducible refine c2.mono ?_);clear c2;rintro e w' ⟨rfl,rfl⟩)))
   go_ret
   exact ⟨rfl,rfl⟩
 ·have hq:decide (slOk e c n)=false:=decide_eq_false (fun hh=>h1 hh.1)
  rw [hq]
  rw [decide_eq_false h1] at c1
  clear hq h1
  go_enter Tryz.func64,Tryz.ntmps64
  go_wp2_with (go_at_call 59;((with_reducible refine c1.mono ?_);clear c1;rintro e w' ⟨rfl,rfl⟩))
  go_ret
  exact ⟨rfl,rfl⟩
theorem RefV.c0 {w:World} {g:Nat} {id:Bool} {K:List UInt8} {vn vl:Value} {N:List (List UInt8)} {L:List SealV} {G:List Nat} (h:RefV w g id K vn vl N L G):w.cell? ⟨g,0,none⟩=some (.bool id)∧w.cell? ⟨g,1,none⟩=some (.string (strOf K))∧w.cell? ⟨g,2,none⟩=some vn∧w.cell? ⟨g,3,none⟩=some vl:=⟨h.blk.cell 0,h.blk.cell 1,h.blk.cell 2,h.blk.cell 3⟩
def rV (id:Bool) (K:List UInt8) (N:List (List UInt8)) (name:List UInt8):List UInt8:=if nmBad name then [] else bB id K N name
section
variable {w : World} {g : Nat} {K : List UInt8} {N : List (List UInt8)} {L : List SealV} {G : List Nat}
set_option maxHeartbeats 1000000 in
theorem rblind_no (w:World) (g:Nat) (name:List UInt8) (h:nmBad name):Calls Tryz.prog 30 #[.pointer (some ⟨g,0,none⟩),.string (strOf name)] w fun e w'=>e = .returned (.tuple #[.string (strOf []),.int .i64 1])∧w=w':=by
 have hs:(strOf name).size=name.length:=strOf_size name
 have cn:=refName_any w (name.length:Int) false (by rw [decide_eq_false];unfold nmBad at h;omega)
 have e0:(⟨#[]⟩:ByteArray)=strOf []:=rfl
 clear h
 go_enter Tryz.func30,Tryz.ntmps30
 go_wp2_with (go_at_call 28;((with_reducible refine cn.mono ?_);clear cn;rintro e w' ⟨rfl,rfl⟩))
 go_ret2
 exact ⟨rfl,rfl⟩
set_option maxHeartbeats 1000000 in
theorem rblind_real (h:RS false g K N L w G) (hK:K.length=32) (name:List UInt8) (hb:¬ nmBad name):Calls Tryz.prog 30 #[.pointer (some ⟨g,0,none⟩),.string (strOf name)] w fun e w'=>e = .returned (.tuple #[.string (strOf (blindK K name)),.int .i64 0])∧Below w.heap.size w w':=by
 obtain ⟨vn,vl,h⟩:=h
 obtain ⟨c0,c1,_,_⟩:=h.c0
 have hs:(strOf name).size=name.length:=strOf_size name
 have cn:=refName_any w (name.length:Int) true (by rw [decide_eq_true];unfold nmBad at hb;omega)
 have cb:=refBlindK_any w K name hK (by unfold nmBad at hb;omega)
 clear h hb hK
 go_enter Tryz.func30,Tryz.ntmps30
 go_wp2_with (first
  | (go_at_call 28;((with_reducible refine cn.mono ?_);clear cn;rintro e w' ⟨rfl,rfl⟩))
  | (go_at_call 62;((with_reducible refine cb.mono ?_);clear cb;rintro e w2 ⟨rfl,hb⟩;have B2:=hidzb_ hb;clear hb)))
 go_ret2
 exact ⟨rfl,B2.out⟩
set_option maxHeartbeats 4000000 in
theorem rblind_ideal (h:RS true g K N L w G) (hK:K.length=32) (name:List UInt8) (hb:¬ nmBad name) (hN:N.length≤100000):Calls Tryz.prog 30 #[.pointer (some ⟨g,0,none⟩),.string (strOf name)] w fun e w'=>e = .returned (.tuple #[.string (strOf (drawB K 0 (ordN N name) 24)),.int .i64 0])∧Leaves (RS true g K (addNm N name) L) w G w':=by
 obtain ⟨vn,vl,h⟩:=h
 obtain ⟨c0,c1,c2,c3⟩:=h.c0
 have hs:(strOf name).size=name.length:=strOf_size name
 have cn:=refName_any w (name.length:Int) true (by rw [decide_eq_true];unfold nmBad at hb;omega)
 obtain ⟨A,c,rfl⟩:=OwnN.form h.names
 have HR:=hidzb_ h
 have HN:=hidzb_ hN
 have KL:=hidzb_ hK
 clear h hb hK
 go_enter Tryz.func30,Tryz.ntmps30
 go_upto_region 5 with (go_at_call 28;((with_reducible refine cn.mono ?_);clear cn;rintro e w' ⟨rfl,rfl⟩))
 go_upto_region 6 with fail
 go_loopw [6] (fun i wr=>∃ j:Nat,j≤N.length∧i = .int .i64 j∧wr=w∧Hid (∀ k,(hk:k < N.length)→k < j→N[k]≠name)) (fun i _=>N.length - (intOf i).toNat)
 case atStart=>exact ⟨0,Nat.zero_le _,rfl,rfl,hidzb_ (fun k hk h0=>by omega)⟩
 case round =>
  obtain ⟨j,hj,rfl,hwr,HNO⟩:=hrel
  subst hwr
  by_cases hlt:j < N.length
  ·have d1:decide ((j:Int) < (N.length:Int))=true:=decide_eq_true (by omega)
   have d2:decide (j < N.length)=true:=decide_eq_true hlt
   obtain ⟨gA,hA,hcell⟩:=OwnN.cells HR.out.names j hlt
   subst hA
   have t0:(0:Int)≤(j:Int):=by omega
   have tn:(j:Int) < (N.length:Int):=by omega
   by_cases he:N[j]=name
   ·have hq:=strOf_eq N[j] name he
    have hord:ordN N name=j + 1:=by
     unfold ordN
     have h1:N.idxOf name=j:=by
      have hm:name∈N:=by rw [← he];exact List.getElem_mem hlt
      have h2:=List.idxOf_lt_length_of_mem hm
      have h3:N[N.idxOf name]=name:=List.getElem_idxOf h2
      have h4:¬ N.idxOf name < j:=fun h5=>HNO.out _ h2 h5 h3
      have h6:¬ j < N.idxOf name:=fun h5=>by
       have h7:=List.not_of_lt_findIdx (p:=(· == name)) (xs:=N) (i:=j) (by simpa [List.idxOf] using h5)
       simp [he] at h7
      omega
     rw [h1]
    have hin:addNm N name=N:=by
     unfold addNm
     rw [if_pos]
     rw [← he]
     exact List.getElem_mem hlt
    have HORD:=hidzb_ hord
    have HIN:=hidzb_ hin
    have hj1:(j:Int) + 1=((j + 1:Nat):Int):=by omega
    have cd:Calls Tryz.prog 63 #[.string (strOf K),.int .i64 0,.int .i64 ((j:Int) + 1),.int .i64 32] wr fun e w'=>e = .returned (.string (strOf (drawB K 0 (j + 1) 24)))∧Below wr.heap.size wr w':=by
     rw [hj1]
     exact rdraw_any wr K KL.out 0 (j + 1) 24 (by omega) (by have:=HN.out;omega) (by omega)
    have hn100:j + 1≤100000:=by have:=HN.out;omega
    clear hord hin he hj1
    go_wp2_with (go_at_call 63;((with_reducible refine cd.mono ?_);clear cd;rintro e w2 ⟨rfl,hb⟩;have B2:=hidzb_ hb;clear hb))
    go_ret2
    exact ⟨by rw [HORD.out];rfl,by rw [HIN.out];exact Leaves.below (RS.foot true g K N L) ⟨_,_,HR.out⟩ B2.out⟩
   ·have hq:=strOf_ne N[j] name he
    have HE:=hidzb_ he
    have hn100:j + 1≤100000:=by have:=HN.out;omega
    clear he
    go_wp2
    go_roundw
    case rel=>exact ⟨j + 1,by omega,by go_num,(by first | rfl | trivial),hidzb_ (fun k hk hk1=>by
     rcases Nat.lt_or_ge k j with h1 | h1
     ·exact HNO.out k hk h1
     ·obtain rfl:k=j:=by omega
      exact HE.out)⟩
    case measure=>simp [intOf];omega
  ·obtain rfl:j=N.length:=by omega
   have d1:decide ((N.length:Int) < (N.length:Int))=false:=decide_eq_false (by omega)
   have d2:decide (N.length < N.length)=false:=decide_eq_false (by omega)
   have hnew:name∉N:=fun hm=>by
    obtain ⟨k,hk,e⟩:=List.getElem_of_mem hm
    exact HNO.out k hk hk e
   have hord:=ordN_new hnew
   have hadd:addNm N name=N ++ [name]:=by unfold addNm;rw [if_neg hnew]
   have HORD:=hidzb_ hord
   have HADD:=hidzb_ hadd
   have HNEW:=hidzb_ hnew
   obtain ⟨w1,hw1⟩:∃ w1,wr.alloc (.cells #[.string (strOf name)] 9)=w1:=⟨_,rfl⟩
   have B1:Below wr.heap.size wr w1:=by rw [← hw1];exact (Below.refl _ _).alloc (Nat.le_refl _) _
   have K1:Bk w1 wr.heap.size 9 #[.string (strOf name)]:=by rw [← hw1];exact Bk.new wr _ _
   have R1:=HR.out.below B1
   obtain ⟨v',w2,hrun,k1,k2,k3⟩:=run_appN R1.names name wr.heap.size K1 61 1 (by have:=HN.out;omega) (Nat.zero_le _)
   obtain ⟨A2,c2',hv2⟩:=OwnN.form k1
   rw [List.length_append,List.length_singleton] at hv2
   subst hv2
   have hgv:∀ b,(Value.slice A N.length c).ownBlock=some b→b≠g:=R1.gn
   have K2:Bk w2 g 64 #[.bool true,.string (strOf K),.slice A N.length c,vl]:=(k2.block g R1.blk.lt (fun e=>hgv g e.symm rfl)).trans R1.blk
   obtain ⟨w3,hw3⟩:∃ w3,w2.setCell ⟨g,2,none⟩ (.slice A2 (N.length + 1) c2')=w3:=⟨_,rfl⟩
   have K3:Bk w3 g 64 #[.bool true,.string (strOf K),.slice A2 (N.length + 1) c2',vl]:=by rw [← hw3];exact K2.set_ 2 _
   have U12:Untouched ((Value.slice A N.length c).ownBlock.toList) w1 w2:=Untouched.of_grown k2 (fun k e=>by simpa using e)
   have S2:OwnSL w2 0 vl L:=R1.sls.keep U12 (fun b e hm=>R1.nl b b (by simpa using hm) e rfl)
   have S3:OwnSL w3 0 vl L:=by rw [← hw3];exact S2.keep (F:=[g]) (Untouched.set (w:=w2) (F:=[g]) g 2 (by simp) _) (fun b e hm=>by
    obtain ⟨_,cs,hcs⟩:=tySL S2 b e
    exact bk_ne hcs K2 (by decide) (by simpa using hm))
   have N3:OwnN w3 0 (.slice A2 (N.length + 1) c2') (N ++ [name]):=by rw [← hw3];exact OwnN.keep k1 (F:=[g]) (Untouched.set (w:=w2) (F:=[g]) g 2 (by simp) _) (fun b e hm=>by
    obtain ⟨_,cs,hcs⟩:=tyN k1 b e
    exact bk_ne hcs K2 (by decide) (by simpa using hm))
   have hs12:w1.heap.size=wr.heap.size + 1:=by rw [← hw1];simp
   have hs3:w3.heap.size=w2.heap.size:=by rw [← hw3];simp
   have hs2:=k2.size
   have UU:Untouched G wr w3:=by
    refine (Untouched.of_below (F:=G) B1).trans (Grew.refl _ _) (Untouched.trans (F':=G) (Untouched.of_grown k2 (fun k e=>R1.inn k e)) (Grew.refl _ _) ?_)
    rw [← hw3]
    exact Untouched.set (w:=w2) (F:=G) g 2 R1.ing _
   have R3:RefV w3 g true K (.slice A2 (N.length + 1) c2') vl (N ++ [name]) L (G ++ (Value.slice A2 (N.length + 1) c2').ownBlock.toList) :=
    ⟨K3,N3,S3,List.mem_append_left _ R1.ing,fun b e=>List.mem_append_right _ (by simpa using e),fun b e=>List.mem_append_left _ (R1.inl b e),fun k hk=>by
     rcases List.mem_append.1 hk with h1 | h1
     ·have:=R1.hG k h1;omega
     ·exact (tyN N3 k (by simpa using h1)).1⟩
   have GR:Grew wr G (G ++ (Value.slice A2 (N.length + 1) c2').ownBlock.toList):=fun k hk=>by
    rcases List.mem_append.1 hk with h1 | h1
    ·exact .inl h1
    ·rcases k3 with e3 | e3
     ·rw [e3] at h1
      exact .inl (R1.inn k (by simpa using h1))
     ·rw [e3] at h1
      have:k=w1.heap.size:=by simpa [eq_comm] using h1
      exact .inr (by omega)
   have HR3:=hidzb_ R3
   have HU3:=hidzb_ UU
   have HG3:=hidzb_ GR
   have c21:=K2.cell 2
   have f21:=K2.frozen 2
   have HK3:=hidzb_ K3
   have kc1:=hidzb_ K1
   have cd2:∀ W,Calls Tryz.prog 63 #[.string (strOf K),.int .i64 0,.int .i64 ((N.length:Int) + 1),.int .i64 32] W fun e w'=>e = .returned (.string (strOf (drawB K 0 (N.length + 1) 24)))∧Below W.heap.size W w':=fun W=>by
    have h:=rdraw_any W K KL.out 0 (N.length + 1) 24 (by omega) (by have:=HN.out;omega) (by omega)
    rwa [show ((N.length + 1:Nat):Int)=(N.length:Int) + 1 by omega] at h
   have c11:w1.cell? ⟨g,2,none⟩=some (.slice A N.length c):=R1.blk.cell 2
   clear hnew hord hadd K1 R1 B1 K2 K3 S2 S3 N3 U12 UU R3 GR k1 k2 k3 hgv hs2 hs3 hs12 hj
   go_upto_region 11 with (at_builtin;refine wpList_appRun rfl _ (.tmp 51) (.tmp 53) rfl _ _ _ rfl rfl hrun ?_)
   rename_i K9 hK9
   have CC:Hid (∀ W,Below w3.heap.size w3 W→W.cell? ⟨g,1,none⟩=some (.string (strOf K))∧W.cell? ⟨g,2,none⟩=some (.slice A2 (N.length + 1) c2')):=hidzb_ (fun W hW=>⟨((HK3.out.below hW HK3.out.lt).cell 1),((HK3.out.below hW HK3.out.lt).cell 2)⟩)
   have CD:Hid (∀ W,Below w3.heap.size w3 W→Calls Tryz.prog 63 #[.string (strOf K),.int .i64 0,.int .i64 ((N.length:Int) + 1),.int .i64 32] W fun e w'=>e = .returned (.string (strOf (drawB K 0 (N.length + 1) 24)))∧Below w3.heap.size w3 w'):=hidzb_ (fun W hW=>(cd2 W).mono fun e W2 hh=>⟨hh.1,hW.trans (hh.2.mono hW.size)⟩)
   clear cd2 c11 c21 f21 hrun hw1 hw3 kc1 c0 c1 c2 c3
   refine region_quiet_in (C:=fun W=>Below w3.heap.size w3 W) (by kernel_rfl) (by kernel_rfl) ((Below.refl _ _).drew) ?_
   repeat (go_big_quiet_want;(first
    | (refine BigFrame.quiet_move _ rfl ?_;go_simp)
    | (refine BigFrame.quiet_assign _ rfl ?_;go_simp)
    | (refine quiet_run (.pointer (some ⟨g,0,none⟩)) ?_ ?_;(focus (intro W hW;go_simp;done));go_simp)
    | (refine quiet_run (.pointer (some ⟨g,1,none⟩)) ?_ ?_;(focus (intro W hW;go_simp;done));go_simp)
    | (refine quiet_run (.pointer (some ⟨g,2,none⟩)) ?_ ?_;(focus (intro W hW;go_simp;done));go_simp)
    | (refine quiet_run (.string (strOf K)) ?_ ?_;(focus (intro W hW;have h:=(CC.out W hW).1;go_simp;done));go_simp)
    | (refine quiet_run (.slice A2 (N.length + 1) c2') ?_ ?_;(focus (intro W hW;have h:=(CC.out W hW).2;go_simp;done));go_simp)
    | (refine quiet_run (.int .i64 ((N.length:Int) + 1)) ?_ ?_;(focus (intro W hW;go_simp;done));go_simp)
    | (refine quiet_call (.string (strOf (drawB K 0 (N.length + 1) 24))) 63 #[.string (strOf K),.int .i64 0,.int .i64 ((N.length:Int) + 1),.int .i64 32] ?_ CD.out ?_;(focus (intro W;go_simp;done));go_simp));go_big_quiet_on)
   refine wpQuiet_nil ?_
   intro w7 hw7
   have B7:=hidzb_ hw7
   clear hw7
   refine hK9 _ _ ?_
   go_wp2
   go_ret2
   exact ⟨by rw [HORD.out];rfl,by rw [HADD.out];exact ⟨_,⟨_,_,HR3.out.below B7.out⟩,HG3.out,HU3.out.thenB B7.out⟩⟩
end
theorem hidzc_ {p:Prop} (h:p):Hid p:=h
section
variable {w : World} {g : Nat} {id : Bool} {K : List UInt8} {vn vl : Value} {N : List (List UInt8)} {L : List SealV} {G : List Nat}
theorem RefV.more (h:RefV w g id K vn vl N L G) (t:SealV) (hL:L.length≤100000):∃ A c A2 c2 w1 w2 w3,vl = .slice A L.length c ∧
  w.alloc (.cells (slR t) 120)=w1 ∧
  (Builtin.append_ #[62,62] 62 #[.slice A L.length c,.slice (some ⟨w.heap.size,0,none⟩) 1 1]).run Tryz.prog w1 = .ok (.slice A2 (L.length + 1) c2) w2 ∧
  w2.setCell ⟨g,3,none⟩ (.slice A2 (L.length + 1) c2)=w3∧(∃ u,w2.cell? ⟨g,3,none⟩=some u)∧w2.frozen? ⟨g,3,none⟩=false∧Leaves (RS id g K N (L ++ [t])) w G w3:=by
 obtain ⟨A,c,rfl⟩:=OwnSL.form h.sls
 obtain ⟨w1,hw1⟩:∃ w1,w.alloc (.cells (slR t) 120)=w1:=⟨_,rfl⟩
 have B1:Below w.heap.size w w1:=by rw [← hw1];exact (Below.refl _ _).alloc (Nat.le_refl _) _
 have K1:Bk w1 w.heap.size 120 (slR t):=by rw [← hw1];exact Bk.new w _ _
 have R1:=h.below B1
 obtain ⟨v',w2,hrun,k1,k2,k3⟩:=run_appSL R1.sls t w.heap.size K1 62 1 (by omega) (Nat.zero_le _)
 obtain ⟨A2,c2,hv2⟩:=OwnSL.form k1
 rw [List.length_append,List.length_singleton] at hv2
 subst hv2
 have hgv:∀ b,(Value.slice A L.length c).ownBlock=some b→b≠g:=R1.gl
 have K2:Bk w2 g 64 #[.bool id,.string (strOf K),vn,.slice A L.length c]:=(k2.block g R1.blk.lt (fun e=>hgv g e.symm rfl)).trans R1.blk
 obtain ⟨w3,hw3⟩:∃ w3,w2.setCell ⟨g,3,none⟩ (.slice A2 (L.length + 1) c2)=w3:=⟨_,rfl⟩
 have K3:Bk w3 g 64 #[.bool id,.string (strOf K),vn,.slice A2 (L.length + 1) c2]:=by rw [← hw3];exact K2.set_ 3 _
 have U12:Untouched ((Value.slice A L.length c).ownBlock.toList) w1 w2:=Untouched.of_grown k2 (fun k e=>by simpa using e)
 have N2:OwnN w2 0 vn N:=OwnN.keep R1.names U12 (fun b e hm=>R1.nl b b e (by simpa using hm) rfl)
 have N3:OwnN w3 0 vn N:=by rw [← hw3];exact OwnN.keep N2 (F:=[g]) (Untouched.set (w:=w2) (F:=[g]) g 3 (by simp) _) (fun b e hm=>by
  obtain ⟨_,cs,hcs⟩:=tyN N2 b e
  exact bk_ne hcs K2 (by decide) (by simpa using hm))
 have S3:OwnSL w3 0 (.slice A2 (L.length + 1) c2) (L ++ [t]):=by rw [← hw3];exact k1.keep (F:=[g]) (Untouched.set (w:=w2) (F:=[g]) g 3 (by simp) _) (fun b e hm=>by
  obtain ⟨_,cs,hcs⟩:=tySL k1 b e
  exact bk_ne hcs K2 (by decide) (by simpa using hm))
 have hs12:w1.heap.size=w.heap.size + 1:=by rw [← hw1];simp
 have hs3:w3.heap.size=w2.heap.size:=by rw [← hw3];simp
 have hs2:=k2.size
 have UU:Untouched G w w3:=by
  refine (Untouched.of_below (F:=G) B1).trans (Grew.refl _ _) (Untouched.trans (F':=G) (Untouched.of_grown k2 (fun k e=>R1.inl k e)) (Grew.refl _ _) ?_)
  rw [← hw3]
  exact Untouched.set (w:=w2) (F:=G) g 3 R1.ing _
 have R3:RefV w3 g id K vn (.slice A2 (L.length + 1) c2) N (L ++ [t]) (G ++ (Value.slice A2 (L.length + 1) c2).ownBlock.toList) :=
  ⟨K3,N3,S3,List.mem_append_left _ R1.ing,fun b e=>List.mem_append_left _ (R1.inn b e),fun b e=>List.mem_append_right _ (by simpa using e),fun k hk=>by
   rcases List.mem_append.1 hk with h1 | h1
   ·have:=R1.hG k h1;omega
   ·exact (tySL S3 k (by simpa using h1)).1⟩
 have GR:Grew w G (G ++ (Value.slice A2 (L.length + 1) c2).ownBlock.toList):=fun k hk=>by
  rcases List.mem_append.1 hk with h1 | h1
  ·exact .inl h1
  ·rcases k3 with e3 | e3
   ·rw [e3] at h1
    exact .inl (R1.inl k (by simpa using h1))
   ·rw [e3] at h1
    have:k=w1.heap.size:=by simpa [eq_comm] using h1
    exact .inr (by omega)
 exact ⟨A,c,A2,c2,w1,w2,w3,rfl,hw1,hrun,hw3,⟨_,K2.cell 3⟩,K2.frozen 3,_,⟨_,_,R3⟩,GR,UU⟩
theorem hit_pair {c n:Int} (hok:1≤c∧1≤n) (t:SealV):cn t=(c.toNat,n.toNat)↔(t.c:Int)=c∧(t.n:Int)=n:=by
 unfold cn
 constructor
 ·intro h
  have h1:=congrArg Prod.fst h
  have h2:=congrArg Prod.snd h
  simp only at h1 h2
  omega
 ·rintro ⟨h1,h2⟩
  exact Prod.ext (by simp only;omega) (by simp only;omega)
set_option maxHeartbeats 8000000 in
theorem rseal_x (h:RS id g K N L w G) (hK:K.length=32) (e c n:Int) (x b:List UInt8) (hx:x.length≤100000) (hb:b.length≤100000) (hL:L.length≤100000) :
  Calls Tryz.prog 31 #[.pointer (some ⟨g,0,none⟩),.int .i64 e,.int .i64 c,.int .i64 n,.string (strOf x),.string (strOf b)] w fun r w'=>r = .returned (.tuple #[.string (strOf (sB id K L e c n x b)),.int .i64 (sE L e c n)])∧Leaves (RS id g K N (sL id K L e c n x b)) w G w':=by
 have cr:=rright_any w e c n
 have e0:(⟨#[]⟩:ByteArray)=strOf []:=rfl
 by_cases hok:slOk e c n
 ·rw [decide_eq_true hok] at cr
  have HOK:=hidzc_ hok
  obtain ⟨vn,vl,h⟩:=h
  obtain ⟨A,cc,rfl⟩:=OwnSL.form h.sls
  have c3:=h.blk.cell 3
  have HR:=hidzc_ h
  have KL:=hidzc_ hK
  have XL:=hidzc_ hx
  have BL:=hidzc_ hb
  have LL:=hidzc_ hL
  clear h hK hok hx hb hL
  go_enter Tryz.func31,Tryz.ntmps31
  go_upto_region 3 with (go_at_call 64;((with_reducible refine cr.mono ?_);clear cr;rintro r w' ⟨rfl,rfl⟩))
  go_upto_region 4 with fail
  go_loopw [14] (fun i wr=>∃ j:Nat,j≤L.length∧i = .int .i64 j∧wr=w∧Hid (∀ k,(hk:k < L.length)→k < j→cn L[k]≠(c.toNat,n.toNat))) (fun i _=>L.length - (intOf i).toNat)
  case atStart=>exact ⟨0,Nat.zero_le _,rfl,rfl,hidzc_ (fun k hk h0=>by omega)⟩
  case round =>
   obtain ⟨j,hj,rfl,hwr,HNO⟩:=hrel
   subst hwr
   have hn100:j≤100000:=by have:=LL.out;omega
   by_cases hlt:j < L.length
   ·have d1:decide ((j:Int) < (L.length:Int))=true:=decide_eq_true (by omega)
    have d2:decide (j < L.length)=true:=decide_eq_true hlt
    obtain ⟨gA,hA,hcell⟩:=OwnSL.cells HR.out.sls j hlt
    subst hA
    have q1:wr.cell? ⟨gA,j * 6 + 1,none⟩=some (.int .i64 (L[j].c:Int)):=hcell 1 (by omega)
    have q2:wr.cell? ⟨gA,j * 6 + 2,none⟩=some (.int .i64 (L[j].n:Int)):=hcell 2 (by omega)
    have t0:(0:Int)≤(j:Int):=by omega
    have tn:(j:Int) < (L.length:Int):=by omega
    have HP:=hidzc_ (hit_pair (c:=c) (n:=n) ⟨HOK.out.2.1,HOK.out.2.2.2.1⟩ L[j])
    have HM:=hidzc_ (show cn L[j]∈L.map cn from List.mem_map.2 ⟨L[j],List.getElem_mem hlt,rfl⟩)
    have HNX:=hidzc_ (fun hno:cn L[j]≠(c.toNat,n.toNat)=>(fun (k:Nat) (hk:k < L.length) (hk1:k < j + 1)=>(show cn L[k]≠(c.toNat,n.toNat) by
     rcases Nat.lt_or_ge k j with h1 | h1
     ·exact HNO.out k hk h1
     ·obtain rfl:k=j:=by omega
      exact hno)))
    generalize L[j]=t at *
    clear hcell
    by_cases h1:(t.c:Int)=c
    ·have i1:((t.c:Int) == c)=true:=beq_iff_eq.2 (by omega)
     by_cases h2:(t.n:Int)=n
     ·have i2:((t.n:Int) == n)=true:=beq_iff_eq.2 (by omega)
      have hin:(c.toNat,n.toNat)∈L.map cn:=by rw [← HP.out.2 ⟨h1,h2⟩];exact HM.out
      have r1:sE L e c n=13:=by unfold sE;rw [if_pos HOK.out,if_pos hin]
      have r2:sB id K L e c n x b = []:=by unfold sB;rw [if_neg (fun hh=>hh.2 hin)]
      have r3:sL id K L e c n x b=L:=by unfold sL;rw [if_neg (fun hh=>hh.2 hin)]
      have R1:=hidzc_ r1
      have R2:=hidzc_ r2
      have R3:=hidzc_ r3
      clear r1 r2 r3 hin h1 h2
      go_wp2
      go_ret2
      exact ⟨by rw [R1.out,R2.out];rfl,by rw [R3.out];exact Leaves.below (RS.foot id g K N L) ⟨_,_,HR.out⟩ (Below.refl _ _)⟩
     ·have i2:((t.n:Int) == n)=false:=beq_eq_false_iff_ne.2 (by omega)
      have HN2:=hidzc_ (show cn t≠(c.toNat,n.toNat) from fun hh=>h2 (HP.out.1 hh).2)
      clear h1 h2
      go_wp2
      go_roundw
      case rel=>exact ⟨j + 1,by omega,by go_num,(by first | rfl | trivial),hidzc_ (HNX.out HN2.out)⟩
      case measure=>simp [intOf];omega
    ·have i1:((t.c:Int) == c)=false:=beq_eq_false_iff_ne.2 (by omega)
     have HN2:=hidzc_ (show cn t≠(c.toNat,n.toNat) from fun hh=>h1 (HP.out.1 hh).1)
     clear h1
     go_wp2
     go_roundw
     case rel=>exact ⟨j + 1,by omega,by go_num,(by first | rfl | trivial),hidzc_ (HNX.out HN2.out)⟩
     case measure=>simp [intOf];omega
   ·obtain rfl:j=L.length:=by omega
    have d1:decide ((L.length:Int) < (L.length:Int))=false:=decide_eq_false (by omega)
    have d2:decide (L.length < L.length)=false:=decide_eq_false (by omega)
    have hnew:(c.toNat,n.toNat)∉L.map cn:=fun hm=>by
     obtain ⟨t,ht,e⟩:=List.mem_map.1 hm
     obtain ⟨k,hk,e2⟩:=List.getElem_of_mem ht
     exact HNO.out k hk hk (by rw [e2];exact e)
    have hyes:slOk e c n∧(c.toNat,n.toNat)∉L.map cn:=⟨HOK.out,hnew⟩
    have r1:sE L e c n=0:=by unfold sE;rw [if_pos HOK.out,if_neg hnew]
    have r2:sB id K L e c n x b=sO id K L e.toNat c.toNat n.toNat x b:=by unfold sB;rw [if_pos hyes]
    have r3:sL id K L e c n x b=L ++ [⟨e.toNat,c.toNat,n.toNat,x,sO id K L e.toNat c.toNat n.toNat x b,b⟩]:=by unfold sL;rw [if_pos hyes]
    have R1:=hidzc_ r1
    have R2:=hidzc_ r2
    have R3:=hidzc_ r3
    obtain ⟨⟨he1,he2⟩,hc1,hc2,hn1,hn2⟩:=HOK.out
    obtain ⟨e,rfl⟩:∃ k:Nat,e=(k:Int):=⟨e.toNat,by omega⟩
    obtain ⟨c,rfl⟩:∃ k:Nat,c=(k:Int):=⟨c.toNat,by omega⟩
    obtain ⟨n,rfl⟩:∃ k:Nat,n=(k:Int):=⟨n.toNat,by omega⟩
    simp only [Int.toNat_natCast] at R2 R3
    have c0:=HR.out.blk.cell 0
    have c1:=HR.out.blk.cell 1
    clear r1 r2 r3 hyes hnew HNO
    have hs:(strOf b).size=b.length:=strOf_size b
    cases id
    ·have e8:sO false K L e c n x b=sealB (sealK K e) (nonceB c n) x b:=rfl
     rw [e8] at R2 R3
     have ck:=fun W=>refSealK_any W K KL.out e (by omega)
     have cnn:=fun W=>refNonce_any W c n (by omega) (by omega)
     have cs:=fun W=>refASeal_any (sealK K e) (nonceB c n) x b x.length b.length W (sealK_len _ _) (nonceB_len _ _) rfl rfl (by have:=XL.out;omega) (by have:=BL.out;omega)
     generalize sealB (sealK K e) (nonceB c n) x b=D at *
     generalize sealK K e=Ks at *
     generalize nonceB c n=No at *
     go_upto_region 12 with (first
      | (go_at_call 66;((with_reducible refine (ck _).mono ?_);clear ck;rintro r w1 ⟨rfl,hb⟩;have B1:=hidzc_ hb;clear hb))
      | (go_at_call 67;((with_reducible refine (cnn _).mono ?_);clear cnn;rintro r w2 ⟨rfl,hb⟩;have B2:=hidzc_ (B1.out.trans (hb.mono B1.out.size));clear hb))
      | (go_at_call 65;((with_reducible refine (cs _).mono ?_);clear cs;rintro r w3 ⟨rfl,hb⟩;have B3:=hidzc_ (B2.out.trans (hb.mono B2.out.size));clear hb)))
     have HR3:=HR.out.below B3.out
     obtain ⟨A1,cc1,A2,cc2,w4,w5,w6,hvl,hw4,hrun,hw6,⟨u6,cu6⟩,fu6,hlv⟩:=HR3.more ⟨e,c,n,x,D,b⟩ LL.out
     injection hvl with hv1 hv2 hv3
     subst hv1 hv3
     clear hv2
     have c33:=HR3.blk.cell 3
     have HLV:=hidzc_ hlv
     have HBS:=hidzc_ (show Tryz.prog.built 120 [(0,.int .i64 (e:Int)),(1,.int .i64 (c:Int)),(2,.int .i64 (n:Int)),(3,.string (strOf x)),(4,.string (strOf b)),(5,.string (strOf D))]=some (slR ⟨e,c,n,x,D,b⟩) by kernel_rfl)
     clear hlv HR3
     go_wp2_with (first
      | (refine wpList_built rfl 120 #[(0,.tmp 87),(1,.tmp 88),(2,.tmp 89),(3,.tmp 90),(4,.tmp 91),(5,.tmp 92)] rfl (slR ⟨e,c,n,x,D,b⟩) ?_ ?_;(focus (simp only [List.map_toArray,List.map_cons,List.map_nil];exact HBS.out)))
      | (refine wpList_oneSL rfl (.tmp 93) rfl ⟨e,c,n,x,D,b⟩ rfl ?_;rw [hw4])
      | (at_builtin;refine wpList_appRun rfl _ (.tmp 86) (.tmp 94) rfl _ _ _ rfl rfl hrun ?_))
     go_ret2
     obtain ⟨G',l1,l2,l3⟩:=HLV.out
     exact ⟨by rw [R1.out,R2.out];rfl,G',by rw [R3.out];exact l1,fun k hk=>(l2 k hk).imp (fun h=>h) (fun h=>Nat.le_trans B3.out.size h),(Untouched.of_below (F:=G) B3.out).trans (Grew.refl _ _) l3⟩
    ·have e8:sO true K L e c n x b=drawB K 1 (L.length + 1) (b.length + 8):=rfl
     rw [e8] at R2 R3
     have cd:∀ W,Calls Tryz.prog 63 #[.string (strOf K),.int .i64 1,.int .i64 ((L.length:Int) + 1),.int .i64 ((b.length:Int) + 16)] W fun e w'=>e = .returned (.string (strOf (drawB K 1 (L.length + 1) (b.length + 8))))∧Below W.heap.size W w':=fun W=>by
      have h:=rdraw_any W K KL.out 1 (L.length + 1) (b.length + 8) (by omega) (by have:=LL.out;omega) (by have:=BL.out;omega)
      rwa [show ((L.length + 1:Nat):Int)=(L.length:Int) + 1 by omega,show ((b.length + 8:Nat):Int) + 8=(b.length:Int) + 16 by omega] at h
     have bl100:b.length≤100000:=BL.out
     generalize drawB K 1 (L.length + 1) (b.length + 8)=D at *
     have wl1:IntKind.i64.wrap ((L.length:Int) + 1)=(L.length:Int) + 1:=IntWalk.i64_in _ (by omega)
     have wl2:IntKind.i64.wrap ((b.length:Int) + 16)=(b.length:Int) + 16:=IntWalk.i64_in _ (by omega)
     go_upto_region 10 with fail
     rename_i K9 hK9
     have CC:Hid (∀ W,Below wr.heap.size wr W→W.cell? ⟨g,1,none⟩=some (.string (strOf K))∧W.cell? ⟨g,3,none⟩=some (.slice A L.length cc)):=hidzc_ (fun W hW=>⟨((HR.out.blk.below hW HR.out.blk.lt).cell 1),((HR.out.blk.below hW HR.out.blk.lt).cell 3)⟩)
     have CD:Hid (∀ W,Below wr.heap.size wr W→Calls Tryz.prog 63 #[.string (strOf K),.int .i64 1,.int .i64 ((L.length:Int) + 1),.int .i64 ((b.length:Int) + 16)] W fun e w'=>e = .returned (.string (strOf D))∧Below wr.heap.size wr w'):=hidzc_ (fun W hW=>(cd W).mono fun e W2 hh=>⟨hh.1,hW.trans (hh.2.mono hW.size)⟩)
     clear cd
     refine region_quiet_in (C:=fun W=>Below wr.heap.size wr W) (by kernel_rfl) (by kernel_rfl) ((Below.refl _ _).drew) ?_
     repeat (go_big_quiet_want;(first
      | (refine BigFrame.quiet_move _ rfl ?_;go_simp)
      | (refine BigFrame.quiet_assign _ rfl ?_;go_simp)
      | (refine quiet_run (.pointer (some ⟨g,0,none⟩)) ?_ ?_;(focus (intro W hW;go_simp;done));go_simp)
      | (refine quiet_run (.pointer (some ⟨g,1,none⟩)) ?_ ?_;(focus (intro W hW;go_simp;done));go_simp)
      | (refine quiet_run (.pointer (some ⟨g,3,none⟩)) ?_ ?_;(focus (intro W hW;go_simp;done));go_simp)
      | (refine quiet_run (.string (strOf K)) ?_ ?_;(focus (intro W hW;have h:=(CC.out W hW).1;go_simp;done));go_simp)
      | (refine quiet_run (.slice A L.length cc) ?_ ?_;(focus (intro W hW;have h:=(CC.out W hW).2;go_simp;done));go_simp)
      | (refine quiet_run (.int .i64 (L.length:Int)) ?_ ?_;(focus (intro W hW;go_simp;done));go_simp)
      | (refine quiet_run (.int .i64 ((L.length:Int) + 1)) ?_ ?_;(focus (intro W hW;go_simp;done));go_simp)
      | (refine quiet_run (.int .i64 (b.length:Int)) ?_ ?_;(focus (intro W hW;go_simp;done));go_simp)
      | (refine quiet_run (.int .i64 ((b.length:Int) + 16)) ?_ ?_;(focus (intro W hW;go_simp;done));go_simp)
      | (refine quiet_call (.string (strOf D)) 63 #[.string (strOf K),.int .i64 1,.int .i64 ((L.length:Int) + 1),.int .i64 ((b.length:Int) + 16)] ?_ CD.out ?_;(focus (intro W;go_simp;done));go_simp));go_big_quiet_on)
     refine wpQuiet_nil ?_
     intro w3 hw3
     have B3:=hidzc_ hw3
     clear hw3 CC CD c0 c1 c3 wl1 wl2
     refine hK9 _ _ ?_
     have HR3:=HR.out.below B3.out
     obtain ⟨A1,cc1,A2,cc2,w4,w5,w6,hvl,hw4,hrun,hw6,⟨u6,cu6⟩,fu6,hlv⟩:=HR3.more ⟨e,c,n,x,D,b⟩ LL.out
     injection hvl with hv1 hv2 hv3
     subst hv1 hv3
     clear hv2
     have c33:=HR3.blk.cell 3
     have HLV:=hidzc_ hlv
     have HBS:=hidzc_ (show Tryz.prog.built 120 [(0,.int .i64 (e:Int)),(1,.int .i64 (c:Int)),(2,.int .i64 (n:Int)),(3,.string (strOf x)),(4,.string (strOf b)),(5,.string (strOf D))]=some (slR ⟨e,c,n,x,D,b⟩) by kernel_rfl)
     clear hlv HR3
     go_wp2_with (first
      | (refine wpList_built rfl 120 #[(0,.tmp 87),(1,.tmp 88),(2,.tmp 89),(3,.tmp 90),(4,.tmp 91),(5,.tmp 92)] rfl (slR ⟨e,c,n,x,D,b⟩) ?_ ?_;(focus (simp only [List.map_toArray,List.map_cons,List.map_nil];exact HBS.out)))
      | (refine wpList_oneSL rfl (.tmp 93) rfl ⟨e,c,n,x,D,b⟩ rfl ?_;rw [hw4])
      | (at_builtin;refine wpList_appRun rfl _ (.tmp 86) (.tmp 94) rfl _ _ _ rfl rfl hrun ?_))
     go_ret2
     obtain ⟨G',l1,l2,l3⟩:=HLV.out
     exact ⟨by rw [R1.out,R2.out];rfl,G',by rw [R3.out];exact l1,fun k hk=>(l2 k hk).imp (fun h=>h) (fun h=>Nat.le_trans B3.out.size h),(Untouched.of_below (F:=G) B3.out).trans (Grew.refl _ _) l3⟩
 ·rw [decide_eq_false hok] at cr
  have r1:sE L e c n=1:=by unfold sE;rw [if_neg hok]
  have r2:sB id K L e c n x b = []:=by unfold sB;rw [if_neg (fun hh=>hok hh.1)]
  have r3:sL id K L e c n x b=L:=by unfold sL;rw [if_neg (fun hh=>hok hh.1)]
  rw [r1,r2,r3]
  have HR:=hidzc_ h
  clear h r1 r2 r3 hok hx hb hL hK
  go_enter Tryz.func31,Tryz.ntmps31
  go_wp2_with (go_at_call 64;((with_reducible refine cr.mono ?_);clear cr;rintro r w' ⟨rfl,rfl⟩))
  go_ret2
  exact ⟨rfl,Leaves.below (RS.foot id g K N L) HR.out (Below.refl _ _)⟩
end
theorem hidzd_ {p:Prop} (h:p):Hid p:=h
theorem zSLr (W:World):(zeroValue 120).run Tryz.prog W = .ok (.agg #[.int .i64 0,.int .i64 0,.int .i64 0,.string ⟨#[]⟩,.string ⟨#[]⟩,.string ⟨#[]⟩]) W:=by kernel_rfl
theorem iSLr (t:SealV):(Tryz.prog.info? 120).map (·.size)=some (slR t).size:=by kernel_rfl
theorem slR_all (t:SealV):(slR t).all (·.oneCell')=true:=by simp [slR,Value.oneCell']
theorem slR_cells {w:World} {B:Nat} {t:SealV} (h:Bk w B 120 (slR t)):w.cell? ⟨B,0,none⟩=some (.int .i64 (t.e:Int))∧w.cell? ⟨B,1,none⟩=some (.int .i64 (t.c:Int))∧w.cell? ⟨B,2,none⟩=some (.int .i64 (t.n:Int))∧w.cell? ⟨B,3,none⟩=some (.string (strOf t.x))∧w.cell? ⟨B,4,none⟩=some (.string (strOf t.b))∧w.cell? ⟨B,5,none⟩=some (.string (strOf t.s)):=⟨h.cell 0,h.cell 1,h.cell 2,h.cell 3,h.cell 4,h.cell 5⟩
theorem find_take {L:List SealV} {p:SealV→Bool} {j:Nat} (hj:j < L.length) (hno:∀ k,(hk:k < L.length)→k < j→p L[k]=false) (hyes:p L[j]=true):L.find? p=some L[j]:=by
 rw [List.find?_eq_some_iff_getElem]
 exact ⟨hyes,j,hj,rfl,fun k hk=>by simpa using hno k (by omega) hk⟩
section
variable {w : World} {g : Nat} {id : Bool} {K : List UInt8} {N : List (List UInt8)} {L : List SealV} {G : List Nat}
set_option maxHeartbeats 8000000 in
theorem ropen_real (h:RS false g K N L w G) (hK:K.length=32) (e c n:Int) (x s:List UInt8) (hx:x.length≤100000) (hs:s.length≤100000) (hok:slOk e c n) (hsh:¬ s.length < 16) (D:List UInt8) (ok:Bool)
  (co:∀ W,Calls Tryz.prog 78 #[.string (strOf (sealK K e.toNat)),.string (strOf (nonceB c.toNat n.toNat)),.string (strOf x),.string (strOf s)] W fun r w'=>r = .returned (.tuple #[.string (strOf D),.bool ok])∧Below W.heap.size W w') :
  Calls Tryz.prog 45 #[.pointer (some ⟨g,0,none⟩),.int .i64 e,.int .i64 c,.int .i64 n,.string (strOf x),.string (strOf s)] w fun r w'=>r = .returned (.tuple #[.string (strOf (if ok then D else [])),.int .i64 (if ok then 0 else 6)])∧Below w.heap.size w w':=by
 have cr:=rright_any w e c n
 have e0:(⟨#[]⟩:ByteArray)=strOf []:=rfl
 rw [decide_eq_true hok] at cr
 obtain ⟨vn,vl,h⟩:=h
 have c0:=h.blk.cell 0
 have c1:=h.blk.cell 1
 obtain ⟨⟨he1,he2⟩,hc1,hc2,hn1,hn2⟩:=hok
 obtain ⟨e,rfl⟩:∃ k:Nat,e=(k:Int):=⟨e.toNat,by omega⟩
 obtain ⟨c,rfl⟩:∃ k:Nat,c=(k:Int):=⟨c.toNat,by omega⟩
 obtain ⟨n,rfl⟩:∃ k:Nat,n=(k:Int):=⟨n.toNat,by omega⟩
 simp only [Int.toNat_natCast] at co
 have ck:=fun W=>refSealK_any W K hK e (by omega)
 have cnn:=fun W=>refNonce_any W c n (by omega) (by omega)
 have hss:(strOf s).size=s.length:=strOf_size s
 have d1:decide ((s.length:Int) < 16)=false:=decide_eq_false (by omega)
 have d2:decide (s.length < 16)=false:=decide_eq_false (by omega)
 generalize sealK K e=Ks at *
 generalize nonceB c n=No at *
 clear h hK hx hs hsh he1 he2 hc1 hc2 hn1 hn2
 cases ok
 all_goals
  go_enter Tryz.func45,Tryz.ntmps45
  go_wp2_with (first
   | (go_at_call 64;((with_reducible refine cr.mono ?_);clear cr;rintro r w' ⟨rfl,rfl⟩))
   | (go_at_call 66;((with_reducible refine (ck _).mono ?_);clear ck;rintro r w1 ⟨rfl,hb⟩;have B1:=hidzd_ hb;clear hb))
   | (go_at_call 67;((with_reducible refine (cnn _).mono ?_);clear cnn;rintro r w2 ⟨rfl,hb⟩;have B2:=hidzd_ (B1.out.trans (hb.mono B1.out.size));clear hb))
   | (go_at_call 78;((with_reducible refine (co _).mono ?_);clear co;rintro r w3 ⟨rfl,hb⟩;have B3:=hidzd_ (B2.out.trans (hb.mono B2.out.size));clear hb)))
  go_ret2
  exact ⟨rfl,B3.out⟩
set_option maxHeartbeats 8000000 in
theorem ropen_ideal (h:RS true g K N L w G) (e c n:Nat) (x s:List UInt8) (hs:s.length≤100000) (hL:L.length≤100000) (hok:slOk (e:Int) (c:Int) (n:Int)) (hsh:¬ s.length < 16) (D:List UInt8) (z:Int) (hy:∀ t,L.find? (hitS e c n x s)=some t→D=t.b∧z=0) (hn:L.find? (hitS e c n x s)=none→D = []∧z=6) :
  Calls Tryz.prog 45 #[.pointer (some ⟨g,0,none⟩),.int .i64 (e:Int),.int .i64 (c:Int),.int .i64 (n:Int),.string (strOf x),.string (strOf s)] w fun r w'=>r = .returned (.tuple #[.string (strOf D),.int .i64 z])∧Below w.heap.size w w':=by
 have HY:=hidzd_ hy
 have HNO2:=hidzd_ hn
 clear hy hn
 have cr:=rright_any w e c n
 have e0:(⟨#[]⟩:ByteArray)=strOf []:=rfl
 rw [decide_eq_true hok] at cr
 obtain ⟨vn,vl,h⟩:=h
 obtain ⟨A,cc,rfl⟩:=OwnSL.form h.sls
 have c0:=h.blk.cell 0
 have HR:=hidzd_ h
 have LL:=hidzd_ hL
 have hss:(strOf s).size=s.length:=strOf_size s
 have d1:decide ((s.length:Int) < 16)=false:=decide_eq_false (by omega)
 have d2:decide (s.length < 16)=false:=decide_eq_false (by omega)
 have hzS:=zSLr
 clear h hL hs hsh hok
 go_enter Tryz.func45,Tryz.ntmps45
 go_upto_region 10 with (go_at_call 64;((with_reducible refine cr.mono ?_);clear cr;rintro r w' ⟨rfl,rfl⟩))
 clear c0 d1 d2
 go_upto_region 11 with fail
 go_loopw [16] (fun i wr=>∃ j:Nat,j≤L.length∧i = .int .i64 j∧Hid (Below w.heap.size w wr)∧Hid (∀ k,(hk:k < L.length)→k < j→hitS e c n x s L[k]=false)) (fun i _=>L.length - (intOf i).toNat)
 case atStart=>exact ⟨0,Nat.zero_le _,rfl,hidzd_ (Below.refl _ _),hidzd_ (fun k hk h0=>by omega)⟩
 case round =>
  obtain ⟨j,hj,rfl,HB,HNO⟩:=hrel
  have hn100:j≤100000:=by have:=LL.out;omega
  have c3:=(HR.out.below HB.out).blk.cell 3
  by_cases hlt:j < L.length
  ·have D1:decide ((j:Int) < (L.length:Int))=true:=decide_eq_true (by omega)
   have D2:decide (j < L.length)=true:=decide_eq_true hlt
   obtain ⟨gA,hA,hcell⟩:=OwnSL.cells (HR.out.below HB.out).sls j hlt
   subst hA
   have t0:(0:Int)≤(j:Int):=by omega
   have tn:(j:Int) < (L.length:Int):=by omega
   have HFT:=hidzd_ (fun hyes:hitS e c n x s L[j]=true=>find_take hlt HNO.out hyes)
   have HNX:=hidzd_ (fun hno:hitS e c n x s L[j]=false=>(fun (k:Nat) (hk:k < L.length) (hk1:k < j + 1)=>(show hitS e c n x s L[k]=false by
    rcases Nat.lt_or_ge k j with h1 | h1
    ·exact HNO.out k hk h1
    ·obtain rfl:k=j:=by omega
     exact hno)))
   generalize L[j]=t at *
   have HCL:Hid (∀ i,i < (slR t).size→wr.cell? ⟨gA,j * 6 + i,none⟩=(slR t)[i]?):=hidzd_ (fun i hi=>hcell i hi)
   have SZ:=hidzd_ (iSLr t)
   clear hcell
   go_upto_region 14 with (first
    | (refine wpList_load_sub rfl 120 (.tmp 63) rfl gA (j * 6) rfl (slR t) HCL.out _ Tryz.underlying120 rfl SZ.out ?_)
    | (refine wpList_put_row rfl 120 (.tmp 17) (.tmp 64) rfl wr.heap.size (slR t) rfl rfl 120 _ (Bk.new wr _ _) SZ.out rfl (slR_all t) ?_;intro w4 k4 g4 s4;have K4:=hidzd_ k4;have B4:=hidzd_ (((Below.refl wr.heap.size wr).alloc (Nat.le_refl _) (.cells #[.int .i64 0,.int .i64 0,.int .i64 0,.string ⟨#[]⟩,.string ⟨#[]⟩,.string ⟨#[]⟩] 120)).grown g4 (by simp) (fun k e=>by injection e with e;omega));clear k4 g4 s4))
   obtain ⟨k0,k1,k2,k3,k4,k5⟩:=slR_cells K4.out
   have HB4:=hidzd_ (HB.out.trans (B4.out.mono HB.out.size))
   clear c3 B4 HCL HB
   generalize wr.heap.size=B at *
   by_cases h1:t.e=e
   ·have i1:((t.e:Int) == (e:Int))=true:=beq_iff_eq.2 (by omega)
    by_cases h2:t.c=c
    ·have i2:((t.c:Int) == (c:Int))=true:=beq_iff_eq.2 (by omega)
     by_cases h3:t.n=n
     ·have i3:((t.n:Int) == (n:Int))=true:=beq_iff_eq.2 (by omega)
      by_cases h4:t.x=x
      ·have i4:=strOf_eq _ _ h4
       by_cases h5:t.s=s
       ·have i5:=strOf_eq _ _ h5
        have hf:=HFT.out (hitS_iff.2 ⟨h1,h2,h3,h4,h5⟩)
        have HF:=hidzd_ (HY.out _ hf)
        clear hf h1 h2 h3 h4 h5
        go_wp2
        go_ret2
        exact ⟨by rw [HF.out.1,HF.out.2];rfl,HB4.out⟩
       ·have i5:=strOf_ne _ _ h5
        have HNN:=hidzd_ (HNX.out (by cases hh:hitS e c n x s t with | false=>rfl | true=>exact absurd (hitS_iff.1 hh).2.2.2.2 h5))
        clear h1 h2 h3 h4 h5
        go_wp2
        go_roundw
        case rel=>exact ⟨j + 1,by omega,by go_num,HB4,HNN⟩
        case measure=>simp [intOf];omega
      ·have i4:=strOf_ne _ _ h4
       have HNN:=hidzd_ (HNX.out (by cases hh:hitS e c n x s t with | false=>rfl | true=>exact absurd (hitS_iff.1 hh).2.2.2.1 h4))
       clear h1 h2 h3 h4
       go_wp2
       go_roundw
       case rel=>exact ⟨j + 1,by omega,by go_num,HB4,HNN⟩
       case measure=>simp [intOf];omega
     ·have i3:((t.n:Int) == (n:Int))=false:=beq_eq_false_iff_ne.2 (by omega)
      have HNN:=hidzd_ (HNX.out (by cases hh:hitS e c n x s t with | false=>rfl | true=>exact absurd (hitS_iff.1 hh).2.2.1 h3))
      clear h1 h2 h3
      go_wp2
      go_roundw
      case rel=>exact ⟨j + 1,by omega,by go_num,HB4,HNN⟩
      case measure=>simp [intOf];omega
    ·have i2:((t.c:Int) == (c:Int))=false:=beq_eq_false_iff_ne.2 (by omega)
     have HNN:=hidzd_ (HNX.out (by cases hh:hitS e c n x s t with | false=>rfl | true=>exact absurd (hitS_iff.1 hh).2.1 h2))
     clear h1 h2
     go_wp2
     go_roundw
     case rel=>exact ⟨j + 1,by omega,by go_num,HB4,HNN⟩
     case measure=>simp [intOf];omega
   ·have i1:((t.e:Int) == (e:Int))=false:=beq_eq_false_iff_ne.2 (by omega)
    have HNN:=hidzd_ (HNX.out (by cases hh:hitS e c n x s t with | false=>rfl | true=>exact absurd (hitS_iff.1 hh).1 h1))
    clear h1
    go_wp2
    go_roundw
    case rel=>exact ⟨j + 1,by omega,by go_num,HB4,HNN⟩
    case measure=>simp [intOf];omega
  ·obtain rfl:j=L.length:=by omega
   have D1:decide ((L.length:Int) < (L.length:Int))=false:=decide_eq_false (by omega)
   have D2:decide (L.length < L.length)=false:=decide_eq_false (by omega)
   have hf:L.find? (hitS e c n x s)=none:=List.find?_eq_none.2 (fun t ht hh=>by
    obtain ⟨k,hk,e2⟩:=List.getElem_of_mem ht
    have:=HNO.out k hk hk
    rw [e2,hh] at this
    cases this)
   have HF:=hidzd_ (HNO2.out hf)
   clear hf
   go_wp2
   go_ret2
   exact ⟨by rw [HF.out.1,HF.out.2];rfl,HB.out⟩
theorem ropen_x (h:RS id g K N L w G) (hK:K.length=32) (e c n:Int) (x s:List UInt8) (hx:x.length≤100000) (hs:s.length≤100000) (hL:L.length≤100000) :
  Calls Tryz.prog 45 #[.pointer (some ⟨g,0,none⟩),.int .i64 e,.int .i64 c,.int .i64 n,.string (strOf x),.string (strOf s)] w fun r w'=>r = .returned (.tuple #[.string (strOf (oB id K L e c n x s)),.int .i64 (oE id K L e c n x s)])∧Below w.heap.size w w':=by
 have e0:(⟨#[]⟩:ByteArray)=strOf []:=rfl
 have hss:(strOf s).size=s.length:=strOf_size s
 have cr:=rright_any w e c n
 by_cases hok:slOk e c n
 ·by_cases hsh:s.length < 16
  ·have r1:oE id K L e c n x s=2:=by unfold oE;rw [if_pos hok,if_pos hsh]
   have r2:oB id K L e c n x s = []:=by unfold oB;rw [if_pos hok,if_pos hsh]
   rw [r1,r2]
   rw [decide_eq_true hok] at cr
   have d1:decide ((s.length:Int) < 16)=true:=decide_eq_true (by omega)
   have d2:decide (s.length < 16)=true:=decide_eq_true (by omega)
   clear h r1 r2 hok hx hs hL hK hsh
   go_enter Tryz.func45,Tryz.ntmps45
   go_wp2_with (go_at_call 64;((with_reducible refine cr.mono ?_);clear cr;rintro r w' ⟨rfl,rfl⟩))
   go_ret2
   exact ⟨rfl,Below.refl _ _⟩
  ·have e1:oE id K L e c n x s=(if (oT id K L e.toNat c.toNat n.toNat x s).isSome then 0 else 6):=by unfold oE;rw [if_pos hok,if_neg hsh]
   have e2:oB id K L e c n x s=(oT id K L e.toNat c.toNat n.toNat x s).getD []:=by unfold oB;rw [if_pos hok,if_neg hsh]
   rw [e1,e2]
   cases id
   ·obtain ⟨m,hm⟩:∃ m,s.length=m + 16:=⟨s.length - 16,by omega⟩
    have hm2:s.length - 16=m:=by omega
    by_cases htag:tagB (sealK K e.toNat) (nonceB c.toNat n.toNat) x (s.take m)=s.drop m
    ·have e3:oT false K L e.toNat c.toNat n.toNat x s=some (streamB (sealK K e.toNat) (nonceB c.toNat n.toNat) 1 (s.take m)):=by unfold oT;rw [if_neg (by decide),hm2,if_pos htag]
     rw [e3]
     exact ropen_real h hK e c n x s hx hs hok hsh _ true (fun W=>refAOpen_yes _ _ x s x.length m W (sealK_len _ _) (nonceB_len _ _) rfl hm (by omega) (by omega) htag)
    ·have e3:oT false K L e.toNat c.toNat n.toNat x s=none:=by unfold oT;rw [if_neg (by decide),hm2,if_neg htag]
     rw [e3]
     exact ropen_real h hK e c n x s hx hs hok hsh _ false (fun W=>refAOpen_no _ _ x s x.length m W (sealK_len _ _) (nonceB_len _ _) rfl hm (by omega) (by omega) htag)
   ·have hok':=hok
    obtain ⟨⟨he1,he2⟩,hc1,hc2,hn1,hn2⟩:=hok'
    obtain ⟨e,rfl⟩:∃ k:Nat,e=(k:Int):=⟨e.toNat,by omega⟩
    obtain ⟨c,rfl⟩:∃ k:Nat,c=(k:Int):=⟨c.toNat,by omega⟩
    obtain ⟨n,rfl⟩:∃ k:Nat,n=(k:Int):=⟨n.toNat,by omega⟩
    refine ropen_ideal h e c n x s hs hL hok hsh _ _ (fun t hf=>?_) (fun hf=>?_)
    ·have e3:oT true K L ((e:Int).toNat) ((c:Int).toNat) ((n:Int).toNat) x s=some t.b:=by unfold oT;rw [if_pos rfl];show (L.find? (hitS e c n x s)).map (·.b)=some t.b;rw [hf];rfl
     rw [e3]
     exact ⟨rfl,rfl⟩
    ·have e3:oT true K L ((e:Int).toNat) ((c:Int).toNat) ((n:Int).toNat) x s=none:=by unfold oT;rw [if_pos rfl];show (L.find? (hitS e c n x s)).map (·.b)=none;rw [hf];rfl
     rw [e3]
     exact ⟨rfl,rfl⟩
 ·have r1:oE id K L e c n x s=1:=by unfold oE;rw [if_neg hok]
  have r2:oB id K L e c n x s = []:=by unfold oB;rw [if_neg hok]
  rw [r1,r2]
  rw [decide_eq_false hok] at cr
  clear h r1 r2 hok hx hs hL hK
  go_enter Tryz.func45,Tryz.ntmps45
  go_wp2_with (go_at_call 64;((with_reducible refine cr.mono ?_);clear cr;rintro r w' ⟨rfl,rfl⟩))
  go_ret2
  exact ⟨rfl,Below.refl _ _⟩
end
theorem sL_len (id:Bool) (K:List UInt8) (L:List SealV) (e c n:Int) (x b:List UInt8):(sL id K L e c n x b).length≤L.length + 1:=by
 unfold sL
 split
 ·simp
 ·omega
section
variable {id : Bool} {w0 w : World} {X : Nat → Prop} {P R : World → List Nat → Prop} {v sp nm kn g : Nat} {K : List UInt8} {N : List (List UInt8)} {L : List SealV}
theorem rblind_x {G:List Nat} (h:RS id g K N L w G) (hK:K.length=32) (name:List UInt8) (hN:N.length≤100000):Calls Tryz.prog 30 #[.pointer (some ⟨g,0,none⟩),.string (strOf name)] w fun e w'=>e = .returned (.tuple #[.string (strOf (rV id K N name)),.int .i64 (bE name)])∧Leaves (RS id g K (bN id N name) L) w G w':=by
 by_cases hbad:nmBad name
 ·refine (rblind_no w g name hbad).mono ?_
  rintro e w' ⟨rfl,rfl⟩
  refine ⟨by unfold rV bE;rw [if_pos hbad,if_pos hbad],?_⟩
  unfold bN
  rw [if_pos hbad]
  exact Leaves.below (RS.foot id g K N L) h (Below.refl _ _)
 ·cases id
  ·refine (rblind_real h hK name hbad).mono ?_
   rintro e w' ⟨rfl,hB⟩
   refine ⟨by unfold rV bE bB;rw [if_neg hbad,if_neg hbad];rfl,?_⟩
   unfold bN
   rw [if_neg hbad]
   exact Leaves.below (RS.foot false g K N L) h hB
  ·refine (rblind_ideal h hK name hbad hN).mono ?_
   rintro e w' ⟨rfl,hl⟩
   refine ⟨by unfold rV bE bB;rw [if_neg hbad,if_neg hbad];rfl,?_⟩
   unfold bN
   rw [if_neg hbad]
   exact hl
end
end Go.Proofs.YtpcbmnmgefhaaaaGreatDoor
