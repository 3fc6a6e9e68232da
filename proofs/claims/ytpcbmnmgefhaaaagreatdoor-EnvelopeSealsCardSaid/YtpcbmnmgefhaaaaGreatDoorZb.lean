import Derived.Test.YtpcbmnmgefhaaaaGreatDoorZt
import Derived.Test.YtpcbmnmgefhaaaaGreatDoorK7K
import Derived.Test.YtpcbmnmgefhaaaaGreatDoorHM
import Derived.Test.YtpcbmnmgefhaaaaGreatDoorEe
namespace Go.Proofs.YtpcbmnmgefhaaaaGreatDoor
set_option maxRecDepth 100000
open Go.ChangeShapes Go.WideShapes Go.ChangeAt Go.RowKit
set_option linter.unusedVariables false
set_option linter.unusedSimpArgs false
theorem hidzb_ {p:Prop} (h:p):Hid p:=h
def RdR (g:Nat) (K No o8 Sm:List UInt8) (ord n:Nat):Nat→Value→World→Prop
 | 0,u,_=>u = .int .i64 (ord:Int)
 | 1,u,_=>u = .int .u64 (ord:Int)
 | 2,u,_=>u = .string (strOf o8)
 | 3,u,_=>u = .string (strOf K)
 | 4,u,_=>u = .string (strOf No)
 | 5,u,_=>u = .int .i64 ((n:Int) + 8)
 | 6,u,_=>u = .int .i64 (n:Int)
 | 7,u,W=>∃ q,u = .slice (some ⟨q,0,none⟩) n n∧Rd W W.heap.size (some ⟨q,0,none⟩) (zbytes n)
 | 8,u,_=>u = .string (strOf (zbytes n))
 | 9,u,_=>u = .string (strOf Sm)
 | 10,u,_=>u = .string (strOf (o8 ++ Sm))
 | 11,u,_=>u = .string (strOf (o8 ++ Sm))
 | _,_,_=>True
theorem RdR.stable {g:Nat} {K No o8 Sm:List UInt8} {ord n:Nat} {W W':World} (hT:Below W.heap.size W W'):∀ (j:Nat) (u:Value),RdR g K No o8 Sm ord n j u W→RdR g K No o8 Sm ord n j u W'
 | 0,_,h=>h
 | 1,_,h=>h
 | 2,_,h=>h
 | 3,_,h=>h
 | 4,_,h=>h
 | 5,_,h=>h
 | 6,_,h=>h
 | 7,_,⟨q,e,h⟩=>⟨q,e,(h.below hT).more hT.size⟩
 | 8,_,h=>h
 | 9,_,h=>h
 | 10,_,h=>h
 | 11,_,h=>h
 | _ + 12,_,_=>trivial
set_option maxHeartbeats 4000000 in
theorem rdraw_any (w:World) (K:List UInt8) (hK:K.length=32) (kind ord n:Nat) (hk:kind≤1) (ho:ord≤4611686018427387904) (hn:n≤1000000) :
  Calls Tryz.prog 63 #[.string (strOf K),.int .i64 (kind:Int),.int .i64 (ord:Int),.int .i64 ((n:Int) + 8)] w fun e w'=>e = .returned (.string (strOf (drawB K kind ord n)))∧Below w.heap.size w w':=by
 have hw1:IntKind.u64.wrap (kind:Int)=(kind:Int):=IntWalk.u64_in _ (by omega)
 have hw2:IntKind.u64.wrap (ord:Int)=(ord:Int):=IntWalk.u64_in _ (by omega)
 have hw3:IntKind.i64.wrap ((n:Int) + 8 - 8)=(n:Int):=by
  have:(n:Int) + 8 - 8=(n:Int):=by omega
  rw [this];exact IntWalk.i64_in _ (by omega)
 have hw4:(n:Int) + 8 - 8=(n:Int):=by omega
 have c1:∀ W:World,Calls Tryz.prog 77 #[.int .u64 (kind:Int),.int .i64 4,.bool true] W fun e w'=>e = .returned (.string (strOf (highB 4 kind)))∧Below W.heap.size W w':=fun W=>refPut_any kind 4 4 true (by omega) (by omega) (by omega) (by omega) W
 have c2:∀ W:World,Calls Tryz.prog 77 #[.int .u64 (ord:Int),.int .i64 8,.bool true] W fun e w'=>e = .returned (.string (strOf (highB 8 ord)))∧Below W.heap.size W w':=fun W=>refPut_any ord 8 8 true (by omega) (by omega) (by omega) (by omega) W
 have hst:=fun W=>refStream_any K (nonceB kind ord) 0 n (zbytes n) W hK (nonceB_len _ _) ok32_zeroq (zbytes_len n) hn
 have a1:strOf (highB 4 kind) ++ strOf (highB 8 ord)=strOf (nonceB kind ord):=strOf_append _ _
 have b1:(strOf (highB 4 kind)).size + (strOf (highB 8 ord)).size≤9223372036854775807:=by rw [strOf_size,strOf_size,highB_len,highB_len];omega
 have HD:=hidzb_ (show highB 8 ord ++ streamB K (nonceB kind ord) 0 (zbytes n)=drawB K kind ord n from rfl)
 have O8L:=hidzb_ (highB_len 8 ord)
 have SL:=hidzb_ (show (streamB K (nonceB kind ord) 0 (zbytes n)).length=n by rw [streamB_len,zbytes_len])
 have HN:=hidzb_ hn
 have W3:=hidzb_ hw3
 have W4:=hidzb_ hw4
 have W2:=hidzb_ hw2
 generalize streamB K (nonceB kind ord) 0 (zbytes n)=Sm at *
 generalize nonceB kind ord=No at *
 generalize highB 8 ord=o8 at *
 generalize highB 4 kind=o4 at *
 clear hK hk ho hn
 obtain ⟨K0,hK0⟩:∃ D,K=D:=⟨_,rfl⟩
 rw [hK0] at hst HD ⊢
 clear hK0
 go_enter Tryz.func63,Tryz.ntmps63
 go_upto_region 2 with (first
  | (go_at_call 77;((with_reducible refine (c1 _).mono ?_);rintro e w1 ⟨rfl,hb⟩;have B1:=hidzb_ hb;clear hb))
  | (go_at_call 77;((with_reducible refine (c2 _).mono ?_);rintro e w2 ⟨rfl,hb⟩;have B2:=hidzb_ (B1.out.trans (hb.mono B1.out.size));clear hb)))
 rename_i K9 hK9
 obtain ⟨g,hg⟩:∃ g,w2.heap.size=g:=⟨_,rfl⟩
 have G:=hidzb_ hg
 have C2:=hidzb_ c2
 have CS:=hidzb_ hst
 clear c1 c2 hst a1 b1 hw1 hw2 hw3 hw4 hg
 refine region_byF [17,18,19,20,21,22,23,24,25,26,27,8] (fun W=>Below g w2 W) (fun W W'=>Below W.heap.size W W') (RdR g K0 No o8 Sm ord n) (by kernel_rfl) (by kernel_rfl) (by kernel_rfl) (by kernel_rfl) (fun j v w w' hT hr=>?_) (fun j v w hlt hj _=>?_) (by rw [← G.out];exact (Below.refl _ _).drew) ?_ ?_
 ·exact RdR.stable hT j v hr
 ·rcases j with _ | _ | _ | _ | _ | _ | _ | _ | _ | _ | _ | _ | j
  all_goals first
   | (exfalso;simp [dstOf] at hj;done)
   | trivial
 ·refine ⟨fun a W hC hd hf hv K hK=>?_,fun a W hC hd hf hv K hK=>?_,fun a W hC hd hf hv K hK=>?_,fun a W hC hd hf hv K hK=>?_,fun a W hC hd hf hv K hK=>?_,fun a W hC hd hf hv K hK=>?_,fun a W hC hd hf hv K hK=>?_,fun a W hC hd hf hv K hK=>?_,fun a W hC hd hf hv K hK=>?_,fun a W hC hd hf hv K hK=>?_,fun a W hC hd hf hv K hK=>?_,fun a W hC hd hf hv K hK=>?_,trivial⟩
  ·have e1:=slot_of (a:=a) (s:=2) (v:=.int .i64 (ord:Int)) (hf 2 (by kernel_rfl))
   refine step_run (wanted_none rfl) (v:=.int .i64 (ord:Int)) (w':=W) ?_ (hK _ _ hC (Below.refl _ _) rfl)
   go_simp
  ·have e1:=slot_of (a:=a) (s:=17) (v:=.int .i64 (ord:Int)) (hv 0 (by kernel_rfl))
   have q:=W2.out
   refine step_run (wanted_none rfl) (v:=.int .u64 (ord:Int)) (w':=W) ?_ (hK _ _ hC (Below.refl _ _) rfl)
   go_simp
  ·have e1:=slot_of (a:=a) (s:=18) (v:=.int .u64 (ord:Int)) (hv 1 (by kernel_rfl))
   have cc:=C2.out W
   refine step_callx 77 #[.int .u64 (ord:Int),.int .i64 8,.bool true] (wanted_none rfl) (w':=W) ?_ (cc.mono fun e W2 hh=>?_)
   ·go_simp
   ·obtain ⟨rfl,hb⟩:=hh
    exact ⟨_,rfl,hK _ _ (hC.trans (hb.mono (G.out ▸ hC.size))) hb rfl⟩
  ·have e1:=slot_of (a:=a) (s:=0) (v:=.string (strOf K0)) (hf 0 (by kernel_rfl))
   refine step_run (wanted_none rfl) (v:=.string (strOf K0)) (w':=W) ?_ (hK _ _ hC (Below.refl _ _) rfl)
   go_simp
  ·have e1:=slot_of (a:=a) (s:=9) (v:=.string (strOf No)) (hf 9 (by kernel_rfl))
   refine step_run (wanted_none rfl) (v:=.string (strOf No)) (w':=W) ?_ (hK _ _ hC (Below.refl _ _) rfl)
   go_simp
  ·have e1:=slot_of (a:=a) (s:=3) (v:=.int .i64 ((n:Int) + 8)) (hf 3 (by kernel_rfl))
   refine step_run (wanted_none rfl) (v:=.int .i64 ((n:Int) + 8)) (w':=W) ?_ (hK _ _ hC (Below.refl _ _) rfl)
   go_simp
  ·have e1:=slot_of (a:=a) (s:=22) (v:=.int .i64 ((n:Int) + 8)) (hv 5 (by kernel_rfl))
   have q:=W3.out
   have q2:=W4.out
   rw [q2] at q
   refine step_run (wanted_none rfl) (v:=.int .i64 (n:Int)) (w':=W) ?_ (hK _ _ hC (Below.refl _ _) rfl)
   go_simp
  ·have e1:=slot_of (a:=a) (s:=23) (v:=.int .i64 (n:Int)) (hv 6 (by kernel_rfl))
   have hm:(Instr.makeSlice 23 (.int .i64 (n:Int)) (.int .i64 (n:Int))).run Tryz.prog W = .ok (.slice (some ⟨W.heap.size,0,none⟩) n n) (W.alloc (.cells (rowOf (zbytes n)) 5)):=mk8 n (by have:=HN.out;omega) W
   have hbl:=(Below.refl W.heap.size W).alloc (Nat.le_refl _) (.cells (rowOf (zbytes n)) 5)
   refine step_run (wanted_none rfl) (v:=.slice (some ⟨W.heap.size,0,none⟩) n n) (w':=W.alloc (.cells (rowOf (zbytes n)) 5)) ?_ (hK _ _ (hC.trans (hbl.mono (G.out ▸ hC.size))) hbl ⟨W.heap.size,rfl,(Blk8.new W (zbytes n)).rd (by simp)⟩)
   go_simp
  ·obtain ⟨q,eq,hq⟩:∃ q,a.tmps.getD 24 undef = .slice (some ⟨q,0,none⟩) n n∧Rd W W.heap.size (some ⟨q,0,none⟩) (zbytes n):=hv 7 (by kernel_rfl)
   have e1:=slot_of (a:=a) (s:=24) eq
   have cv:=conv_strn hq n n (zbytes_len n)
   refine step_run (wanted_none rfl) (v:=.string (strOf (zbytes n))) (w':=W) ?_ (hK _ _ hC (Below.refl _ _) rfl)
   go_simp
  ·have e1:=slot_of (a:=a) (s:=20) (v:=.string (strOf K0)) (hv 3 (by kernel_rfl))
   have e2:=slot_of (a:=a) (s:=21) (v:=.string (strOf No)) (hv 4 (by kernel_rfl))
   have e3:=slot_of (a:=a) (s:=25) (v:=.string (strOf (zbytes n))) (hv 8 (by kernel_rfl))
   have cc:=CS.out W
   refine step_callx 91 #[.string (strOf K0),.int .u32 0,.string (strOf No),.string (strOf (zbytes n))] (wanted_none rfl) (w':=W) ?_ (cc.mono fun e W2 hh=>?_)
   ·go_simp
   ·obtain ⟨rfl,hb⟩:=hh
    exact ⟨_,rfl,hK _ _ (hC.trans (hb.mono (G.out ▸ hC.size))) hb rfl⟩
  ·have e1:=slot_of (a:=a) (s:=19) (v:=.string (strOf o8)) (hv 2 (by kernel_rfl))
   have e2:=slot_of (a:=a) (s:=26) (v:=.string (strOf Sm)) (hv 9 (by kernel_rfl))
   have a3:=strOf_append o8 Sm
   have b3:(strOf o8).size + (strOf Sm).size≤9223372036854775807:=by rw [strOf_size,strOf_size,O8L.out,SL.out];have:=HN.out;omega
   refine step_run (wanted_none rfl) (v:=.string (strOf (o8 ++ Sm))) (w':=W) ?_ (hK _ _ hC (Below.refl _ _) rfl)
   go_simp
  ·have e1:=slot_of (a:=a) (s:=27) (v:=.string (strOf (o8 ++ Sm))) (hv 10 (by kernel_rfl))
   refine step_run (wanted_none rfl) (v:=.string (strOf (o8 ++ Sm))) (w':=W) ?_ (hK _ _ hC (Below.refl _ _) rfl)
   go_simp
 ·intro f w7 hC7 hv7
  have e8:f 8 = .string (strOf (o8 ++ Sm)):=hv7 11 (by decide)
  have HB:=hidzb_ hC7
  simp only [framed,List.foldl_cons,List.foldl_nil,List.setIfInBounds_toArray,List.set_cons_succ,List.set_cons_zero]
  rw [e8]
  clear hv7 hC7
  refine hK9 _ _ ?_
  go_wp2
  go_ret
  exact ⟨by rw [HD.out];rfl,B2.out.trans (HB.out.mono (by rw [← G.out];exact B2.out.size))⟩
set_option maxHeartbeats 1000000 in
theorem rright_any (w:World) (e c n:Int):Calls Tryz.prog 64 #[.int .i64 e,.int .i64 c,.int .i64 n] w fun r w'=>r = .returned (.bool (decide (slOk e c n)))∧w=w':=by
 have c1:=refEpoch_any w e _ rfl
 have c2:=refClient_any w c
 have c3:=refCounter_any w n
 by_cases h1:1≤e∧e≤1048576
 ·by_cases h2:clientB c=true
  ·have hq:decide (slOk e c n)=counterB n:=by
    have h3:=nonceOk_iff c n
    rw [h2,Bool.true_and] at h3
    unfold slOk
    cases h4:counterB n with
    | true=>exact decide_eq_true ⟨h1,h3.1 h4⟩
    | false=>exact decide_eq_false (fun hh=>by rw [h3.2 hh.2] at h4;cases h4)
   rw [hq]
   rw [decide_eq_true h1] at c1
   rw [h2] at c2
   clear hq h1 h2
   go_enter Tryz.func64,Tryz.ntmps64
   go_wp2_with (first
    | (go_at_call 59;((with_reducible refine c1.mono ?_);clear c1;rintro e w' ⟨rfl,rfl⟩))
    | (go_at_call 61;((with_reducible refine c2.mono ?_);clear c2;rintro e w' ⟨rfl,rfl⟩))
    | (go_at_call 60;((with_reducible refine c3.mono ?_);clear c3;rintro e w' ⟨rfl,rfl⟩)))
   go_ret
   exact ⟨rfl,rfl⟩
  ·have h2:clientB c=false:=by simpa using h2
   have hq:decide (slOk e c n)=false:=decide_eq_false (fun hh=>by
    have h3:=(nonceOk_iff c n).2 hh.2
    rw [h2] at h3
    cases h3)
   rw [hq]
   rw [decide_eq_true h1] at c1
   rw [h2] at c2
   clear hq h1 h2
   go_enter Tryz.func64,Tryz.ntmps64
   go_wp2_with (first
    | (go_at_call 59;((with_reducible refine c1.mono ?_);clear c1;rintro e w' ⟨rfl,rfl⟩))
    | (go_at_call 61;((with_reducible refine c2.mono ?_);clear c2;rintro e w' ⟨rfl,rfl⟩)))
   go_ret
   exact ⟨rfl,rfl⟩
 ·have hq:decide (slOk e c n)=false:=decide_eq_false (fun hh=>h1 hh.1)
  rw [hq]
  rw [decide_eq_false h1] at c1
  clear hq h1
  go_enter Tryz.func64,Tryz.ntmps64
  go_wp2_with (go_at_call 59;((with_reducible refine c1.mono ?_);clear c1;rintro e w' ⟨rfl,rfl⟩))
  go_ret
  exact ⟨rfl,rfl⟩
theorem RefV.c0 {w:World} {g:Nat} {id:Bool} {K:List UInt8} {vn vl:Value} {N:List (List UInt8)} {L:List SealV} {G:List Nat} (h:RefV w g id K vn vl N L G):w.cell? ⟨g,0,none⟩=some (.bool id)∧w.cell? ⟨g,1,none⟩=some (.string (strOf K))∧w.cell? ⟨g,2,none⟩=some vn∧w.cell? ⟨g,3,none⟩=some vl:=⟨h.blk.cell 0,h.blk.cell 1,h.blk.cell 2,h.blk.cell 3⟩
def rV (id:Bool) (K:List UInt8) (N:List (List UInt8)) (name:List UInt8):List UInt8:=if nmBad name then [] else bB id K N name
section
variable {w : World} {g : Nat} {K : List UInt8} {N : List (List UInt8)} {L : List SealV} {G : List Nat}
set_option maxHeartbeats 1000000 in
theorem rblind_no (w:World) (g:Nat) (name:List UInt8) (h:nmBad name):Calls Tryz.prog 30 #[.pointer (some ⟨g,0,none⟩),.string (strOf name)] w fun e w'=>e = .returned (.tuple #[.string (strOf []),.int .i64 1])∧w=w':=by
 have hs:(strOf name).size=name.length:=strOf_size name
 have cn:=refName_any w (name.length:Int) false (by rw [decide_eq_false];unfold nmBad at h;omega)
 have e0:(⟨#[]⟩:ByteArray)=strOf []:=rfl
 clear h
 go_enter Tryz.func30,Tryz.ntmps30
 go_wp2_with (go_at_call 28;((with_reducible refine cn.mono ?_);clear cn;rintro e w' ⟨rfl,rfl⟩))
 go_ret2
 exact ⟨rfl,rfl⟩
set_option maxHeartbeats 1000000 in
theorem rblind_real (h:RS false g K N L w G) (hK:K.length=32) (name:List UInt8) (hb:¬ nmBad name):Calls Tryz.prog 30 #[.pointer (some ⟨g,0,none⟩),.string (strOf name)] w fun e w'=>e = .returned (.tuple #[.string (strOf (blindK K name)),.int .i64 0])∧Below w.heap.size w w':=by
 obtain ⟨vn,vl,h⟩:=h
 obtain ⟨c0,c1,_,_⟩:=h.c0
 have hs:(strOf name).size=name.length:=strOf_size name
 have cn:=refName_any w (name.length:Int) true (by rw [decide_eq_true];unfold nmBad at hb;omega)
 have cb:=refBlindK_any w K name hK (by unfold nmBad at hb;omega)
 clear h hb hK
 go_enter Tryz.func30,Tryz.ntmps30
 go_wp2_with (first
  | (go_at_call 28;((with_reducible refine cn.mono ?_);clear cn;rintro e w' ⟨rfl,rfl⟩))
  | (go_at_call 62;((with_reducible refine cb.mono ?_);clear cb;rintro e w2 ⟨rfl,hb⟩;have B2:=hidzb_ hb;clear hb)))
 go_ret2
 exact ⟨rfl,B2.out⟩
set_option maxHeartbeats 4000000 in
theorem rblind_ideal (h:RS true g K N L w G) (hK:K.length=32) (name:List UInt8) (hb:¬ nmBad name) (hN:N.length≤100000):Calls Tryz.prog 30 #[.pointer (some ⟨g,0,none⟩),.string (strOf name)] w fun e w'=>e = .returned (.tuple #[.string (strOf (drawB K 0 (ordN N name) 24)),.int .i64 0])∧Leaves (RS true g K (addNm N name) L) w G w':=by
 obtain ⟨vn,vl,h⟩:=h
 obtain ⟨c0,c1,c2,c3⟩:=h.c0
 have hs:(strOf name).size=name.length:=strOf_size name
 have cn:=refName_any w (name.length:Int) true (by rw [decide_eq_true];unfold nmBad at hb;omega)
 obtain ⟨A,c,rfl⟩:=OwnN.form h.names
 have HR:=hidzb_ h
 have HN:=hidzb_ hN
 have KL:=hidzb_ hK
 clear h hb hK
 go_enter Tryz.func30,Tryz.ntmps30
 go_upto_region 5 with (go_at_call 28;((with_reducible refine cn.mono ?_);clear cn;rintro e w' ⟨rfl,rfl⟩))
 go_upto_region 6 with fail
 go_loopw [6] (fun i wr=>∃ j:Nat,j≤N.length∧i = .int .i64 j∧wr=w∧Hid (∀ k,(hk:k < N.length)→k < j→N[k]≠name)) (fun i _=>N.length - (intOf i).toNat)
 case atStart=>exact ⟨0,Nat.zero_le _,rfl,rfl,hidzb_ (fun k hk h0=>by omega)⟩
 case round =>
  obtain ⟨j,hj,rfl,hwr,HNO⟩:=hrel
  subst hwr
  by_cases hlt:j < N.length
  ·have d1:decide ((j:Int) < (N.length:Int))=true:=decide_eq_true (by omega)
   have d2:decide (j < N.length)=true:=decide_eq_true hlt
   obtain ⟨gA,hA,hcell⟩:=OwnN.cells HR.out.names j hlt
   subst hA
   have t0:(0:Int)≤(j:Int):=by omega
   have tn:(j:Int) < (N.length:Int):=by omega
   by_cases he:N[j]=name
   ·have hq:=strOf_eq N[j] name he
    have hord:ordN N name=j + 1:=by
     unfold ordN
     have h1:N.idxOf name=j:=by
      have hm:name∈N:=by rw [← he];exact List.getElem_mem hlt
      have h2:=List.idxOf_lt_length_of_mem hm
      have h3:N[N.idxOf name]=name:=List.getElem_idxOf h2
      have h4:¬ N.idxOf name < j:=fun h5=>HNO.out _ h2 h5 h3
      have h6:¬ j < N.idxOf name:=fun h5=>by
       have h7:=List.not_of_lt_findIdx (p:=(· == name)) (xs:=N) (i:=j) (by simpa [List.idxOf] using h5)
       simp [he] at h7
      omega
     rw [h1]
    have hin:addNm N name=N:=by
     unfold addNm
     rw [if_pos]
     rw [← he]
     exact List.getElem_mem hlt
    have HORD:=hidzb_ hord
    have HIN:=hidzb_ hin
    have hj1:(j:Int) + 1=((j + 1:Nat):Int):=by omega
    have cd:Calls Tryz.prog 63 #[.string (strOf K),.int .i64 0,.int .i64 ((j:Int) + 1),.int .i64 32] wr fun e w'=>e = .returned (.string (strOf (drawB K 0 (j + 1) 24)))∧Below wr.heap.size wr w':=by
     rw [hj1]
     exact rdraw_any wr K KL.out 0 (j + 1) 24 (by omega) (by have:=HN.out;omega) (by omega)
    have hn100:j + 1≤100000:=by have:=HN.out;omega
    clear hord hin he hj1
    go_wp2_with (go_at_call 63;((with_reducible refine cd.mono ?_);clear cd;rintro e w2 ⟨rfl,hb⟩;have B2:=hidzb_ hb;clear hb))
    go_ret2
    exact ⟨by rw [HORD.out];rfl,by rw [HIN.out];exact Leaves.below (RS.foot true g K N L) ⟨_,_,HR.out⟩ B2.out⟩
   ·have hq:=strOf_ne N[j] name he
    have HE:=hidzb_ he
    have hn100:j + 1≤100000:=by have:=HN.out;omega
    clear he
    go_wp2
    go_roundw
    case rel=>exact ⟨j + 1,by omega,by go_num,(by first | rfl | trivial),hidzb_ (fun k hk hk1=>by
     rcases Nat.lt_or_ge k j with h1 | h1
     ·exact HNO.out k hk h1
     ·obtain rfl:k=j:=by omega
      exact HE.out)⟩
    case measure=>simp [intOf];omega
  ·obtain rfl:j=N.length:=by omega
   have d1:decide ((N.length:Int) < (N.length:Int))=false:=decide_eq_false (by omega)
   have d2:decide (N.length < N.length)=false:=decide_eq_false (by omega)
   have hnew:name∉N:=fun hm=>by
    obtain ⟨k,hk,e⟩:=List.getElem_of_mem hm
    exact HNO.out k hk hk e
   have hord:=ordN_new hnew
   have hadd:addNm N name=N ++ [name]:=by unfold addNm;rw [if_neg hnew]
   have HORD:=hidzb_ hord
   have HADD:=hidzb_ hadd
   have HNEW:=hidzb_ hnew
   obtain ⟨w1,hw1⟩:∃ w1,wr.alloc (.cells #[.string (strOf name)] 9)=w1:=⟨_,rfl⟩
   have B1:Below wr.heap.size wr w1:=by rw [← hw1];exact (Below.refl _ _).alloc (Nat.le_refl _) _
   have K1:Bk w1 wr.heap.size 9 #[.string (strOf name)]:=by rw [← hw1];exact Bk.new wr _ _
   have R1:=HR.out.below B1
   obtain ⟨v',w2,hrun,k1,k2,k3⟩:=run_appN R1.names name wr.heap.size K1 61 1 (by have:=HN.out;omega) (Nat.zero_le _)
   obtain ⟨A2,c2',hv2⟩:=OwnN.form k1
   rw [List.length_append,List.length_singleton] at hv2
   subst hv2
   have hgv:∀ b,(Value.slice A N.length c).ownBlock=some b→b≠g:=R1.gn
   have K2:Bk w2 g 64 #[.bool true,.string (strOf K),.slice A N.length c,vl]:=(k2.block g R1.blk.lt (fun e=>hgv g e.symm rfl)).trans R1.blk
   obtain ⟨w3,hw3⟩:∃ w3,w2.setCell ⟨g,2,none⟩ (.slice A2 (N.length + 1) c2')=w3:=⟨_,rfl⟩
   have K3:Bk w3 g 64 #[.bool true,.string (strOf K),.slice A2 (N.length + 1) c2',vl]:=by rw [← hw3];exact K2.set_ 2 _
   have U12:Untouched ((Value.slice A N.length c).ownBlock.toList) w1 w2:=Untouched.of_grown k2 (fun k e=>by simpa using e)
   have S2:OwnSL w2 0 vl L:=R1.sls.keep U12 (fun b e hm=>R1.nl b b (by simpa using hm) e rfl)
   have S3:OwnSL w3 0 vl L:=by rw [← hw3];exact S2.keep (F:=[g]) (Untouched.set (w:=w2) (F:=[g]) g 2 (by simp) _) (fun b e hm=>by
    obtain ⟨_,cs,hcs⟩:=tySL S2 b e
    exact bk_ne hcs K2 (by decide) (by simpa using hm))
   have N3:OwnN w3 0 (.slice A2 (N.length + 1) c2') (N ++ [name]):=by rw [← hw3];exact OwnN.keep k1 (F:=[g]) (Untouched.set (w:=w2) (F:=[g]) g 2 (by simp) _) (fun b e hm=>by
    obtain ⟨_,cs,hcs⟩:=tyN k1 b e
    exact bk_ne hcs K2 (by decide) (by simpa using hm))
   have hs12:w1.heap.size=wr.heap.size + 1:=by rw [← hw1];simp
   have hs3:w3.heap.size=w2.heap.size:=by rw [← hw3];simp
   have hs2:=k2.size
   have UU:Untouched G wr w3:=by
    refine (Untouched.of_below (F:=G) B1).trans (Grew.refl _ _) (Untouched.trans (F':=G) (Untouched.of_grown k2 (fun k e=>R1.inn k e)) (Grew.refl _ _) ?_)
    rw [← hw3]
    exact Untouched.set (w:=w2) (F:=G) g 2 R1.ing _
   have R3:RefV w3 g true K (.slice A2 (N.length + 1) c2') vl (N ++ [name]) L (G ++ (Value.slice A2 (N.length + 1) c2').ownBlock.toList) :=
    ⟨K3,N3,S3,List.mem_append_left _ R1.ing,fun b e=>List.mem_append_right _ (by simpa using e),fun b e=>List.mem_append_left _ (R1.inl b e),fun k hk=>by
     rcases List.mem_append.1 hk with h1 | h1
     ·have:=R1.hG k h1;omega
     ·exact (tyN N3 k (by simpa using h1)).1⟩
   have GR:Grew wr G (G ++ (Value.slice A2 (N.length + 1) c2').ownBlock.toList):=fun k hk=>by
    rcases List.mem_append.1 hk with h1 | h1
    ·exact .inl h1
    ·rcases k3 with e3 | e3
     ·rw [e3] at h1
      exact .inl (R1.inn k (by simpa using h1))
     ·rw [e3] at h1
      have:k=w1.heap.size:=by simpa [eq_comm] using h1
      exact .inr (by omega)
   have HR3:=hidzb_ R3
   have HU3:=hidzb_ UU
   have HG3:=hidzb_ GR
   have c21:=K2.cell 2
   have f21:=K2.frozen 2
   have HK3:=hidzb_ K3
   have kc1:=hidzb_ K1
   have cd2:∀ W,Calls Tryz.prog 63 #[.string (strOf K),.int .i64 0,.int .i64 ((N.length:Int) + 1),.int .i64 32] W fun e w'=>e = .returned (.string (strOf (drawB K 0 (N.length + 1) 24)))∧Below W.heap.size W w':=fun W=>by
    have h:=rdraw_any W K KL.out 0 (N.length + 1) 24 (by omega) (by have:=HN.out;omega) (by omega)
    rwa [show ((N.length + 1:Nat):Int)=(N.length:Int) + 1 by omega] at h
   have c11:w1.cell? ⟨g,2,none⟩=some (.slice A N.length c):=R1.blk.cell 2
   clear hnew hord hadd K1 R1 B1 K2 K3 S2 S3 N3 U12 UU R3 GR k1 k2 k3 hgv hs2 hs3 hs12 hj
   go_upto_region 11 with (at_builtin;refine wpList_appRun rfl _ (.tmp 51) (.tmp 53) rfl _ _ _ rfl rfl hrun ?_)
   rename_i K9 hK9
   have CC:Hid (∀ W,Below w3.heap.size w3 W→W.cell? ⟨g,1,none⟩=some (.string (strOf K))∧W.cell? ⟨g,2,none⟩=some (.slice A2 (N.length + 1) c2')):=hidzb_ (fun W hW=>⟨((HK3.out.below hW HK3.out.lt).cell 1),((HK3.out.below hW HK3.out.lt).cell 2)⟩)
   have CD:Hid (∀ W,Below w3.heap.size w3 W→Calls Tryz.prog 63 #[.string (strOf K),.int .i64 0,.int .i64 ((N.length:Int) + 1),.int .i64 32] W fun e w'=>e = .returned (.string (strOf (drawB K 0 (N.length + 1) 24)))∧Below w3.heap.size w3 w'):=hidzb_ (fun W hW=>(cd2 W).mono fun e W2 hh=>⟨hh.1,hW.trans (hh.2.mono hW.size)⟩)
   clear cd2 c11 c21 f21 hrun hw1 hw3 kc1 c0 c1 c2 c3
   refine region_quiet_in (C:=fun W=>Below w3.heap.size w3 W) (by kernel_rfl) (by kernel_rfl) ((Below.refl _ _).drew) ?_
   repeat (go_big_quiet_want;(first
    | (refine BigFrame.quiet_move _ rfl ?_;go_simp)
    | (refine BigFrame.quiet_assign _ rfl ?_;go_simp)
    | (refine quiet_run (.pointer (some ⟨g,0,none⟩)) ?_ ?_;(focus (intro W hW;go_simp;done));go_simp)
    | (refine quiet_run (.pointer (some ⟨g,1,none⟩)) ?_ ?_;(focus (intro W hW;go_simp;done));go_simp)
    | (refine quiet_run (.pointer (some ⟨g,2,none⟩)) ?_ ?_;(focus (intro W hW;go_simp;done));go_simp)
    | (refine quiet_run (.string (strOf K)) ?_ ?_;(focus (intro W hW;have h:=(CC.out W hW).1;go_simp;done));go_simp)
    | (refine quiet_run (.slice A2 (N.length + 1) c2') ?_ ?_;(focus (intro W hW;have h:=(CC.out W hW).2;go_simp;done));go_simp)
    | (refine quiet_run (.int .i64 ((N.length:Int) + 1)) ?_ ?_;(focus (intro W hW;go_simp;done));go_simp)
    | (refine quiet_call (.string (strOf (drawB K 0 (N.length + 1) 24))) 63 #[.string (strOf K),.int .i64 0,.int .i64 ((N.length:Int) + 1),.int .i64 32] ?_ CD.out ?_;(focus (intro W;go_simp;done));go_simp));go_big_quiet_on)
   refine wpQuiet_nil ?_
   intro w7 hw7
   have B7:=hidzb_ hw7
   clear hw7
   refine hK9 _ _ ?_
   go_wp2
   go_ret2
   exact ⟨by rw [HORD.out];rfl,by rw [HADD.out];exact ⟨_,⟨_,_,HR3.out.below B7.out⟩,HG3.out,HU3.out.thenB B7.out⟩⟩
end
end Go.Proofs.YtpcbmnmgefhaaaaGreatDoor
