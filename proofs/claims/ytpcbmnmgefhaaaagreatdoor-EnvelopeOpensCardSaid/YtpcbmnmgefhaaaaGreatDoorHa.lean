import Derived.Test.YtpcbmnmgefhaaaaGreatDoorR3
import Derived.Test.YtpcbmnmgefhaaaaGreatDoorCc
import Derived.Test.YtpcbmnmgefhaaaaGreatDoorBx
import Derived.Lib.MakeNoZero
import Derived.Deep.RegionLaw
import Derived.Test.YtpcbmnmgefhaaaaGreatDoorFj
import Derived.Deep.DeepCutAuto
import Derived.Test.YtpcbmnmgefhaaaaGreatDoorDn
namespace Go.Proofs.YtpcbmnmgefhaaaaGreatDoor
set_option maxRecDepth 100000
open Go.RowKit
set_option linter.unusedVariables false
set_option linter.unusedSimpArgs false
theorem hidh_ {p:Prop} (h:p):Hid p:=h
set_option maxHeartbeats 1000000 in
theorem mul64_any (w:World):Calls Tryz.prog 147 #[.int .u64 1,.int .u64 64] w fun e w'=>e = .returned (.tuple #[.int .u64 0,.int .u64 64])∧w=w':=by
 go_enter Tryz.func147,Tryz.ntmps147
 go_wp2
 go_ret2
 exact ⟨rfl,rfl⟩
set_option maxHeartbeats 1000000 in
theorem mul_any (w:World):Calls Tryz.prog 135 #[.int .u64 1,.int .u64 64] w fun e w'=>e = .returned (.tuple #[.int .u64 0,.int .u64 64])∧w=w':=by
 have c1:=mul64_any w
 go_enter Tryz.func135,Tryz.ntmps135
 go_wp2_with (go_at_call 147;((with_reducible refine c1.mono ?_);rintro e w' ⟨rfl,rfl⟩))
 go_ret2
 exact ⟨rfl,rfl⟩
def RepS (w:World) (N:Nat) (x:UInt8) (k z:Nat) (W:World):Prop :=
 ∃ tl:List Value,Bk W N 5 ((rowOf (List.replicate k x)).toList ++ tl).toArray∧k + tl.length=z∧Below w.heap.size w W
theorem RepS.rd {w W:World} {N k z r:Nat} {x:UInt8} (h:RepS w N x k z W) (hr:r≤k):RdN W (N + 1) (some ⟨N,0,none⟩) (List.replicate r x):=by
 obtain ⟨tl,hb,hz,_⟩:=h
 intro hn
 refine ⟨N,0,rfl,by omega,hb.lt,fun j hj=>?_⟩
 have hj':j < r:=by simpa using hj
 rw [hb.cell,Nat.zero_add]
 have h1:=rowOf_at (List.replicate k x) j (by simp;omega)
 have e:(List.replicate r x).getD j 0=x:=by simp [List.getD,hj']
 have e2:(List.replicate k x).getD j 0=x:=by simp [List.getD,show j < k by omega]
 rw [e2] at h1
 rw [e,← h1]
 simp only [List.getElem?_toArray]
 rw [List.getElem?_append_left (by simp [rowOf];omega)]
 simp
theorem RepS.copied {w W W':World} {N k z r:Nat} {x:UInt8} {tl:List Value} (hz:k + tl.length=z) (hB:Below w.heap.size w W) (hr:k + r≤z) (hN:w.heap.size≤N)
  (h1:Bk W' N 5 (((rowOf (List.replicate k x)).toList ++ tl).toArray.toList.take k ++ (rowOf (List.replicate r x)).toList ++ ((rowOf (List.replicate k x)).toList ++ tl).toArray.toList.drop (k + (rowOf (List.replicate r x)).toList.length)).toArray) (hg:W.grownBy W' (some N)):RepS w N x (k + r) z W':=by
 have hl:(rowOf (List.replicate k x)).toList.length=k:=by simp [rowOf]
 have hl2:(rowOf (List.replicate r x)).toList.length=r:=by simp [rowOf]
 refine ⟨tl.drop r,?_,by rw [List.length_drop];omega,hB.grown hg hB.size (fun g hg=>by injection hg with hg;omega)⟩
 have e:(((rowOf (List.replicate k x)).toList ++ tl).toArray.toList.take k ++ (rowOf (List.replicate r x)).toList ++ ((rowOf (List.replicate k x)).toList ++ tl).toArray.toList.drop (k + (rowOf (List.replicate r x)).toList.length))=(rowOf (List.replicate (k + r) x)).toList ++ tl.drop r:=by
  rw [hl2]
  simp only [List.toList_toArray]
  rw [List.take_left' hl,List.drop_append,hl,List.drop_eq_nil_of_le (by omega),List.nil_append,show k + r - k=r by omega]
  congr 1
  simp [rowOf]
 rw [e] at h1
 exact h1
def RepR (N k r:Nat):Nat→Value→Prop
 | 0,v=>v = .int .i64 (k:Int)
 | 1,v=>v = .slice (some ⟨N,0,none⟩) 64 64
 | 2,v=>v = .int .i64 (k:Int)
 | 3,v=>v = .slice (some ⟨N,k,none⟩) (64 - k) (64 - k)
 | 4,v=>v = .slice (some ⟨N,0,none⟩) 64 64
 | 5,v=>v = .int .i64 (k:Int)
 | 6,v=>v = .slice (some ⟨N,0,none⟩) k 64
 | 7,v=>v = .int .i64 (r:Int)
 | 8,v=>v = .int .i64 ((k + r:Nat):Int)
 | 9,v=>v = .int .i64 ((k + r:Nat):Int)
 | _,_=>True
def RepJ (w:World) (N:Nat) (x:UInt8) (k r z:Nat) (D:Nat→Bool) (W:World):Prop :=
 (D 7=false→RepS w N x k z W)∧(D 7=true→RepS w N x (k + r) z W)
theorem RepJ.same {w W:World} {N k r z:Nat} {x:UInt8} {D:Nat→Bool} (h:RepJ w N x k r z D W) (i:Nat) (h7:i≠7):RepJ w N x k r z (fun j=>decide (j=i) || D j) W:=by
 have a7:=orf_ne (L:=D) (i:=i) (fun e:7=i=>h7 e.symm)
 unfold RepJ
 simp only [a7]
 exact h
theorem RepJ.copy {w W W':World} {N k r z:Nat} {x:UInt8} {D:Nat→Bool} (h:RepJ w N x k r z D W) (h2:RepS w N x (k + r) z W'):RepJ w N x k r z (fun j=>decide (j=7) || D j) W':=by
 refine ⟨fun e=>?_,fun _=>h2⟩
 simp at e
set_option maxHeartbeats 2000000 in
theorem repeat_any (w:World) (A:Option Addr) (x:UInt8) (c:Nat) (hr:Rd w w.heap.size A [x]) :
  Calls Tryz.prog 116 #[.slice A 1 c,.int .i64 64] w fun e w'=>e = .returned (.slice (some ⟨w.heap.size,0,none⟩) 64 64)∧Rd w' w'.heap.size (some ⟨w.heap.size,0,none⟩) (List.replicate 64 x)∧Below w.heap.size w w':=by
 have hb8:Tryz.prog.underlying 23=some (.slice 5):=Tryz.underlying23
 obtain ⟨cs,hrunM,hle,_⟩:=Lib.run_makeNoZero (P:=Tryz.prog) w #[3] 23 5 hb8 64 (by omega)
 have hcall:(callFunc 136 #[.int .i64 64]).run Tryz.prog w = .ok (.value (.slice (some ⟨w.heap.size,0,none⟩) 64 cs.size)) ((w.alloc (.cells cs 5)).drewN 2):=by
  rw [run_callFunc_extern Tryz.func136 (by kernel_rfl) (by kernel_rfl) (by kernel_rfl) (e:=Extern.BytealgMakeNoZero.makeNoZero #[3] #[23]) (by kernel_rfl)]
  have e:((64:Nat):Int)=64:=rfl
  rw [e] at hrunM
  rw [hrunM]
  rfl
 clear hrunM
 have cm:=mul_any w
 have i1:(64:Int)≤(cs.size:Int):=by omega
 obtain ⟨z,hz⟩:∃ z,cs.size=z:=⟨_,rfl⟩
 have S0:Hid (RepS w w.heap.size x 0 z ((w.alloc (.cells cs 5)).drewN 2)):=hidh_ ⟨cs.toList,by simpa [rowOf] using (Bk.new w 5 cs).drewN 2,by simp [hz],below_drewN ((Below.refl w.heap.size w).alloc (Nat.le_refl _) _) 2⟩
 have R0:=hidh_ (((hr.alloc (Nat.le_refl _) (.cells cs 5)).rdn (g:=w.heap.size) (Nat.le_refl _) (by simp)))
 rw [hz] at hcall i1 hle
 have hz64:64≤z:=hle
 clear hz hr hle
 go_enter Tryz.func116,Tryz.ntmps116
 go_upto_region 17 with (go_at_call 135;((with_reducible refine cm.mono ?_);rintro e w' ⟨rfl,rfl⟩))
 have hN:w.heap.size≤w.heap.size:=Nat.le_refl _
 have R1:RdN ((w.alloc (.cells cs 5)).drewN 2) w.heap.size A [x]:=R0.out
 obtain ⟨N,hNe⟩:∃ N,Hid (w.heap.size=N):=⟨_,hidh_ rfl⟩
 rw [hNe.out] at S0 R1 ⊢
 have hN':w.heap.size≤N:=by rw [hNe.out];exact Nat.le_refl _
 generalize (w.alloc (.cells cs 5)).drewN 2=W0 at *
 obtain ⟨tl,hbk,htz,hB0⟩:=S0.out
 have hf0:0 + 1≤(((rowOf (List.replicate 0 x)).toList ++ tl).toArray).size:=by simp [rowOf];omega
 go_wp2_with (refine wpList_copy8 rfl (.tmp 58) (.tmp 59) rfl N 0 64 64 rfl A 1 c rfl [x] 1 rfl (by omega) rfl N R1 5 _ hbk hf0 ?_;intro W1 k1 g1 s1;have S1:Hid (RepS w N x (0 + 1) z W1):=hidh_ (RepS.copied htz hB0 (by omega) hN' k1 g1);clear k1 g1 s1)
 clear hbk htz hB0 S0 R0 R1 hf0 cm
 go_loopw [10,11] (fun bp _ wr=>∃ k:Nat,1≤k∧k≤64∧bp = .int .i64 k∧Hid (RepS w N x k z wr)) (fun bp _ _=>64 - (intOf bp).toNat)
 case atStart=>exact ⟨1,by omega,by omega,rfl,S1⟩
 case round =>
  obtain ⟨k,hk1,hk64,rfl,HS⟩:=hrel
  by_cases hlt:k < 64
  ·have hd1:decide ((k:Int) < 64)=true:=decide_eq_true (by omega)
   have hd2:decide (k < 64)=true:=decide_eq_true hlt
   have hmn:=fun W=>run_min2 k 64 k (by omega) W
   rw [show ((64:Nat):Int)=64 from rfl] at hmn
   have hs1:∀ W,(Instr.slice 23 (.slice (some ⟨N,0,none⟩) 64 64) (some (.int .i64 (k:Int))) none none).run Tryz.prog W = .ok (.slice (some ⟨N,k,none⟩) (64 - k) (64 - k)) W:=fun W=>by
    have h:=slice_from (some ⟨N,0,none⟩) 64 64 k (by omega) W
    rw [if_neg (by omega)] at h
    have e:(⟨N,0,none⟩:Addr).add k=⟨N,k,none⟩:=by unfold Addr.add;split <;> simp_all
    rw [Option.map_some,e] at h
    exact h
   have hs2:=fun W=>slice_to (some ⟨N,0,none⟩) 64 64 (k:Int) k rfl (by omega) W
   obtain ⟨r,hr⟩:∃ r,r=Nat.min k (64 - k):=⟨_,rfl⟩
   have hr0:0 < r:=by rw [hr];show 0 < min k (64 - k);omega
   have hrk:r≤k:=by rw [hr];exact Nat.min_le_left _ _
   have hr64:k + r≤64:=by have:r≤64 - k:=by { rw [hr];exact Nat.min_le_right _ _ };omega
   have HR:=hidh_ hr
   clear hr S1
   go_upto_region 20 with fail
   refine region_byJF [67,68,69,70,71,72,73,74,75,10] (fun _=>True) (fun _ _=>True) (fun j v _=>RepR N k r j v) (fun D _ W=>RepJ w N x k r z D W) (by kernel_rfl) (by kernel_rfl) (by kernel_rfl) (by kernel_rfl) (fun j v w w' hT hr=>?_) (fun j v w hlt hj _=>?_) trivial ?_ ⟨fun _=>by obtain ⟨tl,hbk,htz,hB0⟩:=HS.out;exact ⟨tl,hbk.drew,htz,hB0.drew⟩,fun e=>Bool.noConfusion e⟩ ?_
   ·exact hr
   ·rcases j with _ | _ | _ | _ | _ | _ | _ | _ | _ | _ | j
    all_goals first
     | (exfalso;simp [dstOf] at hj;done)
     | trivial
   ·refine ⟨?_,?_,?_,?_,?_,?_,?_,?_,?_,?_,trivial⟩
    all_goals intro D a W hC hd hsz hf hv hJ hL hW K hK
    ·clear hsz
     have e1:=slot_of (a:=a) (s:=10) (v:=.int .i64 (k:Int)) (hf 10 (by kernel_rfl))
     refine step_run (wanted_none rfl) (v:=.int .i64 (k:Int)) (w':=W) ?_ (hK _ _ hC trivial rfl (hJ.same 0 (by decide)))
     go_simp
    ·clear hsz
     have e1:=slot_of (a:=a) (s:=9) (v:=.slice (some ⟨N,0,none⟩) 64 64) (hf 9 (by kernel_rfl))
     refine step_run (wanted_none rfl) (v:=.slice (some ⟨N,0,none⟩) 64 64) (w':=W) ?_ (hK _ _ hC trivial rfl (hJ.same 1 (by decide)))
     go_simp
    ·clear hsz
     have e1:=slot_of (a:=a) (s:=10) (v:=.int .i64 (k:Int)) (hf 10 (by kernel_rfl))
     refine step_run (wanted_none rfl) (v:=.int .i64 (k:Int)) (w':=W) ?_ (hK _ _ hC trivial rfl (hJ.same 2 (by decide)))
     go_simp
    ·clear hsz
     have e1:=slot_of (a:=a) (s:=68) (v:=.slice (some ⟨N,0,none⟩) 64 64) (hv 1 (by kernel_rfl))
     have e2:=slot_of (a:=a) (s:=69) (v:=.int .i64 (k:Int)) (hv 2 (by kernel_rfl))
     have h:=hs1 W
     refine step_run (wanted_none rfl) (v:=.slice (some ⟨N,k,none⟩) (64 - k) (64 - k)) (w':=W) ?_ (hK _ _ hC trivial rfl (hJ.same 3 (by decide)))
     go_simp
    ·clear hsz
     have e1:=slot_of (a:=a) (s:=9) (v:=.slice (some ⟨N,0,none⟩) 64 64) (hf 9 (by kernel_rfl))
     refine step_run (wanted_none rfl) (v:=.slice (some ⟨N,0,none⟩) 64 64) (w':=W) ?_ (hK _ _ hC trivial rfl (hJ.same 4 (by decide)))
     go_simp
    ·clear hsz
     have e1:=slot_of (a:=a) (s:=11) (v:=.int .i64 (k:Int)) (hf 11 (by kernel_rfl))
     refine step_run (wanted_none rfl) (v:=.int .i64 (k:Int)) (w':=W) ?_ (hK _ _ hC trivial rfl (hJ.same 5 (by decide)))
     go_simp
    ·clear hsz
     have e1:=slot_of (a:=a) (s:=71) (v:=.slice (some ⟨N,0,none⟩) 64 64) (hv 4 (by kernel_rfl))
     have e2:=slot_of (a:=a) (s:=72) (v:=.int .i64 (k:Int)) (hv 5 (by kernel_rfl))
     have h:=hs2 W
     refine step_run (wanted_none rfl) (v:=.slice (some ⟨N,0,none⟩) k 64) (w':=W) ?_ (hK _ _ hC trivial rfl (hJ.same 6 (by decide)))
     go_simp
    ·clear hsz
     obtain ⟨tl,hbk,htz,hB0⟩:=hJ.1 hL
     have hfit:k + r≤(((rowOf (List.replicate k x)).toList ++ tl).toArray).size:=by simp [rowOf];omega
     refine step_copy8 rfl (.tmp 70) (.tmp 73) rfl N k (64 - k) (64 - k) (eval_of (hv 3 (by kernel_rfl))) (some ⟨N,0,none⟩) k 64 (eval_of (hv 6 (by kernel_rfl))) (List.replicate r x) r (by simp) hr0 HR.out (N + 1) (RepS.rd (hJ.1 hL) hrk) 5 _ hbk hfit ?_
     intro W1 k1 g1 s1
     exact hK _ _ trivial trivial rfl (hJ.copy (RepS.copied htz hB0 (by omega) hN' k1 g1))
    ·clear hsz
     have e1:=slot_of (a:=a) (s:=67) (v:=.int .i64 (k:Int)) (hv 0 (by kernel_rfl))
     have e2:=slot_of (a:=a) (s:=74) (v:=.int .i64 (r:Int)) (hv 7 (by kernel_rfl))
     have hw:IntKind.i64.wrap ((k:Int) + (r:Int))=((k + r:Nat):Int):=by rw [IntWalk.i64_in _ (by omega)];omega
     refine step_run (wanted_none rfl) (v:=.int .i64 ((k + r:Nat):Int)) (w':=W) ?_ (hK _ _ hC trivial rfl (hJ.same 8 (by decide)))
     go_simp
    ·clear hsz
     have e1:=slot_of (a:=a) (s:=75) (v:=.int .i64 ((k + r:Nat):Int)) (hv 8 (by kernel_rfl))
     refine step_run (wanted_none rfl) (v:=.int .i64 ((k + r:Nat):Int)) (w':=W) ?_ (hK _ _ hC trivial rfl (hJ.same 9 (by decide)))
     go_simp
   ·intro f w6 hC6 hv6 D6 hD6 hJ6
    obtain ⟨a6,hJ,-⟩:=hJ6
    have S1:Hid (RepS w N x (k + r) z w6):=hidh_ (hJ.2 (hD6 7 (by decide)))
    have e10:f 10 = .int .i64 ((k + r:Nat):Int):=hv6 9 (by decide)
    simp only [framed,List.foldl_cons,List.foldl_nil,List.setIfInBounds_toArray,List.set_cons_succ,List.set_cons_zero]
    rw [e10]
    clear hv6 hD6 hJ hC6
    go_wp2
    go_roundw
    case rel=>exact ⟨k + r,by omega,by omega,rfl,S1⟩
    case measure=>simp [intOf];omega
  ·have hd1:decide ((k:Int) < 64)=false:=decide_eq_false (by omega)
   have hd2:decide (k < 64)=false:=decide_eq_false hlt
   have hk:k=64:=by omega
   have HF:Hid (RepS w N x 64 z wr):=by rw [← hk];exact HS
   clear hk
   go_wp2
   go_ret
   obtain ⟨tl,hbk,htz,hB0⟩:=HF.out
   show _∧_∧_
   rw [hNe.out]
   refine ⟨rfl,fun hn=>?_,hNe.out ▸ hB0⟩
   obtain ⟨b,off,e,_,hlt2,hc⟩:=HF.out.rd (r:=64) (by omega) hn
   exact ⟨b,off,e,hlt2,hc⟩
end Go.Proofs.YtpcbmnmgefhaaaaGreatDoor
