import Derived.Test.YtpcbmnmgefhaaaaGreatDoorGG
import Derived.Test.YtpcbmnmgefhaaaaGreatDoorLp
import Derived.Deep.Strs
import Derived.Deep.Slices
import Derived.Test.YtpcbmnmgefhaaaaGreatDoorBr
namespace Go.Proofs.YtpcbmnmgefhaaaaGreatDoor
set_option maxRecDepth 100000
open Go.RowKit
set_option linter.unusedVariables false
set_option linter.unusedSimpArgs false
def RiF (w:World) (g:Nat) (l:List UInt8) (err:Int):Prop:=Bk w g 138 #[.string (strOf l),.int .i64 err]
theorem RiF.fail {w:World} {g:Nat} {l:List UInt8} {err:Int} (h:RiF w g l err) (e:Int):RiF (w.setCell ⟨g,1,none⟩ (.int .i64 e)) g l e∧Untouched [g] w (w.setCell ⟨g,1,none⟩ (.int .i64 e)) :=
 ⟨h.set_ 1 _,Untouched.set g 1 (by simp) _⟩
theorem RiF.less {w:World} {g:Nat} {l:List UInt8} {err:Int} (h:RiF w g l err) (m:List UInt8):RiF (w.setCell ⟨g,0,none⟩ (.string (strOf m))) g m err∧Untouched [g] w (w.setCell ⟨g,0,none⟩ (.string (strOf m))) :=
 ⟨h.set_ 0 _,Untouched.set g 0 (by simp) _⟩
theorem str_from (l:List UInt8) (n k:Nat) (hl:l.length=n) (hk:k≤n) (W:World) :
  (Instr.slice 9 (.string (strOf l)) (some (.int .i64 (k:Int))) none none).run Tryz.prog W = .ok (.string (strOf (l.drop k))) W:=by
 have hs:(strOf l).size=n:=by rw [strOf_size,hl]
 rw [run_slice_string_l W 9 (strOf l) Tryz.underlying9 .i64 (k:Int) (by omega) (by rw [hs];omega),Int.toNat_natCast,hs,strOf_mid]
 congr 3
 exact List.take_of_length_le (by rw [List.length_drop];omega)
theorem str_to (l:List UInt8) (n k:Nat) (hl:l.length=n) (hk:k≤n) (W:World) :
  (Instr.slice 9 (.string (strOf l)) none (some (.int .i64 (k:Int))) none).run Tryz.prog W = .ok (.string (strOf (l.take k))) W:=by
 have hs:(strOf l).size=n:=by rw [strOf_size,hl]
 rw [run_slice_string_h W 9 (strOf l) Tryz.underlying9 .i64 (k:Int) (by omega) (by rw [hs];omega),Int.toNat_natCast,strOf_mid]
 rfl
theorem str_mid (l:List UInt8) (n a b:Nat) (hl:l.length=n) (hab:a≤b) (hb:b≤n) (W:World) :
  (Instr.slice 9 (.string (strOf l)) (some (.int .i64 (a:Int))) (some (.int .i64 (b:Int))) none).run Tryz.prog W = .ok (.string (strOf ((l.drop a).take (b - a)))) W:=by
 have hs:(strOf l).size=n:=by rw [strOf_size,hl]
 rw [run_slice_string_if W 9 (strOf l) .i64 .i64 _ _ Tryz.underlying9,if_pos (by rw [hs];omega),if_pos (by omega),Int.toNat_natCast,Int.toNat_natCast,strOf_mid]
def RnP (w:World) (g size:Nat) (most:Int) (l:List UInt8) (e:Ending) (w':World):Prop :=
 e = .returned (.int .i64 (numS size most l 0).1)∧RiF w' g l (numS size most l 0).2.2∧Untouched [g] w w'
set_option maxHeartbeats 2000000 in
theorem refnumber_any (w:World) (g size:Nat) (most:Int) (l:List UInt8) (h:RiF w g l 0) (hs8:size≤8) (w0 : -9223372036854775808≤most) (w1:most≤9223372036854775807) :
  Calls Tryz.prog 98 #[.pointer (some ⟨g,0,none⟩),.int .i64 (size:Int),.int .i64 most] w (RnP w g size most l):=by
 obtain ⟨n,hn⟩:∃ n,l.length=n:=⟨_,rfl⟩
 have hsz:(strOf l).size=n:=by rw [strOf_size,hn]
 have hc0:=Bk.cell h 0
 have hc1:=Bk.cell h 1
 have hf1:=Bk.frozen h 1
 simp only [List.getElem?_toArray,List.getElem?_cons_zero,List.getElem?_cons_succ] at hc0 hc1
 have H:=hidg_ h
 by_cases hl:n < size
 ·have hd:decide ((n:Int) < (size:Int))=true:=decide_eq_true (by omega)
  have hd':decide (n < size)=true:=decide_eq_true hl
  have HF:=hidg_ (h.fail 3)
  have HQ:Hid (numS size most l 0=(0,l,3)):=hidg_ (numS_short (by omega))
  clear h
  go_enter Tryz.func98,Tryz.ntmps98
  go_wp2
  go_ret
  refine ⟨?_,?_,HF.out.2⟩ <;> rw [HQ.out]
  ·rfl
  ·exact HF.out.1
 ·have hd:decide ((n:Int) < (size:Int))=false:=decide_eq_false (by omega)
  have hd':decide (n < size)=false:=decide_eq_false hl
  have s1:=fun W=>str_to l n size hn (by omega) W
  obtain ⟨m,hm⟩:∃ m,Hid (l.take size=m):=⟨_,hidg_ rfl⟩
  have hml:m.length=size:=by rw [← hm.out,List.length_take];omega
  rw [hm.out] at s1
  have c1:=fun W=>refWord_high m size hml hs8 W
  have hlt:=beN_lt m
  rw [hml] at hlt
  have hpow:(256:Nat) ^ size≤256 ^ 8:=Nat.pow_le_pow_right (by decide) hs8
  have h64:(256:Nat) ^ 8=18446744073709551616:=by decide
  obtain ⟨x,hx⟩:∃ x,Hid (beN m=x):=⟨_,hidg_ rfl⟩
  have hx64:x≤18446744073709551615:=by rw [← hx.out];omega
  rw [hx.out] at c1
  have HXM:Hid (beN (l.take size)=x):=hidg_ (by rw [hm.out,hx.out])
  clear hlt hpow h64
  by_cases hneg:most < 0
  ·have hd2:decide (most < 0)=true:=decide_eq_true hneg
   have HF:=hidg_ (h.fail 5)
   have HQ:Hid (numS size most l 0=(0,l,5)):=hidg_ (numS_big (by omega) (by omega))
   clear h hn
   go_enter Tryz.func98,Tryz.ntmps98
   go_wp2_with (go_at_call 115;((with_reducible refine (c1 _).mono ?_);rintro e w' ⟨rfl,rfl⟩))
   go_ret
   refine ⟨?_,?_,HF.out.2⟩ <;> rw [HQ.out]
   ·rfl
   ·exact HF.out.1
  ·obtain ⟨p,rfl⟩:∃ p:Nat,most=(p:Int):=⟨most.toNat,by omega⟩
   have hd2:decide ((p:Int) < 0)=false:=decide_eq_false hneg
   have hwp:IntKind.u64.wrap (p:Int)=(p:Int):=IntWalk.u64_in _ (by omega)
   by_cases hbig:p < x
   ·have hd3:decide ((p:Int) < (x:Int))=true:=decide_eq_true (by omega)
    have hd4:decide (p < x)=true:=decide_eq_true hbig
    have HF:=hidg_ (h.fail 5)
    have HQ:Hid (numS size (p:Int) l 0=(0,l,5)):=hidg_ (numS_big (by omega) (by rw [HXM.out];omega))
    clear h hn
    go_enter Tryz.func98,Tryz.ntmps98
    go_wp2_with (go_at_call 115;((with_reducible refine (c1 _).mono ?_);rintro e w' ⟨rfl,rfl⟩))
    go_ret
    refine ⟨?_,?_,HF.out.2⟩ <;> rw [HQ.out]
    ·rfl
    ·exact HF.out.1
   ·have hd3:decide ((p:Int) < (x:Int))=false:=decide_eq_false (by omega)
    have hd4:decide (p < x)=false:=decide_eq_false hbig
    have hwx:IntKind.i64.wrap (x:Int)=(x:Int):=IntWalk.i64_in _ (by omega)
    have HQ:Hid (numS size (p:Int) l 0=((x:Int),l.drop size,0)):=hidg_ (by rw [numS_yes (by omega) (by rw [HXM.out];omega),HXM.out])
    clear h hn
    go_enter Tryz.func98,Tryz.ntmps98
    go_wp2_with (go_at_call 115;((with_reducible refine (c1 _).mono ?_);rintro e w' ⟨rfl,rfl⟩))
    go_ret
    refine ⟨?_,?_,Untouched.refl _ _⟩ <;> rw [HQ.out]
    ·rfl
    ·exact H.out
theorem numS_err (size:Nat) (most:Int) (l:List UInt8):(numS size most l 0).2.2≠0∧(numS size most l 0).2.1=l∨(numS size most l 0).2.2=0∧(numS size most l 0).2.1=l.drop size∧size≤l.length:=by
 unfold numS
 rw [if_neg (by decide)]
 split
 ·exact .inl ⟨by show (3:Int)≠0;decide,rfl⟩
 ·split
  ·exact .inl ⟨by show (5:Int)≠0;decide,rfl⟩
  ·exact .inr ⟨rfl,rfl,by omega⟩
def RbP (w:World) (g:Nat) (s:List UInt8) (l:List UInt8) (err:Int) (e:Ending) (w':World):Prop :=
 e = .returned (.string (strOf s))∧(∃ l',RiF w' g l' err∧(err=0→l' = l))∧Untouched [g] w w'
def bytS (most:Int) (l:List UInt8) (err:Int):List UInt8 × List UInt8 × Int:=fixS (numS 4 most l err).1 (numS 4 most l err).2.1 (numS 4 most l err).2.2
theorem numS_big32 (most:Int) (l:List UInt8) (h:(numS 4 most l 0).2.2=0):∃ k:Nat,(numS 4 most l 0).1=(k:Int)∧k≤4294967295:=by
 unfold numS at h ⊢
 rw [if_neg (by decide)] at h ⊢
 split at h
 ·cases h
 ·rename_i h1
  rw [if_neg h1]
  split at h
  ·cases h
  ·rename_i h2
   rw [if_neg h2]
   refine ⟨_,rfl,?_⟩
   have h3:=beN_lt (l.take 4)
   have h4:(l.take 4).length=4:=by rw [List.length_take];omega
   rw [h4] at h3
   have:(256:Nat) ^ 4=4294967296:=by decide
   omega
set_option maxHeartbeats 2000000 in
theorem refbytes_any (w:World) (g:Nat) (most:Int) (l:List UInt8) (err:Int) (h:RiF w g l err) (hm:err=0→l.length≤140737488355328) (w0 : -9223372036854775808≤most) (w1:most≤9223372036854775807) :
  Calls Tryz.prog 79 #[.pointer (some ⟨g,0,none⟩),.int .i64 most] w (RbP w g (bytS most l err).1 (bytS most l err).2.1 (bytS most l err).2.2):=by
 have hc1:=Bk.cell h 1
 simp only [List.getElem?_toArray,List.getElem?_cons_zero,List.getElem?_cons_succ] at hc1
 by_cases he:err=0
 case neg =>
  have hd:(err != 0)=true:=by simpa using he
  have H:=hidg_ h
  have HQ:Hid (bytS most l err=([],l,err)):=hidg_ (by unfold bytS;rw [numS_off he];exact fixS_off (.inl he))
  clear he h
  go_enter Tryz.func79,Tryz.ntmps79
  go_wp2
  go_ret
  rw [HQ.out]
  exact ⟨rfl,⟨l,H.out,fun _=>rfl⟩,Untouched.refl _ _⟩
 subst he
 have hm:=hm rfl
 have c1:Calls Tryz.prog 98 #[.pointer (some ⟨g,0,none⟩),.int .i64 4,.int .i64 most] w (RnP w g 4 most l):=refnumber_any w g 4 most l h (by omega) w0 w1
 have hcase:=numS_err 4 most l
 have h32:=numS_big32 most l
 unfold RnP at c1
 unfold bytS
 generalize numS 4 most l 0=S at *
 obtain ⟨x,l2,e2⟩:=S
 simp only at c1 hcase h32 ⊢
 rcases hcase with ⟨hne,rfl⟩ | ⟨rfl,rfl,hle⟩
 ·have hd:(e2 != 0)=true:=by simpa using hne
  have HQ:Hid (fixS x l2 e2=([],l2,e2)):=hidg_ (fixS_off (.inl hne))
  clear hne h h32
  go_enter Tryz.func79,Tryz.ntmps79
  go_wp2_with (go_at_call 98;((with_reducible refine c1.mono ?_);rintro e w' ⟨rfl,hR,hU⟩;have hcc:=Bk.cell hR 1;simp only [List.getElem?_toArray,List.getElem?_cons_zero,List.getElem?_cons_succ] at hcc;have HR:=hidg_ hR;have HU:=hidg_ hU;clear hR hU))
  go_ret
  rw [HQ.out]
  exact ⟨rfl,⟨l2,HR.out,fun _=>rfl⟩,HU.out⟩
 ·obtain ⟨k,rfl,hk⟩:=h32 rfl
  clear h32
  obtain ⟨z,hz⟩:∃ z,l.length=z:=⟨_,rfl⟩
  have hsz:(strOf l).size=z:=by rw [strOf_size,hz]
  have hz4:4≤z:=by omega
  rw [hz] at hm
  obtain ⟨y,hy⟩:∃ y,y + 4=z:=⟨z - 4,by omega⟩
  have hwy:IntKind.i64.wrap ((z:Int) - 4)=(y:Int):=by rw [IntWalk.i64_in _ (by omega)];omega
  have hdl:(l.drop 4).length=y:=by rw [List.length_drop,hz];omega
  by_cases hl:y < k
  ·have hd3:decide ((y:Int) < (k:Int))=true:=decide_eq_true (by omega)
   have hd4:decide (y < k)=true:=decide_eq_true hl
   have HQ:Hid (fixS (k:Int) (l.drop 4) 0=([],l.drop 4,3)):=hidg_ (fixS_short (by omega) (by omega))
   clear h hz hle hy hdl
   go_enter Tryz.func79,Tryz.ntmps79
   go_wp2_with (go_at_call 98;((with_reducible refine c1.mono ?_);rintro e w' ⟨rfl,hR,hU⟩;have hcc:=Bk.cell hR 1;have hc0:=Bk.cell hR 0;have hf1:=Bk.frozen hR 1;simp only [List.getElem?_toArray,List.getElem?_cons_zero,List.getElem?_cons_succ] at hcc hc0;have HR:=hidg_ (hR.fail 3);have HU:=hidg_ hU;clear hR hU))
   go_ret
   rw [HQ.out]
   exact ⟨rfl,⟨l,HR.out.1,fun e=>by cases e⟩,HU.out.trans (Grew.refl _ _) HR.out.2⟩
  ·have hd3:decide ((y:Int) < (k:Int))=false:=decide_eq_false (by omega)
   have hd4:decide (y < k)=false:=decide_eq_false hl
   obtain ⟨q,hq⟩:∃ q,4 + k=q:=⟨_,rfl⟩
   have hwq:IntKind.i64.wrap (4 + (k:Int))=(q:Int):=by rw [IntWalk.i64_in _ (by omega)];omega
   have s1:∀ W:World,(Instr.slice 9 (.string (strOf l)) (some (.int .i64 4)) (some (.int .i64 (q:Int))) none).run Tryz.prog W = .ok (.string (strOf ((l.drop 4).take k))) W:=fun W=>by
    have h1:=str_mid l z 4 q hz (by omega) (by omega) W
    rw [show q - 4=k by omega] at h1
    exact h1
   have s2:∀ W:World,(Instr.slice 9 (.string (strOf l)) (some (.int .i64 (q:Int))) none none).run Tryz.prog W = .ok (.string (strOf ((l.drop 4).drop k))) W:=fun W=>by
    have h1:=str_from l z q hz (by omega) W
    rw [List.drop_drop,hq]
    exact h1
   have HQ:Hid (fixS (k:Int) (l.drop 4) 0=((l.drop 4).take k,(l.drop 4).drop k,0)):=hidg_ (by
    by_cases hk:k=0
    ·subst hk
     rw [fixS_off (.inr (by omega))]
     rfl
    ·exact fixS_yes (by omega) (by omega))
   generalize (l.drop 4).take k=Y1 at *
   generalize (l.drop 4).drop k=Y2 at *
   clear h hz hle hy hdl hq
   go_enter Tryz.func79,Tryz.ntmps79
   go_wp2_with (go_at_call 98;((with_reducible refine c1.mono ?_);rintro e w' ⟨rfl,hR,hU⟩;have hcc:=Bk.cell hR 1;have hc0:=Bk.cell hR 0;have hf0:=Bk.frozen hR 0;simp only [List.getElem?_toArray,List.getElem?_cons_zero,List.getElem?_cons_succ] at hcc hc0;have HR:=hidg_ (hR.less Y2);have HU:=hidg_ hU;clear hR hU))
   go_ret
   rw [HQ.out]
   exact ⟨rfl,⟨Y2,HR.out.1,fun _=>rfl⟩,HU.out.trans (Grew.refl _ _) HR.out.2⟩
open Go.ChangeShapes Go.WideShapes Go.ChangeAt Go.RowKit
def numL (z:Int):List UInt8:=if z < 0 then [] else highB 8 z.toNat
set_option maxHeartbeats 1000000 in
theorem refNum_any (w:World) (z:Int) (w1:z≤9223372036854775807):Calls Tryz.prog 68 #[.int .i64 z] w fun e w'=>e = .returned (.string (strOf (numL z)))∧Below w.heap.size w w':=by
 by_cases hz:z < 0
 ·have e:numL z = []:=if_pos hz
  rw [e]
  have hd:decide (z < 0)=true:=decide_eq_true hz
  go_enter Tryz.func68,Tryz.ntmps68
  go_wp2
  go_ret
  exact ⟨rfl,Below.refl _ _⟩
 ·obtain ⟨k,rfl⟩:∃ k:Nat,z=(k:Int):=⟨z.toNat,by omega⟩
  have e:numL (k:Int)=putB true 8 k:=if_neg hz
  rw [e]
  have c1:=refPut_any k 8 8 true (by omega) (by omega) (by omega) (.inr (.inl ⟨by omega,by omega,rfl⟩)) w
  generalize putB true 8 k=s at *
  have hd:decide ((k:Int) < 0)=false:=decide_eq_false hz
  have hw:IntKind.u64.wrap (k:Int)=(k:Int):=IntWalk.u64_in _ (by omega)
  go_enter Tryz.func68,Tryz.ntmps68
  go_wp2_with (go_at_call 77;((with_reducible refine c1.mono ?_);rintro e w' ⟨rfl,hB⟩))
  go_ret
  exact ⟨rfl,hB⟩
set_option maxHeartbeats 1000000 in
theorem refBytes_any (w:World) (l:List UInt8) (n:Nat) (hn:l.length=n) (hm:n≤140737488355328):Calls Tryz.prog 43 #[.string (strOf l)] w fun e w'=>e = .returned (.string (strOf (highB 4 n ++ l)))∧Below w.heap.size w w':=by
 have c1:=refPut_any n 4 4 true (by omega) (by omega) (by omega) (.inr (.inl ⟨by omega,by omega,rfl⟩)) w
 have hw:IntKind.u64.wrap (n:Int)=(n:Int):=IntWalk.u64_in _ (by omega)
 have hsz:(strOf l).size=n:=by rw [strOf_size,hn]
 have hap:=strOf_append (highB 4 n) l
 have hs1:(strOf (highB 4 n)).size=4:=by rw [strOf_size,highB_len]
 rw [show putB true 4 n=highB 4 n from rfl] at c1
 generalize highB 4 n=s at *
 go_enter Tryz.func43,Tryz.ntmps43
 go_wp2_with (go_at_call 77;((with_reducible refine c1.mono ?_);rintro e w' ⟨rfl,hB⟩))
 go_ret
 exact ⟨rfl,hB⟩
end Go.Proofs.YtpcbmnmgefhaaaaGreatDoor
