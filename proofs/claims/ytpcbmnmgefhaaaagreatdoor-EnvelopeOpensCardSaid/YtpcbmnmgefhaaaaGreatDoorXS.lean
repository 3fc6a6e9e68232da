import Derived.Test.YtpcbmnmgefhaaaaGreatDoorXX
import Derived.Test.YtpcbmnmgefhaaaaGreatDoorZB
import Derived.Test.YtpcbmnmgefhaaaaGreatDoorZZ
import Derived.Lib.BufferWrite
namespace Go.Proofs.YtpcbmnmgefhaaaaGreatDoor
set_option maxRecDepth 100000
open Go.ChangeShapes Go.WideShapes Go.ChangeAt Go.RowKit
set_option linter.unusedVariables false
set_option linter.unusedSimpArgs false
theorem hidxs_ {p:Prop} (h:p):Hid p:=h
theorem numL_pos (z:Int) (h:0≤z):numL z=highB 8 z.toNat:=by unfold numL;rw [if_neg (by omega)]
set_option maxHeartbeats 8000000 in
theorem refBound_any (w:World) (K:List UInt8) (h:HeadV) (s:List UInt8) (hK:K.length≤1000) (hok:h.Ok):Calls Tryz.prog 32 #[.agg (rRow K h s)] w fun e w'=>e = .returned (.string (strOf (boundB K h)))∧Below w.heap.size w w':=by
 obtain ⟨g,hg⟩:∃ g,w.heap.size=g:=⟨_,rfl⟩
 obtain ⟨w1,hw1⟩:∃ W,w.alloc (.cells (rRow K h s) 36)=W:=⟨_,rfl⟩
 have B1:=hidxs_ (show Below w.heap.size w w1 by rw [← hw1];exact (Below.refl _ _).alloc (Nat.le_refl _) _)
 have R1:=hidxs_ (show Bk w1 g 36 (rRow K h s) by rw [← hw1,← hg];exact Bk.new w _ _)
 have Z:=hidxs_ (fun W (hW:Below w1.heap.size w1 W)=>rr_cells (R1.out.below hW R1.out.lt))
 obtain ⟨⟨e1,e2⟩,⟨n1,n2⟩,⟨c1,c2⟩,⟨d1,d2⟩,hp⟩:=hok
 have cN:∀ z:Int,0≤z→z≤9223372036854775807→∀ W,Below w1.heap.size w1 W→Calls Tryz.prog 68 #[.int .i64 z] W fun e w'=>e = .returned (.string (strOf (highB 8 z.toNat)))∧Below w1.heap.size w1 w':=fun z h0 h1 W hW=>by
  have c:=refNum_any W z h1
  rw [numL_pos z h0] at c
  exact c.mono fun e w' ⟨a,b⟩=>⟨a,hW.trans (b.mono hW.size)⟩
 have cB:∀ W,Below w1.heap.size w1 W→Calls Tryz.prog 43 #[.string (strOf h.pl)] W fun e w'=>e = .returned (.string (strOf (highB 4 h.pl.length ++ h.pl)))∧Below w1.heap.size w1 w':=fun W hW=>(refBytes_any W h.pl h.pl.length rfl (by omega)).mono fun e w' ⟨a,b⟩=>⟨a,hW.trans (b.mono hW.size)⟩
 have C1:=hidxs_ (cN h.e (by omega) (by omega))
 have C2:=hidxs_ (cN h.n (by omega) (by omega))
 have C3:=hidxs_ (cN h.c (by omega) (by omega))
 have C4:=hidxs_ (cN h.d (by omega) (by omega))
 have C5:=hidxs_ cB
 have e0:boundB K h=K ++ highB 8 h.e.toNat ++ highB 8 h.n.toNat ++ highB 8 h.c.toNat ++ highB 8 h.d.toNat ++ (highB 4 h.pl.length ++ h.pl):=by unfold boundB;rw [List.append_assoc _ (highB 4 h.pl.length)]
 rw [e0]
 have l5:(highB 4 h.pl.length ++ h.pl).length≤4100:=by rw [List.length_append,highB_len];omega
 have l1:(highB 8 h.e.toNat).length=8:=highB_len ..
 have l2:(highB 8 h.n.toNat).length=8:=highB_len ..
 have l3:(highB 8 h.c.toNat).length=8:=highB_len ..
 have l4:(highB 8 h.d.toNat).length=8:=highB_len ..
 generalize highB 4 h.pl.length ++ h.pl=N5 at *
 generalize highB 8 h.e.toNat=N1 at *
 generalize highB 8 h.n.toNat=N2 at *
 generalize highB 8 h.c.toNat=N3 at *
 generalize highB 8 h.d.toNat=N4 at *
 obtain ⟨t1,ht1⟩:∃ t,K ++ N1=t:=⟨_,rfl⟩
 obtain ⟨t2,ht2⟩:∃ t,t1 ++ N2=t:=⟨_,rfl⟩
 obtain ⟨t3,ht3⟩:∃ t,t2 ++ N3=t:=⟨_,rfl⟩
 obtain ⟨t4,ht4⟩:∃ t,t3 ++ N4=t:=⟨_,rfl⟩
 obtain ⟨t5,ht5⟩:∃ t,t4 ++ N5=t:=⟨_,rfl⟩
 rw [ht1,ht2,ht3,ht4,ht5]
 have a1:=strOf_append K N1
 have a2:=strOf_append t1 N2
 have a3:=strOf_append t2 N3
 have a4:=strOf_append t3 N4
 have a5:=strOf_append t4 N5
 rw [ht1] at a1
 rw [ht2] at a2
 rw [ht3] at a3
 rw [ht4] at a4
 rw [ht5] at a5
 have m1:t1.length≤1008:=by rw [← ht1,List.length_append];omega
 have m2:t2.length≤1016:=by rw [← ht2,List.length_append];omega
 have m3:t3.length≤1024:=by rw [← ht3,List.length_append];omega
 have m4:t4.length≤1032:=by rw [← ht4,List.length_append];omega
 have b1:(strOf K).size + (strOf N1).size≤9223372036854775807:=by rw [strOf_size,strOf_size];omega
 have b2:(strOf t1).size + (strOf N2).size≤9223372036854775807:=by rw [strOf_size,strOf_size];omega
 have b3:(strOf t2).size + (strOf N3).size≤9223372036854775807:=by rw [strOf_size,strOf_size];omega
 have b4:(strOf t3).size + (strOf N4).size≤9223372036854775807:=by rw [strOf_size,strOf_size];omega
 have b5:(strOf t4).size + (strOf N5).size≤9223372036854775807:=by rw [strOf_size,strOf_size];omega
 clear e0 ht1 ht2 ht3 ht4 ht5 l1 l2 l3 l4 l5 m1 m2 m3 m4 cN cB R1
 go_enter Tryz.func32,Tryz.ntmps32
 go_upto_region 1 with fail
 rename_i K9 hK9
 refine region_quiet_in (C:=fun W=>Below w1.heap.size w1 W) (by kernel_rfl) (by kernel_rfl) ((Below.refl _ _).drew) ?_
 (repeat go_big_quiet_skip);(go_big_quiet_want;(refine quiet_run (.pointer (some ⟨g,0,none⟩)) ?_ ?_;(focus (intro W hW;go_simp;done));go_simp);go_big_quiet_on)
 (repeat go_big_quiet_skip);(go_big_quiet_want;(refine quiet_run (.string (strOf K)) ?_ ?_;(focus (intro W hW;obtain ⟨k0,k1,k2,k3,k4,k5,k6⟩:=Z.out W hW;go_simp;done));go_simp);go_big_quiet_on)
 (repeat go_big_quiet_skip);(go_big_quiet_want;(refine quiet_run (.pointer (some ⟨g,1,none⟩)) ?_ ?_;(focus (intro W hW;go_simp;done));go_simp);go_big_quiet_on)
 (repeat go_big_quiet_skip);(go_big_quiet_want;(refine quiet_run (.int .i64 h.e) ?_ ?_;(focus (intro W hW;obtain ⟨k0,k1,k2,k3,k4,k5,k6⟩:=Z.out W hW;go_simp;done));go_simp);go_big_quiet_on)
 (repeat go_big_quiet_skip);(go_big_quiet_want;(refine quiet_call (.string (strOf N1)) 68 #[.int .i64 h.e] ?_ C1.out ?_;(focus (intro W;go_simp;done));go_simp);go_big_quiet_on)
 (repeat go_big_quiet_skip);(go_big_quiet_want;(refine quiet_run (.string (strOf t1)) ?_ ?_;(focus (intro W hW;go_simp;done));go_simp);go_big_quiet_on)
 (repeat go_big_quiet_skip);(go_big_quiet_want;(refine quiet_run (.pointer (some ⟨g,2,none⟩)) ?_ ?_;(focus (intro W hW;go_simp;done));go_simp);go_big_quiet_on)
 (repeat go_big_quiet_skip);(go_big_quiet_want;(refine quiet_run (.int .i64 h.n) ?_ ?_;(focus (intro W hW;obtain ⟨k0,k1,k2,k3,k4,k5,k6⟩:=Z.out W hW;go_simp;done));go_simp);go_big_quiet_on)
 (repeat go_big_quiet_skip);(go_big_quiet_want;(refine quiet_call (.string (strOf N2)) 68 #[.int .i64 h.n] ?_ C2.out ?_;(focus (intro W;go_simp;done));go_simp);go_big_quiet_on)
 (repeat go_big_quiet_skip);(go_big_quiet_want;(refine quiet_run (.string (strOf t2)) ?_ ?_;(focus (intro W hW;go_simp;done));go_simp);go_big_quiet_on)
 (repeat go_big_quiet_skip);(go_big_quiet_want;(refine quiet_run (.pointer (some ⟨g,3,none⟩)) ?_ ?_;(focus (intro W hW;go_simp;done));go_simp);go_big_quiet_on)
 (repeat go_big_quiet_skip);(go_big_quiet_want;(refine quiet_run (.pointer (some ⟨g,3,none⟩)) ?_ ?_;(focus (intro W hW;go_simp;done));go_simp);go_big_quiet_on)
 (repeat go_big_quiet_skip);(go_big_quiet_want;(refine quiet_run (.int .i64 h.c) ?_ ?_;(focus (intro W hW;obtain ⟨k0,k1,k2,k3,k4,k5,k6⟩:=Z.out W hW;go_simp;done));go_simp);go_big_quiet_on)
 (repeat go_big_quiet_skip);(go_big_quiet_want;(refine quiet_call (.string (strOf N3)) 68 #[.int .i64 h.c] ?_ C3.out ?_;(focus (intro W;go_simp;done));go_simp);go_big_quiet_on)
 (repeat go_big_quiet_skip);(go_big_quiet_want;(refine quiet_run (.string (strOf t3)) ?_ ?_;(focus (intro W hW;go_simp;done));go_simp);go_big_quiet_on)
 (repeat go_big_quiet_skip);(go_big_quiet_want;(refine quiet_run (.pointer (some ⟨g,3,none⟩)) ?_ ?_;(focus (intro W hW;go_simp;done));go_simp);go_big_quiet_on)
 (repeat go_big_quiet_skip);(go_big_quiet_want;(refine quiet_run (.pointer (some ⟨g,4,none⟩)) ?_ ?_;(focus (intro W hW;go_simp;done));go_simp);go_big_quiet_on)
 (repeat go_big_quiet_skip);(go_big_quiet_want;(refine quiet_run (.int .i64 h.d) ?_ ?_;(focus (intro W hW;obtain ⟨k0,k1,k2,k3,k4,k5,k6⟩:=Z.out W hW;go_simp;done));go_simp);go_big_quiet_on)
 (repeat go_big_quiet_skip);(go_big_quiet_want;(refine quiet_call (.string (strOf N4)) 68 #[.int .i64 h.d] ?_ C4.out ?_;(focus (intro W;go_simp;done));go_simp);go_big_quiet_on)
 (repeat go_big_quiet_skip);(go_big_quiet_want;(refine quiet_run (.string (strOf t4)) ?_ ?_;(focus (intro W hW;go_simp;done));go_simp);go_big_quiet_on)
 (repeat go_big_quiet_skip);(go_big_quiet_want;(refine quiet_run (.pointer (some ⟨g,5,none⟩)) ?_ ?_;(focus (intro W hW;go_simp;done));go_simp);go_big_quiet_on)
 (repeat go_big_quiet_skip);(go_big_quiet_want;(refine quiet_run (.string (strOf h.pl)) ?_ ?_;(focus (intro W hW;obtain ⟨k0,k1,k2,k3,k4,k5,k6⟩:=Z.out W hW;go_simp;done));go_simp);go_big_quiet_on)
 (repeat go_big_quiet_skip);(go_big_quiet_want;(refine quiet_call (.string (strOf N5)) 43 #[.string (strOf h.pl)] ?_ C5.out ?_;(focus (intro W;go_simp;done));go_simp);go_big_quiet_on)
 (repeat go_big_quiet_skip);(go_big_quiet_want;(refine quiet_run (.string (strOf t5)) ?_ ?_;(focus (intro W hW;go_simp;done));go_simp);go_big_quiet_on)
 (repeat go_big_quiet_skip);(go_big_quiet_want;(refine BigFrame.quiet_assign _ rfl ?_;go_simp);go_big_quiet_on)
 refine wpQuiet_nil ?_
 intro w2 hw2
 have X2:=hidxs_ (B1.out.trans (hw2.mono B1.out.size))
 clear hw2
 refine hK9 _ _ ?_
 go_wp2
 go_ret
 exact ⟨rfl,X2.out⟩
def FlX (i0:Nat) (P Q:World→Prop) (D:Nat→Bool) (W:World):Prop:=(D i0=false→P W)∧(D i0=true→Q W)
theorem FlX.move {i0:Nat} {P Q:World→Prop} {D:Nat→Bool} {W W':World} (h:FlX i0 P Q D W) (i:Nat) (hi:i0≠i) (hP:P W→P W') (hQ:Q W→Q W'):FlX i0 P Q (fun j=>decide (j=i) || D j) W':=by
 have e:=orf_ne (L:=D) hi
 unfold FlX
 simp only [e]
 exact ⟨fun x=>hP (h.1 x),fun x=>hQ (h.2 x)⟩
theorem FlX.same {i0:Nat} {P Q:World→Prop} {D:Nat→Bool} {W:World} (h:FlX i0 P Q D W) (i:Nat) (hi:i0≠i):FlX i0 P Q (fun j=>decide (j=i) || D j) W:=h.move i hi id id
theorem FlX.now {i0:Nat} {P Q:World→Prop} {D:Nat→Bool} {W':World} (h:Q W'):FlX i0 P Q (fun j=>decide (j=i0) || D j) W':=by
 have e:=orf_eq (L:=D) (i:=i0)
 unfold FlX
 simp only [e]
 exact ⟨fun e=>(by cases e),fun _=>h⟩
def RsQ (id:Bool) (gv:Nat) (Kv:List UInt8) (N:List (List UInt8)) (L:List SealV) (w4:World) (G3:List Nat) (W:World):Prop:=∃ G',RS id gv Kv N L W G'∧Grew w4 G3 G'∧Untouched G3 w4 W
theorem RsQ.below {id:Bool} {gv:Nat} {Kv:List UInt8} {N:List (List UInt8)} {L:List SealV} {w4:World} {G3:List Nat} {W W':World} (h:RsQ id gv Kv N L w4 G3 W) (hb:Below W.heap.size W W'):RsQ id gv Kv N L w4 G3 W':=by
 obtain ⟨G',a,b,c⟩:=h
 exact ⟨G',(RS.foot id gv Kv N L).keep a (Untouched.of_below (F:=[]) hb) (fun _ _=>by simp),b,c.trans b (Untouched.of_below hb)⟩
set_option maxHeartbeats 4000000 in
theorem refSeal_no (w:World) (gv:Nat) (K:List UInt8) (h:HeadV) (s name value:List UInt8) (del:Bool) (hnl:name.length≤1000) (hbad:nmBad name∨¬ h.Ok) :
  Calls Tryz.prog 9 #[.pointer (some ⟨gv,0,none⟩),.string (strOf name),.agg (rRow K h s),.string (strOf value),.bool del] w fun r w'=>r = .returned (.tuple #[.agg (rRow [] hd0 []),.int .i64 1])∧Below w.heap.size w w':=by
 obtain ⟨g,hg⟩:∃ g,w.heap.size=g:=⟨_,rfl⟩
 obtain ⟨w1,hw1⟩:∃ W,w.alloc (.cells (rRow K h s) 36)=W:=⟨_,rfl⟩
 obtain ⟨w2,hw2⟩:∃ W,w1.alloc (.cells (rRow [] hd0 []) 36)=W:=⟨_,rfl⟩
 have hz:=zeroR w1
 have s1:w1.heap.size=g + 1:=by rw [← hw1,← hg];simp
 have S2:w2.heap.size=g + 2:=by rw [← hw2];simp [s1]
 have b1:Below w.heap.size w w1:=by rw [← hw1];exact (Below.refl _ _).alloc (Nat.le_refl _) _
 have b2:Below w1.heap.size w1 w2:=by rw [← hw2];exact (Below.refl _ _).alloc (Nat.le_refl _) _
 have X2:=hidxs_ (b1.trans (b2.mono b1.size))
 have H2:=hidxs_ (show Bk w2 g 36 (rRow K h s) by have k:=Bk.new w 36 (rRow K h s);rw [hw1,hg] at k;exact k.below b2 k.lt)
 have E2:=hidxs_ (show Bk w2 (g + 1) 36 (rRow [] hd0 []) by have k:=Bk.new w1 36 (rRow [] hd0 []);rw [hw2,s1] at k;exact k)
 have HG:=hidxs_ hg
 have hsz:(strOf name).size=name.length:=strOf_size name
 clear b1 b2
 by_cases hn:nmBad name
 ·have ci:=refName_any w2 (name.length:Int) false (by unfold nmBad at hn;rw [decide_eq_false (by omega)])
  go_enter Tryz.func9,Tryz.ntmps9
  go_wp2_with (first
   | (go_at_call 28;((with_reducible refine ci.mono ?_);clear ci;rintro e w' ⟨rfl,rfl⟩))
   | (refine wpList_built rfl 36 #[] rfl (rRow [] hd0 []) built_r0 ?_)
   | (refine wpList_put_row rfl 36 (.tmp 10) (.tmp 24) rfl (g + 1) (rRow [] hd0 []) rfl rfl 36 (rRow [] hd0 []) E2.out (iRr _ _ _) rfl (rRow_one _ _ _) ?_;intro w9 k9 g9 s9;have K9:=hidxs_ k9;have X9:=hidxs_ (X2.out.grown g9 X2.out.size (fun k hk=>by injection hk with hk;have:=HG.out;omega));clear k9 g9 s9))
  exact bodyPost_ret (results_cell_slotE Tryz.results9 _ _ (g + 1) rfl rfl (run_loadVar_row _ _ _ _ _ (0,0) _ K9.out Tryz.underlying36 rfl (iRr _ _ _))) rfl ⟨rfl,X9.out⟩
 ·have hb:¬ h.Ok:=hbad.resolve_left hn
  have ci:=refName_any w2 (name.length:Int) true (by unfold nmBad at hn;rw [decide_eq_true (by omega)])
  have ci2:=refhead_any w2 K h s
  rw [decide_eq_false hb] at ci2
  clear hbad hn hb
  go_enter Tryz.func9,Tryz.ntmps9
  go_wp2_with (first
   | (go_at_call 28;((with_reducible refine ci.mono ?_);clear ci;rintro e w' ⟨rfl,rfl⟩))
   | (refine wpList_load_rowW (by go_simp) 36 (.tmp 7) rfl g rfl 36 (rRow K h s) H2.out _ Tryz.underlying36 rfl (iRr _ _ _) ?_)
   | (go_at_call 29;((with_reducible refine ci2.mono ?_);clear ci2;rintro e w3 ⟨rfl,hB⟩;have X3:=hidxs_ (X2.out.trans (hB.mono X2.out.size));have E3:=hidxs_ (E2.out.below hB E2.out.lt);clear hB))
   | (refine wpList_built rfl 36 #[] rfl (rRow [] hd0 []) built_r0 ?_)
   | (refine wpList_put_row rfl 36 (.tmp 10) (.tmp 24) rfl (g + 1) (rRow [] hd0 []) rfl rfl 36 (rRow [] hd0 []) E3.out (iRr _ _ _) rfl (rRow_one _ _ _) ?_;intro w9 k9 g9 s9;have K9:=hidxs_ k9;have X9:=hidxs_ (X3.out.grown g9 X3.out.size (fun k hk=>by injection hk with hk;have:=HG.out;omega));clear k9 g9 s9))
  exact bodyPost_ret (results_cell_slotE Tryz.results9 _ _ (g + 1) rfl rfl (run_loadVar_row _ _ _ _ _ (0,0) _ K9.out Tryz.underlying36 rfl (iRr _ _ _))) rfl ⟨rfl,X9.out⟩
set_option maxHeartbeats 8000000 in
theorem refSeal_yes {id:Bool} {gv:Nat} {Kv:List UInt8} {N:List (List UInt8)} {L:List SealV} {w:World} {G:List Nat} (hv:RS id gv Kv N L w G) (hKv:Kv.length=32) (K:List UInt8) (h:HeadV) (s name value:List UInt8) (del:Bool) (hn:¬ nmBad name) (hok:h.Ok) (hvl:value.length≤3999) (hN5:N.length≤100000) (hL5:L.length≤100000) (hin:(h.c.toNat,h.n.toNat)∉L.map cn) :
  Calls Tryz.prog 9 #[.pointer (some ⟨gv,0,none⟩),.string (strOf name),.agg (rRow K h s),.string (strOf value),.bool del] w fun r w'=>r = .returned (.tuple #[.agg (rRow (bV id Kv N name) h (sB id Kv L h.e h.c h.n (esX id Kv N name h) (esP del value))),.int .i64 0])∧Leaves (RS id gv Kv (bN id N name) (sL id Kv L h.e h.c h.n (esX id Kv N name h) (esP del value))) w G w':=by
 obtain ⟨g,hg⟩:∃ g,w.heap.size=g:=⟨_,rfl⟩
 obtain ⟨w1,hw1⟩:∃ W,w.alloc (.cells (rRow K h s) 36)=W:=⟨_,rfl⟩
 obtain ⟨w2,hw2⟩:∃ W,w1.alloc (.cells (rRow [] hd0 []) 36)=W:=⟨_,rfl⟩
 have hz:=zeroR w1
 have s1:w1.heap.size=g + 1:=by rw [← hw1,← hg];simp
 have S2:w2.heap.size=g + 2:=by rw [← hw2];simp [s1]
 have b1:Below w.heap.size w w1:=by rw [← hw1];exact (Below.refl _ _).alloc (Nat.le_refl _) _
 have b2:Below w1.heap.size w1 w2:=by rw [← hw2];exact (Below.refl _ _).alloc (Nat.le_refl _) _
 have X2:=hidxs_ (b1.trans (b2.mono b1.size))
 have H2:=hidxs_ (show Bk w2 g 36 (rRow K h s) by have k:=Bk.new w 36 (rRow K h s);rw [hw1,hg] at k;exact k.below b2 k.lt)
 have E2:=hidxs_ (show Bk w2 (g + 1) 36 (rRow [] hd0 []) by have k:=Bk.new w1 36 (rRow [] hd0 []);rw [hw2,s1] at k;exact k)
 have HG:=hidxs_ hg
 have hsz:(strOf name).size=name.length:=strOf_size name
 have hsv:(strOf value).size=value.length:=strOf_size value
 have ci:=refName_any w2 (name.length:Int) true (by unfold nmBad at hn;rw [decide_eq_true (by omega)])
 have ci2:=refhead_any w2 K h s
 rw [decide_eq_true hok] at ci2
 have HF:=hidxs_ (fun k hk=>(RS.foot id gv Kv N L).lt hv k hk)
 have hv2:=(RS.foot id gv Kv N L).keep hv (Untouched.of_below (F:=[]) X2.out) (fun _ _=>by simp)
 have HV2:=hidxs_ hv2
 have BE:=hidxs_ (show bE name=0 by unfold bE;rw [if_neg hn])
 have hrv:rV id Kv N name=bV id Kv N name:=by unfold rV bV;rw [if_neg hn,if_neg hn]
 obtain ⟨Kb,hKb⟩:∃ x,bV id Kv N name=x:=⟨_,rfl⟩
 have HKB:=hidxs_ hKb
 have HRV:=hidxs_ (hrv.trans hKb)
 have KL:=hidxs_ (show Kb.length=32 by rw [← hKb];exact bV_len _ _ _ _)
 obtain ⟨N2,hN2⟩:∃ x,bN id N name=x:=⟨_,rfl⟩
 have HN2:=hidxs_ hN2
 obtain ⟨X,hX⟩:∃ x,esX id Kv N name h=x:=⟨_,rfl⟩
 have HX:=hidxs_ (show boundB Kb h=X by rw [← hX,← hKb];rfl)
 obtain ⟨pk,hpk⟩:∃ x,packB del value=x:=⟨_,rfl⟩
 have PKL:=hidxs_ (show pk.length≤4000 by rw [← hpk];have:=packB_len del value;omega)
 obtain ⟨Pd,hPd⟩:∃ x,padB pk=x:=⟨_,rfl⟩
 have HPD:=hidxs_ hPd
 have HXL:=hidxs_ (show X.length≤100000 by rw [← HX.out,boundB_len Kb KL.out];have:=hok.2.2.2.2;omega)
 have HPL:=hidxs_ (show Pd.length≤100000 by rw [← hPd,padB_len _ (by have:=PKL.out;omega)];exact Nat.le_trans (clsS_le _) (by omega))
 have HSE:=hidxs_ (show sE L h.e h.c h.n=0 by unfold sE;rw [if_pos (HeadV.slOk hok),if_neg hin])
 rw [hX,show esP del value=Pd by unfold esP;rw [hpk,hPd],hKb]
 obtain ⟨SB,hSB⟩:∃ x,sB id Kv L h.e h.c h.n X Pd=x:=⟨_,rfl⟩
 have HSB:=hidxs_ hSB
 obtain ⟨L2,hL2⟩:∃ x,sL id Kv L h.e h.c h.n X Pd=x:=⟨_,rfl⟩
 have HSL:=hidxs_ hL2
 rw [hSB,hL2,hN2]
 have HOK:=hidxs_ hok
 have HPK1:=hidxs_ (show del=false→strOf [1] ++ strOf value=strOf pk from fun e=>by rw [strOf_append,← hpk,e];rfl)
 have HPK2:=hidxs_ (show del=true→pk = [0] from fun e=>by rw [← hpk,e];rfl)
 clear hv hv2 hn hok hin hrv hKb hN2 hX hpk hPd hSB hL2 b1 b2
 go_enter Tryz.func9,Tryz.ntmps9
 cases hdel:del
 ·have hpk1:(⟨#[1]⟩:ByteArray) ++ strOf value=strOf pk:=HPK1.out hdel
  have hss:(⟨#[1]⟩:ByteArray).size + (strOf value).size≤9223372036854775807:=by rw [strOf_size];show 1 + value.length≤_;omega
  go_upto_region 9 with (first
   | (go_at_call 28;((with_reducible refine ci.mono ?_);clear ci;rintro e w' ⟨rfl,rfl⟩))
   | (refine wpList_load_rowW (by go_simp) 36 (.tmp 7) rfl g rfl 36 (rRow K h s) H2.out _ Tryz.underlying36 rfl (iRr _ _ _) ?_)
   | (go_at_call 29;((with_reducible refine ci2.mono ?_);clear ci2;rintro e w3 ⟨rfl,hB⟩;have X3:=hidxs_ (X2.out.trans (hB.mono X2.out.size));have E3:=hidxs_ (E2.out.below hB E2.out.lt);have H3:=hidxs_ (H2.out.below hB H2.out.lt);have cb:=rblind_x ((RS.foot id gv Kv N L).keep HV2.out (Untouched.of_below (F:=[]) hB) (fun _ _=>by simp)) hKv name hN5;rw [HRV.out,BE.out,HN2.out] at cb;clear hB))
   | (go_at_call 30;((with_reducible refine cb.mono ?_);clear cb;rintro e wb ⟨rfl,G3,hV,hGr,hUn⟩;have VB:=hidxs_ hV;have GR4:=hidxs_ ((Grew.refl w G).trans X3.out.size hGr);have UB:=hidxs_ ((Untouched.of_below (F:=G) X3.out).trans (Grew.refl w G) hUn);have NG:=hidxs_ (show g∉G3∧g + 1∉G3 from ⟨nf_ HF.out hGr (Nat.le_of_eq HG.out) H3.out.lt,nf_ HF.out hGr (by have:=HG.out;omega) E3.out.lt⟩);have HB_:=hidxs_ (H3.out.untouched hUn (fun hm=>by have:=HF.out _ hm;have:=HG.out;omega));have EB_:=hidxs_ (E3.out.untouched hUn (fun hm=>by have:=HF.out _ hm;have:=HG.out;omega));obtain ⟨w4,hw4⟩:∃ W,wb.setCell ⟨g,0,none⟩ (.string (strOf Kb))=W:=⟨_,rfl⟩;have k0:=(rr_cells HB_.out).1;have kf:=HB_.out.frozen 0;have US:=hidxs_ (show Untouched [g] wb w4 by rw [← hw4];exact Untouched.set g 0 (by simp) _);have H4:=hidxs_ (show Bk w4 g 36 (rRow Kb h s) by rw [← hw4];exact HB_.out.set_ 0 _);have E4:=hidxs_ (show Bk w4 (g + 1) 36 (rRow [] hd0 []) by rw [← hw4];exact EB_.out.far (show g + 1≠g by omega) _);have RS4:=hidxs_ ((RS.foot id gv Kv N2 L).keep VB.out US.out (fun k hk hm=>by rw [List.mem_singleton.1 hm] at hk;exact NG.out.1 hk));have U4:=hidxs_ (UB.out.trans (F':=[g]) (fun k hk=>.inr (by rw [List.mem_singleton.1 hk];exact Nat.le_of_eq HG.out)) US.out);clear hV hGr hUn)))
  rename_i K9 hK9
  have HCB:=hidxs_ (fun W=>refBound_any W Kb h s (by have:=KL.out;omega) HOK.out)
  rw [HX.out] at HCB
  have HCP:=hidxs_ (fun W=>refPad_anyc W pk.length pk rfl PKL.out)
  rw [HPD.out] at HCP
  clear k0 kf hw4 VB UB HB_ EB_ E3 H3 X3
  refine region_byJF [44,45,46,47,48,49,50,51,52,53,54,55,56,43,57,58,13,14] (fun W=>Bk W g 36 (rRow Kb h s)) (fun _ _=>True) (fun jR_ vR_ (_:World)=>(match jR_ with | 0=>vR_ = .pointer (some ⟨gv,0,none⟩) | 1=>vR_ = .pointer (some ⟨g,1,none⟩) | 2=>vR_ = .int .i64 h.e | 3=>vR_ = .pointer (some ⟨g,3,none⟩) | 4=>vR_ = .pointer (some ⟨g,3,none⟩) | 5=>vR_ = .int .i64 h.c | 6=>vR_ = .pointer (some ⟨g,2,none⟩) | 7=>vR_ = .int .i64 h.n | 8=>vR_ = .agg (rRow Kb h s) | 9=>vR_ = .string (strOf X) | 10=>vR_ = .string (strOf pk) | 11=>vR_ = .string (strOf Pd) | 12=>vR_ = .tuple #[.string (strOf SB),.int .i64 0] | 13=>vR_ = .tuple #[.string (strOf SB),.int .i64 0] | 14=>vR_ = .string (strOf SB) | 15=>vR_ = .int .i64 0 | 16=>vR_ = .string (strOf SB) | 17=>vR_ = .int .i64 0 | _=>True:Prop)) (fun D _ W=>FlX 12 (fun W=>Below w4.heap.size w4 W) (RsQ id gv Kv N2 L2 w4 G3) D W) (by kernel_rfl) (by kernel_rfl) (by kernel_rfl) (by kernel_rfl) (fun j v w w' hT hr=>?_) (fun j v w hlt hj _=>?_) H4.out.drew ?_ ⟨fun _=>(Below.refl _ _).drew,fun e=>Bool.noConfusion e⟩ ?_
  ·exact hr
  ·rcases j with _ | _ | _ | _ | _ | _ | _ | _ | _ | _ | _ | _ | _ | _ | _ | _ | _ | _ | j
   all_goals first
    | (exfalso;simp [dstOf] at hj;done)
    | trivial
  ·refine ⟨?_,?_,?_,?_,?_,?_,?_,?_,?_,?_,?_,?_,?_,?_,?_,?_,?_,?_,trivial⟩
   all_goals intro D a W hC hd hsz hf hv hJ hL hW K hK
   ·clear hsz
    have e1:=slot_of (a:=a) (s:=0) (v:=.pointer (some ⟨gv,0,none⟩)) (hf 0 (by kernel_rfl))
    refine step_run (wanted_none rfl) (v:=.pointer (some ⟨gv,0,none⟩)) (w':=W) ?_ (hK _ _ hC trivial rfl (hJ.same 0 (by decide)))
    go_simp
   ·clear hsz
    have e1:=slot_of (a:=a) (s:=7) (v:=.pointer (some ⟨g,0,none⟩)) (hf 7 (by kernel_rfl))
    refine step_run (wanted_none rfl) (v:=.pointer (some ⟨g,1,none⟩)) (w':=W) ?_ (hK _ _ hC trivial rfl (hJ.same 1 (by decide)))
    go_simp
   ·clear hsz
    have e1:=slot_of (a:=a) (s:=45) (v:=.pointer (some ⟨g,1,none⟩)) (hv 1 (by kernel_rfl))
    obtain ⟨k0,k1,k2,k3,k4,k5,k6⟩:=rr_cells hC
    refine step_run (wanted_none rfl) (v:=.int .i64 h.e) (w':=W) ?_ (hK _ _ hC trivial rfl (hJ.same 2 (by decide)))
    go_simp
   ·clear hsz
    have e1:=slot_of (a:=a) (s:=7) (v:=.pointer (some ⟨g,0,none⟩)) (hf 7 (by kernel_rfl))
    refine step_run (wanted_none rfl) (v:=.pointer (some ⟨g,3,none⟩)) (w':=W) ?_ (hK _ _ hC trivial rfl (hJ.same 3 (by decide)))
    go_simp
   ·clear hsz
    have e1:=slot_of (a:=a) (s:=47) (v:=.pointer (some ⟨g,3,none⟩)) (hv 3 (by kernel_rfl))
    refine step_run (wanted_none rfl) (v:=.pointer (some ⟨g,3,none⟩)) (w':=W) ?_ (hK _ _ hC trivial rfl (hJ.same 4 (by decide)))
    go_simp
   ·clear hsz
    have e1:=slot_of (a:=a) (s:=48) (v:=.pointer (some ⟨g,3,none⟩)) (hv 4 (by kernel_rfl))
    obtain ⟨k0,k1,k2,k3,k4,k5,k6⟩:=rr_cells hC
    refine step_run (wanted_none rfl) (v:=.int .i64 h.c) (w':=W) ?_ (hK _ _ hC trivial rfl (hJ.same 5 (by decide)))
    go_simp
   ·clear hsz
    have e1:=slot_of (a:=a) (s:=7) (v:=.pointer (some ⟨g,0,none⟩)) (hf 7 (by kernel_rfl))
    refine step_run (wanted_none rfl) (v:=.pointer (some ⟨g,2,none⟩)) (w':=W) ?_ (hK _ _ hC trivial rfl (hJ.same 6 (by decide)))
    go_simp
   ·clear hsz
    have e1:=slot_of (a:=a) (s:=50) (v:=.pointer (some ⟨g,2,none⟩)) (hv 6 (by kernel_rfl))
    obtain ⟨k0,k1,k2,k3,k4,k5,k6⟩:=rr_cells hC
    refine step_run (wanted_none rfl) (v:=.int .i64 h.n) (w':=W) ?_ (hK _ _ hC trivial rfl (hJ.same 7 (by decide)))
    go_simp
   ·clear hsz
    have e1:=slot_of (a:=a) (s:=7) (v:=.pointer (some ⟨g,0,none⟩)) (hf 7 (by kernel_rfl))
    exact step_load_rowW (wanted_none rfl) 36 (.tmp 7) rfl g (eval_of (hf 7 (by kernel_rfl))) 36 (rRow Kb h s) hC _ Tryz.underlying36 rfl (iRr _ _ _) (hK _ _ hC trivial rfl (hJ.same 8 (by decide)))
   ·clear hsz
    have e1:=slot_of (a:=a) (s:=52) (v:=.agg (rRow Kb h s)) (hv 8 (by kernel_rfl))
    refine step_callx 32 #[.agg (rRow Kb h s)] (wanted_none rfl) (w':=W) ?_ ((HCB.out W).mono fun e W2 hh=>?_)
    ·go_simp
    ·obtain ⟨rfl,hb⟩:=hh
     exact ⟨_,rfl,hK _ _ (hC.below hb hC.lt) trivial rfl (hJ.move 9 (by decide) (fun p=>p.trans (hb.mono p.size)) (fun p=>p.below hb))⟩
   ·clear hsz
    have e1:=slot_of (a:=a) (s:=12) (v:=.string (strOf pk)) (hf 12 (by kernel_rfl))
    refine step_run (wanted_none rfl) (v:=.string (strOf pk)) (w':=W) ?_ (hK _ _ hC trivial rfl (hJ.same 10 (by decide)))
    go_simp
   ·clear hsz
    have e1:=slot_of (a:=a) (s:=54) (v:=.string (strOf pk)) (hv 10 (by kernel_rfl))
    refine step_callx 33 #[.string (strOf pk)] (wanted_none rfl) (w':=W) ?_ ((HCP.out W).mono fun e W2 hh=>?_)
    ·go_simp
    ·obtain ⟨rfl,hb⟩:=hh
     exact ⟨_,rfl,hK _ _ (hC.below hb hC.lt) trivial rfl (hJ.move 11 (by decide) (fun p=>p.trans (hb.mono p.size)) (fun p=>p.below hb))⟩
   ·clear hsz
    have e1:=slot_of (a:=a) (s:=44) (v:=.pointer (some ⟨gv,0,none⟩)) (hv 0 (by kernel_rfl))
    have e2:=slot_of (a:=a) (s:=46) (v:=.int .i64 h.e) (hv 2 (by kernel_rfl))
    have e3:=slot_of (a:=a) (s:=49) (v:=.int .i64 h.c) (hv 5 (by kernel_rfl))
    have e4:=slot_of (a:=a) (s:=51) (v:=.int .i64 h.n) (hv 7 (by kernel_rfl))
    have e5:=slot_of (a:=a) (s:=53) (v:=.string (strOf X)) (hv 9 (by kernel_rfl))
    have e6:=slot_of (a:=a) (s:=55) (v:=.string (strOf Pd)) (hv 11 (by kernel_rfl))
    have hp:=hJ.1 hL
    have cs:=rseal_x ((RS.foot id gv Kv N2 L).keep RS4.out (Untouched.of_below (F:=[]) hp) (fun _ _=>by simp)) hKv h.e h.c h.n X Pd HXL.out HPL.out hL5
    rw [HSB.out,HSE.out,HSL.out] at cs
    refine step_callx 31 #[.pointer (some ⟨gv,0,none⟩),.int .i64 h.e,.int .i64 h.c,.int .i64 h.n,.string (strOf X),.string (strOf Pd)] (wanted_none rfl) (w':=W) ?_ (cs.mono fun e W2 hh=>?_)
    ·go_simp
    ·obtain ⟨rfl,G5,hV,hGr,hU⟩:=hh
     exact ⟨_,rfl,hK _ _ (hC.untouched hU NG.out.1) trivial rfl (FlX.now ⟨G5,hV,(Grew.refl w4 G3).trans hp.size hGr,(Untouched.of_below (F:=G3) hp).trans (Grew.refl w4 G3) hU⟩)⟩
   ·clear hsz
    have e1:=slot_of (a:=a) (s:=56) (v:=.tuple #[.string (strOf SB),.int .i64 0]) (hv 12 (by kernel_rfl))
    refine step_run (wanted_none rfl) (v:=.tuple #[.string (strOf SB),.int .i64 0]) (w':=W) ?_ (hK _ _ hC trivial rfl (hJ.same 13 (by decide)))
    go_simp
   ·clear hsz
    have e1:=slot_of (a:=a) (s:=43) (v:=.tuple #[.string (strOf SB),.int .i64 0]) (hv 13 (by kernel_rfl))
    refine step_run (wanted_none rfl) (v:=.string (strOf SB)) (w':=W) ?_ (hK _ _ hC trivial rfl (hJ.same 14 (by decide)))
    go_simp
   ·clear hsz
    have e1:=slot_of (a:=a) (s:=43) (v:=.tuple #[.string (strOf SB),.int .i64 0]) (hv 13 (by kernel_rfl))
    refine step_run (wanted_none rfl) (v:=.int .i64 0) (w':=W) ?_ (hK _ _ hC trivial rfl (hJ.same 15 (by decide)))
    go_simp
   ·clear hsz
    have e1:=slot_of (a:=a) (s:=57) (v:=.string (strOf SB)) (hv 14 (by kernel_rfl))
    refine step_run (wanted_none rfl) (v:=.string (strOf SB)) (w':=W) ?_ (hK _ _ hC trivial rfl (hJ.same 16 (by decide)))
    go_simp
   ·clear hsz
    have e1:=slot_of (a:=a) (s:=58) (v:=.int .i64 0) (hv 15 (by kernel_rfl))
    refine step_run (wanted_none rfl) (v:=.int .i64 0) (w':=W) ?_ (hK _ _ hC trivial rfl (hJ.same 17 (by decide)))
    go_simp
  ·intro f w5 hC5 hv5 D7 hD7 hJ7
   obtain ⟨a7,hJ,hs⟩:=hJ7
   obtain ⟨G5,hV5,hGr5,hU5⟩:=hJ.2 (hD7 12 (by decide))
   have f13:f 13 = .string (strOf SB):=hv5 16 (by decide)
   have f14:f 14 = .int .i64 0:=hv5 17 (by decide)
   simp only [framed,List.foldl_cons,List.foldl_nil,List.setIfInBounds_toArray,List.set_cons_succ,List.set_cons_zero]
   rw [f13,f14]
   have V5:=hidxs_ hV5
   have GR5:=hidxs_ hGr5
   have U5:=hidxs_ hU5
   have H5:=hidxs_ hC5
   have E5:=hidxs_ (E4.out.untouched hU5 NG.out.2)
   clear hv5 hD7 hJ hs f13 f14 hV5 hGr5 hU5 hC5
   refine hK9 _ _ ?_
   clear hK9 K9
   obtain ⟨w6,hw6⟩:∃ W,w5.setCell ⟨g,6,none⟩ (.string (strOf SB))=W:=⟨_,rfl⟩
   have k6:=(rr_cells H5.out).2.2.2.2.2.2
   have kf:=H5.out.frozen 6
   have U6:=hidxs_ (show Untouched [g,g + 1] w5 w6 by rw [← hw6];exact Untouched.set g 6 (by simp) _)
   have H6:=hidxs_ (show Bk w6 g 36 (rRow Kb h SB) by rw [← hw6];exact H5.out.set_ 6 _)
   have E6:=hidxs_ (show Bk w6 (g + 1) 36 (rRow [] hd0 []) by rw [← hw6];exact E5.out.far (show g + 1≠g by omega) _)
   go_wp2_with (first
    | (refine wpList_load_rowW (by go_simp) 36 (.tmp 7) rfl g rfl 36 (rRow Kb h SB) H6.out _ Tryz.underlying36 rfl (iRr _ _ _) ?_)
    | (refine wpList_put_row rfl 36 (.tmp 10) (.tmp 65) rfl (g + 1) (rRow Kb h SB) rfl rfl 36 (rRow [] hd0 []) E6.out (iRr _ _ _) rfl (rRow_one _ _ _) ?_;intro w9 k9 g9 s9;have K9:=hidxs_ k9;have U9:=hidxs_ (U6.out.trans (Grew.refl w5 _) (Untouched.of_grown (F:=[g,g + 1]) g9 (fun k hk=>by injection hk with hk;simp [hk])));clear k9 g9 s9))
   have NG5:∀ k∈G5,k∉[g,g + 1]:=fun k hk hm=>(by
    rcases GR5.out k hk with h1 | h1
    ·rcases List.mem_cons.1 hm with e | e
     ·rw [e] at h1;exact NG.out.1 h1
     ·rw [List.mem_singleton.1 e] at h1;exact NG.out.2 h1
    ·have:=E4.out.lt
     rcases List.mem_cons.1 hm with e | e
     ·omega
     ·have:=List.mem_singleton.1 e;omega)
   refine bodyPost_ret (results_cell_slotE Tryz.results9 _ _ (g + 1) rfl rfl (run_loadVar_row _ _ _ _ _ (0,0) _ K9.out Tryz.underlying36 rfl (iRr _ _ _))) rfl ?_
   exact ⟨rfl,G5,(RS.foot id gv Kv N2 L2).keep V5.out U9.out NG5,GR4.out.trans U4.out.size GR5.out,(U4.out.trans GR4.out U5.out).trans (F':=[g,g + 1]) (fun k hk=>.inr (by
    rcases List.mem_cons.1 hk with e | e
    ·rw [e];exact Nat.le_of_eq HG.out
    ·rw [List.mem_singleton.1 e];have:=HG.out;omega)) U9.out⟩
 ·have hpk2:=HPK2.out hdel
  have hpk1:(strOf [1]).size + (strOf value).size≤9223372036854775807:=by rw [strOf_size,strOf_size];simp;omega
  go_upto_region 9 with (first
   | (go_at_call 28;((with_reducible refine ci.mono ?_);clear ci;rintro e w' ⟨rfl,rfl⟩))
   | (refine wpList_load_rowW (by go_simp) 36 (.tmp 7) rfl g rfl 36 (rRow K h s) H2.out _ Tryz.underlying36 rfl (iRr _ _ _) ?_)
   | (go_at_call 29;((with_reducible refine ci2.mono ?_);clear ci2;rintro e w3 ⟨rfl,hB⟩;have X3:=hidxs_ (X2.out.trans (hB.mono X2.out.size));have E3:=hidxs_ (E2.out.below hB E2.out.lt);have H3:=hidxs_ (H2.out.below hB H2.out.lt);have cb:=rblind_x ((RS.foot id gv Kv N L).keep HV2.out (Untouched.of_below (F:=[]) hB) (fun _ _=>by simp)) hKv name hN5;rw [HRV.out,BE.out,HN2.out] at cb;clear hB))
   | (go_at_call 30;((with_reducible refine cb.mono ?_);clear cb;rintro e wb ⟨rfl,G3,hV,hGr,hUn⟩;have VB:=hidxs_ hV;have GR4:=hidxs_ ((Grew.refl w G).trans X3.out.size hGr);have UB:=hidxs_ ((Untouched.of_below (F:=G) X3.out).trans (Grew.refl w G) hUn);have NG:=hidxs_ (show g∉G3∧g + 1∉G3 from ⟨nf_ HF.out hGr (Nat.le_of_eq HG.out) H3.out.lt,nf_ HF.out hGr (by have:=HG.out;omega) E3.out.lt⟩);have HB_:=hidxs_ (H3.out.untouched hUn (fun hm=>by have:=HF.out _ hm;have:=HG.out;omega));have EB_:=hidxs_ (E3.out.untouched hUn (fun hm=>by have:=HF.out _ hm;have:=HG.out;omega));obtain ⟨w4,hw4⟩:∃ W,wb.setCell ⟨g,0,none⟩ (.string (strOf Kb))=W:=⟨_,rfl⟩;have k0:=(rr_cells HB_.out).1;have kf:=HB_.out.frozen 0;have US:=hidxs_ (show Untouched [g] wb w4 by rw [← hw4];exact Untouched.set g 0 (by simp) _);have H4:=hidxs_ (show Bk w4 g 36 (rRow Kb h s) by rw [← hw4];exact HB_.out.set_ 0 _);have E4:=hidxs_ (show Bk w4 (g + 1) 36 (rRow [] hd0 []) by rw [← hw4];exact EB_.out.far (show g + 1≠g by omega) _);have RS4:=hidxs_ ((RS.foot id gv Kv N2 L).keep VB.out US.out (fun k hk hm=>by rw [List.mem_singleton.1 hm] at hk;exact NG.out.1 hk));have U4:=hidxs_ (UB.out.trans (F':=[g]) (fun k hk=>.inr (by rw [List.mem_singleton.1 hk];exact Nat.le_of_eq HG.out)) US.out);clear hV hGr hUn)))
  rename_i K9 hK9
  subst hpk2
  have HCB:=hidxs_ (fun W=>refBound_any W Kb h s (by have:=KL.out;omega) HOK.out)
  rw [HX.out] at HCB
  have HCP:=hidxs_ (fun W=>refPad_anyc W ([0]:List UInt8).length ([0]:List UInt8) rfl PKL.out)
  rw [HPD.out] at HCP
  clear k0 kf hw4 VB UB HB_ EB_ E3 H3 X3
  refine region_byJF [44,45,46,47,48,49,50,51,52,53,54,55,56,43,57,58,13,14] (fun W=>Bk W g 36 (rRow Kb h s)) (fun _ _=>True) (fun jR_ vR_ (_:World)=>(match jR_ with | 0=>vR_ = .pointer (some ⟨gv,0,none⟩) | 1=>vR_ = .pointer (some ⟨g,1,none⟩) | 2=>vR_ = .int .i64 h.e | 3=>vR_ = .pointer (some ⟨g,3,none⟩) | 4=>vR_ = .pointer (some ⟨g,3,none⟩) | 5=>vR_ = .int .i64 h.c | 6=>vR_ = .pointer (some ⟨g,2,none⟩) | 7=>vR_ = .int .i64 h.n | 8=>vR_ = .agg (rRow Kb h s) | 9=>vR_ = .string (strOf X) | 10=>vR_ = .string (strOf ([0]:List UInt8)) | 11=>vR_ = .string (strOf Pd) | 12=>vR_ = .tuple #[.string (strOf SB),.int .i64 0] | 13=>vR_ = .tuple #[.string (strOf SB),.int .i64 0] | 14=>vR_ = .string (strOf SB) | 15=>vR_ = .int .i64 0 | 16=>vR_ = .string (strOf SB) | 17=>vR_ = .int .i64 0 | _=>True:Prop)) (fun D _ W=>FlX 12 (fun W=>Below w4.heap.size w4 W) (RsQ id gv Kv N2 L2 w4 G3) D W) (by kernel_rfl) (by kernel_rfl) (by kernel_rfl) (by kernel_rfl) (fun j v w w' hT hr=>?_) (fun j v w hlt hj _=>?_) H4.out.drew ?_ ⟨fun _=>(Below.refl _ _).drew,fun e=>Bool.noConfusion e⟩ ?_
  ·exact hr
  ·rcases j with _ | _ | _ | _ | _ | _ | _ | _ | _ | _ | _ | _ | _ | _ | _ | _ | _ | _ | j
   all_goals first
    | (exfalso;simp [dstOf] at hj;done)
    | trivial
  ·refine ⟨?_,?_,?_,?_,?_,?_,?_,?_,?_,?_,?_,?_,?_,?_,?_,?_,?_,?_,trivial⟩
   all_goals intro D a W hC hd hsz hf hv hJ hL hW K hK
   ·clear hsz
    have e1:=slot_of (a:=a) (s:=0) (v:=.pointer (some ⟨gv,0,none⟩)) (hf 0 (by kernel_rfl))
    refine step_run (wanted_none rfl) (v:=.pointer (some ⟨gv,0,none⟩)) (w':=W) ?_ (hK _ _ hC trivial rfl (hJ.same 0 (by decide)))
    go_simp
   ·clear hsz
    have e1:=slot_of (a:=a) (s:=7) (v:=.pointer (some ⟨g,0,none⟩)) (hf 7 (by kernel_rfl))
    refine step_run (wanted_none rfl) (v:=.pointer (some ⟨g,1,none⟩)) (w':=W) ?_ (hK _ _ hC trivial rfl (hJ.same 1 (by decide)))
    go_simp
   ·clear hsz
    have e1:=slot_of (a:=a) (s:=45) (v:=.pointer (some ⟨g,1,none⟩)) (hv 1 (by kernel_rfl))
    obtain ⟨k0,k1,k2,k3,k4,k5,k6⟩:=rr_cells hC
    refine step_run (wanted_none rfl) (v:=.int .i64 h.e) (w':=W) ?_ (hK _ _ hC trivial rfl (hJ.same 2 (by decide)))
    go_simp
   ·clear hsz
    have e1:=slot_of (a:=a) (s:=7) (v:=.pointer (some ⟨g,0,none⟩)) (hf 7 (by kernel_rfl))
    refine step_run (wanted_none rfl) (v:=.pointer (some ⟨g,3,none⟩)) (w':=W) ?_ (hK _ _ hC trivial rfl (hJ.same 3 (by decide)))
    go_simp
   ·clear hsz
    have e1:=slot_of (a:=a) (s:=47) (v:=.pointer (some ⟨g,3,none⟩)) (hv 3 (by kernel_rfl))
    refine step_run (wanted_none rfl) (v:=.pointer (some ⟨g,3,none⟩)) (w':=W) ?_ (hK _ _ hC trivial rfl (hJ.same 4 (by decide)))
    go_simp
   ·clear hsz
    have e1:=slot_of (a:=a) (s:=48) (v:=.pointer (some ⟨g,3,none⟩)) (hv 4 (by kernel_rfl))
    obtain ⟨k0,k1,k2,k3,k4,k5,k6⟩:=rr_cells hC
    refine step_run (wanted_none rfl) (v:=.int .i64 h.c) (w':=W) ?_ (hK _ _ hC trivial rfl (hJ.same 5 (by decide)))
    go_simp
   ·clear hsz
    have e1:=slot_of (a:=a) (s:=7) (v:=.pointer (some ⟨g,0,none⟩)) (hf 7 (by kernel_rfl))
    refine step_run (wanted_none rfl) (v:=.pointer (some ⟨g,2,none⟩)) (w':=W) ?_ (hK _ _ hC trivial rfl (hJ.same 6 (by decide)))
    go_simp
   ·clear hsz
    have e1:=slot_of (a:=a) (s:=50) (v:=.pointer (some ⟨g,2,none⟩)) (hv 6 (by kernel_rfl))
    obtain ⟨k0,k1,k2,k3,k4,k5,k6⟩:=rr_cells hC
    refine step_run (wanted_none rfl) (v:=.int .i64 h.n) (w':=W) ?_ (hK _ _ hC trivial rfl (hJ.same 7 (by decide)))
    go_simp
   ·clear hsz
    have e1:=slot_of (a:=a) (s:=7) (v:=.pointer (some ⟨g,0,none⟩)) (hf 7 (by kernel_rfl))
    exact step_load_rowW (wanted_none rfl) 36 (.tmp 7) rfl g (eval_of (hf 7 (by kernel_rfl))) 36 (rRow Kb h s) hC _ Tryz.underlying36 rfl (iRr _ _ _) (hK _ _ hC trivial rfl (hJ.same 8 (by decide)))
   ·clear hsz
    have e1:=slot_of (a:=a) (s:=52) (v:=.agg (rRow Kb h s)) (hv 8 (by kernel_rfl))
    refine step_callx 32 #[.agg (rRow Kb h s)] (wanted_none rfl) (w':=W) ?_ ((HCB.out W).mono fun e W2 hh=>?_)
    ·go_simp
    ·obtain ⟨rfl,hb⟩:=hh
     exact ⟨_,rfl,hK _ _ (hC.below hb hC.lt) trivial rfl (hJ.move 9 (by decide) (fun p=>p.trans (hb.mono p.size)) (fun p=>p.below hb))⟩
   ·clear hsz
    have e1:=slot_of (a:=a) (s:=12) (v:=.string (strOf ([0]:List UInt8))) (hf 12 (by kernel_rfl))
    refine step_run (wanted_none rfl) (v:=.string (strOf ([0]:List UInt8))) (w':=W) ?_ (hK _ _ hC trivial rfl (hJ.same 10 (by decide)))
    go_simp
   ·clear hsz
    have e1:=slot_of (a:=a) (s:=54) (v:=.string (strOf ([0]:List UInt8))) (hv 10 (by kernel_rfl))
    refine step_callx 33 #[.string (strOf ([0]:List UInt8))] (wanted_none rfl) (w':=W) ?_ ((HCP.out W).mono fun e W2 hh=>?_)
    ·go_simp
    ·obtain ⟨rfl,hb⟩:=hh
     exact ⟨_,rfl,hK _ _ (hC.below hb hC.lt) trivial rfl (hJ.move 11 (by decide) (fun p=>p.trans (hb.mono p.size)) (fun p=>p.below hb))⟩
   ·clear hsz
    have e1:=slot_of (a:=a) (s:=44) (v:=.pointer (some ⟨gv,0,none⟩)) (hv 0 (by kernel_rfl))
    have e2:=slot_of (a:=a) (s:=46) (v:=.int .i64 h.e) (hv 2 (by kernel_rfl))
    have e3:=slot_of (a:=a) (s:=49) (v:=.int .i64 h.c) (hv 5 (by kernel_rfl))
    have e4:=slot_of (a:=a) (s:=51) (v:=.int .i64 h.n) (hv 7 (by kernel_rfl))
    have e5:=slot_of (a:=a) (s:=53) (v:=.string (strOf X)) (hv 9 (by kernel_rfl))
    have e6:=slot_of (a:=a) (s:=55) (v:=.string (strOf Pd)) (hv 11 (by kernel_rfl))
    have hp:=hJ.1 hL
    have cs:=rseal_x ((RS.foot id gv Kv N2 L).keep RS4.out (Untouched.of_below (F:=[]) hp) (fun _ _=>by simp)) hKv h.e h.c h.n X Pd HXL.out HPL.out hL5
    rw [HSB.out,HSE.out,HSL.out] at cs
    refine step_callx 31 #[.pointer (some ⟨gv,0,none⟩),.int .i64 h.e,.int .i64 h.c,.int .i64 h.n,.string (strOf X),.string (strOf Pd)] (wanted_none rfl) (w':=W) ?_ (cs.mono fun e W2 hh=>?_)
    ·go_simp
    ·obtain ⟨rfl,G5,hV,hGr,hU⟩:=hh
     exact ⟨_,rfl,hK _ _ (hC.untouched hU NG.out.1) trivial rfl (FlX.now ⟨G5,hV,(Grew.refl w4 G3).trans hp.size hGr,(Untouched.of_below (F:=G3) hp).trans (Grew.refl w4 G3) hU⟩)⟩
   ·clear hsz
    have e1:=slot_of (a:=a) (s:=56) (v:=.tuple #[.string (strOf SB),.int .i64 0]) (hv 12 (by kernel_rfl))
    refine step_run (wanted_none rfl) (v:=.tuple #[.string (strOf SB),.int .i64 0]) (w':=W) ?_ (hK _ _ hC trivial rfl (hJ.same 13 (by decide)))
    go_simp
   ·clear hsz
    have e1:=slot_of (a:=a) (s:=43) (v:=.tuple #[.string (strOf SB),.int .i64 0]) (hv 13 (by kernel_rfl))
    refine step_run (wanted_none rfl) (v:=.string (strOf SB)) (w':=W) ?_ (hK _ _ hC trivial rfl (hJ.same 14 (by decide)))
    go_simp
   ·clear hsz
    have e1:=slot_of (a:=a) (s:=43) (v:=.tuple #[.string (strOf SB),.int .i64 0]) (hv 13 (by kernel_rfl))
    refine step_run (wanted_none rfl) (v:=.int .i64 0) (w':=W) ?_ (hK _ _ hC trivial rfl (hJ.same 15 (by decide)))
    go_simp
   ·clear hsz
    have e1:=slot_of (a:=a) (s:=57) (v:=.string (strOf SB)) (hv 14 (by kernel_rfl))
    refine step_run (wanted_none rfl) (v:=.string (strOf SB)) (w':=W) ?_ (hK _ _ hC trivial rfl (hJ.same 16 (by decide)))
    go_simp
   ·clear hsz
    have e1:=slot_of (a:=a) (s:=58) (v:=.int .i64 0) (hv 15 (by kernel_rfl))
    refine step_run (wanted_none rfl) (v:=.int .i64 0) (w':=W) ?_ (hK _ _ hC trivial rfl (hJ.same 17 (by decide)))
    go_simp
  ·intro f w5 hC5 hv5 D7 hD7 hJ7
   obtain ⟨a7,hJ,hs⟩:=hJ7
   obtain ⟨G5,hV5,hGr5,hU5⟩:=hJ.2 (hD7 12 (by decide))
   have f13:f 13 = .string (strOf SB):=hv5 16 (by decide)
   have f14:f 14 = .int .i64 0:=hv5 17 (by decide)
   simp only [framed,List.foldl_cons,List.foldl_nil,List.setIfInBounds_toArray,List.set_cons_succ,List.set_cons_zero]
   rw [f13,f14]
   have V5:=hidxs_ hV5
   have GR5:=hidxs_ hGr5
   have U5:=hidxs_ hU5
   have H5:=hidxs_ hC5
   have E5:=hidxs_ (E4.out.untouched hU5 NG.out.2)
   clear hv5 hD7 hJ hs f13 f14 hV5 hGr5 hU5 hC5
   refine hK9 _ _ ?_
   clear hK9 K9
   obtain ⟨w6,hw6⟩:∃ W,w5.setCell ⟨g,6,none⟩ (.string (strOf SB))=W:=⟨_,rfl⟩
   have k6:=(rr_cells H5.out).2.2.2.2.2.2
   have kf:=H5.out.frozen 6
   have U6:=hidxs_ (show Untouched [g,g + 1] w5 w6 by rw [← hw6];exact Untouched.set g 6 (by simp) _)
   have H6:=hidxs_ (show Bk w6 g 36 (rRow Kb h SB) by rw [← hw6];exact H5.out.set_ 6 _)
   have E6:=hidxs_ (show Bk w6 (g + 1) 36 (rRow [] hd0 []) by rw [← hw6];exact E5.out.far (show g + 1≠g by omega) _)
   go_wp2_with (first
    | (refine wpList_load_rowW (by go_simp) 36 (.tmp 7) rfl g rfl 36 (rRow Kb h SB) H6.out _ Tryz.underlying36 rfl (iRr _ _ _) ?_)
    | (refine wpList_put_row rfl 36 (.tmp 10) (.tmp 65) rfl (g + 1) (rRow Kb h SB) rfl rfl 36 (rRow [] hd0 []) E6.out (iRr _ _ _) rfl (rRow_one _ _ _) ?_;intro w9 k9 g9 s9;have K9:=hidxs_ k9;have U9:=hidxs_ (U6.out.trans (Grew.refl w5 _) (Untouched.of_grown (F:=[g,g + 1]) g9 (fun k hk=>by injection hk with hk;simp [hk])));clear k9 g9 s9))
   have NG5:∀ k∈G5,k∉[g,g + 1]:=fun k hk hm=>(by
    rcases GR5.out k hk with h1 | h1
    ·rcases List.mem_cons.1 hm with e | e
     ·rw [e] at h1;exact NG.out.1 h1
     ·rw [List.mem_singleton.1 e] at h1;exact NG.out.2 h1
    ·have:=E4.out.lt
     rcases List.mem_cons.1 hm with e | e
     ·omega
     ·have:=List.mem_singleton.1 e;omega)
   refine bodyPost_ret (results_cell_slotE Tryz.results9 _ _ (g + 1) rfl rfl (run_loadVar_row _ _ _ _ _ (0,0) _ K9.out Tryz.underlying36 rfl (iRr _ _ _))) rfl ?_
   exact ⟨rfl,G5,(RS.foot id gv Kv N2 L2).keep V5.out U9.out NG5,GR4.out.trans U4.out.size GR5.out,(U4.out.trans GR4.out U5.out).trans (F':=[g,g + 1]) (fun k hk=>.inr (by
    rcases List.mem_cons.1 hk with e | e
    ·rw [e];exact Nat.le_of_eq HG.out
    ·rw [List.mem_singleton.1 e];have:=HG.out;omega)) U9.out⟩
theorem step_builtX {P:Program} {ops:Array Oper} {o:Oper} {a:Act} {w:World} {K:Act→World→Prop} {Q:Exit→Act→World→Prop} {E:Prop} (hw:Region.wanted o (yielded ops a.tmps)=true) (t:TypeId) (parts:Array (Nat × Operand)) (ho:o.op = .build t parts) (X:Array Value)
  (hf:P.built t (parts.map fun (i,x)=>(i,a.eval x)).toList=some X) (hk:K (a.put o.dst (.agg X)) w):if Region.wanted o (yielded ops a.tmps)=true then Oper.wp P o a w K Q else E:=by
 refine step_run hw (v:=.agg X) (w':=w) ?_ hk
 have h:=run_build (P:=P) w t (parts.map fun (i,x)=>(i,a.eval x)) X hf
 unfold execOp
 simp only [ho,Sem.run_bind,Sem.run_pure,h,Result.andThen_ok]
structure TwSt (i1 i2 g1 g2:Nat) (t1 t2:TypeId) (a1 b1 a2 b2:Array Value) (D:Nat→Bool) (W:World):Prop where
 o1:D i1=false→Bk W g1 t1 a1
 n1:D i1=true→Bk W g1 t1 b1
 o2:D i2=false→Bk W g2 t2 a2
 n2:D i2=true→Bk W g2 t2 b2
section
variable {i1 i2 g1 g2 : Nat} {t1 t2 : TypeId} {a1 b1 a2 b2 : Array Value} {D : Nat → Bool} {W W' : World}
theorem TwSt.same (h:TwSt i1 i2 g1 g2 t1 t2 a1 b1 a2 b2 D W) (i:Nat) (hi:i1≠i∧i2≠i):TwSt i1 i2 g1 g2 t1 t2 a1 b1 a2 b2 (fun j=>decide (j=i) || D j) W:=by
 have e1:=orf_ne (L:=D) hi.1
 have e2:=orf_ne (L:=D) hi.2
 exact ⟨by simp only [e1];exact h.o1,by simp only [e1];exact h.n1,by simp only [e2];exact h.o2,by simp only [e2];exact h.n2⟩
theorem TwSt.st1 (h:TwSt i1 i2 g1 g2 t1 t2 a1 b1 a2 b2 D W) (hi:i2≠i1) (hg:W.grownBy W' (some g1)) (hb:Bk W' g1 t1 b1) (hne:g2≠g1):TwSt i1 i2 g1 g2 t1 t2 a1 b1 a2 b2 (fun j=>decide (j=i1) || D j) W':=by
 have e2:=orf_ne (L:=D) hi
 have e1:=orf_eq (L:=D) (i:=i1)
 have hk:∀ {cs:Array Value},Bk W g2 t2 cs→Bk W' g2 t2 cs:=fun k=>k.grown hg (fun e=>hne (by injection e))
 exact ⟨by simp only [e1];exact fun x=>Bool.noConfusion x,fun _=>hb,by simp only [e2];exact fun x=>hk (h.o2 x),by simp only [e2];exact fun x=>hk (h.n2 x)⟩
theorem TwSt.st2 (h:TwSt i1 i2 g1 g2 t1 t2 a1 b1 a2 b2 D W) (hi:i1≠i2) (hg:W.grownBy W' (some g2)) (hb:Bk W' g2 t2 b2) (hne:g1≠g2):TwSt i1 i2 g1 g2 t1 t2 a1 b1 a2 b2 (fun j=>decide (j=i2) || D j) W':=by
 have e1:=orf_ne (L:=D) hi
 have e2:=orf_eq (L:=D) (i:=i2)
 have hk:∀ {cs:Array Value},Bk W g1 t1 cs→Bk W' g1 t1 cs:=fun k=>k.grown hg (fun e=>hne (by injection e))
 exact ⟨by simp only [e1];exact fun x=>hk (h.o1 x),by simp only [e1];exact fun x=>hk (h.n1 x),by simp only [e2];exact fun x=>Bool.noConfusion x,fun _=>hb⟩
end
def askH (q:AskV) (A:Option Addr) (c:Nat):HeadV:=⟨q.e,q.n,q.c,q.d,A,q.pl.take 100,c⟩
theorem built_ah (e n c d:Int) (A:Option Addr) (m k:Nat):Tryz.prog.built 34 [(0,.int .i64 e),(1,.int .i64 n),(2,.agg #[.int .i64 c,.int .i64 d]),(3,.slice A m k)]=some #[.int .i64 e,.int .i64 n,.int .i64 c,.int .i64 d,.slice A m k]:=by kernel_rfl
theorem built_ar (e n c d:Int) (s:ByteArray):Tryz.prog.built 36 [(1,.int .i64 e),(2,.int .i64 n),(3,.agg #[.int .i64 c,.int .i64 d]),(4,.string s)]=some #[.string (strOf []),.int .i64 e,.int .i64 n,.int .i64 c,.int .i64 d,.string s,.string (strOf [])]:=by kernel_rfl
theorem iDot2 (c d:Int):(Tryz.prog.info? 25).map (·.size)=some (#[.int .i64 c,.int .i64 d]:Array Value).size:=by kernel_rfl
set_option maxHeartbeats 8000000 in
theorem head_any (w:World) (q:AskV) (hq:q.Ok w w.heap.size):Calls Tryz.prog 7 #[.agg q.row] w fun r w'=>∃ A c,r = .returned (.tuple #[.agg (askH q A c).row,.agg (rRow [] (askH q A c) [])])∧Own8 w' w.heap.size (.slice A (q.pl.take 100).length c) (q.pl.take 100)∧Below w.heap.size w w':=by
 obtain ⟨g,hg⟩:∃ g,w.heap.size=g:=⟨_,rfl⟩
 obtain ⟨w1,hw1⟩:∃ W,w.alloc (.cells q.row 27)=W:=⟨_,rfl⟩
 obtain ⟨w2,hw2⟩:∃ W,w1.alloc (.cells hd0.row 34)=W:=⟨_,rfl⟩
 obtain ⟨w3,hw3⟩:∃ W,w2.alloc (.cells (rRow [] hd0 []) 36)=W:=⟨_,rfl⟩
 have hz1:=zeroH w1
 have hz2:=zeroR w2
 have s1:w1.heap.size=g + 1:=by rw [← hw1,← hg];simp
 have S2:w2.heap.size=g + 2:=by rw [← hw2];simp [s1]
 have S3:w3.heap.size=g + 3:=by rw [← hw3];simp [S2]
 have b1:Below w.heap.size w w1:=by rw [← hw1];exact (Below.refl _ _).alloc (Nat.le_refl _) _
 have b2:Below w1.heap.size w1 w2:=by rw [← hw2];exact (Below.refl _ _).alloc (Nat.le_refl _) _
 have b3:Below w2.heap.size w2 w3:=by rw [← hw3];exact (Below.refl _ _).alloc (Nat.le_refl _) _
 have X3:=hidxs_ (b1.trans ((b2.trans (b3.mono b2.size)).mono b1.size))
 have Q3:=hidxs_ (show Bk w3 g 27 q.row by have k:=Bk.new w 27 q.row;rw [hw1,hg] at k;have k2:=k.below b2 k.lt;exact k2.below b3 k2.lt)
 have H3:=hidxs_ (show Bk w3 (g + 1) 34 hd0.row by have k:=Bk.new w1 34 hd0.row;rw [hw2,s1] at k;exact k.below b3 k.lt)
 have E3:=hidxs_ (show Bk w3 (g + 2) 36 (rRow [] hd0 []) by have k:=Bk.new w2 36 (rRow [] hd0 []);rw [hw3,S2] at k;exact k)
 have HG:=hidxs_ hg
 obtain ⟨p,hp⟩:∃ p,q.pl.take 100=p:=⟨_,rfl⟩
 obtain ⟨m,hm⟩:∃ m,p.length=m:=⟨_,rfl⟩
 have HPP:=hidxs_ hp
 have HM:=hidxs_ hm
 have k5:=(show w3.cell? ⟨g,5,none⟩=some (.slice q.pa q.pl.length q.pc) from Q3.out.cell 5)
 have cu:Calls Tryz.prog 6 #[.slice q.pa q.pl.length q.pc,.int .i64 100] w3 (NewP w3 m p):=by
  have h:=ecut_any w3 q.pa q.pl q.pl.length q.pc 100 m rfl (by rw [← hm,← hp,List.length_take,Nat.min_comm]) (by omega) ((hq.rp.below X3.out).more X3.out.size) hq.hp.1 hq.hp.2
  rw [hp] at h
  exact h
 clear b1 b2 b3 hp hm hq
 go_enter Tryz.func7,Tryz.ntmps7
 go_upto_region 2 with (go_at_call 6;((with_reducible refine cu.mono ?_);clear cu;rintro e w4 ⟨A,c,rfl,hO,hB⟩;have OW:=hidxs_ hO;have X4:=hidxs_ (X3.out.trans (hB.mono X3.out.size));have Q4:=hidxs_ (Q3.out.below hB Q3.out.lt);have H4:=hidxs_ (H3.out.below hB H3.out.lt);have E4:=hidxs_ (E3.out.below hB E3.out.lt);clear hO hB))
 rename_i K9 hK9
 have ZC:=hidxs_ (fun W (hW:Untouched [g + 1,g + 2] w4 W)=>(show W.cell? ⟨g,1,none⟩=some (.int .i64 q.e)∧W.cell? ⟨g,2,none⟩=some (.int .i64 q.n) from ⟨(Q4.out.untouched hW (by simp)).cell 1,(Q4.out.untouched hW (by simp)).cell 2⟩))
 have ZD:=hidxs_ (fun W (hW:Untouched [g + 1,g + 2] w4 W)=>(show ∀ j,j < (#[.int .i64 q.c,.int .i64 q.d]:Array Value).size→W.cell? ⟨g,3 + j,none⟩=(#[.int .i64 q.c,.int .i64 q.d]:Array Value)[j]? from fun j hj=>by
  have hj2:j < 2:=hj
  rcases j with _ | _ | j
  ·exact (Q4.out.untouched hW (by simp)).cell 3
  ·exact (Q4.out.untouched hW (by simp)).cell 4
  ·omega))
 have ZS:=hidxs_ (fun W (hW:Untouched [g + 1,g + 2] w4 W)=>(show (convert 23 9 (.slice A m c)).run Tryz.prog W = .ok (.string (strOf p)) W from conv_strn (OW.out.untouched hW (fun k hk=>by rcases List.mem_cons.1 hk with e | e;omega;have:=List.mem_singleton.1 e;omega)).rd.1 m c HM.out))
 clear k5 hw1 hw2 hw3
 refine region_byJF [8,9,10,11,12,13,14,15,16,17,18,19,20,21,22,23,24] (fun W=>Untouched [g + 1,g + 2] w4 W) (fun _ _=>True) (fun jR_ vR_ (_:World)=>(match jR_ with | 0=>vR_ = .pointer (some ⟨g,1,none⟩) | 1=>vR_ = .int .i64 q.e | 2=>vR_ = .pointer (some ⟨g,2,none⟩) | 3=>vR_ = .int .i64 q.n | 4=>vR_ = .pointer (some ⟨g,3,none⟩) | 5=>vR_ = .agg #[.int .i64 q.c,.int .i64 q.d] | 6=>vR_ = .slice A m c | 7=>vR_ = .agg #[.int .i64 q.e,.int .i64 q.n,.int .i64 q.c,.int .i64 q.d,.slice A m c] | 8=>vR_ = .pointer (some ⟨g,1,none⟩) | 9=>vR_ = .int .i64 q.e | 10=>vR_ = .pointer (some ⟨g,2,none⟩) | 11=>vR_ = .int .i64 q.n | 12=>vR_ = .pointer (some ⟨g,3,none⟩) | 13=>vR_ = .agg #[.int .i64 q.c,.int .i64 q.d] | 14=>vR_ = .slice A m c | 15=>vR_ = .string (strOf p) | 16=>vR_ = .agg #[.string (strOf []),.int .i64 q.e,.int .i64 q.n,.int .i64 q.c,.int .i64 q.d,.string (strOf p),.string (strOf [])] | _=>True:Prop)) (fun D _ W=>TwSt 17 18 (g + 1) (g + 2) 34 36 hd0.row #[.int .i64 q.e,.int .i64 q.n,.int .i64 q.c,.int .i64 q.d,.slice A m c] (rRow [] hd0 []) #[.string (strOf []),.int .i64 q.e,.int .i64 q.n,.int .i64 q.c,.int .i64 q.d,.string (strOf p),.string (strOf [])] D W) (by kernel_rfl) (by kernel_rfl) (by kernel_rfl) (by kernel_rfl) (fun j v w w' hT hr=>?_) (fun j v w hlt hj _=>?_) ⟨rfl,rfl,rfl,Nat.le_refl _,fun _ _ _=>rfl⟩ ?_ ⟨fun _=>H4.out.drew,fun e=>Bool.noConfusion e,fun _=>E4.out.drew,fun e=>Bool.noConfusion e⟩ ?_
 ·exact hr
 ·rcases j with _ | _ | _ | _ | _ | _ | _ | _ | _ | _ | _ | _ | _ | _ | _ | _ | _ | _ | _ | j
  all_goals first
   | (exfalso;simp [dstOf] at hj;done)
   | trivial
 ·refine ⟨?_,?_,?_,?_,?_,?_,?_,?_,?_,?_,?_,?_,?_,?_,?_,?_,?_,?_,?_,trivial⟩
  all_goals intro D a W hC hd hsz hf hv hJ hL hW K hK
  ·clear hsz
   have e1:=slot_of (a:=a) (s:=1) (v:=.pointer (some ⟨g,0,none⟩)) (hf 1 (by kernel_rfl))
   refine step_run (wanted_none rfl) (v:=.pointer (some ⟨g,1,none⟩)) (w':=W) ?_ (hK _ _ hC trivial rfl (hJ.same 0 (by decide)))
   go_simp
  ·clear hsz
   have e1:=slot_of (a:=a) (s:=8) (v:=.pointer (some ⟨g,1,none⟩)) (hv 0 (by kernel_rfl))
   obtain ⟨k1,k2⟩:=ZC.out W hC
   refine step_run (wanted_none rfl) (v:=.int .i64 q.e) (w':=W) ?_ (hK _ _ hC trivial rfl (hJ.same 1 (by decide)))
   go_simp
  ·clear hsz
   have e1:=slot_of (a:=a) (s:=1) (v:=.pointer (some ⟨g,0,none⟩)) (hf 1 (by kernel_rfl))
   refine step_run (wanted_none rfl) (v:=.pointer (some ⟨g,2,none⟩)) (w':=W) ?_ (hK _ _ hC trivial rfl (hJ.same 2 (by decide)))
   go_simp
  ·clear hsz
   have e1:=slot_of (a:=a) (s:=10) (v:=.pointer (some ⟨g,2,none⟩)) (hv 2 (by kernel_rfl))
   obtain ⟨k1,k2⟩:=ZC.out W hC
   refine step_run (wanted_none rfl) (v:=.int .i64 q.n) (w':=W) ?_ (hK _ _ hC trivial rfl (hJ.same 3 (by decide)))
   go_simp
  ·clear hsz
   have e1:=slot_of (a:=a) (s:=1) (v:=.pointer (some ⟨g,0,none⟩)) (hf 1 (by kernel_rfl))
   refine step_run (wanted_none rfl) (v:=.pointer (some ⟨g,3,none⟩)) (w':=W) ?_ (hK _ _ hC trivial rfl (hJ.same 4 (by decide)))
   go_simp
  ·clear hsz
   have e1:=eval_of (a:=a) (s:=12) (v:=.pointer (some ⟨g,3,none⟩)) (hv 4 (by kernel_rfl))
   exact step_load_sub (wanted_none rfl) 25 (.tmp 12) rfl g 3 e1 #[.int .i64 q.c,.int .i64 q.d] (ZD.out W hC) _ Tryz.underlying25 rfl (iDot2 _ _) (hK _ _ hC trivial rfl (hJ.same 5 (by decide)))
  ·clear hsz
   have e1:=slot_of (a:=a) (s:=4) (v:=.slice A m c) (hf 4 (by kernel_rfl))
   refine step_run (wanted_none rfl) (v:=.slice A m c) (w':=W) ?_ (hK _ _ hC trivial rfl (hJ.same 6 (by decide)))
   go_simp
  ·clear hsz
   have e1:=eval_of (a:=a) (s:=9) (v:=.int .i64 q.e) (hv 1 (by kernel_rfl))
   have e2:=eval_of (a:=a) (s:=11) (v:=.int .i64 q.n) (hv 3 (by kernel_rfl))
   have e3:=eval_of (a:=a) (s:=13) (v:=.agg #[.int .i64 q.c,.int .i64 q.d]) (hv 5 (by kernel_rfl))
   have e4:=eval_of (a:=a) (s:=14) (v:=.slice A m c) (hv 6 (by kernel_rfl))
   refine step_builtX (wanted_none rfl) 34 #[(0,.tmp 9),(1,.tmp 11),(2,.tmp 13),(3,.tmp 14)] rfl #[.int .i64 q.e,.int .i64 q.n,.int .i64 q.c,.int .i64 q.d,.slice A m c] ?_ ?_
   ·simp only [List.map_toArray,List.map_cons,List.map_nil,e1,e2,e3,e4]
    exact built_ah _ _ _ _ _ _ _
   ·exact hK _ _ hC trivial rfl (hJ.same 7 (by decide))
  ·clear hsz
   have e1:=slot_of (a:=a) (s:=1) (v:=.pointer (some ⟨g,0,none⟩)) (hf 1 (by kernel_rfl))
   refine step_run (wanted_none rfl) (v:=.pointer (some ⟨g,1,none⟩)) (w':=W) ?_ (hK _ _ hC trivial rfl (hJ.same 8 (by decide)))
   go_simp
  ·clear hsz
   have e1:=slot_of (a:=a) (s:=16) (v:=.pointer (some ⟨g,1,none⟩)) (hv 8 (by kernel_rfl))
   obtain ⟨k1,k2⟩:=ZC.out W hC
   refine step_run (wanted_none rfl) (v:=.int .i64 q.e) (w':=W) ?_ (hK _ _ hC trivial rfl (hJ.same 9 (by decide)))
   go_simp
  ·clear hsz
   have e1:=slot_of (a:=a) (s:=1) (v:=.pointer (some ⟨g,0,none⟩)) (hf 1 (by kernel_rfl))
   refine step_run (wanted_none rfl) (v:=.pointer (some ⟨g,2,none⟩)) (w':=W) ?_ (hK _ _ hC trivial rfl (hJ.same 10 (by decide)))
   go_simp
  ·clear hsz
   have e1:=slot_of (a:=a) (s:=18) (v:=.pointer (some ⟨g,2,none⟩)) (hv 10 (by kernel_rfl))
   obtain ⟨k1,k2⟩:=ZC.out W hC
   refine step_run (wanted_none rfl) (v:=.int .i64 q.n) (w':=W) ?_ (hK _ _ hC trivial rfl (hJ.same 11 (by decide)))
   go_simp
  ·clear hsz
   have e1:=slot_of (a:=a) (s:=1) (v:=.pointer (some ⟨g,0,none⟩)) (hf 1 (by kernel_rfl))
   refine step_run (wanted_none rfl) (v:=.pointer (some ⟨g,3,none⟩)) (w':=W) ?_ (hK _ _ hC trivial rfl (hJ.same 12 (by decide)))
   go_simp
  ·clear hsz
   have e1:=eval_of (a:=a) (s:=20) (v:=.pointer (some ⟨g,3,none⟩)) (hv 12 (by kernel_rfl))
   exact step_load_sub (wanted_none rfl) 25 (.tmp 20) rfl g 3 e1 #[.int .i64 q.c,.int .i64 q.d] (ZD.out W hC) _ Tryz.underlying25 rfl (iDot2 _ _) (hK _ _ hC trivial rfl (hJ.same 13 (by decide)))
  ·clear hsz
   have e1:=slot_of (a:=a) (s:=4) (v:=.slice A m c) (hf 4 (by kernel_rfl))
   refine step_run (wanted_none rfl) (v:=.slice A m c) (w':=W) ?_ (hK _ _ hC trivial rfl (hJ.same 14 (by decide)))
   go_simp
  ·clear hsz
   have e1:=slot_of (a:=a) (s:=22) (v:=.slice A m c) (hv 14 (by kernel_rfl))
   have hcv:=ZS.out W hC
   refine step_run (wanted_none rfl) (v:=.string (strOf p)) (w':=W) ?_ (hK _ _ hC trivial rfl (hJ.same 15 (by decide)))
   go_simp
  ·clear hsz
   have e1:=eval_of (a:=a) (s:=17) (v:=.int .i64 q.e) (hv 9 (by kernel_rfl))
   have e2:=eval_of (a:=a) (s:=19) (v:=.int .i64 q.n) (hv 11 (by kernel_rfl))
   have e3:=eval_of (a:=a) (s:=21) (v:=.agg #[.int .i64 q.c,.int .i64 q.d]) (hv 13 (by kernel_rfl))
   have e4:=eval_of (a:=a) (s:=23) (v:=.string (strOf p)) (hv 15 (by kernel_rfl))
   refine step_builtX (wanted_none rfl) 36 #[(1,.tmp 17),(2,.tmp 19),(3,.tmp 21),(4,.tmp 23)] rfl #[.string (strOf []),.int .i64 q.e,.int .i64 q.n,.int .i64 q.c,.int .i64 q.d,.string (strOf p),.string (strOf [])] ?_ ?_
   ·simp only [List.map_toArray,List.map_cons,List.map_nil,e1,e2,e3,e4]
    exact built_ar _ _ _ _ _
   ·exact hK _ _ hC trivial rfl (hJ.same 16 (by decide))
  ·clear hsz
   have e1:=eval_of (a:=a) (s:=2) (v:=.pointer (some ⟨(g + 1),0,none⟩)) (hf 2 (by kernel_rfl))
   have e2:=eval_of (a:=a) (s:=15) (v:=.agg #[.int .i64 q.e,.int .i64 q.n,.int .i64 q.c,.int .i64 q.d,.slice A m c]) (hv 7 (by kernel_rfl))
   refine step_put_row rfl 34 _ _ rfl (g + 1) #[.int .i64 q.e,.int .i64 q.n,.int .i64 q.c,.int .i64 q.d,.slice A m c] e1 e2 34 _ (hJ.o1 hL) (iHead (askH q A c)) rfl (by simp [Value.oneCell']) ?_
   intro W' k9 g9 s9
   exact hK _ _ (hC.trans (Grew.refl _ _) (Untouched.of_grown g9 (fun k hk=>by injection hk with hk;simp [hk]))) trivial trivial (hJ.st1 (by decide) g9 k9 (by omega))
  ·clear hsz
   have e1:=eval_of (a:=a) (s:=3) (v:=.pointer (some ⟨(g + 2),0,none⟩)) (hf 3 (by kernel_rfl))
   have e2:=eval_of (a:=a) (s:=24) (v:=.agg #[.string (strOf []),.int .i64 q.e,.int .i64 q.n,.int .i64 q.c,.int .i64 q.d,.string (strOf p),.string (strOf [])]) (hv 16 (by kernel_rfl))
   refine step_put_row rfl 36 _ _ rfl (g + 2) #[.string (strOf []),.int .i64 q.e,.int .i64 q.n,.int .i64 q.c,.int .i64 q.d,.string (strOf p),.string (strOf [])] e1 e2 36 _ (hJ.o2 hL) (iRr [] hd0 []) rfl (by simp [Value.oneCell']) ?_
   intro W' k9 g9 s9
   exact hK _ _ (hC.trans (Grew.refl _ _) (Untouched.of_grown g9 (fun k hk=>by injection hk with hk;simp [hk]))) trivial trivial (hJ.st2 (by decide) g9 k9 (by omega))
 ·intro f w5 hC5 hv5 D7 hD7 hJ7
  obtain ⟨a7,hJ,hs⟩:=hJ7
  have h1:=hJ.n1 (hD7 17 (by decide))
  have h2:=hJ.n2 (hD7 18 (by decide))
  simp only [framed,List.foldl_cons,List.foldl_nil,List.setIfInBounds_toArray,List.set_cons_succ,List.set_cons_zero]
  have H5:=hidxs_ h1
  have E5:=hidxs_ h2
  have U5:=hidxs_ hC5
  clear hv5 hD7 hJ hs h1 h2 hC5
  refine hK9 _ _ ?_
  clear hK9 K9
  go_wp2
  refine bodyPost_ret (results_cells2 Tryz.results7 _ _ (g + 1) (g + 2) rfl rfl (run_loadVar_row _ _ _ _ _ (0,0) _ H5.out Tryz.underlying34 rfl (iHead (askH q A c))) (run_loadVar_row _ _ _ _ _ (0,0) _ E5.out Tryz.underlying36 rfl (iRr [] hd0 []))) rfl ?_
  refine ⟨A,c,?_,?_,?_⟩
  ·rw [show (askH q A c).row = #[.int .i64 q.e,.int .i64 q.n,.int .i64 q.c,.int .i64 q.d,.slice A m c] from by unfold askH HeadV.row;rw [HPP.out,HM.out],show rRow [] (askH q A c) [] = #[.string (strOf []),.int .i64 q.e,.int .i64 q.n,.int .i64 q.c,.int .i64 q.d,.string (strOf p),.string (strOf [])] from by unfold askH rRow;rw [HPP.out]]
  ·rw [HPP.out,HM.out]
   exact (OW.out.untouched U5.out (fun k hk=>by rcases List.mem_cons.1 hk with e | e;omega;have:=List.mem_singleton.1 e;omega)).lower (Nat.le_trans (by have:=X3.out.size;omega) (Nat.le_refl _))
  ·exact X4.out.trans (U5.out.below (fun k hk=>by rcases List.mem_cons.1 hk with e | e;omega;have:=List.mem_singleton.1 e;omega) X4.out.size)
theorem hidxt_ {p:Prop} (h:p):Hid p:=h
def opR (id:Bool) (K:List UInt8) (N:List (List UInt8)) (L:List SealV) (name Ke:List UInt8) (h:HeadV) (s:List UInt8):List UInt8 × Bool × Int :=
 if nmBad name then ([],false,1) else if ¬ (Ke.length=32∧EnvOk h s.length) then ([],false,2) else if Ke≠bV id K N name then ([],false,6) else
 match oT id K L h.e.toNat h.c.toNat h.n.toNat (boundB Ke h) s with
 | none=>([],false,6)
 | some p=>valR (cutB p)
section
variable {id : Bool} {K : List UInt8} {N : List (List UInt8)} {L : List SealV} {name Ke : List UInt8} {h : HeadV} {s : List UInt8}
theorem opR_1 (h1:nmBad name):opR id K N L name Ke h s=([],false,1):=by unfold opR;rw [if_pos h1]
theorem opR_2 (h1:¬ nmBad name) (h2:¬ (Ke.length=32∧EnvOk h s.length)):opR id K N L name Ke h s=([],false,2):=by unfold opR;rw [if_neg h1,if_pos h2]
theorem opR_3 (h1:¬ nmBad name) (h2:Ke.length=32∧EnvOk h s.length) (h3:Ke≠bV id K N name):opR id K N L name Ke h s=([],false,6):=by unfold opR;rw [if_neg h1,if_neg (fun x=>x h2),if_pos h3]
theorem opR_4 (h1:¬ nmBad name) (h2:Ke.length=32∧EnvOk h s.length) (h3:Ke=bV id K N name) (h4:oT id K L h.e.toNat h.c.toNat h.n.toNat (boundB Ke h) s=none):opR id K N L name Ke h s=([],false,6):=by unfold opR;rw [if_neg h1,if_neg (fun x=>x h2),if_neg (fun x=>x h3),h4]
theorem opR_5 (h1:¬ nmBad name) (h2:Ke.length=32∧EnvOk h s.length) (h3:Ke=bV id K N name) {p:List UInt8} (h4:oT id K L h.e.toNat h.c.toNat h.n.toNat (boundB Ke h) s=some p):opR id K N L name Ke h s=valR (cutB p):=by unfold opR;rw [if_neg h1,if_neg (fun x=>x h2),if_neg (fun x=>x h3),h4]
end
set_option maxHeartbeats 4000000 in
theorem refOpen_1 (w:World) (gv:Nat) (name Ke:List UInt8) (h:HeadV) (s:List UInt8) (hn:nmBad name) (hnl:name.length≤1000):Calls Tryz.prog 17 #[.pointer (some ⟨gv,0,none⟩),.string (strOf name),.agg (rRow Ke h s)] w fun r w'=>r = .returned (.tuple #[.string (strOf []),.bool false,.int .i64 1])∧Below w.heap.size w w':=by
 obtain ⟨g,hg⟩:∃ g,w.heap.size=g:=⟨_,rfl⟩
 obtain ⟨w1,hw1⟩:∃ W,w.alloc (.cells (rRow Ke h s) 36)=W:=⟨_,rfl⟩
 have B1:=hidxt_ (show Below w.heap.size w w1 by rw [← hw1];exact (Below.refl _ _).alloc (Nat.le_refl _) _)
 have R1:=hidxt_ (show Bk w1 g 36 (rRow Ke h s) by rw [← hw1,← hg];exact Bk.new w _ _)
 have HG:=hidxt_ hg
 have hsz:(strOf name).size=name.length:=strOf_size name
 have ci:=refName_any w1 (name.length:Int) false (by unfold nmBad at hn;rw [decide_eq_false (by omega)])
 go_enter Tryz.func17,Tryz.ntmps17
 go_wp2_with (go_at_call 28;((with_reducible refine ci.mono ?_);clear ci;rintro e w' ⟨rfl,rfl⟩))
 go_ret3
 exact ⟨rfl,B1.out⟩
set_option maxHeartbeats 4000000 in
theorem refOpen_2 (w:World) (gv:Nat) (name Ke:List UInt8) (h:HeadV) (s:List UInt8) (hn:¬ nmBad name) (hbad:¬ (Ke.length=32∧EnvOk h s.length)):Calls Tryz.prog 17 #[.pointer (some ⟨gv,0,none⟩),.string (strOf name),.agg (rRow Ke h s)] w fun r w'=>r = .returned (.tuple #[.string (strOf []),.bool false,.int .i64 2])∧Below w.heap.size w w':=by
 obtain ⟨g,hg⟩:∃ g,w.heap.size=g:=⟨_,rfl⟩
 obtain ⟨w1,hw1⟩:∃ W,w.alloc (.cells (rRow Ke h s) 36)=W:=⟨_,rfl⟩
 have B1:=hidxt_ (show Below w.heap.size w w1 by rw [← hw1];exact (Below.refl _ _).alloc (Nat.le_refl _) _)
 have R1:=hidxt_ (show Bk w1 g 36 (rRow Ke h s) by rw [← hw1,← hg];exact Bk.new w _ _)
 have HG:=hidxt_ hg
 have hsz:(strOf name).size=name.length:=strOf_size name
 have ci:=refName_any w1 (name.length:Int) true (by unfold nmBad at hn;rw [decide_eq_true (by omega)])
 have ci2:=refRight_any w1 Ke h s
 rw [decide_eq_false hbad] at ci2
 go_enter Tryz.func17,Tryz.ntmps17
 go_wp2_with (first
  | (go_at_call 28;((with_reducible refine ci.mono ?_);clear ci;rintro e w' ⟨rfl,rfl⟩))
  | (refine wpList_load_rowW (by go_simp) 36 (.tmp 5) rfl g rfl 36 (rRow Ke h s) R1.out _ Tryz.underlying36 rfl (iRr _ _ _) ?_)
  | (go_at_call 44;((with_reducible refine ci2.mono ?_);clear ci2;rintro e w2 ⟨rfl,hB⟩;have X2:=hidxt_ (B1.out.trans (hB.mono B1.out.size));have R2:=hidxt_ (R1.out.below hB R1.out.lt);clear hB)))
 go_ret3
 exact ⟨rfl,X2.out⟩
set_option maxHeartbeats 4000000 in
theorem refOpen_3 (w:World) {id:Bool} {gv:Nat} {Kv:List UInt8} {N:List (List UInt8)} {L:List SealV} {G:List Nat} (hv:RS id gv Kv N L w G) (hKv:Kv.length=32) (name Ke:List UInt8) (h:HeadV) (s:List UInt8) (hn:¬ nmBad name) (hok:Ke.length=32∧EnvOk h s.length) (hN5:N.length≤100000) (hL5:L.length≤100000) (hne:Ke≠bV id Kv N name):Calls Tryz.prog 17 #[.pointer (some ⟨gv,0,none⟩),.string (strOf name),.agg (rRow Ke h s)] w fun r w'=>r = .returned (.tuple #[.string (strOf []),.bool false,.int .i64 6])∧Leaves (RS id gv Kv (bN id N name) L) w G w':=by
 obtain ⟨g,hg⟩:∃ g,w.heap.size=g:=⟨_,rfl⟩
 obtain ⟨w1,hw1⟩:∃ W,w.alloc (.cells (rRow Ke h s) 36)=W:=⟨_,rfl⟩
 have B1:=hidxt_ (show Below w.heap.size w w1 by rw [← hw1];exact (Below.refl _ _).alloc (Nat.le_refl _) _)
 have R1:=hidxt_ (show Bk w1 g 36 (rRow Ke h s) by rw [← hw1,← hg];exact Bk.new w _ _)
 have HG:=hidxt_ hg
 have hsz:(strOf name).size=name.length:=strOf_size name
 have ci:=refName_any w1 (name.length:Int) true (by unfold nmBad at hn;rw [decide_eq_true (by omega)])
 have ci2:=refRight_any w1 Ke h s
 rw [decide_eq_true hok] at ci2
 have HF:=hidxt_ (fun k hk=>(RS.foot id gv Kv N L).lt hv k hk)
 have BE:=hidxt_ (show bE name=0 by unfold bE;rw [if_neg hn])
 have hrv:rV id Kv N name=bV id Kv N name:=by unfold rV bV;rw [if_neg hn,if_neg hn]
 obtain ⟨Kb,hKb⟩:∃ x,bV id Kv N name=x:=⟨_,rfl⟩
 have HRV:=hidxt_ (hrv.trans hKb)
 obtain ⟨N2,hN2⟩:∃ x,bN id N name=x:=⟨_,rfl⟩
 have HN2:=hidxt_ hN2
 rw [hN2]
 have HV:=hidxt_ hv
 have HOK:=hidxt_ hok
 rw [hKb] at hne
 have qn:=strOf_ne Kb Ke (fun e=>hne e.symm)
 clear hv hok hrv hKb hN2 hn hne
 go_enter Tryz.func17,Tryz.ntmps17
 go_wp2_with (first
  | (go_at_call 28;((with_reducible refine ci.mono ?_);clear ci;rintro e w' ⟨rfl,rfl⟩))
  | (refine wpList_load_rowW (by go_simp) 36 (.tmp 5) rfl g rfl 36 (rRow Ke h s) R1.out _ Tryz.underlying36 rfl (iRr _ _ _) ?_)
  | (go_at_call 44;((with_reducible refine ci2.mono ?_);clear ci2;rintro e w2 ⟨rfl,hB⟩;have X2:=hidxt_ (B1.out.trans (hB.mono B1.out.size));have R2:=hidxt_ (R1.out.below hB R1.out.lt);have cb:=rblind_x ((RS.foot id gv Kv N L).keep HV.out (Untouched.of_below (F:=[]) X2.out) (fun _ _=>by simp)) hKv name hN5;rw [HRV.out,BE.out,HN2.out] at cb;clear hB))
  | (go_at_call 30;((with_reducible refine cb.mono ?_);clear cb;rintro e w3 ⟨rfl,G3,hV,hGr,hUn⟩;have V3:=hidxt_ hV;have GR3:=hidxt_ ((Grew.refl w G).trans X2.out.size hGr);have U3:=hidxt_ ((Untouched.of_below (F:=G) X2.out).trans (Grew.refl w G) hUn);have R3:=hidxt_ (R2.out.untouched hUn (fun hm=>by have:=HF.out _ hm;have:=HG.out;omega));have k0:=(rr_cells R3.out).1;clear hV hGr hUn)))
 go_ret3
 exact ⟨rfl,G3,V3.out,GR3.out,U3.out⟩
set_option maxHeartbeats 8000000 in
theorem refOpen_4 (w:World) {id:Bool} {gv:Nat} {Kv:List UInt8} {N:List (List UInt8)} {L:List SealV} {G:List Nat} (hv:RS id gv Kv N L w G) (hKv:Kv.length=32) (name Ke:List UInt8) (h:HeadV) (s:List UInt8) (hn:¬ nmBad name) (hok:Ke.length=32∧EnvOk h s.length) (hN5:N.length≤100000) (hL5:L.length≤100000) (hke:Ke=bV id Kv N name) (hot:oT id Kv L h.e.toNat h.c.toNat h.n.toNat (boundB Ke h) s=none):Calls Tryz.prog 17 #[.pointer (some ⟨gv,0,none⟩),.string (strOf name),.agg (rRow Ke h s)] w fun r w'=>r = .returned (.tuple #[.string (strOf []),.bool false,.int .i64 6])∧Leaves (RS id gv Kv (bN id N name) L) w G w':=by
 obtain ⟨g,hg⟩:∃ g,w.heap.size=g:=⟨_,rfl⟩
 obtain ⟨w1,hw1⟩:∃ W,w.alloc (.cells (rRow Ke h s) 36)=W:=⟨_,rfl⟩
 have B1:=hidxt_ (show Below w.heap.size w w1 by rw [← hw1];exact (Below.refl _ _).alloc (Nat.le_refl _) _)
 have R1:=hidxt_ (show Bk w1 g 36 (rRow Ke h s) by rw [← hw1,← hg];exact Bk.new w _ _)
 have HG:=hidxt_ hg
 have hsz:(strOf name).size=name.length:=strOf_size name
 have ci:=refName_any w1 (name.length:Int) true (by unfold nmBad at hn;rw [decide_eq_true (by omega)])
 have ci2:=refRight_any w1 Ke h s
 rw [decide_eq_true hok] at ci2
 have HF:=hidxt_ (fun k hk=>(RS.foot id gv Kv N L).lt hv k hk)
 have BE:=hidxt_ (show bE name=0 by unfold bE;rw [if_neg hn])
 have hrv:rV id Kv N name=bV id Kv N name:=by unfold rV bV;rw [if_neg hn,if_neg hn]
 obtain ⟨Kb,hKb⟩:∃ x,bV id Kv N name=x:=⟨_,rfl⟩
 have HRV:=hidxt_ (hrv.trans hKb)
 obtain ⟨N2,hN2⟩:∃ x,bN id N name=x:=⟨_,rfl⟩
 have HN2:=hidxt_ hN2
 rw [hN2]
 have HV:=hidxt_ hv
 have HOK:=hidxt_ hok
 rw [hKb] at hke
 have qn:=strOf_eq Kb Ke hke.symm
 obtain ⟨X,hX⟩:∃ x,boundB Ke h=x:=⟨_,rfl⟩
 have HX:=hidxt_ hX
 have HXL:=hidxt_ (show X.length≤100000 by rw [← hX,boundB_len Ke hok.1];have:=hok.2.1.2.2.2.2;omega)
 rw [hX] at hot
 have h16:¬ s.length < 16:=by have:=hok.2.2.1;omega
 obtain ⟨ob,hob⟩:∃ o:List UInt8,o = []:=⟨_,rfl⟩
 obtain ⟨oe,hoe⟩:∃ o:Int,o=6:=⟨_,rfl⟩
 have HOE:=hidxt_ (show oE id Kv L h.e h.c h.n X s=oe by unfold oE;rw [if_pos (HeadV.slOk hok.2.1),if_neg h16,hot,hoe];rfl)
 have HOB:=hidxt_ (show oB id Kv L h.e h.c h.n X s=ob by unfold oB;rw [if_pos (HeadV.slOk hok.2.1),if_neg h16,hot,hob];rfl)
 clear hv hok hrv hKb hN2 hn hke hX hot h16 hob
 go_enter Tryz.func17,Tryz.ntmps17
 go_upto_region 8 with (first
  | (go_at_call 28;((with_reducible refine ci.mono ?_);clear ci;rintro e w' ⟨rfl,rfl⟩))
  | (refine wpList_load_rowW (by go_simp) 36 (.tmp 5) rfl g rfl 36 (rRow Ke h s) R1.out _ Tryz.underlying36 rfl (iRr _ _ _) ?_)
  | (go_at_call 44;((with_reducible refine ci2.mono ?_);clear ci2;rintro e w2 ⟨rfl,hB⟩;have X2:=hidxt_ (B1.out.trans (hB.mono B1.out.size));have R2:=hidxt_ (R1.out.below hB R1.out.lt);have cb:=rblind_x ((RS.foot id gv Kv N L).keep HV.out (Untouched.of_below (F:=[]) X2.out) (fun _ _=>by simp)) hKv name hN5;rw [HRV.out,BE.out,HN2.out] at cb;clear hB))
  | (go_at_call 30;((with_reducible refine cb.mono ?_);clear cb;rintro e w3 ⟨rfl,G3,hV,hGr,hUn⟩;have V3:=hidxt_ hV;have GR3:=hidxt_ ((Grew.refl w G).trans X2.out.size hGr);have U3:=hidxt_ ((Untouched.of_below (F:=G) X2.out).trans (Grew.refl w G) hUn);have R3:=hidxt_ (R2.out.untouched hUn (fun hm=>by have:=HF.out _ hm;have:=HG.out;omega));have k0:=(rr_cells R3.out).1;clear hV hGr hUn)))
 clear k0 qn
 rename_i K9 hK9
 have Z:=hidxt_ (fun W (hW:Below w3.heap.size w3 W)=>R3.out.below hW R3.out.lt)
 have C1:=hidxt_ (show ∀ W,Below w3.heap.size w3 W→Calls Tryz.prog 32 #[.agg (rRow Ke h s)] W fun e w'=>e = .returned (.string (strOf X))∧Below w3.heap.size w3 w' from fun W hW=>by
  have c:=refBound_any W Ke h s (by have:=HOK.out.1;omega) HOK.out.2.1
  rw [HX.out] at c
  exact c.mono fun e w' ⟨a,b⟩=>⟨a,hW.trans (b.mono hW.size)⟩)
 have C2:=hidxt_ (show ∀ W,Below w3.heap.size w3 W→Calls Tryz.prog 45 #[.pointer (some ⟨gv,0,none⟩),.int .i64 h.e,.int .i64 h.c,.int .i64 h.n,.string (strOf X),.string (strOf s)] W fun e w'=>e = .returned (.tuple #[.string (strOf ob),.int .i64 oe])∧Below w3.heap.size w3 w' from fun W hW=>by
  have c:=ropen_x ((RS.foot id gv Kv N2 L).keep V3.out (Untouched.of_below (F:=[]) hW) (fun _ _=>by simp)) hKv h.e h.c h.n X s HXL.out (by have:=HOK.out.2.2.2;omega) hL5
  rw [HOB.out,HOE.out] at c
  exact c.mono fun e w' ⟨a,b⟩=>⟨a,hW.trans (b.mono hW.size)⟩)
 refine region_quiet_in (C:=fun W=>Below w3.heap.size w3 W) (by kernel_rfl) (by kernel_rfl) ((Below.refl _ _).drew) ?_
 (repeat go_big_quiet_skip);(go_big_quiet_want;(refine BigFrame.quiet_move _ rfl ?_;go_simp);go_big_quiet_on)
 (repeat go_big_quiet_skip);(go_big_quiet_want;(refine quiet_run (.pointer (some ⟨g,1,none⟩)) ?_ ?_;(focus (intro W hW;go_simp;done));go_simp);go_big_quiet_on)
 (repeat go_big_quiet_skip);(go_big_quiet_want;(refine quiet_run (.int .i64 h.e) ?_ ?_;(focus (intro W hW;obtain ⟨k0,k1,k2,k3,k4,k5,k6⟩:=rr_cells (Z.out W hW);go_simp;done));go_simp);go_big_quiet_on)
 (repeat go_big_quiet_skip);(go_big_quiet_want;(refine quiet_run (.pointer (some ⟨g,3,none⟩)) ?_ ?_;(focus (intro W hW;go_simp;done));go_simp);go_big_quiet_on)
 (repeat go_big_quiet_skip);(go_big_quiet_want;(refine quiet_run (.pointer (some ⟨g,3,none⟩)) ?_ ?_;(focus (intro W hW;go_simp;done));go_simp);go_big_quiet_on)
 (repeat go_big_quiet_skip);(go_big_quiet_want;(refine quiet_run (.int .i64 h.c) ?_ ?_;(focus (intro W hW;obtain ⟨k0,k1,k2,k3,k4,k5,k6⟩:=rr_cells (Z.out W hW);go_simp;done));go_simp);go_big_quiet_on)
 (repeat go_big_quiet_skip);(go_big_quiet_want;(refine quiet_run (.pointer (some ⟨g,2,none⟩)) ?_ ?_;(focus (intro W hW;go_simp;done));go_simp);go_big_quiet_on)
 (repeat go_big_quiet_skip);(go_big_quiet_want;(refine quiet_run (.int .i64 h.n) ?_ ?_;(focus (intro W hW;obtain ⟨k0,k1,k2,k3,k4,k5,k6⟩:=rr_cells (Z.out W hW);go_simp;done));go_simp);go_big_quiet_on)
 (repeat go_big_quiet_skip);(go_big_quiet_want;(refine quiet_load_row 36 (.tmp 5) rfl g rfl 36 (rRow Ke h s) _ Tryz.underlying36 rfl (iRr _ _ _) Z.out ?_;go_simp);go_big_quiet_on)
 (repeat go_big_quiet_skip);(go_big_quiet_want;(refine quiet_call (.string (strOf X)) 32 #[.agg (rRow Ke h s)] ?_ C1.out ?_;(focus (intro W;go_simp;done));go_simp);go_big_quiet_on)
 (repeat go_big_quiet_skip);(go_big_quiet_want;(refine quiet_run (.pointer (some ⟨g,6,none⟩)) ?_ ?_;(focus (intro W hW;go_simp;done));go_simp);go_big_quiet_on)
 (repeat go_big_quiet_skip);(go_big_quiet_want;(refine quiet_run (.string (strOf s)) ?_ ?_;(focus (intro W hW;obtain ⟨k0,k1,k2,k3,k4,k5,k6⟩:=rr_cells (Z.out W hW);go_simp;done));go_simp);go_big_quiet_on)
 (repeat go_big_quiet_skip);(go_big_quiet_want;(refine quiet_call (.tuple #[.string (strOf ob),.int .i64 oe]) 45 #[.pointer (some ⟨gv,0,none⟩),.int .i64 h.e,.int .i64 h.c,.int .i64 h.n,.string (strOf X),.string (strOf s)] ?_ C2.out ?_;(focus (intro W;go_simp;done));go_simp);go_big_quiet_on)
 (repeat go_big_quiet_skip);(go_big_quiet_want;(refine BigFrame.quiet_move _ rfl ?_;go_simp);go_big_quiet_on)
 (repeat go_big_quiet_skip);(go_big_quiet_want;(refine quiet_run (.string (strOf ob)) ?_ ?_;(focus (intro W hW;go_simp;done));go_simp);go_big_quiet_on)
 (repeat go_big_quiet_skip);(go_big_quiet_want;(refine quiet_run (.int .i64 oe) ?_ ?_;(focus (intro W hW;go_simp;done));go_simp);go_big_quiet_on)
 (repeat go_big_quiet_skip);(go_big_quiet_want;(refine BigFrame.quiet_assign _ rfl ?_;go_simp);go_big_quiet_on)
 (repeat go_big_quiet_skip);(go_big_quiet_want;(refine BigFrame.quiet_assign _ rfl ?_;go_simp);go_big_quiet_on)
 refine wpQuiet_nil ?_
 intro w4 hw4
 have X4:=hidxt_ hw4
 clear hw4 Z C1 C2
 refine hK9 _ _ ?_
 clear hK9 K9
 have hoe2:(oe != 0)=true:=by rw [hoe];rfl
 have hoe3:(oe == 0)=false:=by rw [hoe];rfl
 try rw [hoe]
 go_wp2
 go_ret3
 exact ⟨rfl,G3,(RS.foot id gv Kv N2 L).keep V3.out (Untouched.of_below (F:=[]) X4.out) (fun _ _=>by simp),GR3.out,U3.out.trans GR3.out (Untouched.of_below (F:=G3) X4.out)⟩
theorem valR_g (x:UInt8) (v:List UInt8) (h0:x≠0) (h1:x≠1):valR (x :: v)=([],false,2):=by
 unfold valR
 split <;> simp_all
theorem strOf_idx (x:UInt8) (v:List UInt8):∀ h,((strOf (x :: v))[0]'h).toNat=x.toNat:=fun _=>rfl
set_option maxHeartbeats 8000000 in
theorem refOpen_5 (w:World) {id:Bool} {gv:Nat} {Kv:List UInt8} {N:List (List UInt8)} {L:List SealV} {G:List Nat} (hv:RS id gv Kv N L w G) (hKv:Kv.length=32) (name Ke:List UInt8) (h:HeadV) (s:List UInt8) (hn:¬ nmBad name) (hok:Ke.length=32∧EnvOk h s.length) (hN5:N.length≤100000) (hL5:L.length≤100000) (hLb:∀ t∈L,t.b.length≤100000) (hke:Ke=bV id Kv N name) (p:List UInt8) (hot:oT id Kv L h.e.toNat h.c.toNat h.n.toNat (boundB Ke h) s=some p):Calls Tryz.prog 17 #[.pointer (some ⟨gv,0,none⟩),.string (strOf name),.agg (rRow Ke h s)] w fun r w'=>r = .returned (.tuple #[.string (strOf (valR (cutB p)).1),.bool (valR (cutB p)).2.1,.int .i64 (valR (cutB p)).2.2])∧Leaves (RS id gv Kv (bN id N name) L) w G w':=by
 obtain ⟨g,hg⟩:∃ g,w.heap.size=g:=⟨_,rfl⟩
 obtain ⟨w1,hw1⟩:∃ W,w.alloc (.cells (rRow Ke h s) 36)=W:=⟨_,rfl⟩
 have B1:=hidxt_ (show Below w.heap.size w w1 by rw [← hw1];exact (Below.refl _ _).alloc (Nat.le_refl _) _)
 have R1:=hidxt_ (show Bk w1 g 36 (rRow Ke h s) by rw [← hw1,← hg];exact Bk.new w _ _)
 have HG:=hidxt_ hg
 have hsz:(strOf name).size=name.length:=strOf_size name
 have ci:=refName_any w1 (name.length:Int) true (by unfold nmBad at hn;rw [decide_eq_true (by omega)])
 have ci2:=refRight_any w1 Ke h s
 rw [decide_eq_true hok] at ci2
 have HF:=hidxt_ (fun k hk=>(RS.foot id gv Kv N L).lt hv k hk)
 have BE:=hidxt_ (show bE name=0 by unfold bE;rw [if_neg hn])
 have hrv:rV id Kv N name=bV id Kv N name:=by unfold rV bV;rw [if_neg hn,if_neg hn]
 obtain ⟨Kb,hKb⟩:∃ x,bV id Kv N name=x:=⟨_,rfl⟩
 have HRV:=hidxt_ (hrv.trans hKb)
 obtain ⟨N2,hN2⟩:∃ x,bN id N name=x:=⟨_,rfl⟩
 have HN2:=hidxt_ hN2
 rw [hN2]
 have HV:=hidxt_ hv
 have HOK:=hidxt_ hok
 rw [hKb] at hke
 have qn:=strOf_eq Kb Ke hke.symm
 obtain ⟨X,hX⟩:∃ x,boundB Ke h=x:=⟨_,rfl⟩
 have HX:=hidxt_ hX
 have HXL:=hidxt_ (show X.length≤100000 by rw [← hX,boundB_len Ke hok.1];have:=hok.2.1.2.2.2.2;omega)
 rw [hX] at hot
 have h16:¬ s.length < 16:=by have:=hok.2.2.1;omega
 have HPL:=hidxt_ (show p.length≤100000 from oT_len hot hLb (by have:=hok.2.2.2;omega))
 obtain ⟨ob,hob⟩:∃ o:List UInt8,o=p:=⟨_,rfl⟩
 obtain ⟨oe,hoe⟩:∃ o:Int,o=0:=⟨_,rfl⟩
 have HOE:=hidxt_ (show oE id Kv L h.e h.c h.n X s=oe by unfold oE;rw [if_pos (HeadV.slOk hok.2.1),if_neg h16,hot,hoe];rfl)
 have HOB:=hidxt_ (show oB id Kv L h.e h.c h.n X s=ob by unfold oB;rw [if_pos (HeadV.slOk hok.2.1),if_neg h16,hot,hob];rfl)
 have HOP:=hidxt_ hob
 obtain ⟨c,hc⟩:∃ c,cutB p=c:=⟨_,rfl⟩
 rw [hc]
 have HC:=hidxt_ hc
 have HCK:=hidxt_ (show decide (padB (valB p)=p)=false→c = [] from fun e=>by rw [← hc];unfold cutB;rw [if_neg (of_decide_eq_false e)])
 clear hc
 obtain ⟨o1,ho1⟩:∃ o,(valR c).1=o:=⟨_,rfl⟩
 obtain ⟨o2,ho2⟩:∃ o,(valR c).2.1=o:=⟨_,rfl⟩
 obtain ⟨o3,ho3⟩:∃ o,(valR c).2.2=o:=⟨_,rfl⟩
 rw [ho1,ho2,ho3]
 have HO1:=hidxt_ ho1
 have HO2:=hidxt_ ho2
 have HO3:=hidxt_ ho3
 clear ho1 ho2 ho3
 clear hv hok hrv hKb hN2 hn hke hX hot h16 hob
 go_enter Tryz.func17,Tryz.ntmps17
 go_upto_region 8 with (first
  | (go_at_call 28;((with_reducible refine ci.mono ?_);clear ci;rintro e w' ⟨rfl,rfl⟩))
  | (refine wpList_load_rowW (by go_simp) 36 (.tmp 5) rfl g rfl 36 (rRow Ke h s) R1.out _ Tryz.underlying36 rfl (iRr _ _ _) ?_)
  | (go_at_call 44;((with_reducible refine ci2.mono ?_);clear ci2;rintro e w2 ⟨rfl,hB⟩;have X2:=hidxt_ (B1.out.trans (hB.mono B1.out.size));have R2:=hidxt_ (R1.out.below hB R1.out.lt);have cb:=rblind_x ((RS.foot id gv Kv N L).keep HV.out (Untouched.of_below (F:=[]) X2.out) (fun _ _=>by simp)) hKv name hN5;rw [HRV.out,BE.out,HN2.out] at cb;clear hB))
  | (go_at_call 30;((with_reducible refine cb.mono ?_);clear cb;rintro e w3 ⟨rfl,G3,hV,hGr,hUn⟩;have V3:=hidxt_ hV;have GR3:=hidxt_ ((Grew.refl w G).trans X2.out.size hGr);have U3:=hidxt_ ((Untouched.of_below (F:=G) X2.out).trans (Grew.refl w G) hUn);have R3:=hidxt_ (R2.out.untouched hUn (fun hm=>by have:=HF.out _ hm;have:=HG.out;omega));have k0:=(rr_cells R3.out).1;clear hV hGr hUn)))
 clear k0 qn
 rename_i K9 hK9
 have Z:=hidxt_ (fun W (hW:Below w3.heap.size w3 W)=>R3.out.below hW R3.out.lt)
 have C1:=hidxt_ (show ∀ W,Below w3.heap.size w3 W→Calls Tryz.prog 32 #[.agg (rRow Ke h s)] W fun e w'=>e = .returned (.string (strOf X))∧Below w3.heap.size w3 w' from fun W hW=>by
  have c:=refBound_any W Ke h s (by have:=HOK.out.1;omega) HOK.out.2.1
  rw [HX.out] at c
  exact c.mono fun e w' ⟨a,b⟩=>⟨a,hW.trans (b.mono hW.size)⟩)
 have C2:=hidxt_ (show ∀ W,Below w3.heap.size w3 W→Calls Tryz.prog 45 #[.pointer (some ⟨gv,0,none⟩),.int .i64 h.e,.int .i64 h.c,.int .i64 h.n,.string (strOf X),.string (strOf s)] W fun e w'=>e = .returned (.tuple #[.string (strOf ob),.int .i64 oe])∧Below w3.heap.size w3 w' from fun W hW=>by
  have c:=ropen_x ((RS.foot id gv Kv N2 L).keep V3.out (Untouched.of_below (F:=[]) hW) (fun _ _=>by simp)) hKv h.e h.c h.n X s HXL.out (by have:=HOK.out.2.2.2;omega) hL5
  rw [HOB.out,HOE.out] at c
  exact c.mono fun e w' ⟨a,b⟩=>⟨a,hW.trans (b.mono hW.size)⟩)
 refine region_quiet_in (C:=fun W=>Below w3.heap.size w3 W) (by kernel_rfl) (by kernel_rfl) ((Below.refl _ _).drew) ?_
 (repeat go_big_quiet_skip);(go_big_quiet_want;(refine BigFrame.quiet_move _ rfl ?_;go_simp);go_big_quiet_on)
 (repeat go_big_quiet_skip);(go_big_quiet_want;(refine quiet_run (.pointer (some ⟨g,1,none⟩)) ?_ ?_;(focus (intro W hW;go_simp;done));go_simp);go_big_quiet_on)
 (repeat go_big_quiet_skip);(go_big_quiet_want;(refine quiet_run (.int .i64 h.e) ?_ ?_;(focus (intro W hW;obtain ⟨k0,k1,k2,k3,k4,k5,k6⟩:=rr_cells (Z.out W hW);go_simp;done));go_simp);go_big_quiet_on)
 (repeat go_big_quiet_skip);(go_big_quiet_want;(refine quiet_run (.pointer (some ⟨g,3,none⟩)) ?_ ?_;(focus (intro W hW;go_simp;done));go_simp);go_big_quiet_on)
 (repeat go_big_quiet_skip);(go_big_quiet_want;(refine quiet_run (.pointer (some ⟨g,3,none⟩)) ?_ ?_;(focus (intro W hW;go_simp;done));go_simp);go_big_quiet_on)
 (repeat go_big_quiet_skip);(go_big_quiet_want;(refine quiet_run (.int .i64 h.c) ?_ ?_;(focus (intro W hW;obtain ⟨k0,k1,k2,k3,k4,k5,k6⟩:=rr_cells (Z.out W hW);go_simp;done));go_simp);go_big_quiet_on)
 (repeat go_big_quiet_skip);(go_big_quiet_want;(refine quiet_run (.pointer (some ⟨g,2,none⟩)) ?_ ?_;(focus (intro W hW;go_simp;done));go_simp);go_big_quiet_on)
 (repeat go_big_quiet_skip);(go_big_quiet_want;(refine quiet_run (.int .i64 h.n) ?_ ?_;(focus (intro W hW;obtain ⟨k0,k1,k2,k3,k4,k5,k6⟩:=rr_cells (Z.out W hW);go_simp;done));go_simp);go_big_quiet_on)
 (repeat go_big_quiet_skip);(go_big_quiet_want;(refine quiet_load_row 36 (.tmp 5) rfl g rfl 36 (rRow Ke h s) _ Tryz.underlying36 rfl (iRr _ _ _) Z.out ?_;go_simp);go_big_quiet_on)
 (repeat go_big_quiet_skip);(go_big_quiet_want;(refine quiet_call (.string (strOf X)) 32 #[.agg (rRow Ke h s)] ?_ C1.out ?_;(focus (intro W;go_simp;done));go_simp);go_big_quiet_on)
 (repeat go_big_quiet_skip);(go_big_quiet_want;(refine quiet_run (.pointer (some ⟨g,6,none⟩)) ?_ ?_;(focus (intro W hW;go_simp;done));go_simp);go_big_quiet_on)
 (repeat go_big_quiet_skip);(go_big_quiet_want;(refine quiet_run (.string (strOf s)) ?_ ?_;(focus (intro W hW;obtain ⟨k0,k1,k2,k3,k4,k5,k6⟩:=rr_cells (Z.out W hW);go_simp;done));go_simp);go_big_quiet_on)
 (repeat go_big_quiet_skip);(go_big_quiet_want;(refine quiet_call (.tuple #[.string (strOf ob),.int .i64 oe]) 45 #[.pointer (some ⟨gv,0,none⟩),.int .i64 h.e,.int .i64 h.c,.int .i64 h.n,.string (strOf X),.string (strOf s)] ?_ C2.out ?_;(focus (intro W;go_simp;done));go_simp);go_big_quiet_on)
 (repeat go_big_quiet_skip);(go_big_quiet_want;(refine BigFrame.quiet_move _ rfl ?_;go_simp);go_big_quiet_on)
 (repeat go_big_quiet_skip);(go_big_quiet_want;(refine quiet_run (.string (strOf ob)) ?_ ?_;(focus (intro W hW;go_simp;done));go_simp);go_big_quiet_on)
 (repeat go_big_quiet_skip);(go_big_quiet_want;(refine quiet_run (.int .i64 oe) ?_ ?_;(focus (intro W hW;go_simp;done));go_simp);go_big_quiet_on)
 (repeat go_big_quiet_skip);(go_big_quiet_want;(refine BigFrame.quiet_assign _ rfl ?_;go_simp);go_big_quiet_on)
 (repeat go_big_quiet_skip);(go_big_quiet_want;(refine BigFrame.quiet_assign _ rfl ?_;go_simp);go_big_quiet_on)
 refine wpQuiet_nil ?_
 intro w4 hw4
 have X4:=hidxt_ hw4
 clear hw4 Z C1 C2
 refine hK9 _ _ ?_
 clear hK9 K9
 try rw [hoe]
 have cc:=refCut_any w4 ob.length ob rfl (by rw [HOP.out];have:=HPL.out;omega)
 rw [HOP.out] at cc
 try rw [HOP.out]
 generalize decide (padB (valB p)=p)=okb at *
 rw [HC.out] at cc
 go_upto_region 12 with (go_at_call 46;((with_reducible refine cc.mono ?_);clear cc;rintro e w5 ⟨rfl,hB⟩;have X5:=hidxt_ (X4.out.trans (hB.mono X4.out.size));clear hB))
 cases okb
 case false =>
  obtain rfl:c = []:=HCK.out rfl
  obtain rfl:[]=o1:=HO1.out
  obtain rfl:false=o2:=HO2.out
  obtain rfl:2=o3:=HO3.out
  go_wp2
  go_ret3
  exact ⟨rfl,G3,(RS.foot id gv Kv N2 L).keep V3.out (Untouched.of_below (F:=[]) X5.out) (fun _ _=>by simp),GR3.out,U3.out.trans GR3.out (Untouched.of_below (F:=G3) X5.out)⟩
 case true =>
  cases c
  case nil =>
   have hs0:(strOf ([]:List UInt8)).size=0:=rfl
   obtain rfl:[]=o1:=HO1.out
   obtain rfl:false=o2:=HO2.out
   obtain rfl:2=o3:=HO3.out
   go_wp2
   go_ret3
   exact ⟨rfl,G3,(RS.foot id gv Kv N2 L).keep V3.out (Untouched.of_below (F:=[]) X5.out) (fun _ _=>by simp),GR3.out,U3.out.trans GR3.out (Untouched.of_below (F:=G3) X5.out)⟩
  case cons x v =>
   have hidx:=strOf_idx x v
   have hss:(strOf (x :: v)).size=(x :: v).length:=strOf_size _
   have hsl:=fun W=>str_from (x :: v) (x :: v).length 1 rfl (by simp) W
   rw [show ((1:Nat):Int)=1 from rfl,show (x :: v).drop 1=v from rfl] at hsl
   obtain ⟨n,hn⟩:∃ n,(x :: v).length=n:=⟨_,rfl⟩
   have hn2:v.length + 1=n:=hn
   rw [hn] at hss
   have hbx:=x.toNat_lt
   have hnz:decide ((n:Int)=0)=false:=decide_eq_false (by omega)
   have hnz2:((n:Int) == 0)=false:=by simp;omega
   have hn0:0 < n:=by omega
   obtain ⟨xn,hxn⟩:∃ k,x.toNat=k:=⟨_,rfl⟩
   rw [hxn] at hidx hbx
   by_cases hx1:x=1
   ·subst hx1
    obtain rfl:v=o1:=HO1.out
    obtain rfl:false=o2:=HO2.out
    obtain rfl:0=o3:=HO3.out
    obtain rfl:1=xn:=hxn
    generalize strOf (1 :: v)=T at *
    clear hn hn2
    go_upto_region 14 with fail
    rename_i K9 hK9
    refine region_quiet_in (C:=fun W=>Below w5.heap.size w5 W) (by kernel_rfl) (by kernel_rfl) ((Below.refl _ _).drew) ?_
    repeat (first | go_big_quiet_skip | (go_big_quiet_want;(first
     | (refine BigFrame.quiet_move _ rfl ?_;go_simp)
     | (refine BigFrame.quiet_assign _ rfl ?_;go_simp)
     | (refine quiet_run (.string (strOf v)) ?_ ?_;(focus (intro W hW;have h6:=hsl W;go_simp;done));go_simp)
     | (refine quiet_run (.int .u8 1) ?_ ?_;(focus (intro W hW;go_simp;done));go_simp)
     | (refine quiet_run (.bool false) ?_ ?_;(focus (intro W hW;go_simp;done));go_simp));go_big_quiet_on))
    refine wpQuiet_nil ?_
    intro w6 hw6
    have X6:=hidxt_ (X5.out.trans (hw6.mono X5.out.size))
    clear hw6
    refine hK9 _ _ ?_
    clear hK9 K9
    go_wp2
    go_ret3
    exact ⟨rfl,G3,(RS.foot id gv Kv N2 L).keep V3.out (Untouched.of_below (F:=[]) X6.out) (fun _ _=>by simp),GR3.out,U3.out.trans GR3.out (Untouched.of_below (F:=G3) X6.out)⟩
   ·by_cases hx0:x=0
    ·subst hx0
     obtain rfl:0=xn:=hxn
     cases v
     case nil =>
      obtain rfl:[]=o1:=HO1.out
      obtain rfl:true=o2:=HO2.out
      obtain rfl:0=o3:=HO3.out
      obtain rfl:1=n:=hn
      generalize strOf [0]=T at *
      clear hn2
      go_upto_region 14 with fail
      rename_i K9 hK9
      refine region_quiet_in (C:=fun W=>Below w5.heap.size w5 W) (by kernel_rfl) (by kernel_rfl) ((Below.refl _ _).drew) ?_
      repeat (first | go_big_quiet_skip | (go_big_quiet_want;(first
       | (refine BigFrame.quiet_move _ rfl ?_;go_simp)
       | (refine BigFrame.quiet_assign _ rfl ?_;go_simp)
       | (refine quiet_run (.string (strOf ([]:List UInt8))) ?_ ?_;(focus (intro W hW;have h6:=hsl W;go_simp;done));go_simp)
       | (refine quiet_run (.int .u8 0) ?_ ?_;(focus (intro W hW;go_simp;done));go_simp)
       | (refine quiet_run (.bool true) ?_ ?_;(focus (intro W hW;go_simp;done));go_simp));go_big_quiet_on))
      refine wpQuiet_nil ?_
      intro w6 hw6
      have X6:=hidxt_ (X5.out.trans (hw6.mono X5.out.size))
      clear hw6
      refine hK9 _ _ ?_
      clear hK9 K9
      go_wp2
      go_ret3
      exact ⟨rfl,G3,(RS.foot id gv Kv N2 L).keep V3.out (Untouched.of_below (F:=[]) X6.out) (fun _ _=>by simp),GR3.out,U3.out.trans GR3.out (Untouched.of_below (F:=G3) X6.out)⟩
     case cons y v2 =>
      obtain rfl:[]=o1:=HO1.out
      obtain rfl:false=o2:=HO2.out
      obtain rfl:2=o3:=HO3.out
      have hgt:decide (1 < (n:Int))=true:=decide_eq_true (by simp at hn2;omega)
      have hgt2:decide (1 < n)=true:=decide_eq_true (by simp at hn2;omega)
      generalize strOf (0 :: y :: v2)=T at *
      clear hn hn2
      go_wp2
      go_ret3
      exact ⟨rfl,G3,(RS.foot id gv Kv N2 L).keep V3.out (Untouched.of_below (F:=[]) X5.out) (fun _ _=>by simp),GR3.out,U3.out.trans GR3.out (Untouched.of_below (F:=G3) X5.out)⟩
    ·obtain rfl:[]=o1:=(congrArg (fun t=>t.1) (valR_g x v hx0 hx1)).symm.trans HO1.out
     obtain rfl:false=o2:=(congrArg (fun t=>t.2.1) (valR_g x v hx0 hx1)).symm.trans HO2.out
     obtain rfl:2=o3:=(congrArg (fun t=>t.2.2) (valR_g x v hx0 hx1)).symm.trans HO3.out
     have hg1:decide (1 < (xn:Int))=true:=decide_eq_true (by
      have h0:xn≠0:=fun e=>hx0 (UInt8.toNat_inj.1 (by rw [hxn,e];rfl))
      have h1:xn≠1:=fun e=>hx1 (UInt8.toNat_inj.1 (by rw [hxn,e];rfl))
      omega)
     have hg2:decide (1 < xn)=true:=decide_eq_true (by have:=of_decide_eq_true hg1;omega)
     generalize strOf (x :: v)=T at *
     clear hn hn2
     go_wp2
     go_ret3
     exact ⟨rfl,G3,(RS.foot id gv Kv N2 L).keep V3.out (Untouched.of_below (F:=[]) X5.out) (fun _ _=>by simp),GR3.out,U3.out.trans GR3.out (Untouched.of_below (F:=G3) X5.out)⟩
theorem refOpen_any (w:World) {id:Bool} {gv:Nat} {Kv:List UInt8} {N:List (List UInt8)} {L:List SealV} {G:List Nat} (hv:RS id gv Kv N L w G) (hKv:Kv.length=32) (name Ke:List UInt8) (h:HeadV) (s:List UInt8) (hnl:name.length≤1000) (hN5:N.length≤100000) (hL5:L.length≤100000) (hLb:∀ t∈L,t.b.length≤100000) :
  Calls Tryz.prog 17 #[.pointer (some ⟨gv,0,none⟩),.string (strOf name),.agg (rRow Ke h s)] w fun r w'=>r = .returned (.tuple #[.string (strOf (opR id Kv N L name Ke h s).1),.bool (opR id Kv N L name Ke h s).2.1,.int .i64 (opR id Kv N L name Ke h s).2.2])∧∃ G',Grew w G G'∧Untouched G w w':=by
 by_cases h1:nmBad name
 ·rw [opR_1 h1]
  exact (refOpen_1 w gv name Ke h s h1 hnl).mono fun r w' ⟨e,hb⟩=>⟨e,G,Grew.refl _ _,.of_below hb⟩
 ·by_cases h2:Ke.length=32∧EnvOk h s.length
  ·by_cases h3:Ke=bV id Kv N name
   ·cases h4:oT id Kv L h.e.toNat h.c.toNat h.n.toNat (boundB Ke h) s with
    | none =>
     rw [opR_4 h1 h2 h3 h4]
     exact (refOpen_4 w hv hKv name Ke h s h1 h2 hN5 hL5 h3 h4).mono fun r w' ⟨e,G',_,b,c⟩=>⟨e,G',b,c⟩
    | some p =>
     rw [opR_5 h1 h2 h3 h4]
     exact (refOpen_5 w hv hKv name Ke h s h1 h2 hN5 hL5 hLb h3 p h4).mono fun r w' ⟨e,G',_,b,c⟩=>⟨e,G',b,c⟩
   ·rw [opR_3 h1 h2 h3]
    exact (refOpen_3 w hv hKv name Ke h s h1 h2 hN5 hL5 h3).mono fun r w' ⟨e,G',_,b,c⟩=>⟨e,G',b,c⟩
  ·rw [opR_2 h1 h2]
   exact (refOpen_2 w gv name Ke h s h1 h2).mono fun r w' ⟨e,hb⟩=>⟨e,G,Grew.refl _ _,.of_below hb⟩
theorem open_anyF {id:Bool} {v sp nm kn:Nat} {K:List UInt8} {N:List (List UInt8)} {L:List SealV} {w:World} {F:List Nat} (hv:VS id v sp nm kn K N L w F) (A:Option Addr) (n c:Nat) (name:List UInt8) (hn:name.length=n) (hc:n≤c) (hcm:c≤9223372036854775807) (hr:Rd w w.heap.size A name)
  (Ke:List UInt8) (hKe:Ke.length=32) (h:HeadV) (sa:Option Addr) (sn sc:Nat) (s:List UInt8) (hs:s.length=sn) (hp:RdF w F h.pa h.pl) (hsr:RdF w F sa s) (hsc:sn≤sc) (hscm:sc≤9223372036854775807) (hN5:N.length≤100000) (hLb:∀ t∈L,t.b.length≤100000)
  (ht:Tab w) (hg1:2 < w.heap.size) (hgF:2∉F) (hpt:PTab w) (hg2:0 < w.heap.size) (hgF2:0∉F) :
  Calls Tryz.prog 11 #[.pointer (some ⟨v,0,none⟩),.slice A n c,.agg (eRow Ke h sa sn sc)] w fun r w'=>∃ A' m c',r = .returned (.tuple #[.slice A' m c',.bool (opR id K N L name Ke h s).2.1,.int .i64 (opR id K N L name Ke h s).2.2])∧m=(opR id K N L name Ke h s).1.length∧(∀ a,A' = some a→w.heap.size≤a.block)∧Rd w' w'.heap.size A' (opR id K N L name Ke h s).1∧∃ F',Grew w F F'∧Untouched F w w':=by
 by_cases h1:nmBad name
 ·rw [opR_1 h1]
  exact (open_no1 w v A n c Ke hKe h sa sn sc (by unfold nmBad at h1;omega)).mono fun r w' ⟨e,hb⟩=>⟨none,0,0,e,rfl,(fun a x=>by cases x),Rd.nil,F,Grew.refl _ _,.of_below hb⟩
 ·have hn1:1≤n∧n≤64:=by unfold nmBad at h1;omega
  by_cases h2:Ke.length=32∧EnvOk h s.length
  ·by_cases h3:Ke=bV id K N name
   ·cases h4:oT id K L h.e.toNat h.c.toNat h.n.toNat (boundB Ke h) s with
    | none =>
     rw [opR_4 h1 h2 h3 h4]
     exact (open_vno hv A n c name hn hn1.1 hn1.2 hc hcm hr Ke hKe h sa sn sc s hs (hs ▸ h2.2) hp hsr hsc hscm hN5 hLb ht hg1 hgF hpt hg2 hgF2 h3 h4).mono fun r w' ⟨e,F',_,b,c⟩=>⟨none,0,0,e,rfl,(fun a x=>by cases x),Rd.nil,F',b,c⟩
    | some p =>
     rw [opR_5 h1 h2 h3 h4]
     exact (open_yesF hv A n c name hn hn1.1 hn1.2 hc hcm hr Ke hKe h sa sn sc s hs (hs ▸ h2.2) hp hsr hsc hscm hN5 hLb ht hg1 hgF hpt hg2 hgF2 h3 p h4).mono fun r w' ⟨A',m,c',F',e,hm,hfr,hR,_,b,c⟩=>⟨A',m,c',e,hm,hfr,hR.rd,F',b,c⟩
   ·rw [opR_3 h1 h2 h3]
    exact (open_key hv A n c name hn hn1.1 hn1.2 hc hcm hr Ke hKe h sa sn sc s hs (hs ▸ h2.2) hp hsr hsc hscm hN5 hLb ht hg1 hgF hpt hg2 hgF2 h3).mono fun r w' ⟨e,F',_,b,c⟩=>⟨none,0,0,e,rfl,(fun a x=>by cases x),Rd.nil,F',b,c⟩
  ·rw [opR_2 h1 h2]
   exact (open_no2 w v A n c Ke hKe h sa sn sc hn1.1 hn1.2 (fun e=>h2 ⟨hKe,hs.symm ▸ e⟩)).mono fun r w' ⟨e,hb⟩=>⟨none,0,0,e,rfl,(fun a x=>by cases x),Rd.nil,F,Grew.refl _ _,.of_below hb⟩
theorem hidxu_ {p:Prop} (h:p):Hid p:=h
theorem results_cellU {P:Program} {fn:Func} {p:Tmp} {ty:TypeId} (h:fn.results = #[.cell p ty]) (tmps:Array Value) (w:World) (g:Nat) {v:Value}
  (hp:tmps.getD p undef = .pointer (some ⟨g,0,none⟩)) (h1:(loadVar ty ⟨g,0,none⟩).run P w = .ok v w) :
  (results fn tmps).run P w = .ok v w:=by
 have hp':tmps[p]?.getD undef = .pointer (some ⟨g,0,none⟩):=by simpa using hp
 simp [results,h,hp',asAddr,h1]
theorem step_copyS {ops:Array Oper} {o:Oper} {a:Act} {w:World} {Q:Exit→Act→World→Prop} {K:Act→World→Prop} {E:Prop} (hgd:o.guard=none) (d x:Operand) (ho:o.op = .call { callee:=.builtin .copy,args:=#[d,x],argTypes:=#[23,9] })
  (g dl dc:Nat) (hd:a.eval d = .slice (some ⟨g,0,none⟩) dl dc) (l:List UInt8) (n:Nat) (hn:l.length=n) (hx:a.eval x = .string (strOf l)) (hl:n≤dl) (t:TypeId) (cur:Array Value) (hg:Bk w g t cur) (hfit:n≤cur.size)
  (hK:∀ w',Bk w' g t ((rowOf l).toList ++ cur.toList.drop n).toArray→w.grownBy w' (some g)→w'.heap.size=w.heap.size→K (a.put o.dst (.int .i64 (n:Int))) w') :
  if Region.wanted o (yielded ops a.tmps)=true then Oper.wp Tryz.prog o a w K Q else E:=by
 subst hn
 have hw:Region.wanted o (yielded ops a.tmps)=true:=by simp [Region.wanted,hgd]
 rw [if_pos hw]
 have hsz:(strOf l).size=l.length:=strOf_size l
 have hrun:=Go.Lib.run_copy_row_string (P:=Tryz.prog) w 23 9 o.type 5 g 0 dl dc (strOf l) cur t Tryz.underlying23 (by kernel_rfl) hg (by omega) (by omega)
 have hb:Go.Lib.byteCells (strOf l).data.toList=(rowOf l).toList:=by simp [Go.Lib.byteCells,strOf,rowOf]
 rw [hsz,hb,Nat.zero_add,List.take_zero,List.nil_append] at hrun
 unfold Oper.wp execOp
 simp only [ho,resolve,invoke,builtin,Sem.run_bind,Sem.run_pure,Result.andThen_ok,List.map_toArray,List.map_cons,List.map_nil,hd,hx,hrun]
 exact hK _ (hg.rowed _) (grown_row (World.grownBy.refl w _) _) (by simp)
theorem built_tE (h:HeadV) (B:Option Addr) (i j:Nat):Tryz.prog.built 41 [(1,.agg h.row),(2,.slice B i j)]=some (eRow (zbytes 32) h B i j):=by kernel_rfl
theorem row_key (K K':List UInt8) (hK:K.length=32) (hK':K'.length=32) (h:HeadV) (sa:Option Addr) (sn sc:Nat):((rowOf K').toList ++ (eRow K h sa sn sc).toList.drop 32).toArray=eRow K' h sa sn sc:=by
 unfold eRow rowOf
 simp [hK]
set_option maxHeartbeats 1000000 in
theorem lawto_any (w:World) (Ke:List UInt8) (hKe:Ke.length=32) (h:HeadV) (s:List UInt8) (hp:h.pl.length≤100000) (hs:s.length≤100000) :
  Calls Tryz.prog 16 #[.agg (rRow Ke h s)] w fun r w'=>∃ pa pc sa sc,r = .returned (.agg (eRow Ke { h with pa:=pa,pc:=pc } sa s.length sc))∧s.length≤sc∧sc≤9223372036854775807∧(∀ F,(∀ k∈F,k < w.heap.size)→RdF w' F pa h.pl∧RdF w' F sa s)∧Below w.heap.size w w':=by
 obtain ⟨g,hg⟩:∃ g,w.heap.size=g:=⟨_,rfl⟩
 obtain ⟨w1,hw1⟩:∃ W,w.alloc (.cells (rRow Ke h s) 36)=W:=⟨_,rfl⟩
 obtain ⟨w2,hw2⟩:∃ W,w1.alloc (.cells eRow0 41)=W:=⟨_,rfl⟩
 have hz1:=zeroE w1
 have s1:w1.heap.size=g + 1:=by rw [← hw1,← hg];simp
 have S2:w2.heap.size=g + 2:=by rw [← hw2];simp [s1]
 have b1:Below w.heap.size w w1:=by rw [← hw1];exact (Below.refl _ _).alloc (Nat.le_refl _) _
 have b2:Below w1.heap.size w1 w2:=by rw [← hw2];exact (Below.refl _ _).alloc (Nat.le_refl _) _
 have X2:=hidxu_ (b1.trans (b2.mono b1.size))
 have R2:=hidxu_ (show Bk w2 g 36 (rRow Ke h s) by have k:=Bk.new w 36 (rRow Ke h s);rw [hw1,hg] at k;exact k.below b2 k.lt)
 have E2:=hidxu_ (show Bk w2 (g + 1) 41 eRow0 by have k:=Bk.new w1 41 eRow0;rw [hw2,s1] at k;exact k)
 obtain ⟨ms,hms⟩:∃ m,s.length=m:=⟨_,rfl⟩
 obtain ⟨w3,c1,hc1,B23,r1,l1,m1⟩:=conv_bytes w2 h.pl h.pl.length rfl (by simp only [maxLen];omega)
 obtain ⟨w4,c2,hc2,B34,r2,l2,m2⟩:=conv_bytes w3 s ms hms (by simp only [maxLen];omega)
 have P3:=hidxu_ (B23.size)
 have RP:=hidxu_ (r1.below B34)
 have RS:=hidxu_ r2
 have MS:=hidxu_ hms
 have LS:=hidxu_ (And.intro l2 m2)
 have hz4:=zeroE w4
 have X4:=hidxu_ (X2.out.trans ((B23.trans (B34.mono B23.size)).mono X2.out.size))
 have R3:=hidxu_ (R2.out.below B23 R2.out.lt)
 have R4:=hidxu_ (R3.out.below B34 R3.out.lt)
 have E4:=hidxu_ ((E2.out.below B23 E2.out.lt).below B34 (Nat.lt_of_lt_of_le E2.out.lt B23.size))
 obtain ⟨k0,k1,k2,k3,k4,k5,k6⟩:=rr_cells R2.out
 obtain ⟨j0,j1,j2,j3,j4,j5,j6⟩:=rr_cells R3.out
 have D2:=hidxu_ (show ∀ j,j < (#[.int .i64 h.c,.int .i64 h.d]:Array Value).size→w2.cell? ⟨g,3 + j,none⟩=(#[.int .i64 h.c,.int .i64 h.d]:Array Value)[j]? from fun j hj=>by
  have hj2:j < 2:=hj
  rcases j with _ | _ | j
  ·exact R2.out.cell 3
  ·exact R2.out.cell 4
  ·omega)
 have HG:=hidxu_ hg
 have HS2:=hidxu_ S2
 have KL:=hidxu_ hKe
 have A1:Option Addr:=none
 obtain ⟨a1,ha1⟩:∃ A:Option Addr,some ⟨w2.heap.size,0,none⟩=A:=⟨_,rfl⟩
 obtain ⟨a2,ha2⟩:∃ A:Option Addr,some ⟨w3.heap.size,0,none⟩=A:=⟨_,rfl⟩
 have FP:=hidxu_ (show ∀ F,(∀ k∈F,k < w2.heap.size)→RdF w4 F a1 h.pl∧RdF w4 F a2 s from fun F hF=>by
  subst ha1 ha2
  refine ⟨fun hn=>?_,fun hn=>?_⟩
  ·obtain ⟨b,off,e,hb,hc⟩:=RP.out hn
   injection e with e
   injection e with e1 e2
   subst e1 e2
   exact ⟨_,_,rfl,fun hm=>by have:=hF _ hm;omega,by have:=B34.size;omega,hc⟩
  ·obtain ⟨b,off,e,hb,hc⟩:=RS.out hn
   injection e with e
   injection e with e1 e2
   subst e1 e2
   exact ⟨_,_,rfl,fun hm=>by have:=hF _ hm;have:=P3.out;omega,hb,hc⟩)
 rw [ha1] at hc1
 rw [ha2] at hc2
 rw [hms]
 have GW:=hidxu_ (show g + 2≤w4.heap.size by have:=B23.size;have:=B34.size;omega)
 obtain ⟨h2,hh2⟩:∃ x:HeadV,{ h with pa:=a1,pc:=c1 } = x:=⟨_,rfl⟩
 have HH:=hidxu_ hh2
 have BH:=hidxu_ (show Tryz.prog.built 34 [(0,.int .i64 h.e),(1,.int .i64 h.n),(2,.agg #[.int .i64 h.c,.int .i64 h.d]),(3,.slice a1 h.pl.length c1)]=some h2.row by rw [← hh2];exact built_ah _ _ _ _ _ _ _)
 have BE:=hidxu_ (built_tE h2 a2 ms c2)
 clear hh2 r1 r2 l1 m1 l2 m2 b1 b2 hms ha1 ha2 j0 j1 j2 j3 j4 j5 k0 k3 k4 k6 A1 B23 B34
 go_enter Tryz.func16,Tryz.ntmps16
 go_upto_region 2 with (first
  | (refine wpList_load_sub rfl 25 (.tmp 8) rfl g 3 rfl #[.int .i64 h.c,.int .i64 h.d] D2.out _ Tryz.underlying25 rfl (iDot2 _ _) ?_)
  | (refine wpList_built rfl 34 #[(0,.tmp 5),(1,.tmp 7),(2,.tmp 9),(3,.tmp 12)] rfl h2.row ?_ ?_;(focus (simp only [List.map_toArray,List.map_cons,List.map_nil];exact BH.out)))
  | (refine wpList_built rfl 41 #[(1,.tmp 13),(2,.tmp 16)] rfl (eRow (zbytes 32) h2 a2 ms c2) ?_ ?_;(focus (simp only [List.map_toArray,List.map_cons,List.map_nil];exact BE.out)))
  | (refine wpList_put_row rfl 41 (.tmp 3) (.tmp 17) rfl w4.heap.size (eRow (zbytes 32) h2 a2 ms c2) rfl rfl 41 eRow0 (Bk.new w4 _ _) (iE _ (zbytes_len 32) _ _ _ _) rfl (eRow_one _ _ _ _ _) ?_;intro w5 k9 g9 s9;have hB:=mark_putx w4 w5 w4.heap.size 41 eRow0 _ g9;have V5:=hidxu_ k9;have X5:=hidxu_ (X4.out.trans (hB.mono X4.out.size));have R5:=hidxu_ (R4.out.below hB R4.out.lt);have E5:=hidxu_ (E4.out.below hB E4.out.lt);have B45:=hidxu_ hB;clear k9 g9 s9 hB))
 rename_i K9 hK9
 have sl:=fun W=>slice_allB w4.heap.size W
 have V5d:=hidxu_ (show Bk w5.drew w4.heap.size 41 (eRow (zbytes 32) h2 a2 ms c2) from V5.out.drew)
 have E5d:=hidxu_ (show Bk w5.drew (g + 1) 41 eRow0 from E5.out.drew)
 have B5d:=hidxu_ (show Below w4.heap.size w4 w5.drew from B45.out.trans ((Below.refl _ _).drew.mono B45.out.size))
 have k0:w5.drew.cell? ⟨g,0,none⟩=some (.string (strOf Ke)):=(rr_cells R5.out.drew).1
 clear V5 E5 R5 R4 E4 X5 B45
 go_region_law (refine step_copyS rfl (.tmp 19) (.tmp 21) rfl w4.heap.size 32 32 rfl Ke 32 KL.out rfl (Nat.le_refl _) 41 _ V5d.out (by rw [eRow_size _ (zbytes_len 32)];omega) ?_;intro w6 k9 g9 s9)
 all_goals
  rw [row_key (zbytes 32) Ke (zbytes_len 32) KL.out] at k9
  have V6:=hidxu_ k9
  have E6:=hidxu_ (E5d.out.grown g9 (fun e=>by injection e with e;have:=GW.out;omega))
  have B6:=hidxu_ (B5d.out.grown g9 B5d.out.size (fun k hk=>by injection hk with hk;omega))
  clear k9 g9 s9 k0 sl V5d E5d B5d
  refine hK9 _ _ ?_
  clear hK9 K9
  go_wp2_with (first
   | (refine wpList_load_row rfl 41 (.tmp 3) rfl w4.heap.size rfl 41 (eRow Ke h2 a2 ms c2) (0,0) _ V6.out Tryz.underlying41 rfl (iE Ke KL.out _ _ _ _) ?_)
   | (refine wpList_put_row rfl 41 (.tmp 2) (.tmp 23) rfl (g + 1) (eRow Ke h2 a2 ms c2) rfl rfl 41 eRow0 E6.out (iE Ke KL.out _ _ _ _) (by simp [eRow_size _ KL.out,eRow0,eRow_size _ (zbytes_len 32)]) (eRow_one _ _ _ _ _) ?_;intro w7 k9 g9 s9;have K7:=hidxu_ k9;have U7:=hidxu_ (Untouched.of_grown (F:=[g + 1]) g9 (fun k hk=>by injection hk with hk;simp [hk]));clear k9 g9 s9))
  refine bodyPost_ret (results_cellU Tryz.results16 _ _ (g + 1) rfl (run_loadVar_row _ _ _ _ _ (0,0) _ K7.out Tryz.underlying41 rfl (iE Ke KL.out _ _ _ _))) rfl ⟨a1,c1,a2,c2,by rw [HH.out],LS.out.1,LS.out.2,fun F hF=>?_,?_⟩
  ·have hu:Untouched ((g + 1) :: F) w4 w7:=(Untouched.of_below B6.out).trans (Grew.refl _ _) ⟨U7.out.os,U7.out.tape,U7.out.output,U7.out.size,fun j hj hn=>U7.out.block j hj (fun hm=>hn (by rw [List.mem_singleton.1 hm];exact List.mem_cons_self ..))⟩
   obtain ⟨q1,q2⟩:=FP.out ((g + 1) :: F) (fun k hk=>by
    rcases List.mem_cons.1 hk with e | e
    ·have:=HS2.out;omega
    ·have:=hF _ e;have:=X2.out.size;omega)
   exact ⟨q1.keep hu (fun k hk=>.inl (List.mem_cons_of_mem _ hk)),q2.keep hu (fun k hk=>.inl (List.mem_cons_of_mem _ hk))⟩
  ·exact (X4.out.trans (B6.out.mono X4.out.size)).trans (U7.out.below (fun k hk=>by rw [List.mem_singleton.1 hk];have:=HG.out;omega) (Nat.le_trans X4.out.size B6.out.size))
def oneN (id:Bool) (name:List UInt8) (h:HeadV):List (List UInt8):=if nmBad name∨¬ h.Ok then [] else bN id [] name
def oneL (id:Bool) (K name:List UInt8) (h:HeadV) (del:Bool) (u:List UInt8):List SealV:=if nmBad name∨¬ h.Ok then [] else sL id K [] h.e h.c h.n (esX id K [] name h) (esP del u)
def oneK (id:Bool) (K name:List UInt8) (h:HeadV):List UInt8:=if nmBad name∨¬ h.Ok then [] else bV id K [] name
def oneH (name:List UInt8) (h:HeadV):HeadV:=if nmBad name∨¬ h.Ok then hd0 else h
def oneS (id:Bool) (K name:List UInt8) (h:HeadV) (del:Bool) (u:List UInt8):List UInt8:=if nmBad name∨¬ h.Ok then [] else sB id K [] h.e h.c h.n (esX id K [] name h) (esP del u)
section
variable (id : Bool) (K name : List UInt8) (h : HeadV) (del : Bool) (u : List UInt8)
theorem oneN_len:(oneN id name h).length≤1:=by
 unfold oneN
 split
 ·exact Nat.zero_le _
 ·exact bN_len id [] name
theorem oneL_len:(oneL id K name h del u).length≤1:=by
 unfold oneL
 split
 ·exact Nat.zero_le _
 ·exact sL_len id K [] _ _ _ _ _
theorem oneL_b (hu:u.length≤3999):∀ t∈oneL id K name h del u,t.b.length≤100000:=by
 intro t ht
 unfold oneL at ht
 split at ht
 ·cases ht
 ·unfold sL at ht
  split at ht
  ·rw [List.nil_append] at ht
   rw [List.mem_singleton.1 ht]
   have:=esP_len del u hu
   have:=clsS_le (packB del u).length
   show (esP del u).length≤100000
   omega
  ·cases ht
theorem oneK_len:(oneK id K name h).length=0∨(oneK id K name h).length=32:=by
 unfold oneK
 split
 ·exact .inl rfl
 ·exact .inr (bV_len ..)
theorem oneS_len (hu:u.length≤3999):(oneS id K name h del u).length≤100000:=by
 unfold oneS
 split
 ·exact Nat.zero_le _
 ·have:=sB_len id K [] h.e h.c h.n (esX id K [] name h) (esP del u)
  have:=esP_len del u hu
  have:=clsS_le (packB del u).length
  omega
end
theorem sealOne {id:Bool} {v sp nm kn:Nat} {K:List UInt8} {w:World} {F:List Nat} (hv:VS id v sp nm kn K [] [] w F) (A:Option Addr) (n c:Nat) (name:List UInt8) (hn:name.length=n) (hc:n≤c) (hcm:c≤9223372036854775807) (hr:Rd w w.heap.size A name)
  (h:HeadV) (hp:RdF w F h.pa h.pl) (Au:Option Addr) (nu cu:Nat) (u:List UInt8) (hu:u.length=nu) (hu4:nu≤3999) (hru:Rd w w.heap.size Au u) (del:Bool)
  (ht:Tab w) (hg1:2 < w.heap.size) (hpt:PTab w) (hg2:0 < w.heap.size) (hgF:2∉F) :
  Calls Tryz.prog 8 #[.pointer (some ⟨v,0,none⟩),.slice A n c,.agg h.row,.slice Au nu cu,.bool del] w fun r w'=>∃ V x F',r = .returned (.tuple #[V,x])∧VS id v sp nm kn K (oneN id name h) (oneL id K name h del u) w' F'∧Grew w F F'∧Untouched F w w':=by
 by_cases hb:nmBad name∨¬ h.Ok
 ·have e1:oneN id name h = []:=by unfold oneN;rw [if_pos hb]
  have e2:oneL id K name h del u = []:=by unfold oneL;rw [if_pos hb]
  rw [e1,e2]
  have fin:∀ (r:Ending) (w':World),(r = .returned (.tuple #[.agg eRow0,.int .i64 1])∧Below w.heap.size w w')→∃ V x F',r = .returned (.tuple #[V,x])∧VS id v sp nm kn K [] [] w' F'∧Grew w F F'∧Untouched F w w' :=
   fun r w' ⟨a,b⟩=>⟨_,_,F,a,(VS.foot id v sp nm kn K [] []).keep hv (Untouched.of_below (F:=[]) b) (fun _ _=>by simp),Grew.refl _ _,.of_below b⟩
  by_cases hn1:1≤n∧n≤64
  ·exact (seal_no2 w v A n c h _ del hn1.1 hn1.2 (hb.resolve_left (fun x=>by unfold nmBad at x;omega))).mono fin
  ·exact (seal_no1 w v A n c h _ del hn1).mono fin
 ·have e1:oneN id name h=bN id [] name:=by unfold oneN;rw [if_neg hb]
  have e2:oneL id K name h del u=sL id K [] h.e h.c h.n (esX id K [] name h) (esP del u):=by unfold oneL;rw [if_neg hb]
  rw [e1,e2]
  have h1:¬ nmBad name:=fun x=>hb (.inl x)
  have h2:h.Ok:=Classical.byContradiction fun x=>hb (.inr x)
  have hn1:1≤n∧n≤64:=by unfold nmBad at h1;omega
  refine (seal_own hv A n c name hn hn1.1 hn1.2 hc hcm hr h h2 hp Au nu cu u hu hu4 hru del (by simp) (by simp) ht hg1 hpt hg2 hgF (by simp)).mono fun r w' hh=>?_
  obtain ⟨pa,pc,sa,sc,F',e,_,_,_,_,_,a,b,d⟩:=hh
  exact ⟨_,_,F',e,a,b,d⟩
end Go.Proofs.YtpcbmnmgefhaaaaGreatDoor
