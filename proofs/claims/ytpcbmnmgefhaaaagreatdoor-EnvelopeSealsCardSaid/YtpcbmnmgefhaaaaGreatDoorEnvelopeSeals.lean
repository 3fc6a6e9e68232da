/-
  Proved: for all modes, keys and asks EnvelopeSeals answers true: the envelope is told, or why there is none; it is opened again, and comes back from its bytes. No condition.
-/
import Derived.Test.YtpcbmnmgefhaaaaGreatDoorXX
import Derived.Test.YtpcbmnmgefhaaaaGreatDoorOa
namespace Go.Proofs.YtpcbmnmgefhaaaaGreatDoor.envelopeSeals
set_option maxRecDepth 100000
open Go.ChangeShapes Go.WideShapes Go.ChangeAt Go.RowKit
set_option linter.unusedVariables false
set_option linter.unusedSimpArgs false

theorem hid_ {p:Prop} (h:p):Hid p:=h
/-- Two rows of the call's own. -/
def OWd (b n m:Nat) (l k:List UInt8) (u u':Value) (W:World):Prop:=∃ A c A' c',u = .slice A n c∧Own8 W b (.slice A n c) l∧u' = .slice A' m c'∧Own8 W b (.slice A' m c') k
def CuS (ga:Nat) (q:AskV):Nat→Value→World→Prop
 | 0,u,_=>u = .pointer (some ⟨ga,0,none⟩)
 | 1,u,_=>u = .slice q.na q.nl.length q.nc
 | 3,u,_=>u = .pointer (some ⟨ga,6,none⟩)
 | 4,u,_=>u = .slice q.va q.vl.length q.vc
 | _,_,_=>True
theorem CuS.any {ga:Nat} {q:AskV} {i:Nat} {v:Value} {W W':World} (h:CuS ga q i v W):CuS ga q i v W':=by
 unfold CuS at h ⊢
 split at h <;> first | exact h | trivial
theorem seal_bad (w:World) (v:Nat) (A:Option Addr) (n c:Nat) (h:HeadV) (V:Value) (del:Bool) (hbad:¬ (1≤n∧n≤64)∨¬ h.Ok) :
  Calls Tryz.prog 8 #[.pointer (some ⟨v,0,none⟩),.slice A n c,.agg h.row,V,.bool del] w fun r w'=>r = .returned (.tuple #[.agg eRow0,.int .i64 1])∧Below w.heap.size w w':=by
 by_cases hn:1≤n∧n≤64
 ·exact seal_no2 w v A n c h V del hn.1 hn.2 (hbad.resolve_left (fun x=>x hn))
 ·exact seal_no1 w v A n c h V del hn
theorem valR_pack (del:Bool) (v:List UInt8) (hv:v.length≤3999):valR (cutB (esP del v))=(if del=true then [] else v,del,0):=by
 unfold esP
 rw [(cutB_pad (packB del v) (by have:=packB_len del v;omega)).1]
 cases del <;> rfl
theorem ask_more {w:World} {B C:Nat} {q:AskV} (h:q.Ok w B) (hB:B≤C):q.Ok w C:=⟨h.rn.more hB,h.hn,h.he,h.hm,h.hc,h.hd,h.rp.more hB,h.hp,h.rv.more hB,h.hv⟩
theorem oT_back (id:Bool) (K:List UInt8) (e c n:Int) (x b:List UInt8) (hok:slOk e c n):oT id K (sL id K [] e c n x b) e.toNat c.toNat n.toNat x (sB id K [] e c n x b)=some b:=by
 have h2:(c.toNat,n.toNat)∉([]:List SealV).map cn:=by simp
 unfold sL sB
 rw [if_pos ⟨hok,h2⟩,if_pos ⟨hok,h2⟩]
 cases id
 ·have e3:sO false K [] e.toNat c.toNat n.toNat x b=sealB (sealK K e.toNat) (nonceB c.toNat n.toNat) x b:=rfl
  unfold oT
  rw [e3,if_neg (by decide),sealB_len,Nat.add_sub_cancel,if_pos (seal_opens _ _ x b b.length rfl),seal_back _ _ x b b.length rfl]
 ·unfold oT
  simp [hitS]
theorem bV_again (id:Bool) (K nl:List UInt8) (hn:¬ nmBad nl):bV id K (bN id [] nl) nl=bV id K [] nl:=by
 unfold bV bB bN
 rw [if_neg hn,if_neg hn,if_neg hn]
 cases id
 ·rfl
 ·rw [if_pos rfl,if_pos rfl,if_pos rfl,ordN_self]
theorem evOk_put {Kb:List UInt8} {h:HeadV} {S:List UInt8} (hK:Kb.length=32) (hok:EnvOk h S.length):EvOk (writeB Kb h S) Kb h S:=⟨hK,hok,rfl⟩

set_option maxRecDepth 100000 in
set_option maxHeartbeats 16000000 in
theorem walk (w:World) (id:Bool) (K:List UInt8) (hK:K.length=32) (q:AskV) (hq:q.Ok w w.heap.size) (ht:Tab w) (hg1:2 < w.heap.size) (hpt:PTab w) (hg2:0 < w.heap.size) :
  Calls Tryz.prog 3 #[.bool id,.agg (rowOf K),.agg q.row] w fun e w'=>e = .returned (.bool true)∧Below w.heap.size w w':=by
 obtain ⟨g,hg⟩:∃ g,w.heap.size=g:=⟨_,rfl⟩
 obtain ⟨w1,hw1⟩:∃ W,w.alloc (.cells (rowOf K) 22)=W:=⟨_,rfl⟩
 obtain ⟨w2,hw2⟩:∃ W,w1.alloc (.cells q.row 27)=W:=⟨_,rfl⟩
 have s1:w1.heap.size=g + 1:=by rw [← hw1,← hg];simp
 have S2:w2.heap.size=g + 2:=by rw [← hw2];simp [s1]
 have b1:Below w.heap.size w w1:=by rw [← hw1];exact (Below.refl _ _).alloc (Nat.le_refl _) _
 have b2:Below w1.heap.size w1 w2:=by rw [← hw2];exact (Below.refl _ _).alloc (Nat.le_refl _) _
 have B2:=hid_ (b1.trans (b2.mono b1.size))
 have K2:=hid_ (show Bk w2 g 22 (rowOf K) by have k:=Bk.new w 22 (rowOf K);rw [hw1,hg] at k;exact k.below b2 k.lt)
 have Q2:=hid_ (show Bk w2 (g + 1) 27 q.row by have k:=Bk.new w1 27 q.row;rw [hw2,s1] at k;exact k)
 obtain ⟨ga,hga⟩:∃ x,g + 1=x:=⟨_,rfl⟩
 rw [hga] at Q2
 have GA:=hid_ (show ga < w2.heap.size by omega)
 have HT:=hid_ (tab_un (F:=[]) ht (Untouched.of_below B2.out) hg1 (fun hm=>by cases hm))
 have HP:=hid_ (ptab_un (F:=[]) hpt (Untouched.of_below B2.out) hg2 (fun hm=>by cases hm))
 have g01:2 < w2.heap.size:=Nat.lt_of_lt_of_le hg1 B2.out.size
 have g02:0 < w2.heap.size:=Nat.lt_of_lt_of_le hg2 B2.out.size
 have HQ:=hid_ ((hq.below B2.out))
 have QB:=hid_ B2.out.size
 have cv:=two13_any id w2 K hK
 have KL:=hid_ hK
 have hzH:=zeroH
 have hzE:=zeroE
 have hzR:=zeroR
 have HG:=hid_ hg
 clear ht hpt hq b1 b2 hK
 go_enter Tryz.func3,Tryz.ntmps3
 go_upto_region 2 with (first
  | (refine wpList_load_row rfl 22 (.tmp 4) rfl g rfl 22 (rowOf K) (0,0) _ K2.out Tryz.underlying22 rfl (ib32 K KL.out) ?_)
  | (go_at_call 5;((with_reducible refine cv.mono ?_);clear cv;rintro e w3 ⟨v,sp,nm,kn,rg,F,rfl,hv,hF,hrg,hrb,hrF,hB⟩;have M3:=hid_ (show MineX w2 id v sp nm kn K [] [] F w3 from ⟨hv,hF,hB⟩);have RG3:=hid_ (ref_start hrg);have NRF:=hid_ hrF;have PRG:=hid_ (show w2.heap.size≤rg∧rg < w3.heap.size from ⟨hrb,hrg.lt⟩);have Q3:=hid_ (Q2.out.below hB Q2.out.lt);clear hv hF hrg hrb hrF hB)))
 have HFR:=hid_ (show ∀ k∈F,w2.heap.size≤k∧k < w3.heap.size from fun k hk=>⟨M3.out.own k hk,M3.out.lt k hk⟩)
 have HB23:=hid_ M3.out.below.size
 rename_i K9 hK9
 obtain ⟨nl,hnl⟩:∃ l,q.nl.take 80=l:=⟨_,rfl⟩
 obtain ⟨vl,hvl⟩:∃ l,q.vl.take 300=l:=⟨_,rfl⟩
 obtain ⟨mn,hmn⟩:∃ m,nl.length=m:=⟨_,rfl⟩
 obtain ⟨mv,hmv⟩:∃ m,vl.length=m:=⟨_,rfl⟩
 have NL:=hid_ hmn
 have VL:=hid_ hmv
 have mn80:mn≤80:=by rw [← hmn,← hnl,List.length_take];omega
 have mv300:mv≤300:=by rw [← hmv,← hvl,List.length_take];omega
 have HC1:=hid_ (show ∀ W,Below w3.heap.size w3 W→Calls Tryz.prog 6 #[.slice q.na q.nl.length q.nc,.int .i64 80] W (NewP W mn nl) from fun W hW=>by
  have X:=M3.out.below.trans (hW.mono M3.out.below.size)
  have h:=ecut_any W q.na q.nl q.nl.length q.nc 80 mn rfl (by rw [← hmn,← hnl,List.length_take,Nat.min_comm]) (by omega) ((HQ.out.rn.below (X.mono QB.out)).more (Nat.le_trans QB.out X.size)) HQ.out.hn.1 HQ.out.hn.2
  rw [hnl] at h
  exact h)
 have HC2:=hid_ (show ∀ W,Below w3.heap.size w3 W→Calls Tryz.prog 6 #[.slice q.va q.vl.length q.vc,.int .i64 300] W (NewP W mv vl) from fun W hW=>by
  have X:=M3.out.below.trans (hW.mono M3.out.below.size)
  have h:=ecut_any W q.va q.vl q.vl.length q.vc 300 mv rfl (by rw [← hmv,← hvl,List.length_take,Nat.min_comm]) (by omega) ((HQ.out.rv.below (X.mono QB.out)).more (Nat.le_trans QB.out X.size)) HQ.out.hv.1 HQ.out.hv.2
  rw [hvl] at h
  exact h)
 have ZC:=hid_ (show ∀ W,Below w3.heap.size w3 W→W.cell? ⟨ga,0,none⟩=some (.slice q.na q.nl.length q.nc)∧W.cell? ⟨ga,6,none⟩=some (.slice q.va q.vl.length q.vc) from fun W hW=>⟨(Q3.out.below hW Q3.out.lt).cell 0,(Q3.out.below hW Q3.out.lt).cell 6⟩)
 clear hmn hmv hnl hvl hw1 hw2 K2 Q2
 refine region_byJF [35,36,37,38,39,40,9,10] (fun W=>Below w3.heap.size w3 W) (fun _ _=>True) (CuS ga q) (fun D a W=>JT 2 5 6 7 37 40 9 10 (OW1 w3.heap.size mn nl) (OWd w3.heap.size mn mv nl vl) D a W) (by kernel_rfl) (by kernel_rfl) (by kernel_rfl) (by kernel_rfl) (fun j v w w' hT hr=>hr.any) (fun j v w hlt hj _=>?_) ((Below.refl _ _).drew) ?_ (JT.start _) ?_
 ·rcases j with _ | _ | _ | _ | _ | _ | _ | _ | j
  all_goals first
   | (exfalso;simp [dstOf] at hj;done)
   | trivial
 ·refine ⟨fun D a W hC hd hsz hf hv hJ hL hW K hK=>?_,fun D a W hC hd hsz hf hv hJ hL hW K hK=>?_,fun D a W hC hd hsz hf hv hJ hL hW K hK=>?_,fun D a W hC hd hsz hf hv hJ hL hW K hK=>?_,fun D a W hC hd hsz hf hv hJ hL hW K hK=>?_,fun D a W hC hd hsz hf hv hJ hL hW K hK=>?_,fun D a W hC hd hsz hf hv hJ hL hW K hK=>?_,fun D a W hC hd hsz hf hv hJ hL hW K hK=>?_,trivial⟩
  ·have HSZ:=hid_ hsz
   clear hsz
   have e1:=slot_of (a:=a) (s:=5) (v:=.pointer (some ⟨ga,0,none⟩)) (hf 5 (by kernel_rfl))
   refine step_run (wanted_none rfl) (v:=.pointer (some ⟨ga,0,none⟩)) (w':=W) ?_ (hK _ _ hC trivial rfl (hJ.other 0 35 _ (by decide) (by decide)))
   go_simp
  ·have HSZ:=hid_ hsz
   clear hsz
   have e1:=slot_of (a:=a) (s:=35) (v:=.pointer (some ⟨ga,0,none⟩)) (hv 0 (by kernel_rfl))
   obtain ⟨k1,k2⟩:=ZC.out W hC
   refine step_run (wanted_none rfl) (v:=.slice q.na q.nl.length q.nc) (w':=W) ?_ (hK _ _ hC trivial rfl (hJ.other 1 36 _ (by decide) (by decide)))
   go_simp
  ·have HSZ:=hid_ hsz
   clear hsz
   have e1:=slot_of (a:=a) (s:=36) (v:=.slice q.na q.nl.length q.nc) (hv 1 (by kernel_rfl))
   refine step_callx 6 #[.slice q.na q.nl.length q.nc,.int .i64 80] (wanted_none rfl) (w':=W) ?_ ((HC1.out W hC).mono fun e W2 hh=>?_)
   ·go_simp
   ·obtain ⟨A,d,rfl,ho,hb⟩:=hh
    exact ⟨_,rfl,hK _ _ (hC.trans (hb.mono hC.size)) trivial trivial (hJ.first _ hL (by decide) (by rw [HSZ.out];exact of_decide_eq_true (by kernel_rfl)) ⟨A,d,rfl,ho.lower hC.size⟩)⟩
  ·have HSZ:=hid_ hsz
   clear hsz
   have e1:=slot_of (a:=a) (s:=5) (v:=.pointer (some ⟨ga,0,none⟩)) (hf 5 (by kernel_rfl))
   refine step_run (wanted_none rfl) (v:=.pointer (some ⟨ga,6,none⟩)) (w':=W) ?_ (hK _ _ hC trivial rfl (hJ.other 3 38 _ (by decide) (by decide)))
   go_simp
  ·have HSZ:=hid_ hsz
   clear hsz
   have e1:=slot_of (a:=a) (s:=38) (v:=.pointer (some ⟨ga,6,none⟩)) (hv 3 (by kernel_rfl))
   obtain ⟨k1,k2⟩:=ZC.out W hC
   refine step_run (wanted_none rfl) (v:=.slice q.va q.vl.length q.vc) (w':=W) ?_ (hK _ _ hC trivial rfl (hJ.other 4 39 _ (by decide) (by decide)))
   go_simp
  ·have HSZ:=hid_ hsz
   clear hsz
   have e1:=slot_of (a:=a) (s:=39) (v:=.slice q.va q.vl.length q.vc) (hv 4 (by kernel_rfl))
   refine step_callx 6 #[.slice q.va q.vl.length q.vc,.int .i64 300] (wanted_none rfl) (w':=W) ?_ ((HC2.out W hC).mono fun e W2 hh=>?_)
   ·go_simp
   ·obtain ⟨A,d,rfl,ho,hb⟩:=hh
    exact ⟨_,rfl,hK _ _ (hC.trans (hb.mono hC.size)) trivial trivial (hJ.second _ hL (hW 2 (by kernel_rfl)) (by decide) (by decide) (by rw [HSZ.out];exact of_decide_eq_true (by kernel_rfl)) (fun h1=>(by obtain ⟨A0,d0,e0,h0⟩:=h1;exact ⟨A0,d0,A,d,e0,h0.below hb (Nat.le_refl _),rfl,ho.lower hC.size⟩)))⟩
  ·have HSZ:=hid_ hsz
   clear hsz
   obtain ⟨uu,hu⟩:∃ u,a.tmps.getD 37 undef=u:=⟨_,rfl⟩
   have e1:=slot_of (a:=a) (s:=37) (v:=uu) hu
   refine step_run (wanted_none rfl) (v:=uu) (w':=W) ?_ (hK _ _ hC trivial trivial (by rw [← hu];exact hJ.third (hW 5 (by kernel_rfl)) (by decide) (by decide) (by rw [HSZ.out];exact of_decide_eq_true (by kernel_rfl))))
   clear hu
   go_simp
  ·have HSZ:=hid_ hsz
   clear hsz
   obtain ⟨uu,hu⟩:∃ u,a.tmps.getD 40 undef=u:=⟨_,rfl⟩
   have e1:=slot_of (a:=a) (s:=40) (v:=uu) hu
   refine step_run (wanted_none rfl) (v:=uu) (w':=W) ?_ (hK _ _ hC trivial trivial (by rw [← hu];exact hJ.fourth (hW 5 (by kernel_rfl)) (by decide) (by decide) (by rw [HSZ.out];exact of_decide_eq_true (by kernel_rfl))))
   clear hu
   go_simp
 ·intro f w4 hC4 hv4 D7 hD7 hJ7
  obtain ⟨a7,hJ,hs⟩:=hJ7
  have h2:=hJ.both (hD7 5 (by decide))
  have e7:=(hJ.e1 (hD7 6 (by decide))).2
  have e8:=(hJ.e2 (hD7 7 (by decide))).2
  rw [hs,hs] at h2 e7 e8
  obtain ⟨A9,c9,A10,c10,h37,ho9,h40,ho10⟩:=h2
  have f7:=e7.trans h37
  have f8:=e8.trans h40
  simp only [framed,List.foldl_cons,List.foldl_nil,List.setIfInBounds_toArray,List.set_cons_succ,List.set_cons_zero]
  rw [f7,f8]
  have hB:=hC4;have HB34:=hid_ hC4.size
  have ON4:=hid_ ho9
  have OV4:=hid_ ho10
  have M4:=hid_ (M3.out.then_ hB)
  have Q4:=hid_ (Q3.out.below hB Q3.out.lt)
  have RG4:=hid_ ((RS.foot id rg K [] []).keep RG3.out (Untouched.of_below (F:=[]) hB) (fun _ _=>by simp))
  clear hv4 hD7 hJ hs e7 e8 h37 h40 ho9 ho10 f7 f8 hC4 hB M3 Q3 RG3 HC1 HC2 ZC
  refine hK9 _ _ ?_
  clear hK9 K9
  go_upto_region 3 with fail
  rename_i K9 hK9
  have ZN:=hid_ (show ∀ W,Below w4.heap.size w4 W→(convert 23 9 (.slice A9 mn c9)).run Tryz.prog W = .ok (.string (strOf nl)) W from fun W hW=>conv_strn (ON4.out.below hW (Nat.le_refl _)).rd.1 mn c9 NL.out)
  have ZV:=hid_ (show ∀ W,Below w4.heap.size w4 W→(convert 23 9 (.slice A10 mv c10)).run Tryz.prog W = .ok (.string (strOf vl)) W from fun W hW=>conv_strn (OV4.out.below hW (Nat.le_refl _)).rd.1 mv c10 VL.out)
  refine region_quiet_in (C:=fun W=>Below w4.heap.size w4 W) (by kernel_rfl) (by kernel_rfl) ((Below.refl _ _).drew) ?_
  repeat (first | go_big_quiet_skip | (go_big_quiet_want;(first
   | (refine BigFrame.quiet_move _ rfl ?_;go_simp)
   | (refine BigFrame.quiet_assign _ rfl ?_;go_simp)
   | (refine quiet_run (.string (strOf nl)) ?_ ?_;(focus (intro W hW;have h4:=ZN.out W hW;go_simp;done));go_simp)
   | (refine quiet_run (.string (strOf vl)) ?_ ?_;(focus (intro W hW;have h5:=ZV.out W hW;go_simp;done));go_simp));go_big_quiet_on))
  refine wpQuiet_nil ?_
  intro w5 hB
  clear ZN ZV
  have M5:=hid_ (M4.out.then_ hB);have Q5:=hid_ (Q4.out.below hB Q4.out.lt);have RG5:=hid_ ((RS.foot id rg K [] []).keep RG4.out (Untouched.of_below (F:=[]) hB) (fun _ _=>by simp));have ON5:=hid_ (ON4.out.below hB (Nat.le_refl _));have OV5:=hid_ (OV4.out.below hB (Nat.le_refl _))
  have W5:=hid_ (show w3.heap.size≤w5.heap.size from Nat.le_trans HB34.out hB.size)
  clear hB M4 Q4 RG4 ON4 OV4
  refine hK9 _ _ ?_
  clear hK9 K9
  -- the head
  have HQ5:q.Ok w5 w5.heap.size:=ask_more (HQ.out.below (M5.out.below.mono QB.out)) (Nat.le_trans QB.out M5.out.below.size)
  have ch:=head_any w5 q HQ5
  have IA:=hid_ (iAsk q)
  go_upto_region 5 with (first
   | (refine wpList_load_row rfl 27 (.tmp 5) rfl ga rfl 27 q.row (0,0) _ Q5.out Tryz.underlying27 rfl IA.out ?_)
   | (go_at_call 7;((with_reducible refine ch.mono ?_);clear ch;rintro e w7 ⟨Ap,cp,rfl,hO,hB⟩;have M7:=hid_ (M5.out.then_ hB);have Q7:=hid_ (Q5.out.below hB Q5.out.lt);have RG7:=hid_ ((RS.foot id rg K [] []).keep RG5.out (Untouched.of_below (F:=[]) hB) (fun _ _=>by simp));have ON7:=hid_ (ON5.out.below hB (Nat.le_refl _));have OV7:=hid_ (OV5.out.below hB (Nat.le_refl _));have OP7:=hid_ (hO.lower W5.out);obtain ⟨wa,hwa⟩:∃ W,w7.alloc (.cells hd0.row 34)=W:=⟨_,rfl⟩;obtain ⟨wb,hwb⟩:∃ W,wa.alloc (.cells (rRow [] hd0 []) 36)=W:=⟨_,rfl⟩;have sa1:wa.heap.size=w7.heap.size + 1:=(by simp [← hwa]);have ba:Below w7.heap.size w7 wa:=(by rw [← hwa];exact (Below.refl _ _).alloc (Nat.le_refl _) _);have bb:Below wa.heap.size wa wb:=(by rw [← hwb];exact (Below.refl _ _).alloc (Nat.le_refl _) _);have HA:=hid_ (show Bk wb w7.heap.size 34 hd0.row by have k:=Bk.new w7 34 hd0.row;rw [hwa] at k;exact k.below bb k.lt);have RA:=hid_ (show Bk wb (w7.heap.size + 1) 36 (rRow [] hd0 []) by have k:=Bk.new wa 36 (rRow [] hd0 []);rw [hwb,sa1] at k;exact k);have BW:=hid_ (ba.trans (bb.mono ba.size));have W7:=hid_ (show w3.heap.size≤w7.heap.size from Nat.le_trans W5.out hB.size);have HAP:=hid_ (fun a e=>ownX hO a e);have NON:=hid_ (fun a e=>(ownX ON5.out a e).2);clear hO hB ba bb))
   | (refine wpList_put_row rfl 34 (.tmp 13) (.tmp 48) rfl w7.heap.size (askH q Ap cp).row rfl rfl 34 hd0.row HA.out (iHead _) rfl (head_one _) ?_;intro w8 k8 g8 s8;have H8:=hid_ k8;have R8:=hid_ (RA.out.grown g8 (fun e=>by injection e with e;omega));have BX:=hid_ (BW.out.grown g8 BW.out.size (fun k hk=>by injection hk with hk;omega));clear k8 g8 s8)
   | (refine wpList_put_row rfl 36 (.tmp 14) (.tmp 49) rfl (w7.heap.size + 1) (rRow [] (askH q Ap cp) []) rfl rfl 36 (rRow [] hd0 []) R8.out (iRr _ _ _) rfl (rRow_one _ _ _) ?_;intro w9 k9 g9 s9;have R9:=hid_ k9;have H9:=hid_ (H8.out.grown g9 (fun e=>by injection e with e;omega));have hB:=BX.out.grown g9 BX.out.size (fun k hk=>by injection hk with hk;omega);have M9:=hid_ (M7.out.then_ hB);have Q9:=hid_ (Q7.out.below hB Q7.out.lt);have RG9:=hid_ ((RS.foot id rg K [] []).keep RG7.out (Untouched.of_below (F:=[]) hB) (fun _ _=>by simp));have ON9:=hid_ (ON7.out.below hB (Nat.le_refl _));have OV9:=hid_ (OV7.out.below hB (Nat.le_refl _));have OP9:=hid_ (OP7.out.below hB (Nat.le_refl _));clear k9 g9 s9 hB))
  clear HA RA BW BX H8 R8 hwa hwb sa1 M5 M7 Q5 Q7 RG5 RG7 ON5 ON7 OV5 OV7 OP7
  have PH:=hid_ (show w3.heap.size≤w7.heap.size from W7.out)
  have PR:=hid_ (show w3.heap.size≤w7.heap.size + 1 by have:=W7.out;omega)
  obtain ⟨gr,hgr⟩:∃ x,w7.heap.size + 1=x:=⟨_,rfl⟩
  rw [hgr] at R9 PR ⊢
  generalize w7.heap.size=gh at *
  obtain ⟨pl,hpl⟩:∃ l,q.pl.take 100=l:=⟨_,rfl⟩
  obtain ⟨mp,hmp⟩:∃ m,pl.length=m:=⟨_,rfl⟩
  have mp100:mp≤100:=by rw [← hmp,← hpl,List.length_take];omega
  have PL:=hid_ hmp
  obtain ⟨hd,hhd⟩:∃ h,askH q Ap cp=h:=⟨_,rfl⟩
  have HD:=hid_ (show hd.pa=Ap∧hd.pl=pl∧hd.pc=cp from ⟨by rw [← hhd];rfl,by rw [← hhd,← hpl];rfl,by rw [← hhd];rfl⟩)
  rw [hpl,hmp] at OP9
  rw [hhd] at H9 R9
  have k7:=(show w9.cell? ⟨ga,7,none⟩=some (.bool q.del) from Q9.out.cell 7)
  have cn:=fun W=>seal_nil W (.slice A9 mn c9) hd (.slice A10 mv c10) false
  have W35:=hid_ (show w2.heap.size≤w5.heap.size∧w3.heap.size≤w5.heap.size from ⟨by have:=W5.out;have:=HB23.out;omega,W5.out⟩)
  clear hpl hmp hhd hgr IA W7
  by_cases hbad:nmBad nl∨¬ hd.Ok
  ·have HBD:=hid_ hbad
   clear hbad
   have cs:=seal_bad w9 v A9 mn c9 hd (.slice A10 mv c10) q.del (HBD.out.imp (fun h=>by unfold nmBad at h;have:=NL.out;omega) (fun x=>x))
   go_upto_region 6 with (first
    | (refine wpList_load_row rfl 34 (.tmp 13) rfl gh rfl 34 hd.row (0,0) _ H9.out Tryz.underlying34 rfl (iHead _) ?_)
    | (go_at_call 8;((with_reducible refine cs.mono ?_);clear cs k7;rintro e w10 ⟨rfl,hB⟩;have M10:=hid_ (M9.out.then_ hB);have Q10:=hid_ (Q9.out.below hB Q9.out.lt);have RG10:=hid_ ((RS.foot id rg K [] []).keep RG9.out (Untouched.of_below (F:=[]) hB) (fun _ _=>by simp));have ON10:=hid_ (ON9.out.below hB (Nat.le_refl _));have OV10:=hid_ (OV9.out.below hB (Nat.le_refl _));have OP10:=hid_ (OP9.out.below hB (Nat.le_refl _));have H10:=hid_ (H9.out.below hB H9.out.lt);have R10:=hid_ (R9.out.below hB R9.out.lt);clear hB))
    | (refine wpList_put_row rfl 41 (.tmp 15) (.tmp 58) rfl w10.heap.size eRow0 rfl rfl 41 eRow0 (Bk.new w10 _ _) (iE _ rfl _ _ _ _) rfl (eRow_one _ _ _ _ _) ?_;intro w11 k11 g11 s11;have hB:=mark_putx w10 w11 w10.heap.size 41 eRow0 _ g11;have E11:=hid_ k11;have M11:=hid_ (M10.out.then_ hB);have Q11:=hid_ (Q10.out.below hB Q10.out.lt);have RG11:=hid_ ((RS.foot id rg K [] []).keep RG10.out (Untouched.of_below (F:=[]) hB) (fun _ _=>by simp));have ON11:=hid_ (ON10.out.below hB (Nat.le_refl _));have OV11:=hid_ (OV10.out.below hB (Nat.le_refl _));have OP11:=hid_ (OP10.out.below hB (Nat.le_refl _));have H11:=hid_ (H10.out.below hB H10.out.lt);have R11:=hid_ (R10.out.below hB R10.out.lt);clear k11 g11 s11 hB))
   generalize w10.heap.size=ge at *
   clear M9 M10 Q9 Q10 RG9 RG10 ON9 ON10 OV9 OV10 OP9 OP10 H9 H10 R9 R10
   have k7:=(show w11.cell? ⟨ga,7,none⟩=some (.bool q.del) from Q11.out.cell 7)
   have cr:=refSeal_no w11 rg [] hd [] nl vl q.del (by have:=NL.out;omega) HBD.out
   go_upto_region 7 with (first
    | (refine wpList_load_row rfl 36 (.tmp 14) rfl gr rfl 36 (rRow [] hd []) (0,0) _ R11.out Tryz.underlying36 rfl (iRr _ _ _) ?_)
    | (go_at_call 9;((with_reducible refine cr.mono ?_);clear cr k7;rintro e w12 ⟨rfl,hB⟩;have M12:=hid_ (M11.out.then_ hB);have Q12:=hid_ (Q11.out.below hB Q11.out.lt);have RG12:=hid_ ((RS.foot id rg K [] []).keep RG11.out (Untouched.of_below (F:=[]) hB) (fun _ _=>by simp));have ON12:=hid_ (ON11.out.below hB (Nat.le_refl _));have OV12:=hid_ (OV11.out.below hB (Nat.le_refl _));have OP12:=hid_ (OP11.out.below hB (Nat.le_refl _));have H12:=hid_ (H11.out.below hB H11.out.lt);have R12:=hid_ (R11.out.below hB R11.out.lt);have E12:=hid_ (E11.out.below hB E11.out.lt);clear hB))
    | (refine wpList_put_row rfl 36 (.tmp 17) (.tmp 68) rfl w12.heap.size (rRow [] hd0 []) rfl rfl 36 (rRow [] hd0 []) (Bk.new w12 _ _) (iRr _ _ _) rfl (rRow_one _ _ _) ?_;intro w13 k13 g13 s13;have hB:=mark_putx w12 w13 w12.heap.size 36 (rRow [] hd0 []) _ g13;have WT13:=hid_ k13;have M13:=hid_ (M12.out.then_ hB);have Q13:=hid_ (Q12.out.below hB Q12.out.lt);have RG13:=hid_ ((RS.foot id rg K [] []).keep RG12.out (Untouched.of_below (F:=[]) hB) (fun _ _=>by simp));have ON13:=hid_ (ON12.out.below hB (Nat.le_refl _));have OV13:=hid_ (OV12.out.below hB (Nat.le_refl _));have OP13:=hid_ (OP12.out.below hB (Nat.le_refl _));have H13:=hid_ (H12.out.below hB H12.out.lt);have R13:=hid_ (R12.out.below hB R12.out.lt);have E13:=hid_ (E12.out.below hB E12.out.lt);clear k13 g13 s13 hB))
   clear E11 E12 M11 M12 Q11 Q12 RG11 RG12 ON11 ON12 OV11 OV12 OP11 OP12 H11 H12 R11 R12
   have cn2:=cn w13
   clear cn
   go_upto_region 8 with (first
    | (refine wpList_load_row rfl 34 (.tmp 13) rfl gh rfl 34 hd.row (0,0) _ H13.out Tryz.underlying34 rfl (iHead _) ?_)
    | (go_at_call 8;((with_reducible refine cn2.mono ?_);clear cn2;rintro e w14 ⟨rfl,hB⟩;have M14:=hid_ (M13.out.then_ hB);have Q14:=hid_ (Q13.out.below hB Q13.out.lt);have RG14:=hid_ ((RS.foot id rg K [] []).keep RG13.out (Untouched.of_below (F:=[]) hB) (fun _ _=>by simp));have ON14:=hid_ (ON13.out.below hB (Nat.le_refl _));have OV14:=hid_ (OV13.out.below hB (Nat.le_refl _));have OP14:=hid_ (OP13.out.below hB (Nat.le_refl _));have H14:=hid_ (H13.out.below hB H13.out.lt);have R14:=hid_ (R13.out.below hB R13.out.lt);have E14:=hid_ (E13.out.below hB E13.out.lt);clear hB))
    | (refine wpList_put_row rfl 41 (.tmp 19) (.tmp 75) rfl w14.heap.size eRow0 rfl rfl 41 eRow0 (Bk.new w14 _ _) (iE _ rfl _ _ _ _) rfl (eRow_one _ _ _ _ _) ?_;intro w15 k15 g15 s15;have hB:=mark_putx w14 w15 w14.heap.size 41 eRow0 _ g15;have N15:=hid_ k15;have M15:=hid_ (M14.out.then_ hB);have Q15:=hid_ (Q14.out.below hB Q14.out.lt);have RG15:=hid_ ((RS.foot id rg K [] []).keep RG14.out (Untouched.of_below (F:=[]) hB) (fun _ _=>by simp));have ON15:=hid_ (ON14.out.below hB (Nat.le_refl _));have OV15:=hid_ (OV14.out.below hB (Nat.le_refl _));have OP15:=hid_ (OP14.out.below hB (Nat.le_refl _));have H15:=hid_ (H14.out.below hB H14.out.lt);have R15:=hid_ (R14.out.below hB R14.out.lt);have E15:=hid_ (E14.out.below hB E14.out.lt);clear k15 g15 s15 hB))
   clear E13 E14 M13 M14 Q13 Q14 RG13 RG14 ON13 ON14 OV13 OV14 OP13 OP14 H13 H14 R13 R14
   have cl:=seals_env w15 (M15.out.tab HT.out g01) (M15.out.glt g01) (M15.out.ptab HP.out g02) (M15.out.glt g02)
   go_wp2_with (go_at_call 10;((with_reducible refine cl.mono ?_);clear cl;rintro e w16 ⟨rfl,hB⟩;have M16:=hid_ (M15.out.then_ hB);have cv1:(convert 23 9 (.slice A9 mn c9)).run Tryz.prog w16 = .ok (.string (strOf nl)) w16:=conv_strn (ON15.out.below hB (Nat.le_refl _)).rd.1 mn c9 NL.out;have cv2:(convert 23 9 (.slice A10 mv c10)).run Tryz.prog w16 = .ok (.string (strOf vl)) w16:=conv_strn (OV15.out.below hB (Nat.le_refl _)).rd.1 mv c10 VL.out;have k5:=(env_cells (zbytes_len 32) (E15.out.below hB E15.out.lt)).2.2.2.2;clear hB))
   go_ret
   exact ⟨rfl,B2.out.trans (M16.out.below.mono B2.out.size)⟩
  ·have HGD:=hid_ (show ¬ nmBad nl∧hd.Ok from ⟨fun h=>hbad (.inl h),Classical.byContradiction fun h=>hbad (.inr h)⟩)
   clear hbad
   have MNB:=hid_ (show 1≤mn∧mn≤64 by have h:=HGD.out.1;unfold nmBad at h;have:=NL.out;omega)
   have HSL:=hid_ (HeadV.slOk HGD.out.2)
   obtain ⟨Kk,hKk⟩:∃ x,bV id K [] nl=x:=⟨_,rfl⟩
   have KKL:=hid_ (show Kk.length=32 by rw [← hKk];exact bV_len _ _ _ _)
   obtain ⟨N2,hN2⟩:∃ x,bN id [] nl=x:=⟨_,rfl⟩
   have HKE:=hid_ (show Kk=bV id K N2 nl by rw [← hN2,bV_again id K nl HGD.out.1];exact hKk.symm)
   have N2L:=hid_ (show N2.length≤1 by rw [← hN2];have:=bN_len id [] nl;simpa using this)
   obtain ⟨X,hX⟩:∃ x,esX id K [] nl hd=x:=⟨_,rfl⟩
   have HXB:=hid_ (show boundB Kk hd=X by rw [← hX,← hKk];rfl)
   obtain ⟨P,hP⟩:∃ x,esP q.del vl=x:=⟨_,rfl⟩
   have PL4:=hid_ (show P.length≤4096 by rw [← hP,esP_len q.del vl (by have:=VL.out;omega)];exact clsS_le _)
   have HVR:=hid_ (show valR (cutB P)=(if q.del=true then [] else vl,q.del,0) by rw [← hP];exact valR_pack q.del vl (by have:=VL.out;omega))
   obtain ⟨S,hS⟩:∃ x,sB id K [] hd.e hd.c hd.n X P=x:=⟨_,rfl⟩
   obtain ⟨L2,hL2⟩:∃ x,sL id K [] hd.e hd.c hd.n X P=x:=⟨_,rfl⟩
   have HOT:=hid_ (show oT id K L2 hd.e.toNat hd.c.toNat hd.n.toNat X S=some P by rw [← hS,← hL2];exact oT_back id K hd.e hd.c hd.n X P HSL.out)
   have SLL:=hid_ (show S.length=P.length + 16 by rw [← hS];unfold sB;rw [if_pos ⟨HSL.out,by simp⟩,sO_len])
   have HLB:=hid_ (show ∀ t∈L2,t.b.length≤100000 from fun t ht=>by rw [← hL2] at ht;unfold sL at ht;rw [if_pos ⟨HSL.out,by simp⟩] at ht;rw [List.mem_singleton.1 ht];exact Nat.le_trans PL4.out (by omega))
   obtain ⟨ns,hns⟩:∃ n,S.length=n:=⟨_,rfl⟩
   have SLN:=hid_ hns
   have NSB:=hid_ (show 16≤ns∧ns≤4112 by have:=SLL.out;have:=PL4.out;omega)
   have rdf9:RdF w9 F hd.pa hd.pl:=by
    rw [HD.out.1,HD.out.2.1]
    exact rdf_of OP9.out.rd.1 (fun a e hm=>by have h1:=(ownX OP9.out a e).1;have h2:=HFR.out _ hm;omega)
   have cs:=seal_own M9.out.vs A9 mn c9 nl NL.out MNB.out.1 MNB.out.2 ON9.out.cap.1 ON9.out.cap.2 ON9.out.rd.1 hd HGD.out.2 rdf9 A10 mv c10 vl VL.out (by omega) OV9.out.rd.1 q.del (by simp) (by simp) (M9.out.tab HT.out g01) (M9.out.glt g01) (M9.out.ptab HP.out g02) (M9.out.glt g02) (M9.out.gF g01) (by simp)
   have cr:=fun W (h:RS id rg K [] [] W [rg])=>refSeal_yes h KL.out [] hd [] nl vl q.del HGD.out.1 HGD.out.2 (by have:=VL.out;omega) (by simp) (by simp) (by simp)
   unfold EsW at cs
   rw [hX,hP,hKk,hS,hL2,hN2,hns] at cs
   simp only [hX,hP,hKk,hS,hL2,hN2] at cr
   have W39:=hid_ (show w3.heap.size≤w9.heap.size∧gh < w9.heap.size from ⟨by have:=H9.out.lt;have:=PH.out;omega,H9.out.lt⟩)
   clear hKk hN2 hX hP hS hL2 hns rdf9
   go_upto_region 6 with (first
    | (refine wpList_load_row rfl 34 (.tmp 13) rfl gh rfl 34 hd.row (0,0) _ H9.out Tryz.underlying34 rfl (iHead _) ?_)
    | (go_at_call 8;((with_reducible refine cs.mono ?_);clear cs k7;rintro e w10 ⟨pa,pc,sa,sc,F4,rfl,hOp,hOs,hnp,hns,hne,hV,hGr,hU⟩;have M10:=hid_ (M9.out.next hV hGr hU);have Q10:=hid_ (Q9.out.untouched hU (fun hm=>by have:=HFR.out _ hm;omega));have RG10:=hid_ ((RS.foot id rg K [] []).keep RG9.out hU (fun k hk hm=>by rw [List.mem_singleton.1 hk] at hm;exact NRF.out hm));have ON10:=hid_ (ON9.out.untouched hU (fun k hk=>(HFR.out k hk).2));have OV10:=hid_ (OV9.out.untouched hU (fun k hk=>(HFR.out k hk).2));have OP10:=hid_ (OP9.out.untouched hU (fun k hk=>(HFR.out k hk).2));have H10:=hid_ (H9.out.untouched hU (fun hm=>by have:=HFR.out _ hm;have:=PH.out;omega));have R10:=hid_ (R9.out.untouched hU (fun hm=>by have:=HFR.out _ hm;have:=PR.out;omega));have PC10:=hid_ hOp;have SS10:=hid_ hOs;have W910:=hid_ hU.size;have NP:=hid_ hnp;have NS:=hid_ hns;have HF4:=hid_ (show ∀ k∈F4,((w2.heap.size≤k∧k < w3.heap.size)∨w9.heap.size≤k)∧k≠rg from fun k hk=>(hGr k hk).elim (fun h=>⟨.inl (HFR.out k h),fun e=>NRF.out (e ▸ h)⟩) (fun h=>⟨.inr h,(by have:=PRG.out;have:=W39.out;omega)⟩));clear hOp hOs hnp hns hne hV hGr hU))
    | (refine wpList_put_row rfl 41 (.tmp 15) (.tmp 58) rfl w10.heap.size (eRow Kk { hd with pa:=pa,pc:=pc } sa ns sc) rfl rfl 41 eRow0 (Bk.new w10 _ _) (iE _ KKL.out _ _ _ _) (by rw [eRow_size _ KKL.out];exact eRow_z) (eRow_one _ _ _ _ _) ?_;intro w11 k11 g11 s11;have hB:=mark_putx w10 w11 w10.heap.size 41 eRow0 _ g11;have E11:=hid_ k11;have M11:=hid_ (M10.out.then_ hB);have Q11:=hid_ (Q10.out.below hB Q10.out.lt);have RG11:=hid_ ((RS.foot id rg K [] []).keep RG10.out (Untouched.of_below (F:=[]) hB) (fun _ _=>by simp));have ON11:=hid_ (ON10.out.below hB (Nat.le_refl _));have OV11:=hid_ (OV10.out.below hB (Nat.le_refl _));have OP11:=hid_ (OP10.out.below hB (Nat.le_refl _));have H11:=hid_ (H10.out.below hB H10.out.lt);have R11:=hid_ (R10.out.below hB R10.out.lt);have PC11:=hid_ (PC10.out.below hB (Nat.le_refl _));have SS11:=hid_ (SS10.out.below hB (Nat.le_refl _));clear k11 g11 s11 hB))
   have PE:=hid_ (show w9.heap.size≤w10.heap.size∧w10.heap.size∉F4 from ⟨by exact W910.out,fun hm=>absurd (M10.out.lt _ hm) (Nat.lt_irrefl _)⟩)
   have PE1:=hid_ (show w9.heap.size≤w11.heap.size by have h1:=E11.out.lt;have h2:=PE.out.1;omega)
   generalize w10.heap.size=ge at *
   clear M9 M10 Q9 Q10 RG9 RG10 ON9 ON10 OV9 OV10 OP9 OP10 H9 H10 R9 R10 PC10 SS10
   have k7:=(show w11.cell? ⟨ga,7,none⟩=some (.bool q.del) from Q11.out.cell 7)
   have cr2:=cr w11 RG11.out
   clear cr
   have HGR:=hid_ (show ∀ k∈[rg],w2.heap.size≤k∧k < w3.heap.size from fun k hk=>by rw [List.mem_singleton.1 hk];exact PRG.out)
   have HGR9:=hid_ (show ∀ k∈[rg],k < w9.heap.size from fun k hk=>by rw [List.mem_singleton.1 hk];have:=PRG.out;have:=W39.out;omega)
   go_upto_region 7 with (first
    | (refine wpList_load_row rfl 36 (.tmp 14) rfl gr rfl 36 (rRow [] hd []) (0,0) _ R11.out Tryz.underlying36 rfl (iRr _ _ _) ?_)
    | (go_at_call 9;((with_reducible refine cr2.mono ?_);clear cr2 k7;rintro e w12 ⟨rfl,G4,hV,hGr,hU⟩;have W912:=hid_ (show w9.heap.size≤w12.heap.size from Nat.le_trans PE1.out hU.size);have Q12:=hid_ (Q11.out.untouched hU (fun hm=>by have:=HGR.out _ hm;omega));have ON12:=hid_ (ON11.out.untouched hU (fun k hk=>(HGR.out k hk).2));have OV12:=hid_ (OV11.out.untouched hU (fun k hk=>(HGR.out k hk).2));have OP12:=hid_ (OP11.out.untouched hU (fun k hk=>(HGR.out k hk).2));have H12:=hid_ (H11.out.untouched hU (fun hm=>by have:=HGR.out _ hm;have:=PH.out;omega));have R12:=hid_ (R11.out.untouched hU (fun hm=>by have:=HGR.out _ hm;have:=PR.out;omega));have PC12:=hid_ (PC11.out.untouched hU (fun k hk=>by have:=HGR9.out _ hk;omega));have SS12:=hid_ (SS11.out.untouched hU (fun k hk=>by have:=HGR9.out _ hk;omega));have E12:=hid_ (E11.out.untouched hU (fun hm=>by have:=HGR9.out _ hm;have:=PE.out;omega));have M12:=hid_ (show MineX w2 id v sp nm kn K N2 L2 F4 w12 from ⟨(VS.foot id v sp nm kn K N2 L2).keep M11.out.vs hU (fun k hk hm=>(HF4.out k hk).2 (List.mem_singleton.1 hm)),M11.out.own,M11.out.below.trans (hU.below (fun k hm=>by rw [List.mem_singleton.1 hm];exact PRG.out.1) M11.out.below.size)⟩);clear hV hGr hU))
    | (refine wpList_put_row rfl 36 (.tmp 17) (.tmp 68) rfl w12.heap.size (rRow Kk hd S) rfl rfl 36 (rRow [] hd0 []) (Bk.new w12 _ _) (iRr _ _ _) rfl (rRow_one _ _ _) ?_;intro w13 k13 g13 s13;have hB:=mark_putx w12 w13 w12.heap.size 36 (rRow [] hd0 []) _ g13;have WT13:=hid_ k13;have M13:=hid_ (M12.out.then_ hB);have Q13:=hid_ (Q12.out.below hB Q12.out.lt);have ON13:=hid_ (ON12.out.below hB (Nat.le_refl _));have OV13:=hid_ (OV12.out.below hB (Nat.le_refl _));have OP13:=hid_ (OP12.out.below hB (Nat.le_refl _));have H13:=hid_ (H12.out.below hB H12.out.lt);have R13:=hid_ (R12.out.below hB R12.out.lt);have PC13:=hid_ (PC12.out.below hB (Nat.le_refl _));have SS13:=hid_ (SS12.out.below hB (Nat.le_refl _));have E13:=hid_ (E12.out.below hB E12.out.lt);have PW:=hid_ (show w9.heap.size≤w12.heap.size from W912.out);have PW2:=hid_ (show w12.heap.size∉F4 from fun hm=>absurd (M12.out.lt _ hm) (Nat.lt_irrefl _));clear k13 g13 s13 hB))
   generalize w12.heap.size=gw at *
   clear RG11 M11 M12 Q11 Q12 ON11 ON12 OV11 OV12 OP11 OP12 H11 H12 R11 R12 PC11 PC12 SS11 SS12 E11 E12
   have cn2:=cn w13
   clear cn
   go_upto_region 8 with (first
    | (refine wpList_load_row rfl 34 (.tmp 13) rfl gh rfl 34 hd.row (0,0) _ H13.out Tryz.underlying34 rfl (iHead _) ?_)
    | (go_at_call 8;((with_reducible refine cn2.mono ?_);clear cn2;rintro e w14 ⟨rfl,hB⟩;have M14:=hid_ (M13.out.then_ hB);have Q14:=hid_ (Q13.out.below hB Q13.out.lt);have ON14:=hid_ (ON13.out.below hB (Nat.le_refl _));have OV14:=hid_ (OV13.out.below hB (Nat.le_refl _));have OP14:=hid_ (OP13.out.below hB (Nat.le_refl _));have H14:=hid_ (H13.out.below hB H13.out.lt);have R14:=hid_ (R13.out.below hB R13.out.lt);have PC14:=hid_ (PC13.out.below hB (Nat.le_refl _));have SS14:=hid_ (SS13.out.below hB (Nat.le_refl _));have E14:=hid_ (E13.out.below hB E13.out.lt);have WT14:=hid_ (WT13.out.below hB WT13.out.lt);clear hB))
    | (refine wpList_put_row rfl 41 (.tmp 19) (.tmp 75) rfl w14.heap.size eRow0 rfl rfl 41 eRow0 (Bk.new w14 _ _) (iE _ rfl _ _ _ _) rfl (eRow_one _ _ _ _ _) ?_;intro w15 k15 g15 s15;have hB:=mark_putx w14 w15 w14.heap.size 41 eRow0 _ g15;have N15:=hid_ k15;have M15:=hid_ (M14.out.then_ hB);have Q15:=hid_ (Q14.out.below hB Q14.out.lt);have ON15:=hid_ (ON14.out.below hB (Nat.le_refl _));have OV15:=hid_ (OV14.out.below hB (Nat.le_refl _));have OP15:=hid_ (OP14.out.below hB (Nat.le_refl _));have H15:=hid_ (H14.out.below hB H14.out.lt);have R15:=hid_ (R14.out.below hB R14.out.lt);have PC15:=hid_ (PC14.out.below hB (Nat.le_refl _));have SS15:=hid_ (SS14.out.below hB (Nat.le_refl _));have E15:=hid_ (E14.out.below hB E14.out.lt);have WT15:=hid_ (WT14.out.below hB WT14.out.lt);clear k15 g15 s15 hB))
   clear N15 M13 M14 Q13 Q14 ON13 ON14 OV13 OV14 OP13 OP14 H13 H14 R13 R14 PC13 PC14 SS13 SS14 E13 E14 WT13 WT14
   have cl:=seals_env w15 (M15.out.tab HT.out g01) (M15.out.glt g01) (M15.out.ptab HP.out g02) (M15.out.glt g02)
   go_upto_region 12 with (go_at_call 10;((with_reducible refine cl.mono ?_);clear cl;rintro e w16 ⟨rfl,hB⟩;have M16:=hid_ (M15.out.then_ hB);have Q16:=hid_ (Q15.out.below hB Q15.out.lt);have ON16:=hid_ (ON15.out.below hB (Nat.le_refl _));have OV16:=hid_ (OV15.out.below hB (Nat.le_refl _));have OP16:=hid_ (OP15.out.below hB (Nat.le_refl _));have H16:=hid_ (H15.out.below hB H15.out.lt);have R16:=hid_ (R15.out.below hB R15.out.lt);have PC16:=hid_ (PC15.out.below hB (Nat.le_refl _));have SS16:=hid_ (SS15.out.below hB (Nat.le_refl _));have E16:=hid_ (E15.out.below hB E15.out.lt);have WT16:=hid_ (WT15.out.below hB WT15.out.lt);have cv1:(convert 23 9 (.slice A9 mn c9)).run Tryz.prog w16 = .ok (.string (strOf nl)) w16:=conv_strn ON16.out.rd.1 mn c9 NL.out;have cv2:(convert 23 9 (.slice A10 mv c10)).run Tryz.prog w16 = .ok (.string (strOf vl)) w16:=conv_strn OV16.out.rd.1 mv c10 VL.out;clear hB))
   clear cv1 cv2 OV16 R16 M15 Q15 ON15 OV15 OP15 H15 R15 PC15 SS15 E15 WT15
   have HBA:=hid_ (show ∀ k∈blkOf Ap,w5.heap.size≤k∧k < gh from fun k hk=>by
    simp only [blkOf,Option.mem_toList,Option.map_eq_some_iff] at hk
    obtain ⟨a2,e2,rfl⟩:=hk
    exact HAP.out a2 e2)
   go_upto_region 13 with fail
   go_loopw [21] (fun i wq=>∃ a:Nat,a≤mp∧i = .int .i64 a∧Hid (Untouched (blkOf Ap) w16 wq)∧Hid (∃ l:List UInt8,Own8 wq w3.heap.size (.slice Ap mp cp) l)) (fun i _=>mp - (intOf i).toNat)
   case atStart=>exact ⟨0,Nat.zero_le _,rfl,hid_ (Untouched.refl _ _),hid_ ⟨pl,OP16.out⟩⟩
   case round =>
    obtain ⟨a,ha,rfl,HQU,HO⟩:=hrel
    have k4:=(head_cells (H16.out.untouched HQU.out (fun hm=>by have:=HBA.out _ hm;omega))).2.2.2.2
    rw [HD.out.1,HD.out.2.1,HD.out.2.2,PL.out] at k4
    by_cases hlt2:a < mp
    ·have he1:decide ((a:Int) < (mp:Int))=true:=decide_eq_true (by omega)
     have he2:decide (a < mp)=true:=decide_eq_true hlt2
     obtain ⟨l,hO⟩:=HO.out
     obtain ⟨g5,hA⟩:=hO.block_ (by omega)
     subst hA
     obtain ⟨y,hy⟩:∃ y,l.getD a 0=y:=⟨_,rfl⟩
     have hcz:=hO.cellz a hlt2
     rw [hy] at hcz
     have hfz:=hO.frozenz a
     have hx1:bits .xor .u8 ((y.toNat:Nat):Int) 1=(((y ^^^ 1).toNat:Nat):Int):=xor8 y 1
     have hyb:=y.toNat_lt
     have HPUT:=hid_ (hO.put_ a (y ^^^ 1)).1
     have HW:=hid_ (HQU.out.trans (Grew.refl _ _) (Untouched.set (w:=wr) (F:=blkOf (some ⟨g5,0,none⟩)) g5 a (by simp [blkOf]) (.int .u8 ((y ^^^ 1).toNat:Int))))
     have t1:(0:Int)≤(a:Int):=by omega
     have t2:(a:Int) < (mp:Int):=by omega
     clear hy hO
     go_wp2
     go_roundw
     case rel=>exact ⟨a + 1,by omega,by go_num,HW,hid_ ⟨_,HPUT.out⟩⟩
     case measure=>simp [intOf];omega
    ·obtain rfl:mp=a:=by omega
     have he1:decide ((mp:Int) < (mp:Int))=false:=decide_eq_false (by omega)
     have he2:decide (mp < mp)=false:=decide_eq_false hlt2
     go_upto_region 16 with fail
     obtain ⟨w17,hw17⟩:∃ x,x=wr:=⟨_,rfl⟩
     subst hw17
     have HF4B:=hid_ (show ∀ k∈blkOf Ap,k∉F4 from fun k hk hm=>by have h1:=HBA.out k hk;have h2:=(HF4.out k hm).1;have:=W39.out;have:=W35.out;omega)
     have M17:=hid_ (show MineX w2 id v sp nm kn K N2 L2 F4 w17 from ⟨(VS.foot id v sp nm kn K N2 L2).keep M16.out.vs HQU.out (fun k hk hm=>HF4B.out k hm hk),M16.out.own,M16.out.below.trans (HQU.out.below (fun k hm=>by have h1:=(HBA.out k hm).1;have:=W35.out;omega) M16.out.below.size)⟩)
     have Q17:=hid_ (Q16.out.untouched HQU.out (fun hm=>by have h1:=(HBA.out _ hm).1;have:=W35.out;have:=GA.out;omega))
     have ON17:=hid_ (ON16.out.at_ (fun k hk=>HQU.out.block k (World.ownsRow.lt ON16.out k hk).2 (fun hm=>by have h1:=(HBA.out k hm).1;obtain ⟨x,ex,exb⟩:=ownBlock_some hk;have h2:=NON.out x ex;omega)))
     have PC17:=hid_ (PC16.out.untouched HQU.out (fun k hm=>by have h1:=(HBA.out k hm).2;have:=W39.out;omega))
     have SS17:=hid_ (SS16.out.untouched HQU.out (fun k hm=>by have h1:=(HBA.out k hm).2;have:=W39.out;omega))
     have E17:=hid_ (E16.out.untouched HQU.out (fun hm=>by have h1:=(HBA.out _ hm).2;have:=W39.out;have:=PE.out;omega))
     have WT17:=hid_ (WT16.out.untouched HQU.out (fun hm=>by have h1:=(HBA.out _ hm).2;have:=PW.out;have:=W39.out;omega))
     clear M16 Q16 ON16 PC16 SS16 E16 WT16 OP16 H16 HO HQU he1 he2 hlt2 k4
     have HHE:=hid_ (show EnvOk { hd with pa:=pa,pc:=pc } ns from ⟨HGD.out.2,NSB.out.1,by have:=NSB.out;omega⟩)
     have co:=open_yes M17.out.vs A9 mn c9 nl NL.out MNB.out.1 MNB.out.2 ON17.out.cap.1 ON17.out.cap.2 ON17.out.rd.1 Kk KKL.out { hd with pa:=pa,pc:=pc } sa ns sc S SLN.out HHE.out (rdf_of PC17.out.rd.1 NP.out) (rdf_of SS17.out.rd.1 NS.out) SS17.out.cap.1 SS17.out.cap.2 (by have:=N2L.out;omega) HLB.out (M17.out.tab HT.out g01) (M17.out.glt g01) (M17.out.gF g01) (M17.out.ptab HP.out g02) (M17.out.glt g02) (M17.out.gF g02) HKE.out P (by rw [show boundB Kk { hd with pa:=pa,pc:=pc } = X from HXB.out];exact HOT.out)
     rw [HVR.out] at co
     have HF4R:=hid_ (show ∀ k∈F4,k≠ge∧k≠ga∧k≠gw from fun k hk=>⟨fun e=>PE.out.2 (e ▸ hk),fun e=>by have h1:=(HF4.out k hk).1;have:=GA.out;have:=W39.out;have:=HB23.out;omega,fun e=>PW2.out (e ▸ hk)⟩)
     obtain ⟨dl,hdl⟩:∃ b,q.del=b:=⟨_,rfl⟩
     have HDL:=hid_ hdl
     rw [hdl] at co
     go_upto_region 17 with (first
      | (refine wpList_load_row rfl 41 (.tmp 15) rfl ge rfl 41 (eRow Kk { hd with pa:=pa,pc:=pc } sa ns sc) (0,0) _ E17.out Tryz.underlying41 rfl (iE _ KKL.out _ _ _ _) ?_)
      | (go_at_call 11;((with_reducible refine co.mono ?_);clear co;rintro e w18 ⟨A20,m20,c20,F5,rfl,hm20,hR20,hV,hGr,hU⟩;have M18:=hid_ (M17.out.next hV hGr hU);have Q18:=hid_ (Q17.out.untouched hU (fun hm=>(HF4R.out _ hm).2.1 rfl));have E18:=hid_ (E17.out.untouched hU (fun hm=>(HF4R.out _ hm).1 rfl));have WT18:=hid_ (WT17.out.untouched hU (fun hm=>(HF4R.out _ hm).2.2 rfl));have PC18:=hid_ (((rdf_of PC17.out.rd.1 NP.out).keep hU hGr).rd);have SS18:=hid_ (((rdf_of SS17.out.rd.1 NS.out).keep hU hGr).rd);have Y18:=hid_ hR20.rd;have YM:=hid_ hm20;have SC:=hid_ (show ns≤sc∧sc≤9223372036854775807 from SS17.out.cap);clear hm20 hR20 hV hGr hU)))
     clear M17 Q17 ON17 PC17 SS17 E17 WT17 hdl
     have k7:=(show w18.cell? ⟨ga,7,none⟩=some (.bool q.del) from Q18.out.cell 7)
     rw [HDL.out] at k7
     have cw:=writeE_any w18 Kk KKL.out { hd with pa:=pa,pc:=pc } sa sc S (by rw [SLN.out];exact HHE.out) PC18.out SS18.out
     rw [SLN.out,show writeB Kk { hd with pa:=pa,pc:=pc } S=writeB Kk hd S from rfl] at cw
     obtain ⟨CB,hCB⟩:∃ x,writeB Kk hd S=x:=⟨_,rfl⟩
     have HCB:=hid_ hCB
     obtain ⟨cn_,hcn⟩:∃ x,CB.length=x:=⟨_,rfl⟩
     have CBL:=hid_ hcn
     have CBB:=hid_ (show cn_≤9000 by rw [← hcn,← hCB,writeB_len Kk KKL.out];have h1:=HGD.out.2.2.2.2.2;have h2:=NSB.out;have h3:=SLN.out;omega)
     rw [hCB,hcn] at cw
     have EVK:=hid_ (show EvOk CB Kk { hd with pa:=pa,pc:=pc } S by rw [← hCB];exact evOk_put KKL.out (by rw [SLN.out];exact HHE.out))
     clear hCB hcn
     obtain ⟨yv,hyv⟩:∃ y:List UInt8,(if dl=true then [] else vl)=y:=⟨_,rfl⟩
     rw [hyv] at Y18 YM
     have HYV:=hid_ hyv
     clear hyv
     cases dl
     ·have hy:yv=vl:=HYV.out.symm
      have HYE:=hid_ hy
      go_upto_region 21 with (first
       | (refine wpList_load_row rfl 41 (.tmp 15) rfl ge rfl 41 (eRow Kk { hd with pa:=pa,pc:=pc } sa ns sc) (0,0) _ E18.out Tryz.underlying41 rfl (iE _ KKL.out _ _ _ _) ?_)
       | (go_at_call 12;((with_reducible refine cw.mono ?_);clear cw k7;rintro e w19 ⟨A21,c21,rfl,hO,hB⟩;have M19:=hid_ (M18.out.then_ hB);have Q19:=hid_ (Q18.out.below hB Q18.out.lt);have E19:=hid_ (E18.out.below hB E18.out.lt);have WT19:=hid_ (WT18.out.below hB WT18.out.lt);have PC19:=hid_ ((PC18.out.below hB).more hB.size);have SS19:=hid_ ((SS18.out.below hB).more hB.size);have Y19:=hid_ ((Y18.out.below hB).more hB.size);have C19:=hid_ hO.rd.1;have crd:=readE_any w19 A21 cn_ c21 CB CBL.out hO.rd.1 (by have:=CBB.out;omega);clear hO hB))
       | (go_at_call 13;((with_reducible refine crd.mono ?_);clear crd;rintro e w20 ⟨Kd,hh,da,dn,dc,ds,ok,rfl,hKd,hdn,hdc,hdcm,hsr,hpr,hyk,hnk,hB⟩;subst hdn;have M20:=hid_ (M19.out.then_ hB);have Q20:=hid_ (Q19.out.below hB Q19.out.lt);have E20:=hid_ (E19.out.below hB E19.out.lt);have WT20:=hid_ (WT19.out.below hB WT19.out.lt);have PC20:=hid_ ((PC19.out.below hB).more hB.size);have SS20:=hid_ ((SS19.out.below hB).more hB.size);have Y20:=hid_ ((Y19.out.below hB).more hB.size);have C20:=hid_ ((C19.out.below hB).more hB.size);have KDL:=hid_ hKd;have DSR:=hid_ hsr;have DPR:=hid_ hpr;have hokt:ok=true:=(by cases ok;exact absurd EVK.out ((hnk rfl).2 _ _ _);rfl);subst hokt;have DEV:=hid_ (evok_one EVK.out (hyk rfl));clear hKd hdc hdcm hsr hpr hyk hnk hB))
       | (refine wpList_put_row rfl 41 (.tmp 27) (.tmp 138) rfl w20.heap.size (eRow Kd hh da ds.length dc) rfl rfl 41 eRow0 (Bk.new w20 _ _) (iE _ KDL.out _ _ _ _) (by rw [eRow_size _ KDL.out];exact eRow_z) (eRow_one _ _ _ _ _) ?_;intro w21 k21 g21 s21;have hB:=mark_putx w20 w21 w20.heap.size 41 eRow0 _ g21;have D21:=hid_ k21;have M21:=hid_ (M20.out.then_ hB);have Q21:=hid_ (Q20.out.below hB Q20.out.lt);have E21:=hid_ (E20.out.below hB E20.out.lt);have WT21:=hid_ (WT20.out.below hB WT20.out.lt);have PC21:=hid_ ((PC20.out.below hB).more hB.size);have SS21:=hid_ ((SS20.out.below hB).more hB.size);have Y21:=hid_ ((Y20.out.below hB).more hB.size);have C21:=hid_ ((C20.out.below hB).more hB.size);have DS21:=hid_ ((DSR.out.below hB).more hB.size);have DP21:=hid_ ((DPR.out.below hB).more hB.size);clear k21 g21 s21 hB))
      generalize w20.heap.size=gd at *
      rename_i K9 hK9
      have Z1:=hid_ (show ∀ W,Below w21.heap.size w21 W→Bk W ge 41 (eRow Kk { hd with pa:=pa,pc:=pc } sa ns sc) from fun W hW=>E21.out.below hW E21.out.lt)
      have Z2:=hid_ (show ∀ W,Below w21.heap.size w21 W→Bk W gw 36 (rRow Kk hd S) from fun W hW=>WT21.out.below hW WT21.out.lt)
      have Z3:=hid_ (show ∀ W,Below w21.heap.size w21 W→Calls Tryz.prog 14 #[.agg (eRow Kk { hd with pa:=pa,pc:=pc } sa ns sc)] W fun e w'=>e = .returned (.agg (rRow Kk hd S))∧Below w21.heap.size w21 w' from fun W hW=>by
       have h:=from_any W Kk KKL.out { hd with pa:=pa,pc:=pc } sa S sc ((PC21.out.below hW).more hW.size) ((SS21.out.below hW).more hW.size)
       rw [SLN.out] at h
       exact h.mono fun e w' ⟨a,b⟩=>⟨a,hW.trans (b.mono hW.size)⟩)
      have Z4:=hid_ (show ∀ W,Below w21.heap.size w21 W→Bk W gd 41 (eRow Kd hh da ds.length dc) from fun W hW=>D21.out.below hW D21.out.lt)
      have Z5:=hid_ (show ∀ W,Below w21.heap.size w21 W→Calls Tryz.prog 14 #[.agg (eRow Kd hh da ds.length dc)] W fun e w'=>e = .returned (.agg (rRow Kk hd S))∧Below w21.heap.size w21 w' from fun W hW=>by
       have h:=from_any W Kd KDL.out hh da ds dc ((DP21.out.below hW).more hW.size) ((DS21.out.below hW).more hW.size)
       rw [DEV.out] at h
       exact h.mono fun e w' ⟨a,b⟩=>⟨a,hW.trans (b.mono hW.size)⟩)
      have Z6:=hid_ (show ∀ W,Below w21.heap.size w21 W→(convert 23 9 (.slice A20 m20 c20)).run Tryz.prog W = .ok (.string (strOf yv)) W from fun W hW=>conv_strn (Y21.out.below hW) m20 c20 YM.out.symm)
      have Z7:=hid_ (show ∀ W,Below w21.heap.size w21 W→(convert 23 9 (.slice A21 cn_ c21)).run Tryz.prog W = .ok (.string (strOf CB)) W from fun W hW=>conv_strn (C21.out.below hW) cn_ c21 CBL.out)
      have Z8:=hid_ (show ∀ W,Below w21.heap.size w21 W→Calls Tryz.prog 15 #[.agg (rRow Kk hd S)] W fun e w'=>e = .returned (.string (strOf CB))∧Below w21.heap.size w21 w' from fun W hW=>by
       have h:=refWrite_any W Kk hd S (by have:=KKL.out;omega) HGD.out.2 (by have h1:=SLN.out;have h2:=NSB.out;omega)
       rw [HCB.out] at h
       exact h.mono fun e w' ⟨a,b⟩=>⟨a,hW.trans (b.mono hW.size)⟩)
      have Z9:=hid_ (show ∀ W,Below w21.heap.size w21 W→W.cell? ⟨ga,7,none⟩=some (.bool false) from fun W hW=>by have h:=(Q21.out.below hW Q21.out.lt).cell 7;rw [show q.row[7]? = some (.bool q.del) from rfl,HDL.out] at h;exact h)
      have ZE:=hid_ (show strOf yv=strOf vl by rw [HYE.out])
      rw [ZE.out] at Z6
      refine region_quiet_in (C:=fun W=>Below w21.heap.size w21 W) (by kernel_rfl) (by kernel_rfl) ((Below.refl _ _).drew) ?_
      repeat (first | go_big_quiet_skip | (go_big_quiet_want;(first
       | (refine BigFrame.quiet_move _ rfl ?_;go_simp)
       | (refine BigFrame.quiet_assign _ rfl ?_;go_simp)
       | (refine quiet_load_row 41 (.tmp 15) rfl ge rfl 41 (eRow Kk { hd with pa:=pa,pc:=pc } sa ns sc) _ Tryz.underlying41 rfl (iE _ KKL.out _ _ _ _) Z1.out ?_;go_simp)
       | (refine quiet_load_row 41 (.tmp 27) rfl gd rfl 41 (eRow Kd hh da ds.length dc) _ Tryz.underlying41 rfl (iE _ KDL.out _ _ _ _) Z4.out ?_;go_simp)
       | (refine quiet_load_row 36 (.tmp 17) rfl gw rfl 36 (rRow Kk hd S) _ Tryz.underlying36 rfl (iRr _ _ _) Z2.out ?_;go_simp)
       | (refine quiet_call (.agg (rRow Kk hd S)) 14 #[.agg (eRow Kk { hd with pa:=pa,pc:=pc } sa ns sc)] ?_ Z3.out ?_;(focus (intro W;go_simp;done));go_simp)
       | (refine quiet_call (.agg (rRow Kk hd S)) 14 #[.agg (eRow Kd hh da ds.length dc)] ?_ Z5.out ?_;(focus (intro W;go_simp;done));go_simp)
       | (refine quiet_call (.string (strOf CB)) 15 #[.agg (rRow Kk hd S)] ?_ Z8.out ?_;(focus (intro W;go_simp;done));go_simp)
       | (refine quiet_eqlRR (.tmp 141) (.tmp 142) _ rfl Kk hd S rfl rfl ?_;go_simp)
       | (refine quiet_eqlRR (.tmp 177) (.tmp 178) _ rfl Kk hd S rfl rfl ?_;go_simp)
       | (refine quiet_run (.pointer (some ⟨ga,7,none⟩)) ?_ ?_;(focus (intro W hW;go_simp;done));go_simp)
       | (refine quiet_run (.bool false) ?_ ?_;(focus (intro W hW;have h9:=Z9.out W hW;go_simp;done));go_simp)
       | (refine quiet_run (.string (strOf vl)) ?_ ?_;(focus (intro W hW;have h6:=Z6.out W hW;go_simp;done));go_simp)
       | (refine quiet_run (.string (strOf CB)) ?_ ?_;(focus (intro W hW;have h7:=Z7.out W hW;go_simp;done));go_simp)
       | (refine quiet_run (.bool true) ?_ ?_;(focus (intro W hW;go_simp;done));go_simp));go_big_quiet_on))
      refine wpQuiet_nil ?_
      intro w22 hw22
      have X22:=hid_ (M21.out.below.trans (hw22.mono M21.out.below.size))
      clear hw22 Z1 Z2 Z3 Z4 Z5 Z6 Z7 Z8 Z9
      refine hK9 _ _ ?_
      go_wp2
      go_ret
      exact ⟨rfl,B2.out.trans (X22.out.mono B2.out.size)⟩
     ·have hy:yv = []:=HYV.out.symm
      subst hy
      go_upto_region 21 with (first
       | (refine wpList_load_row rfl 41 (.tmp 15) rfl ge rfl 41 (eRow Kk { hd with pa:=pa,pc:=pc } sa ns sc) (0,0) _ E18.out Tryz.underlying41 rfl (iE _ KKL.out _ _ _ _) ?_)
       | (go_at_call 12;((with_reducible refine cw.mono ?_);clear cw k7;rintro e w19 ⟨A21,c21,rfl,hO,hB⟩;have M19:=hid_ (M18.out.then_ hB);have Q19:=hid_ (Q18.out.below hB Q18.out.lt);have E19:=hid_ (E18.out.below hB E18.out.lt);have WT19:=hid_ (WT18.out.below hB WT18.out.lt);have PC19:=hid_ ((PC18.out.below hB).more hB.size);have SS19:=hid_ ((SS18.out.below hB).more hB.size);have Y19:=hid_ ((Y18.out.below hB).more hB.size);have C19:=hid_ hO.rd.1;have crd:=readE_any w19 A21 cn_ c21 CB CBL.out hO.rd.1 (by have:=CBB.out;omega);clear hO hB))
       | (go_at_call 13;((with_reducible refine crd.mono ?_);clear crd;rintro e w20 ⟨Kd,hh,da,dn,dc,ds,ok,rfl,hKd,hdn,hdc,hdcm,hsr,hpr,hyk,hnk,hB⟩;subst hdn;have M20:=hid_ (M19.out.then_ hB);have Q20:=hid_ (Q19.out.below hB Q19.out.lt);have E20:=hid_ (E19.out.below hB E19.out.lt);have WT20:=hid_ (WT19.out.below hB WT19.out.lt);have PC20:=hid_ ((PC19.out.below hB).more hB.size);have SS20:=hid_ ((SS19.out.below hB).more hB.size);have Y20:=hid_ ((Y19.out.below hB).more hB.size);have C20:=hid_ ((C19.out.below hB).more hB.size);have KDL:=hid_ hKd;have DSR:=hid_ hsr;have DPR:=hid_ hpr;have hokt:ok=true:=(by cases ok;exact absurd EVK.out ((hnk rfl).2 _ _ _);rfl);subst hokt;have DEV:=hid_ (evok_one EVK.out (hyk rfl));clear hKd hdc hdcm hsr hpr hyk hnk hB))
       | (refine wpList_put_row rfl 41 (.tmp 27) (.tmp 138) rfl w20.heap.size (eRow Kd hh da ds.length dc) rfl rfl 41 eRow0 (Bk.new w20 _ _) (iE _ KDL.out _ _ _ _) (by rw [eRow_size _ KDL.out];exact eRow_z) (eRow_one _ _ _ _ _) ?_;intro w21 k21 g21 s21;have hB:=mark_putx w20 w21 w20.heap.size 41 eRow0 _ g21;have D21:=hid_ k21;have M21:=hid_ (M20.out.then_ hB);have Q21:=hid_ (Q20.out.below hB Q20.out.lt);have E21:=hid_ (E20.out.below hB E20.out.lt);have WT21:=hid_ (WT20.out.below hB WT20.out.lt);have PC21:=hid_ ((PC20.out.below hB).more hB.size);have SS21:=hid_ ((SS20.out.below hB).more hB.size);have Y21:=hid_ ((Y20.out.below hB).more hB.size);have C21:=hid_ ((C20.out.below hB).more hB.size);have DS21:=hid_ ((DSR.out.below hB).more hB.size);have DP21:=hid_ ((DPR.out.below hB).more hB.size);clear k21 g21 s21 hB))
      generalize w20.heap.size=gd at *
      rename_i K9 hK9
      have Z1:=hid_ (show ∀ W,Below w21.heap.size w21 W→Bk W ge 41 (eRow Kk { hd with pa:=pa,pc:=pc } sa ns sc) from fun W hW=>E21.out.below hW E21.out.lt)
      have Z2:=hid_ (show ∀ W,Below w21.heap.size w21 W→Bk W gw 36 (rRow Kk hd S) from fun W hW=>WT21.out.below hW WT21.out.lt)
      have Z3:=hid_ (show ∀ W,Below w21.heap.size w21 W→Calls Tryz.prog 14 #[.agg (eRow Kk { hd with pa:=pa,pc:=pc } sa ns sc)] W fun e w'=>e = .returned (.agg (rRow Kk hd S))∧Below w21.heap.size w21 w' from fun W hW=>by
       have h:=from_any W Kk KKL.out { hd with pa:=pa,pc:=pc } sa S sc ((PC21.out.below hW).more hW.size) ((SS21.out.below hW).more hW.size)
       rw [SLN.out] at h
       exact h.mono fun e w' ⟨a,b⟩=>⟨a,hW.trans (b.mono hW.size)⟩)
      have Z4:=hid_ (show ∀ W,Below w21.heap.size w21 W→Bk W gd 41 (eRow Kd hh da ds.length dc) from fun W hW=>D21.out.below hW D21.out.lt)
      have Z5:=hid_ (show ∀ W,Below w21.heap.size w21 W→Calls Tryz.prog 14 #[.agg (eRow Kd hh da ds.length dc)] W fun e w'=>e = .returned (.agg (rRow Kk hd S))∧Below w21.heap.size w21 w' from fun W hW=>by
       have h:=from_any W Kd KDL.out hh da ds dc ((DP21.out.below hW).more hW.size) ((DS21.out.below hW).more hW.size)
       rw [DEV.out] at h
       exact h.mono fun e w' ⟨a,b⟩=>⟨a,hW.trans (b.mono hW.size)⟩)
      have Z6:=hid_ (show ∀ W,Below w21.heap.size w21 W→(convert 23 9 (.slice A20 m20 c20)).run Tryz.prog W = .ok (.string (⟨#[]⟩:ByteArray)) W from fun W hW=>conv_strn (Y21.out.below hW) m20 c20 YM.out.symm)
      have Z7:=hid_ (show ∀ W,Below w21.heap.size w21 W→(convert 23 9 (.slice A21 cn_ c21)).run Tryz.prog W = .ok (.string (strOf CB)) W from fun W hW=>conv_strn (C21.out.below hW) cn_ c21 CBL.out)
      have Z8:=hid_ (show ∀ W,Below w21.heap.size w21 W→Calls Tryz.prog 15 #[.agg (rRow Kk hd S)] W fun e w'=>e = .returned (.string (strOf CB))∧Below w21.heap.size w21 w' from fun W hW=>by
       have h:=refWrite_any W Kk hd S (by have:=KKL.out;omega) HGD.out.2 (by have h1:=SLN.out;have h2:=NSB.out;omega)
       rw [HCB.out] at h
       exact h.mono fun e w' ⟨a,b⟩=>⟨a,hW.trans (b.mono hW.size)⟩)
      have Z9:=hid_ (show ∀ W,Below w21.heap.size w21 W→W.cell? ⟨ga,7,none⟩=some (.bool true) from fun W hW=>by have h:=(Q21.out.below hW Q21.out.lt).cell 7;rw [show q.row[7]? = some (.bool q.del) from rfl,HDL.out] at h;exact h)
      refine region_quiet_in (C:=fun W=>Below w21.heap.size w21 W) (by kernel_rfl) (by kernel_rfl) ((Below.refl _ _).drew) ?_
      repeat (first | go_big_quiet_skip | (go_big_quiet_want;(first
       | (refine BigFrame.quiet_move _ rfl ?_;go_simp)
       | (refine BigFrame.quiet_assign _ rfl ?_;go_simp)
       | (refine quiet_load_row 41 (.tmp 15) rfl ge rfl 41 (eRow Kk { hd with pa:=pa,pc:=pc } sa ns sc) _ Tryz.underlying41 rfl (iE _ KKL.out _ _ _ _) Z1.out ?_;go_simp)
       | (refine quiet_load_row 41 (.tmp 27) rfl gd rfl 41 (eRow Kd hh da ds.length dc) _ Tryz.underlying41 rfl (iE _ KDL.out _ _ _ _) Z4.out ?_;go_simp)
       | (refine quiet_load_row 36 (.tmp 17) rfl gw rfl 36 (rRow Kk hd S) _ Tryz.underlying36 rfl (iRr _ _ _) Z2.out ?_;go_simp)
       | (refine quiet_call (.agg (rRow Kk hd S)) 14 #[.agg (eRow Kk { hd with pa:=pa,pc:=pc } sa ns sc)] ?_ Z3.out ?_;(focus (intro W;go_simp;done));go_simp)
       | (refine quiet_call (.agg (rRow Kk hd S)) 14 #[.agg (eRow Kd hh da ds.length dc)] ?_ Z5.out ?_;(focus (intro W;go_simp;done));go_simp)
       | (refine quiet_call (.string (strOf CB)) 15 #[.agg (rRow Kk hd S)] ?_ Z8.out ?_;(focus (intro W;go_simp;done));go_simp)
       | (refine quiet_eqlRR (.tmp 141) (.tmp 142) _ rfl Kk hd S rfl rfl ?_;go_simp)
       | (refine quiet_eqlRR (.tmp 177) (.tmp 178) _ rfl Kk hd S rfl rfl ?_;go_simp)
       | (refine quiet_run (.pointer (some ⟨ga,7,none⟩)) ?_ ?_;(focus (intro W hW;go_simp;done));go_simp)
       | (refine quiet_run (.bool true) ?_ ?_;(focus (intro W hW;have h9:=Z9.out W hW;go_simp;done));go_simp)
       | (refine quiet_run (.string (⟨#[]⟩:ByteArray)) ?_ ?_;(focus (intro W hW;have h6:=Z6.out W hW;go_simp;done));go_simp)
       | (refine quiet_run (.string (strOf CB)) ?_ ?_;(focus (intro W hW;have h7:=Z7.out W hW;go_simp;done));go_simp)
       | (refine quiet_run (.bool true) ?_ ?_;(focus (intro W hW;go_simp;done));go_simp));go_big_quiet_on))
      refine wpQuiet_nil ?_
      intro w22 hw22
      have X22:=hid_ (M21.out.below.trans (hw22.mono M21.out.below.size))
      clear hw22 Z1 Z2 Z3 Z4 Z5 Z6 Z7 Z8 Z9
      refine hK9 _ _ ?_
      go_wp2
      go_ret
      exact ⟨rfl,B2.out.trans (X22.out.mono B2.out.size)⟩

theorem laid_metE (os : Os) : laidMet Tryz.prog [("casket/pad.sizes", Rows.laid_casket_pad_sizes), ("casket/sha2.roundWords", Rows.laid_casket_sha2_roundWords)] ((laidWorldE os).forCall (fun _ _ => 0) ⟨#[], #[.bool false, .agg (rowOf (zbytes 32)), .agg #[.slice none 0 0, .int .i64 0, .int .i64 0, .int .i64 0, .int .i64 0, .slice none 0 0, .slice none 0 0, .bool false]], []⟩).memory :=
 laidMet_of_run' 8 (by kernel_rfl) (by kernel_rfl)

/-- What the walk gives, for every argument and every world in which the constants lie. -/
theorem contract (H:Type) (enc:TypeId × Value→H) (W:World) (base:Nat) (args:Array Value) (ds gs:List (DataW H)) (before:List MemPlace)
  (hval:∀ (j:Nat) t v,Tryz.f3.params[j]? = some t→args[j]? = some v→Value.okWide Tryz.prog W .any base t v)
  (hW:DataW.Whole enc Tryz.prog Tryz.f3.params.toList Rows.envelopeSealsSpec.vars false W args.toList ds gs before) (hL:laidMetH Tryz.prog Rows.envelopeSealsRow.laid W) :
  Calls Tryz.prog 3 args W fun e W'=>∃ v,e = .returned v∧Rows.envelopeSealsSpec.post enc Tryz.prog Tryz.f3 false true false false W args v W':=by
 obtain ⟨⟨hpt,hg2⟩,ht,hg1⟩:=two_of hL
 have hW':=hW
 obtain ⟨p,q,hA0,hV,rfl,hfz,hnd⟩:=hW
 have hA:DataW.TrodAll enc Tryz.prog W 0 (fun _=>true) true Tryz.f3.params.toList args.toList ds p:=hA0
 rw [Tryz.params3] at hA hval
 obtain ⟨v0,vs0,d0,ds0,p0,q0,hargs,rfl,rfl,h0,r0⟩:=trodAll_cons hA
 obtain ⟨v1,vs1,d1,ds1,p1,q1,rfl,rfl,rfl,h1,r1⟩:=trodAll_cons r0
 obtain ⟨v2,vs2,d2,ds2,p2,q2,rfl,rfl,rfl,h2,r2⟩:=trodAll_cons r1
 obtain ⟨rfl,rfl,rfl⟩:=trodAll_nil r2
 obtain rfl:args = #[v0,v1,v2]:=by cases args;simp_all
 obtain ⟨rfl,rfl⟩:=trodVars_none hV
 obtain ⟨b0,rfl,rfl,rfl⟩:=open_bool Tryz.underlying4 (hval 0 4 v0 rfl rfl) h0
 obtain ⟨M,rfl,hM⟩:=open_arr8 Tryz.underlying22 Tryz.underlying5 (by kernel_rfl) (by kernel_rfl) (hval 1 22 v1 rfl rfl) h1
 obtain ⟨q,rfl,hq⟩:=open_ask (hval 2 27 v2 rfl rfl) h2
 refine (walk W b0 M hM q hq ht hg1 hpt hg2).mono fun e W' ⟨he,hg⟩=>⟨_,he,?_⟩
 exact law_post laidOut_ (of_decide_eq_true (by kernel_rfl)) rfl rfl Tryz.underlying4 rfl hW' hg

theorem reads (os:Os) {H:Type} (enc:TypeId × Value→H):∃ places,DataW.whole enc Tryz.prog ((laidWorldE os).forCall (fun _ _=>0) ⟨#[],#[.bool false,.agg (rowOf (zbytes 32)),.agg #[.slice none 0 0,.int .i64 0,.int .i64 0,.int .i64 0,.int .i64 0,.slice none 0 0,.slice none 0 0,.bool false]],[]⟩).memory Tryz.f3.params.toList Rows.envelopeSealsSpec.vars false (#[.bool false,.agg (rowOf (zbytes 32)),.agg #[.slice none 0 0,.int .i64 0,.int .i64 0,.int .i64 0,.int .i64 0,.slice none 0 0,.slice none 0 0,.bool false]]:Array Value).toList 8=some ([.lit (.bool false),.agg [.lit (.int .u8 0),.lit (.int .u8 0),.lit (.int .u8 0),.lit (.int .u8 0),.lit (.int .u8 0),.lit (.int .u8 0),.lit (.int .u8 0),.lit (.int .u8 0),.lit (.int .u8 0),.lit (.int .u8 0),.lit (.int .u8 0),.lit (.int .u8 0),.lit (.int .u8 0),.lit (.int .u8 0),.lit (.int .u8 0),.lit (.int .u8 0),.lit (.int .u8 0),.lit (.int .u8 0),.lit (.int .u8 0),.lit (.int .u8 0),.lit (.int .u8 0),.lit (.int .u8 0),.lit (.int .u8 0),.lit (.int .u8 0),.lit (.int .u8 0),.lit (.int .u8 0),.lit (.int .u8 0),.lit (.int .u8 0),.lit (.int .u8 0),.lit (.int .u8 0),.lit (.int .u8 0),.lit (.int .u8 0)],.agg [.nil,.lit (.int .i64 0),.lit (.int .i64 0),.agg [.lit (.int .i64 0),.lit (.int .i64 0)],.nil,.nil,.lit (.bool false)]],[],places) :=
 ⟨[],by kernel_rfl⟩

set_option maxRecDepth 100000 in
theorem lifted (os:Os) (started:os.Started) (H:Type) (enc:TypeId × Value→H) (F:Stop.Interp) :
  ReturnsInHanded {} Tryz.checked os 3 .any ((OpenSpec.ofChange Rows.envelopeSealsSpec).preRow enc Tryz.prog Tryz.f3 Rows.envelopeSealsRow.domain false Rows.envelopeSealsRow.laid) (((OpenSpec.ofChange Rows.envelopeSealsSpec).at F).post enc Tryz.prog Tryz.f3 false true false false):=by
 obtain ⟨places,hx⟩:=reads os enc
 refine returnsInHanded_of_row (C:=Tryz.checked) (s:=OpenSpec.ofChange Rows.envelopeSealsSpec) own_ started (by kernel_rfl) Tryz.func3
  (witness_row_at (enc:=enc) (C:=Tryz.checked) false (laidWorldE os) #[.bool false,.agg (rowOf (zbytes 32)),.agg #[.slice none 0 0,.int .i64 0,.int .i64 0,.int .i64 0,.int .i64 0,.slice none 0 0,.slice none 0 0,.bool false]] rfl (by kernel_rfl) (by kernel_rfl) (by kernel_rfl)
   (OpenSpec.preRow_of_cond 8 hx (by kernel_rfl) (fun k hk=>by cases hk) (by kernel_rfl) (laid_metE os))) ?_
 intro W base args ds gs before hval hW _ _ _ hL _ _
 exact contract H enc W base args ds gs before hval hW hL

theorem said:Rows.EnvelopeSealsSaid :=
 OpenClaim.holds_of_cond 3 Tryz.f3 rfl rfl rfl rfl rfl rfl rfl ⟨rfl,rfl,rfl,rfl,rfl⟩ rfl rfl rfl rfl rfl (by kernel_rfl) Tryz.func3 (by kernel_rfl)
  (of_decide_eq_true (by kernel_rfl)) (by unfold Func.isWrapper;first | (rw [if_pos (by decide +kernel)];kernel_rfl) | (rw [if_neg (by decide +kernel)];exact ⟨rfl,rfl⟩))
  (fun os started H enc _ F=>by rw [OpenClaim.pre_eq_preRow];exact lifted os started H enc F)

/-- No parameter wants a stand-in; the program's own looks are off: what the card asks. -/
theorem plain (f : FuncId) (fn : Func) (hf : Tryz.pinned.checked.prog.funcNamed "casket/casketlaw13.EnvelopeSeals" = some f) (hfn : Tryz.pinned.checked.prog.funcs[f]? = some fn) :
  false=Tryz.pinned.checked.prog.looks []∧∀ (j:Nat) t,fn.params[j]? = some t→Tryz.pinned.checked.prog.wantsStandIn t=false:=by
 obtain rfl : f = 3 := Option.some.inj ((show Tryz.prog.funcNamed "casket/casketlaw13.EnvelopeSeals" = some 3 by kernel_rfl).symm.trans hf) |>.symm
 obtain rfl:fn=Tryz.f3:=(Option.some.inj (Tryz.func3.symm.trans hfn)).symm
 refine ⟨by kernel_rfl,fun j t ht=>?_⟩
 rw [Tryz.params3] at ht
 have hm:=Array.mem_of_getElem? ht
 simp only [List.mem_toArray,List.mem_cons,List.not_mem_nil,or_false] at hm
 rcases hm with rfl | rfl | rfl
 ·exact (show Tryz.prog.wantsStandIn 4=false by kernel_rfl)
 ·exact (show Tryz.prog.wantsStandIn 22=false by kernel_rfl)
 ·exact (show Tryz.prog.wantsStandIn 27=false by kernel_rfl)

/-- The card. -/
theorem proved:Rows.EnvelopeSealsCardSaid :=
 Claim7.holds_tied_plain_at .later [] _ _ _ _ said (fun _ h=>by cases h) (by kernel_rfl) (fun _ h=>by cases h) envelopeSeals_row_tie rfl ⟨rfl,rfl⟩ (by kernel_rfl) rfl plain (by kernel_rfl)
#print axioms proved
end Go.Proofs.YtpcbmnmgefhaaaaGreatDoor.envelopeSeals

