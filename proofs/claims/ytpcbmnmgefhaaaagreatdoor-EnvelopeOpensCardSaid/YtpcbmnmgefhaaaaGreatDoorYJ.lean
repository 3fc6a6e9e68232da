import Derived.Test.YtpcbmnmgefhaaaaGreatDoorYG
import Derived.Test.YtpcbmnmgefhaaaaGreatDoorLp
import Derived.Deep.Strs
import Derived.Deep.Slices
import Derived.Test.YtpcbmnmgefhaaaaGreatDoorEd
import Derived.Stop.BytesEq
import Derived.Great.BuildSlice
import Derived.Maps.AppendAt
namespace Go.Proofs.YtpcbmnmgefhaaaaGreatDoor
set_option maxRecDepth 100000
open Go.ChangeShapes Go.WideShapes Go.ChangeAt Go.RowKit
set_option linter.unusedVariables false
set_option linter.unusedSimpArgs false
theorem cells_bytesV {H:Type} {enc:TypeId × Value→H} {P:Program} {t e:TypeId} {w:World} {fuel:Nat} {sp:Nat→Bool} {held:Bool} {cs:List Value} {d:DataW H × List MemPlace}
  (ht:P.underlying t=some (.slice e)) (he:P.underlying e=some (.int .u8)) (hc:P.cellsOf e=1)
  (hf:DataW.trod enc P w 0 sp held fuel t cs=some d) :
  ∃ A l c,cs = [.slice A (l:List UInt8).length c]∧Rd w w.heap.size A l∧l.length≤c∧c≤maxLen:=by
 rcases open_ints ht he hc hf with ⟨hcs,hx⟩ | ⟨a,len,cap,zs,hcs,_,hl,hm,hz,hx,hcell,hwz⟩
 ·exact ⟨none,[],0,hcs,Rd.nil,Nat.le_refl _,Nat.zero_le _⟩
 ·have hzl:len≤zs.length:=by
   rw [hz];split <;> omega
  have hlen:((zs.take len).map fun n=>UInt8.ofNat n.toNat).length=len:=by
   rw [List.length_map,List.length_take];omega
  refine ⟨some a,(zs.take len).map fun n=>UInt8.ofNat n.toNat,cap,by rw [hlen];exact hcs,fun h0=>?_,by rw [hlen];exact hl,hm⟩
  rw [hlen] at h0
  obtain ⟨b,off,spot⟩:=a
  have hc0:=hcell 0 (by omega)
  have hspot:spot=none:=by simpa [Addr.add] using World.cell?_spot hc0
  subst hspot
  have hplain:∀ j,(⟨b,off,none⟩:Addr).add j=⟨b,off + j,none⟩:=fun j=>by unfold Addr.add;split <;> simp_all
  refine ⟨b,off,rfl,World.block_lt_of_cell? w _ hc0,fun j hj=>?_⟩
  rw [hlen] at hj
  rw [← hplain,hcell j (by omega)]
  have hb:=bounds_u8 (hwz (zs.getD j 0) (by simp [List.getD,show j < zs.length by omega]))
  have e1:((zs.take len).map fun n=>UInt8.ofNat n.toNat).getD j 0=UInt8.ofNat (zs.getD j 0).toNat:=by
   simp [List.getD,hj,show j < zs.length by omega]
  rw [e1]
  generalize zs.getD j 0=z at hb
  congr 2
  simp
  omega
theorem cells_intV {H:Type} {enc:TypeId × Value→H} {P:Program} {t:TypeId} {w:World} {fuel:Nat} {sp:Nat→Bool} {held:Bool} {cs:List Value} {d:DataW H × List MemPlace}
  (ht:P.underlying t=some (.int .i64)) (hf:DataW.trod enc P w 0 sp held fuel t cs=some d):∃ z,cs = [.int .i64 z]∧okI z:=by
 obtain ⟨n,e,_,hw⟩:=DataW.trod_int ht hf
 exact ⟨n,e,bounds_i64 hw⟩
theorem cellsU_:Tryz.prog.cellsOf 5=1:=by kernel_rfl
theorem cellsSl_:Tryz.prog.cellsOf 23=1:=by kernel_rfl
section
variable {w W W' : World} {v sp nm kn : Nat} {K : List UInt8} {N : List (List UInt8)} {S : List (Nat × Nat)} {L : List SealV} {F : List Nat}
end
open Go.RowKit Go.Maps
theorem VltR.spentBy {w w':World} {v sp:Nat} {K:List UInt8} {S:List (Nat × Nat)} {F:List Nat} (h:VltR w v sp K S F) (ht:w.mapTurned w' sp) (p:Nat × Nat) (hN:MapIs w' 111 sp (S ++ [p]).length (fS (S ++ [p]))):VltR w' v sp K (S ++ [p]) F :=
 ⟨h.blk.turned ht,hN,h.len,h.inv,h.ins,fun k hk=>by rw [turned_size ht];exact h.hF k hk⟩
set_option maxHeartbeats 8000000 in
theorem vseal_real {w:World} {v sp:Nat} {K:List UInt8} {S:List (Nat × Nat)} {F:List Nat} (h:VltR w v sp K S F) (Aw B:Option Addr) (na ca nb cb:Nat) (x b:List UInt8) (hx:x.length=na) (hb:b.length=nb) (hrx:Rd w w.heap.size Aw x) (hrb:Rd w w.heap.size B b) (hna:na≤100000) (hnb:nb≤100000) (hcb:nb≤cb) (hcm:cb≤9223372036854775807)
  (e c n:Nat) (he:e≤1048576) (hc:c≤16) (hn:n≤4611686018427387904) (hin:(c,n)∉S) (hSl:S.length≤100000)
  (ck:Calls Tryz.prog 57 #[.pointer (some ⟨v,0,none⟩),.int .i64 (e:Int),.int .i64 (c:Int),.int .i64 (n:Int)] w fun r w'=>r = .returned (yesKeys K e c n)∧Below w.heap.size w w') :
  Calls Tryz.prog 26 #[.pointer (some ⟨v,0,none⟩),.int .i64 (e:Int),.int .i64 (c:Int),.int .i64 (n:Int),.slice Aw na ca,.slice B nb cb] w fun r w'=>∃ A d,r = .returned (.tuple #[.slice A (nb + 16) d,.int .i64 0])∧Own8 w' w.heap.size (.slice A (nb + 16) d) (sealB (sealK K e) (nonceB c n) x b)∧VltR w' v sp K (S ++ [(c,n)]) F∧Untouched F w w':=by
 have hz:=z32
 have hz12:=z12
 have hzS:=zS_
 have iS:=iS_
 obtain ⟨Ls,hLs⟩:∃ L,sealK K e=L:=⟨_,rfl⟩
 obtain ⟨No,hNo⟩:∃ L,nonceB c n=L:=⟨_,rfl⟩
 have LL:=hidyb_ (show Ls.length=32 by rw [← hLs];exact sealK_len _ _)
 have NL:=hidyb_ (show No.length=12 by rw [← hNo];exact nonceB_len _ _)
 have IL:=hidyb_ (ib32 Ls LL.out)
 have IN:=hidyb_ (ib12 No NL.out)
 have QL:=hidyb_ (show (rowOf (zbytes 32)).size=(rowOf Ls).size by rw [rowOf_size,rowOf_size,LL.out,zbytes_len])
 have QN:=hidyb_ (show (rowOf (zbytes 12)).size=(rowOf No).size by rw [rowOf_size,rowOf_size,NL.out,zbytes_len])
 unfold yesKeys at ck
 rw [hLs,hNo] at ck
 obtain ⟨kl,hkl⟩:=sKey_lit (c:Int) (n:Int) (by unfold okI;omega) (by unfold okI;omega)
 have KLIT:=hidyb_ hkl
 unfold sKey at hkl
 rw [hLs,hNo]
 have HV0:=hidyb_ h
 have HV:=hidyb_ h.blk
 have KL:=hidyb_ h.len
 have HS:=hidyb_ h.spent
 have HI:=hidyb_ (fS_no hin)
 have SB:=hidyb_ hSl
 have XL:=hidyb_ hx
 have BL:=hidyb_ hb
 have RX:=hidyb_ hrx
 have RB:=hidyb_ hrb
 have HNB:=hidyb_ hnb
 have HNA:=hidyb_ hna
 have HCB:=hidyb_ (And.intro hcb hcm)
 clear h hLs hNo hc hn hin hkl hSl hx hb hrx hrb hnb hna he hcb hcm
 go_enter Tryz.func26,Tryz.ntmps26
 go_upto_region 5 with (first
  | (go_at_call 57;((with_reducible refine ck.mono ?_);clear ck;rintro r w1 ⟨rfl,hb⟩;have B1:=hidyb_ hb;clear hb;obtain ⟨b1,w1a,hb1,hw1a,KA,NA,XA,SA⟩:=keys_start w1;have B1s:=B1.out.size;have HB1:=hidyb_ hb1))
  | (refine wpList_put_row rfl 22 (.tmp 14) (.tmp 27) rfl b1 (rowOf Ls) rfl rfl 22 (rowOf (zbytes 32)) KA IL.out QL.out (bytes_one _) ?_;intro w2 k2 g2 s2;have NA2:=NA.oneOf g2 (by omega);have X2:=XA.grown g2 (by omega) (fun k hk=>by injection hk with hk;omega);have K2:=k2;clear g2 s2 KA NA k2)
  | (refine wpList_put_row rfl 107 (.tmp 15) (.tmp 28) rfl (b1 + 1) (rowOf No) rfl rfl 107 (rowOf (zbytes 12)) NA2 IN.out QN.out (bytes_one _) ?_;intro w3 k3 g3 s3;have K3:=hidyb_ (K2.oneOf g3 (by omega));have N3:=hidyb_ k3;have X3:=hidyb_ (X2.grown g3 (by have:=X2.size;omega) (fun k hk=>by injection hk with hk;omega));have B3:=hidyb_ (B1.out.trans (X3.out.mono (by rw [← HB1.out];exact B1.out.size)));clear g3 s3 k3 NA2 K2 X2)
  | (refine wpList_put_row rfl 111 (.tmp 17) (.tmp 35) rfl w3.heap.size #[.int .i64 (c:Int),.int .i64 (n:Int)] rfl rfl 111 #[.int .i64 0,.int .i64 0] (Bk.new w3 _ _) iS rfl (one2i _ _) ?_;intro w4 k4 g4 s4;have BX:Below w3.heap.size w3 w4:=(((Below.refl w3.heap.size w3).alloc (Nat.le_refl _) (.cells #[.int .i64 0,.int .i64 0] 111)).grown g4 (by simp) (fun k hk=>by injection hk with hk;omega));have K4:=hidyb_ k4;have B4:=hidyb_ (B3.out.trans (BX.mono B3.out.size));have L4:=hidyb_ (K3.out.below BX K3.out.lt);have N4:=hidyb_ (N3.out.below BX N3.out.lt);clear k4 g4 s4 BX))
 rename_i K9 hK9
 have HC:Hid (Keep4 w w4):=hidyb_ B4.out
 generalize hg3:w3.heap.size=b4 at *
 obtain ⟨g4,hg4⟩:∃ g,w4.heap.size=g:=⟨_,rfl⟩
 have G4:=hidyb_ hg4
 have K4l:b4 < g4:=by rw [← hg4];exact K4.out.lt
 have CM:Hid (∀ W,Below g4 w4 W→W.cell? ⟨v,33,none⟩=some (.map (some sp))):=hidyb_ (fun W hW=>((HV.out.below (B4.out.trans (hW.mono (by rw [← hg4];exact B4.out.size))) HV.out.lt).cell 33).trans (vrow_33 _ K KL.out _ _ _))
 have LK:Hid (∀ W,Below g4 w4 W→(Instr.lookup 91 (.map (some sp)) (.agg #[.int .i64 (c:Int),.int .i64 (n:Int)]) true).run Tryz.prog W = .ok (.tuple #[.agg #[],.bool false]) W):=hidyb_ (fun W hW=>by
  have hm:=HS.out.keep ((B4.out.trans (hW.mono (by rw [← hg4];exact B4.out.size))).block sp HS.out.lt)
  have h:=hm.look keyedS Tryz.underlying91 (zU_ W) KLIT.out
  rw [HI.out] at h
  exact h)
 clear hw1a SA B1 X3 B3 K3 N3 hg3 hb1 XA B1s HB1
 refine region_byF [37,38,39,40,41,42,36,43,44,18,19] (fun W=>Below g4 w4 W) (fun W W'=>Below W.heap.size W W') (SlR v sp (c:Int) (n:Int) false) (by kernel_rfl) (by kernel_rfl) (by kernel_rfl) (by kernel_rfl) (fun j v w w' hT hr=>?_) (fun j v w hlt hj _=>?_) (by rw [← hg4];exact (Below.refl _ _).drew) ?_ ?_
 ·exact SlR.stable hT j v hr
 ·rcases j with _ | _ | _ | _ | _ | _ | _ | _ | _ | _ | _ | _ | j
  all_goals first
   | (exfalso;simp [dstOf] at hj;done)
   | trivial
 ·refine ⟨?_,?_,?_,?_,?_,?_,?_,?_,?_,?_,?_,?_,trivial⟩
  all_goals intro a W hC hd hf hv K hK
  ·have e1:=slot_of (a:=a) (s:=0) (v:=.pointer (some ⟨v,0,none⟩)) (hf 0 (by kernel_rfl))
   refine step_run (wanted_none rfl) (v:=.pointer (some ⟨v,0,none⟩)) (w':=W) ?_ (hK _ _ hC (Below.refl _ _) rfl)
   go_simp
  ·have e1:=slot_of (a:=a) (s:=37) (v:=.pointer (some ⟨v,0,none⟩)) (hv 0 (by kernel_rfl))
   refine step_run (wanted_none rfl) (v:=.pointer (some ⟨v,0,none⟩)) (w':=W) ?_ (hK _ _ hC (Below.refl _ _) rfl)
   go_simp
  ·have e1:=slot_of (a:=a) (s:=38) (v:=.pointer (some ⟨v,0,none⟩)) (hv 1 (by kernel_rfl))
   refine step_run (wanted_none rfl) (v:=.pointer (some ⟨v,33,none⟩)) (w':=W) ?_ (hK _ _ hC (Below.refl _ _) rfl)
   go_simp
  ·have e1:=slot_of (a:=a) (s:=39) (v:=.pointer (some ⟨v,33,none⟩)) (hv 2 (by kernel_rfl))
   have c33:=CM.out W hC
   refine step_run (wanted_none rfl) (v:=.map (some sp)) (w':=W) ?_ (hK _ _ hC (Below.refl _ _) rfl)
   go_simp
  ·have e1:a.tmps.getD 17 undef = .pointer (some ⟨b4,0,none⟩):=hf 17 (by kernel_rfl)
   have k4:=K4.out.below hC K4l
   exact step_load_rowW (wanted_none rfl) 111 (.tmp 17) rfl b4 (eval_of e1) 111 #[.int .i64 (c:Int),.int .i64 (n:Int)] k4 _ Tryz.underlying111 rfl iS (hK _ _ hC (Below.refl _ _) rfl)
  ·have e1:=slot_of (a:=a) (s:=40) (v:=.map (some sp)) (hv 3 (by kernel_rfl))
   have e2:=slot_of (a:=a) (s:=41) (v:=.agg #[.int .i64 (c:Int),.int .i64 (n:Int)]) (hv 4 (by kernel_rfl))
   have lk:=LK.out W hC
   refine step_run (wanted_none rfl) (v:=.tuple #[.agg #[],.bool false]) (w':=W) ?_ (hK _ _ hC (Below.refl _ _) rfl)
   go_simp
  ·have e1:=slot_of (a:=a) (s:=42) (v:=.tuple #[.agg #[],.bool false]) (hv 5 (by kernel_rfl))
   refine step_run (wanted_none rfl) (v:=.tuple #[.agg #[],.bool false]) (w':=W) ?_ (hK _ _ hC (Below.refl _ _) rfl)
   go_simp
  ·have e1:=slot_of (a:=a) (s:=36) (v:=.tuple #[.agg #[],.bool false]) (hv 6 (by kernel_rfl))
   refine step_run (wanted_none rfl) (v:=.agg #[]) (w':=W) ?_ (hK _ _ hC (Below.refl _ _) rfl)
   go_simp
  ·have e1:=slot_of (a:=a) (s:=36) (v:=.tuple #[.agg #[],.bool false]) (hv 6 (by kernel_rfl))
   refine step_run (wanted_none rfl) (v:=.bool false) (w':=W) ?_ (hK _ _ hC (Below.refl _ _) rfl)
   go_simp
  ·have hzU:=zU_
   have hbl:=(Below.refl W.heap.size W).alloc (Nat.le_refl _) (.cells #[] 112)
   refine step_run (wanted_none rfl) (v:=.pointer (some ⟨W.heap.size,0,none⟩)) (w':=W.alloc (.cells #[] 112)) ?_ (hK _ _ (hC.trans (hbl.mono (G4.out ▸ hC.size))) hbl ⟨W.heap.size,rfl,Bk.new W _ _⟩)
   go_simp
  ·obtain ⟨q,eq,hq⟩:∃ q,a.tmps.getD 18 undef = .pointer (some ⟨q,0,none⟩)∧Bk W q 112 #[]:=hv 9 (by kernel_rfl)
   refine step_put_row rfl 112 (.tmp 18) (.tmp 43) rfl q #[] (eval_of eq) (eval_of (hv 7 (by kernel_rfl))) 112 #[] hq iU_ rfl (by simp) ?_
   intro W2 k2 g2 s2
   have hbl:=Below.same_row hq k2 g2
   exact hK undef _ (hC.trans (hbl.mono (G4.out ▸ hC.size))) hbl trivial
  ·have e1:=slot_of (a:=a) (s:=44) (v:=.bool false) (hv 8 (by kernel_rfl))
   refine step_run (wanted_none rfl) (v:=.bool false) (w':=W) ?_ (hK _ _ hC (Below.refl _ _) rfl)
   go_simp
 ·intro f w6 hC6 hv6
  obtain ⟨q18,e18,-⟩:∃ q,f 18 = .pointer (some ⟨q,0,none⟩)∧Bk w6 q 112 #[]:=hv6 9 (by decide)
  have f36:f 36 = .tuple #[.agg #[],.bool false]:=hv6 6 (by decide)
  have f37:f 37 = .pointer (some ⟨v,0,none⟩):=hv6 0 (by decide)
  have f38:f 38 = .pointer (some ⟨v,0,none⟩):=hv6 1 (by decide)
  have f39:f 39 = .pointer (some ⟨v,33,none⟩):=hv6 2 (by decide)
  have f40:f 40 = .map (some sp):=hv6 3 (by decide)
  have f41:f 41 = .agg #[.int .i64 (c:Int),.int .i64 (n:Int)]:=hv6 4 (by decide)
  have f42:f 42 = .tuple #[.agg #[],.bool false]:=hv6 5 (by decide)
  have f43:f 43 = .agg #[]:=hv6 7 (by decide)
  have f44:f 44 = .bool false:=hv6 8 (by decide)
  have f19:f 19 = .bool false:=hv6 11 (by decide)
  simp only [framed,List.foldl_cons,List.foldl_nil,List.setIfInBounds_toArray,List.set_cons_succ,List.set_cons_zero]
  rw [e18,f36,f37,f38,f39,f40,f41,f42,f43,f44,f19]
  have B6:=hidyb_ hC6
  clear hv6 hC6 e18 f36 f37 f38 f39 f40 f41 f42 f43 f44 f19
  refine hK9 _ _ ?_
  go_upto_region 8 with fail
  rename_i K8 hK8
  have hbU:=bU_
  refine region_quiet_tail (C:=fun W=>Below g4 w4 W) 6 (by kernel_rfl) (by decide +kernel) (B6.out.drew) ?_
  simp only [List.take_succ_cons,List.take_zero]
  repeat (go_big_quiet_want;(first
   | (refine BigFrame.quiet_move _ rfl ?_;go_simp)
   | (refine quiet_run (.pointer (some ⟨v,0,none⟩)) ?_ ?_;(focus (intro W hW;go_simp;done));go_simp)
   | (refine quiet_run (.pointer (some ⟨v,33,none⟩)) ?_ ?_;(focus (intro W hW;go_simp;done));go_simp)
   | (refine quiet_run (.map (some sp)) ?_ ?_;(focus (intro W hW;have h:=CM.out W hW;go_simp;done));go_simp)
   | (refine quiet_load_row 111 (.tmp 17) rfl b4 rfl 111 #[.int .i64 (c:Int),.int .i64 (n:Int)] _ Tryz.underlying111 rfl iS (fun W hW=>K4.out.below hW K4l) ?_;go_simp)
   | (refine quiet_run (.agg #[]) ?_ ?_;(focus (intro W hW;go_simp;done));go_simp));go_big_quiet_on)
  refine wpQuiet_nil ?_
  intro w7 hw7
  simp only [List.drop_succ_cons,List.drop_zero]
  have B7:=HC.out.trans (hw7.mono (by rw [← G4.out];exact HC.out.size))
  have V7:=HV0.out.below B7
  refine wpList_storeM rfl (.tmp 49) (.tmp 50) (.tmp 51) 91 rfl 111 112 keyedS Tryz.underlying91 sp S.length (fS S) rfl V7.spent (by have:=SB.out;unfold maxLen;omega) (sKey (c:Int) (n:Int)) (.agg #[]) _ rfl rfl KLIT.out HI.out ?_
  intro w8 hm8 ht8
  rw [fS_snoc] at hm8
  have V8:=hidyb_ (V7.spentBy ht8 (c,n) (by rw [List.length_append];exact hm8))
  have U8:=hidyb_ ((Untouched.of_below (F:=F) B7).trans (Grew.refl _ _) (Untouched.turned ht8 V7.ins))
  have X8:=hidyb_ (show Rd w8 w8.heap.size Aw x from ((RX.out.below B7).turned ht8).more (by rw [turned_size ht8];exact B7.size))
  have Y8:=hidyb_ (show Rd w8 w8.heap.size B b from ((RB.out.below B7).turned ht8).more (by rw [turned_size ht8];exact B7.size))
  have L8:=hidyb_ ((L4.out.below hw7 (by rw [← G4.out];exact L4.out.lt)).turned ht8)
  have N8:=hidyb_ ((N4.out.below hw7 (by rw [← G4.out];exact N4.out.lt)).turned ht8)
  have c0:=(V8.out.blk.cell 0).trans (vrow_0 _ _ _ _ _)
  have csl:=seal_any Ls No Aw na ca x B nb cb b w8 LL.out NL.out XL.out BL.out X8.out Y8.out HCB.out.1 HCB.out.2 (by have:=HNA.out;omega) (by have:=HNB.out;omega)
  clear hw7 B7 V7 hm8 ht8 hbU
  refine hK8 _ _ ?_
  go_wp2_with (first
   | (refine wpList_load_row rfl 22 (.tmp 14) rfl b1 rfl 22 (rowOf Ls) (0,0) _ L8.out Tryz.underlying22 rfl IL.out ?_)
   | (refine wpList_load_row rfl 107 (.tmp 15) rfl (b1 + 1) rfl 107 (rowOf No) (0,0) _ N8.out Tryz.underlying107 rfl IN.out ?_)
   | (go_at_call 58;((with_reducible refine csl.mono ?_);clear csl;rintro r w9 ⟨A9,c9,rfl,ho,hb⟩;have O9:=hidyb_ (ho.lower U8.out.size);have V9:=hidyb_ (V8.out.below hb);have U9:=hidyb_ (U8.out.thenB hb);clear ho hb)))
  go_ret2
  exact ⟨_,_,rfl,O9.out,V9.out,U9.out⟩
theorem put_otherY {a:Act} {s t:Nat} {v:Value} (h:s≠t):(a.put (some t) v).tmps.getD s undef=a.tmps.getD s undef:=by
 simp only [Act.put]
 simp [Array.getD_eq_getD_getElem?,Array.getElem?_setIfInBounds,Ne.symm h]
theorem put_selfY {a:Act} {t:Nat} {v:Value} (h:t < a.tmps.size):(a.put (some t) v).tmps.getD t undef=v:=by
 simp [Act.put,h]
theorem addNm_len (N:List (List UInt8)) (s:List UInt8):(addNm N s).length≤N.length + 1:=by
 unfold addNm
 split
 ·omega
 ·simp
def slOk (e c n:Int):Prop:=(1≤e∧e≤1048576)∧NonceOk c n
instance (e c n:Int):Decidable (slOk e c n):=by unfold slOk NonceOk;infer_instance
section
variable {w W W' : World} {va spa nma kna vb spb nmb knb : Nat} {K : List UInt8} {u : UInt8} {N N' : List (List UInt8)} {S S' : List (Nat × Nat)} {La Lb L' : List SealV} {Fa Fb F' : List Nat}
end
section
variable {i1 i2 i3 i4 s1 s2 d1 d2 : Nat} {P1 : Value → World → Prop} {P2 : Value → Value → World → Prop} {D : Nat → Bool} {a : Act} {W W' : World}
end
theorem highB7 (n:Nat) (h:n < 256):(highB 8 n).getD 7 0=UInt8.ofNat n:=by
 have:∀ k:Fin 256,(highB 8 k.val).getD 7 0=UInt8.ofNat k.val:=by decide +kernel
 exact this ⟨n,h⟩
theorem drawB_inj {K:List UInt8} {i j:Nat} (hi:i < 256) (hj:j < 256) (h:drawB K 0 i 24=drawB K 0 j 24):i=j:=by
 have e:(drawB K 0 i 24).getD 7 0=(drawB K 0 j 24).getD 7 0:=by rw [h]
 rw [drawB_7,drawB_7,highB7 i hi,highB7 j hj] at e
 have e2:=congrArg UInt8.toNat e
 simp at e2
 omega
def nmC (l:List (List UInt8)):List Value:=l.map fun s=>.string (strOf s)
def OwnN (w:World) (base:Nat) (v:Value) (l:List (List UInt8)):Prop:=w.ownsRow base 9 1 v l.length (nmC l)
section
variable {w w' : World} {base : Nat} {v : Value} {l : List (List UInt8)} {F : List Nat}
theorem rowKeep {t:TypeId} {sz n:Nat} {xs:List Value} (h:w.ownsRow base t sz v n xs) (hu:Untouched F w w') (hF:∀ g,v.ownBlock=some g→g∉F):w'.ownsRow base t sz v n xs:=by
 have hlt:=World.ownsRow.lt h
 refine ⟨h.1,?_⟩
 rcases h.2 with hn | ⟨g,cap,cur,rfl,hb,hg,rest⟩
 ·exact .inl hn
 ·exact .inr ⟨g,cap,cur,rfl,hb,(hu.block g (hlt g rfl).2 (hF g rfl)).trans hg,rest⟩
theorem rowForm {t:TypeId} {sz n:Nat} {xs:List Value} (h:w.ownsRow base t sz v n xs):∃ A c,v = .slice A n c:=by
 rcases h.2 with ⟨hv,h0⟩ | ⟨g,cap,cur,hv,_⟩
 ·exact ⟨none,0,by rw [h0];exact hv⟩
 ·exact ⟨_,cap,hv⟩
theorem OwnN.nil_ (w:World) (base:Nat):OwnN w base (.slice none 0 0) []:=World.ownsRow_nil w base 9 1
theorem OwnN.keep (h:OwnN w base v l) (hu:Untouched F w w') (hF:∀ g,v.ownBlock=some g→g∉F):OwnN w' base v l:=rowKeep h hu hF
theorem OwnN.form (h:OwnN w base v l):∃ A c,v = .slice A l.length c:=rowForm h
theorem OwnN.cells {A:Option Addr} {n c:Nat} (h:OwnN w base (.slice A n c) l) (k:Nat) (hk:k < l.length):∃ g,A=some ⟨g,0,none⟩∧w.cell? ⟨g,k,none⟩=some (.string (strOf l[k])):=by
 have h0:=h
 rcases h.2 with ⟨hv,hz⟩ | ⟨g,cap,cur,hv,_⟩
 ·omega
 ·injection hv with e1 e2 e3
  subst e1 e2 e3
  refine ⟨g,rfl,?_⟩
  rw [World.ownsRow.cellAt h0 k (by omega)]
  simp [nmC,hk]
end
section
variable {w w' : World} {base : Nat} {v : Value} {l : List (List UInt8)} {F : List Nat}
theorem infoStY:(Tryz.prog.info? 9).map (fun i=>(i.zero,i.size,i.bytes))=some (some (.string ⟨#[]⟩),1,16):=by kernel_rfl
theorem run_appN (h:OwnN w base v l) (s:List UInt8) (g:Nat) (hg:Bk w g 9 #[.string (strOf s)]) (ty:TypeId) (c:Nat) (hsz:l.length + 1≤1000000) (hbase:base≤w.heap.size) :
  ∃ v' w',(Builtin.append_ #[61,61] ty #[v,.slice (some ⟨g,0,none⟩) 1 c]).run Tryz.prog w = .ok v' w'∧OwnN w' base v' (l ++ [s])∧w.grownBy w' v.ownBlock∧(v'.ownBlock=v.ownBlock∨v'.ownBlock=some w.heap.size):=by
 obtain ⟨i,hi,hz,hsize,hby⟩:=info_parts infoStY
 have hplain:∀ j,(⟨g,0,none⟩:Addr).add j=⟨g,j,none⟩:=fun j=>by unfold Addr.add;split <;> simp_all
 obtain ⟨v',w',hrun,h2,h3,_,h5⟩:=run_append_own_at (P:=Tryz.prog) w base 61 ty 9 i (.string ⟨#[]⟩) 1 16 Tryz.underlying61 hi hz hsize hby rfl (by decide) v l.length (nmC l) h ⟨g,0,none⟩ 1 c (nmC [s])
  rfl (fun j u hj=>by rw [hplain,hg.cell];simpa [nmC] using hj) (fun u hu=>by simp [nmC] at hu;subst hu;rfl) (by simp only [maxLen];omega) (by omega) hbase
 refine ⟨v',w',hrun,?_,h3,h5⟩
 unfold OwnN
 have e:nmC (l ++ [s])=nmC l ++ nmC [s]:=by simp [nmC]
 rw [List.length_append,e]
 exact h2
end
section
variable {i1 i2 i3 i4 s1 s2 d1 d2 : Nat} {P0 Q0 : World → Prop} {P1 Q1 : Value → World → Prop} {D : Nat → Bool} {a : Act} {W W' : World}
end
end Go.Proofs.YtpcbmnmgefhaaaaGreatDoor
