/-
  Proved: for all modes, asks and envelopes EnvelopeOpens answers true: of all envelopes, sealed ones that were changed and raw ones, it is told what they are opened to, or why not. No condition.
-/
import Derived.Test.YtpcbmnmgefhaaaaGreatDoorXS
import Derived.Test.YtpcbmnmgefhaaaaGreatDoorXX
import Derived.Test.YtpcbmnmgefhaaaaGreatDoorOa
import Derived.SizedLaws
namespace Go.Proofs.YtpcbmnmgefhaaaaGreatDoor.envelopeOpens
set_option maxRecDepth 100000
open Go.ChangeShapes Go.WideShapes Go.ChangeAt Go.RowKit
set_option linter.unusedVariables false
set_option linter.unusedSimpArgs false

theorem hid_ {p:Prop} (h:p):Hid p:=h
def oneX (name:List UInt8) (h:HeadV):Int:=if nmBad name∨¬ h.Ok then 1 else 0
def soRW (K:List UInt8) (h:HeadV) (s:List UInt8) (_:List Nat):Array Value:=rRow K h s
def soVX (K:List UInt8) (h:HeadV) (s:List UInt8) (x:Int) (_:List Nat):Value:=.tuple #[.agg (rRow K h s),.int .i64 x]
theorem refSealOneX {id:Bool} {gv:Nat} {Kv:List UInt8} {w:World} {G:List Nat} (hv:RS id gv Kv [] [] w G) (hKv:Kv.length=32) (K:List UInt8) (h:HeadV) (s name value:List UInt8) (del:Bool) (hnl:name.length≤1000) (hvl:value.length≤3999) :
  Calls Tryz.prog 9 #[.pointer (some ⟨gv,0,none⟩),.string (strOf name),.agg (rRow K h s),.string (strOf value),.bool del] w fun r w'=>r = .returned (.tuple #[.agg (rRow (oneK id Kv name h) (oneH name h) (oneS id Kv name h del value)),.int .i64 (oneX name h)])∧Leaves (RS id gv Kv (oneN id name h) (oneL id Kv name h del value)) w G w':=by
 by_cases hb:nmBad name∨¬ h.Ok
 ·unfold oneK oneH oneS oneN oneL oneX
  rw [if_pos hb,if_pos hb,if_pos hb,if_pos hb,if_pos hb,if_pos hb]
  exact (refSeal_no w gv K h s name value del hnl hb).mono fun r w' ⟨a,b⟩=>⟨a,G,(RS.foot id gv Kv [] []).keep hv (Untouched.of_below (F:=[]) b) (fun _ _=>by simp),Grew.refl _ _,.of_below b⟩
 ·unfold oneK oneH oneS oneN oneL oneX
  rw [if_neg hb,if_neg hb,if_neg hb,if_neg hb,if_neg hb,if_neg hb]
  exact refSeal_yes hv hKv K h s name value del (fun x=>hb (.inl x)) (Classical.byContradiction fun x=>hb (.inr x)) hvl (by simp) (by simp) (by simp)
/-- The document's vault behind its Seal. -/
def RgP (id:Bool) (rg:Nat) (K:List UInt8) (N:List (List UInt8)) (L:List SealV) (base:Nat) (G:List Nat) (W:World):Prop:=RS id rg K N L W G∧∀ k∈G,k=rg∨base≤k
theorem RgP.keep {id:Bool} {rg:Nat} {K:List UInt8} {N:List (List UInt8)} {L:List SealV} {base:Nat} {G H:List Nat} {W W':World} (h:RgP id rg K N L base G W) (hu:Untouched H W W') (hd:∀ k∈G,k∉H):RgP id rg K N L base G W':=⟨(RS.foot id rg K N L).keep h.1 hu hd,h.2⟩
theorem rdf_other {w w':World} {F G:List Nat} {A:Option Addr} {l:List UInt8} (h:RdF w F A l) (hu:Untouched G w w') (hG:∀ a,A=some a→a.block∉G):RdF w' F A l:=fun hn=>by
 obtain ⟨b,off,e,hbF,hb,hc⟩:=h hn
 exact ⟨b,off,e,hbF,Nat.lt_of_lt_of_le hb hu.size,fun j hj=>(World.cell?_of_block (hu.block b hb (hG _ e))).trans (hc j hj)⟩
/-- Stores into one row, each behind all the loads Ls: i1, i2. -/
def RwJ (g1:Nat) (t:TypeId) (Ls:List Nat) (i1 i2:Nat) (R:Bool→Bool→Array Value) (D:Nat→Bool) (W:World):Prop:=(D i1=true→∀ i∈Ls,D i=true)∧(D i2=true→∀ i∈Ls,D i=true)∧Bk W g1 t (R (D i1) (D i2))
section
variable {g1 : Nat} {t : TypeId} {Ls : List Nat} {i1 i2 : Nat} {R : Bool → Bool → Array Value} {D : Nat → Bool} {W W' : World}
theorem RwJ.mv (h:RwJ g1 t Ls i1 i2 R D W) (i:Nat) (hi:i1≠i∧i2≠i) (hk:∀ cs,Bk W g1 t cs→Bk W' g1 t cs):RwJ g1 t Ls i1 i2 R (fun j=>decide (j=i) || D j) W':=by
 have e1:=orf_ne (L:=D) hi.1
 have e2:=orf_ne (L:=D) hi.2
 refine ⟨?_,?_,?_⟩
 ·simp only [e1];exact fun x j hj=>by simp [h.1 x j hj]
 ·simp only [e2];exact fun x j hj=>by simp [h.2.1 x j hj]
 ·simp only [e1,e2];exact hk _ h.2.2
theorem RwJ.same (h:RwJ g1 t Ls i1 i2 R D W) (i:Nat) (hi:i1≠i∧i2≠i):RwJ g1 t Ls i1 i2 R (fun j=>decide (j=i) || D j) W:=h.mv i hi (fun _ k=>k)
theorem RwJ.st1 (h:RwJ g1 t Ls i1 i2 R D W) (hi:i2≠i1) (hW:∀ i∈Ls,D i=true) (hb:Bk W' g1 t (R true (D i2))):RwJ g1 t Ls i1 i2 R (fun j=>decide (j=i1) || D j) W':=by
 have e1:=orf_eq (L:=D) (i:=i1)
 have e2:=orf_ne (L:=D) hi
 exact ⟨fun _ j hj=>by simp [hW j hj],fun _ j hj=>by simp [hW j hj],by simp only [e1,e2];exact hb⟩
theorem RwJ.st2 (h:RwJ g1 t Ls i1 i2 R D W) (hi:i1≠i2) (hW:∀ i∈Ls,D i=true) (hb:Bk W' g1 t (R (D i1) true)):RwJ g1 t Ls i1 i2 R (fun j=>decide (j=i2) || D j) W':=by
 have e1:=orf_ne (L:=D) hi
 have e2:=orf_eq (L:=D) (i:=i2)
 exact ⟨fun _ j hj=>by simp [hW j hj],fun _ j hj=>by simp [hW j hj],by simp only [e1,e2];exact hb⟩
theorem RwJ.read (h:RwJ g1 t Ls i1 i2 R D W) {i:Nat} (hm:i∈Ls) (hD:D i=false):Bk W g1 t (R false false):=by
 have f1:D i1=false:=by cases e:D i1 with | false=>rfl | true=>have:=h.1 e i hm;rw [hD] at this;cases this
 have f2:D i2=false:=by cases e:D i2 with | false=>rfl | true=>have:=h.2.1 e i hm;rw [hD] at this;cases this
 have:=h.2.2
 rw [f1,f2] at this
 exact this
theorem RwJ.last (h:RwJ g1 t Ls i1 i2 R D W) (h1:D i1=true) (h2:D i2=true):Bk W g1 t (R true true):=by
 have:=h.2.2
 rw [h1,h2] at this
 exact this
end
/-- Four stores into one row. -/
def Rw4 (g1:Nat) (t:TypeId) (i1 i2 i3 i4:Nat) (R:Bool→Bool→Bool→Bool→Array Value) (D:Nat→Bool) (W:World):Prop:=Bk W g1 t (R (D i1) (D i2) (D i3) (D i4))
theorem Rw4.same {g1:Nat} {t:TypeId} {i1 i2 i3 i4:Nat} {R:Bool→Bool→Bool→Bool→Array Value} {D:Nat→Bool} {W:World} (h:Rw4 g1 t i1 i2 i3 i4 R D W) (i:Nat) (hi:i1≠i∧i2≠i∧i3≠i∧i4≠i):Rw4 g1 t i1 i2 i3 i4 R (fun j=>decide (j=i) || D j) W:=by
 have e1:=orf_ne (L:=D) hi.1
 have e2:=orf_ne (L:=D) hi.2.1
 have e3:=orf_ne (L:=D) hi.2.2.1
 have e4:=orf_ne (L:=D) hi.2.2.2
 unfold Rw4
 simp only [e1,e2,e3,e4]
 exact h
theorem Rw4.st1 {g1:Nat} {t:TypeId} {i1 i2 i3 i4:Nat} {R:Bool→Bool→Bool→Bool→Array Value} {D:Nat→Bool} {W':World} (hd:i2≠i1∧i3≠i1∧i4≠i1) (hb:Bk W' g1 t (R true (D i2) (D i3) (D i4))):Rw4 g1 t i1 i2 i3 i4 R (fun j=>decide (j=i1) || D j) W':=by
 have e1:=orf_eq (L:=D) (i:=i1)
 have e2:=orf_ne (L:=D) hd.1
 have e3:=orf_ne (L:=D) hd.2.1
 have e4:=orf_ne (L:=D) hd.2.2
 unfold Rw4
 simp only [e1,e2,e3,e4]
 exact hb
theorem Rw4.st2 {g1:Nat} {t:TypeId} {i1 i2 i3 i4:Nat} {R:Bool→Bool→Bool→Bool→Array Value} {D:Nat→Bool} {W':World} (hd:i1≠i2∧i3≠i2∧i4≠i2) (hb:Bk W' g1 t (R (D i1) true (D i3) (D i4))):Rw4 g1 t i1 i2 i3 i4 R (fun j=>decide (j=i2) || D j) W':=by
 have e1:=orf_ne (L:=D) hd.1
 have e2:=orf_eq (L:=D) (i:=i2)
 have e3:=orf_ne (L:=D) hd.2.1
 have e4:=orf_ne (L:=D) hd.2.2
 unfold Rw4
 simp only [e1,e2,e3,e4]
 exact hb
theorem Rw4.st3 {g1:Nat} {t:TypeId} {i1 i2 i3 i4:Nat} {R:Bool→Bool→Bool→Bool→Array Value} {D:Nat→Bool} {W':World} (hd:i1≠i3∧i2≠i3∧i4≠i3) (hb:Bk W' g1 t (R (D i1) (D i2) true (D i4))):Rw4 g1 t i1 i2 i3 i4 R (fun j=>decide (j=i3) || D j) W':=by
 have e1:=orf_ne (L:=D) hd.1
 have e2:=orf_ne (L:=D) hd.2.1
 have e3:=orf_eq (L:=D) (i:=i3)
 have e4:=orf_ne (L:=D) hd.2.2
 unfold Rw4
 simp only [e1,e2,e3,e4]
 exact hb
theorem Rw4.st4 {g1:Nat} {t:TypeId} {i1 i2 i3 i4:Nat} {R:Bool→Bool→Bool→Bool→Array Value} {D:Nat→Bool} {W':World} (hd:i1≠i4∧i2≠i4∧i3≠i4) (hb:Bk W' g1 t (R (D i1) (D i2) (D i3) true)):Rw4 g1 t i1 i2 i3 i4 R (fun j=>decide (j=i4) || D j) W':=by
 have e1:=orf_ne (L:=D) hd.1
 have e2:=orf_ne (L:=D) hd.2.1
 have e3:=orf_ne (L:=D) hd.2.2
 have e4:=orf_eq (L:=D) (i:=i4)
 unfold Rw4
 simp only [e1,e2,e3,e4]
 exact hb
def Rg7 (g1:Nat) (Ke ZB KT KZ:List UInt8):Nat→Value→World→Prop
 | 0,v,_=>v = .pointer (some ⟨g1,0,none⟩)
 | 1,v,_=>v = .string (strOf Ke)
 | 2,v,W=>∃ b,v = .slice (some ⟨b,0,none⟩) 32 32∧Bk W b 5 (rowOf ZB)∧b∉[g1]
 | 3,v,_=>v = .string (strOf ZB)
 | 4,v,_=>v = .string (strOf KT)
 | 5,v,_=>v = .string (strOf KZ)
 | 6,v,_=>v = .pointer (some ⟨g1,0,none⟩)
 | _,_,_=>True
theorem Rg7.any {g1:Nat} {Ke ZB KT KZ:List UInt8} {i:Nat} {v:Value} {W W':World} (hT:Untouched [g1] W W') (h:Rg7 g1 Ke ZB KT KZ i v W):Rg7 g1 Ke ZB KT KZ i v W':=by
 unfold Rg7 at h ⊢
 split at h <;> first | exact h | trivial | (obtain ⟨b,e,hb,hn⟩:=h;exact ⟨b,e,hb.untouched hT hn,hn⟩)
theorem opR_pa (id:Bool) (K:List UInt8) (N:List (List UInt8)) (L:List SealV) (name Ke:List UInt8) (h:HeadV) (pa:Option Addr) (pc:Nat) (s:List UInt8):opR id K N L name Ke { h with pa:=pa,pc:=pc } s=opR id K N L name Ke h s:=rfl

theorem ask_more {w:World} {B C:Nat} {q:AskV} (h:q.Ok w B) (hB:B≤C):q.Ok w C:=⟨h.rn.more hB,h.hn,h.he,h.hm,h.hc,h.hd,h.rp.more hB,h.hp,h.rv.more hB,h.hv⟩
def K3:List UInt8:=3 :: zbytes 31

set_option maxRecDepth 100000 in
set_option maxHeartbeats 16000000 in
theorem walk (w:World) (id:Bool) (q:AskV) (hq:q.Ok w w.heap.size) (Ke:List UInt8) (h:HeadV) (s:List UInt8) (ht:Tab w) (hg1:2 < w.heap.size) (hpt:PTab w) (hg2:0 < w.heap.size) (hKB:Ke.length≤140737488351232) :
  Calls Tryz.prog 4 #[.bool id,.agg q.row,.agg (rRow Ke h s)] w fun e w'=>e = .returned (.bool true)∧Below w.heap.size w w':=by
 obtain ⟨Kz,hKz⟩:∃ K,K3=K:=⟨_,rfl⟩
 have KEB:=hid_ hKB
 clear hKB
 have KL:=hid_ (show Kz.length=32 by rw [← hKz];rfl)
 obtain ⟨g,hg⟩:∃ g,w.heap.size=g:=⟨_,rfl⟩
 obtain ⟨w1,hw1⟩:∃ W,w.alloc (.cells q.row 27)=W:=⟨_,rfl⟩
 obtain ⟨w2,hw2⟩:∃ W,w1.alloc (.cells (rRow Ke h s) 36)=W:=⟨_,rfl⟩
 have s1:w1.heap.size=g + 1:=by rw [← hw1,← hg];simp
 have S2:w2.heap.size=g + 2:=by rw [← hw2];simp [s1]
 have b1:Below w.heap.size w w1:=by rw [← hw1];exact (Below.refl _ _).alloc (Nat.le_refl _) _
 have b2:Below w1.heap.size w1 w2:=by rw [← hw2];exact (Below.refl _ _).alloc (Nat.le_refl _) _
 have B2:=hid_ (b1.trans (b2.mono b1.size))
 have Q2:=hid_ (show Bk w2 g 27 q.row by have k:=Bk.new w 27 q.row;rw [hw1,hg] at k;exact k.below b2 k.lt)
 have R2:=hid_ (show Bk w2 (g + 1) 36 (rRow Ke h s) by have k:=Bk.new w1 36 (rRow Ke h s);rw [hw2,s1] at k;exact k)
 have HT:=hid_ (tab_un (F:=[]) ht (Untouched.of_below B2.out) hg1 (fun hm=>by cases hm))
 have HP:=hid_ (ptab_un (F:=[]) hpt (Untouched.of_below B2.out) hg2 (fun hm=>by cases hm))
 have g01:2 < w2.heap.size:=Nat.lt_of_lt_of_le hg1 B2.out.size
 have g02:0 < w2.heap.size:=Nat.lt_of_lt_of_le hg2 B2.out.size
 have HQ:=hid_ ((hq.below B2.out))
 have QB:=hid_ B2.out.size
 have cv:=two13_any id w2 Kz KL.out
 have hzH:=zeroH
 have hzE:=zeroE
 have hzR:=zeroR
 have HG:=hid_ hg
 have HS2:=hid_ S2
 have HKK:=hid_ hKz
 obtain ⟨nl,hnl⟩:∃ l,q.nl.take 80=l:=⟨_,rfl⟩
 obtain ⟨mn,hmn⟩:∃ m,nl.length=m:=⟨_,rfl⟩
 have NL:=hid_ hmn
 have mn80:mn≤80:=by rw [← hmn,← hnl,List.length_take];omega
 have HC1:=hid_ (show ∀ W,Below w2.heap.size w2 W→Calls Tryz.prog 6 #[.slice q.na q.nl.length q.nc,.int .i64 80] W (NewP W mn nl) from fun W hW=>by
  have h:=ecut_any W q.na q.nl q.nl.length q.nc 80 mn rfl (by rw [← hmn,← hnl,List.length_take,Nat.min_comm]) (by omega) ((HQ.out.rn.below (hW.mono QB.out)).more (Nat.le_trans QB.out hW.size)) HQ.out.hn.1 HQ.out.hn.2
  rw [hnl] at h
  exact h)
 clear ht hpt hq b1 b2 hKz hnl hmn
 go_enter Tryz.func4,Tryz.ntmps4
 go_upto_region 2 with (first
  | (refine wpList_built rfl 22 _ rfl (rowOf Kz) (by rw [← HKK.out];kernel_rfl) ?_)
  | (go_at_call 5;((with_reducible refine cv.mono ?_);clear cv;rintro e w3 ⟨v,sp,nm,kn,rg,F,rfl,hv,hF,hrg,hrb,hrF,hB⟩;have M3:=hid_ (show MineX w2 id v sp nm kn Kz [] [] F w3 from ⟨hv,hF,hB⟩);have RG3:=hid_ (ref_start hrg);have NRF:=hid_ hrF;have PRG:=hid_ (show w2.heap.size≤rg∧rg < w3.heap.size from ⟨hrb,hrg.lt⟩);have Q3:=hid_ (Q2.out.below hB Q2.out.lt);have R3:=hid_ (R2.out.below hB R2.out.lt);clear hv hF hrg hrb hrF hB)))
 have HFR:=hid_ (show ∀ k∈F,w2.heap.size≤k∧k < w3.heap.size from fun k hk=>⟨M3.out.own k hk,M3.out.lt k hk⟩)
 clear hw1 hw2 Q2 R2 s1 S2 hg
 have c1:=HC1.out w3 M3.out.below
 have k0:=(show w3.cell? ⟨g,0,none⟩=some (.slice q.na q.nl.length q.nc) from Q3.out.cell 0)
 clear HC1
 go_upto_region 3 with (go_at_call 6;((with_reducible refine c1.mono ?_);clear c1 k0;rintro e w5 ⟨A9,c9,rfl,ho,hB⟩;have ON5:=hid_ (ho.lower (Nat.le_refl _));have M5:=hid_ (M3.out.then_ hB);have RG5:=hid_ ((RS.foot id rg Kz [] []).keep RG3.out (Untouched.of_below (F:=[]) hB) (fun _ _=>by simp));have Q5:=hid_ (Q3.out.below hB Q3.out.lt);have R5:=hid_ (R3.out.below hB R3.out.lt);have W5:=hid_ hB.size;clear ho hB))
 clear M3 RG3 Q3 R3
 have HQ5:q.Ok w5 w5.heap.size:=ask_more (HQ.out.below (M5.out.below.mono QB.out)) (Nat.le_trans QB.out M5.out.below.size)
 have ch:=head_any w5 q HQ5
 have IA:=hid_ (iAsk q)
 clear HQ5
 go_upto_region 4 with (first
  | (refine wpList_load_row rfl 27 (.tmp 4) rfl g rfl 27 q.row (0,0) _ Q5.out Tryz.underlying27 rfl IA.out ?_)
  | (go_at_call 7;((with_reducible refine ch.mono ?_);clear ch;rintro e w7 ⟨Ap,cp,rfl,hO,hB⟩;have M7:=hid_ (M5.out.then_ hB);have RG7:=hid_ ((RS.foot id rg Kz [] []).keep RG5.out (Untouched.of_below (F:=[]) hB) (fun _ _=>by simp));have Q7:=hid_ (Q5.out.below hB Q5.out.lt);have R7:=hid_ (R5.out.below hB R5.out.lt);have ON7:=hid_ (ON5.out.below hB (Nat.le_refl _));have OP7:=hid_ (hO.lower W5.out);obtain ⟨wa,hwa⟩:∃ W,w7.alloc (.cells hd0.row 34)=W:=⟨_,rfl⟩;obtain ⟨wb,hwb⟩:∃ W,wa.alloc (.cells (rRow [] hd0 []) 36)=W:=⟨_,rfl⟩;have sa1:wa.heap.size=w7.heap.size + 1:=(by simp [← hwa]);have ba:Below w7.heap.size w7 wa:=(by rw [← hwa];exact (Below.refl _ _).alloc (Nat.le_refl _) _);have bb:Below wa.heap.size wa wb:=(by rw [← hwb];exact (Below.refl _ _).alloc (Nat.le_refl _) _);have HA:=hid_ (show Bk wb w7.heap.size 34 hd0.row by have k:=Bk.new w7 34 hd0.row;rw [hwa] at k;exact k.below bb k.lt);have RA:=hid_ (show Bk wb (w7.heap.size + 1) 36 (rRow [] hd0 []) by have k:=Bk.new wa 36 (rRow [] hd0 []);rw [hwb,sa1] at k;exact k);have BW:=hid_ (ba.trans (bb.mono ba.size));have W7:=hid_ (show w3.heap.size≤w7.heap.size from Nat.le_trans W5.out hB.size);clear hO hB ba bb))
  | (refine wpList_put_row rfl 34 (.tmp 10) (.tmp 32) rfl w7.heap.size (askH q Ap cp).row rfl rfl 34 hd0.row HA.out (iHead _) rfl (head_one _) ?_;intro w8 k8 g8 s8;have H8:=hid_ k8;have J8:=hid_ (RA.out.grown g8 (fun e=>by injection e with e;omega));have BX:=hid_ (BW.out.grown g8 BW.out.size (fun k hk=>by injection hk with hk;omega));clear k8 g8 s8)
  | (refine wpList_put_row rfl 36 (.tmp 11) (.tmp 33) rfl (w7.heap.size + 1) (rRow [] (askH q Ap cp) []) rfl rfl 36 (rRow [] hd0 []) J8.out (iRr _ _ _) rfl (rRow_one _ _ _) ?_;intro w9 k9 g9 s9;have J9:=hid_ k9;have H9:=hid_ (H8.out.grown g9 (fun e=>by injection e with e;omega));have hB:=BX.out.grown g9 BX.out.size (fun k hk=>by injection hk with hk;omega);have M9:=hid_ (M7.out.then_ hB);have RG9:=hid_ ((RS.foot id rg Kz [] []).keep RG7.out (Untouched.of_below (F:=[]) hB) (fun _ _=>by simp));have Q9:=hid_ (Q7.out.below hB Q7.out.lt);have R9:=hid_ (R7.out.below hB R7.out.lt);have ON9:=hid_ (ON7.out.below hB (Nat.le_refl _));have OP9:=hid_ (OP7.out.below hB (Nat.le_refl _));clear k9 g9 s9 hB))
 clear HA RA BW BX H8 J8 hwa hwb sa1 M5 M7 RG5 RG7 Q5 Q7 R5 R7 ON5 ON7 OP7
 have PH:=hid_ (show w3.heap.size≤w7.heap.size from W7.out)
 have PJ:=hid_ (show w3.heap.size≤w7.heap.size + 1 by have:=W7.out;omega)
 obtain ⟨gj,hgj⟩:∃ x,w7.heap.size + 1=x:=⟨_,rfl⟩
 rw [hgj] at J9 PJ ⊢
 generalize w7.heap.size=gh at *
 obtain ⟨pl,hpl⟩:∃ l,q.pl.take 100=l:=⟨_,rfl⟩
 obtain ⟨mp,hmp⟩:∃ m,pl.length=m:=⟨_,rfl⟩
 have PL:=hid_ hmp
 obtain ⟨hx,hhd⟩:∃ h,askH q Ap cp=h:=⟨_,rfl⟩
 have HD:=hid_ (show hx.pa=Ap∧hx.pl=pl∧hx.pc=cp from ⟨by rw [← hhd];rfl,by rw [← hhd,← hpl];rfl,by rw [← hhd];rfl⟩)
 rw [hpl,hmp] at OP9
 rw [hhd] at H9 J9
 clear hpl hmp hhd hgj IA W7
 -- the code's Seal
 rename_i K9 hK9
 obtain ⟨vl,hvl⟩:∃ l,q.vl.take 300=l:=⟨_,rfl⟩
 obtain ⟨nv,hnv⟩:∃ n,n=min q.vl.length 300:=⟨_,rfl⟩
 have VL:=hid_ (show vl.length=nv by rw [← hvl,List.length_take,hnv,Nat.min_comm])
 have nv300:nv≤300:=by omega
 have HM1:=hid_ (fun W ts t=>run_min2 q.vl.length 300 nv hnv W ts t)
 have HVC:=hid_ HQ.out.hv
 have HS1:=hid_ (fun W=>slice_to q.va q.vl.length q.vc (nv:Int) nv rfl (by have:=HVC.out.1;omega) W)
 have HVL:=hid_ (show ∀ W,Below w2.heap.size w2 W→Rd W W.heap.size q.va vl from fun W X=>by rw [← hvl];exact ((HQ.out.rv.below (X.mono QB.out)).more (Nat.le_trans QB.out X.size)).take 300)
 have NQ:=hid_ (show g∉F from fun hm=>by have:=HFR.out _ hm;have:=HS2.out;omega)
 have NR:=hid_ (show g + 1∉F from fun hm=>by have:=HFR.out _ hm;have:=HS2.out;omega)
 have NH:=hid_ (show gh∉F from fun hm=>by have:=HFR.out _ hm;have:=PH.out;omega)
 have NJ:=hid_ (show gj∉F from fun hm=>by have:=HFR.out _ hm;have:=PJ.out;omega)
 have rdf9:RdF w9 F hx.pa hx.pl:=by
  rw [HD.out.1,HD.out.2.1]
  exact rdf_of OP9.out.rd.1 (fun a e hm=>by have h1:=(ownX OP9.out a e).1;have h2:=HFR.out _ hm;omega)
 have RDF:=hid_ rdf9
 clear hvl rdf9 hnv
 repeat rw [put_none]
 refine region_byJF [34,35,36,37,38,39,40,41,42,43,44,45,46] (fun W=>Untouched F w9 W) (fun _ _=>True) (fun jR_ vR_ (_:World)=>(match jR_ with | 0=>vR_ = .pointer (some ⟨v,0,none⟩) | 1=>vR_ = .slice A9 mn c9 | 2=>vR_ = .agg hx.row | 3=>vR_ = .pointer (some ⟨g,6,none⟩) | 4=>vR_ = .slice q.va q.vl.length q.vc | 5=>vR_ = .pointer (some ⟨g,6,none⟩) | 6=>vR_ = .slice q.va q.vl.length q.vc | 7=>vR_ = .int .i64 (q.vl.length:Int) | 8=>vR_ = .int .i64 (nv:Int) | 9=>vR_ = .slice q.va nv q.vc | 10=>vR_ = .pointer (some ⟨g,7,none⟩) | 11=>vR_ = .bool q.del | _=>True:Prop)) (fun D _ W=>FlX 12 (fun W=>Below w9.heap.size w9 W) (fun W=>∃ F5,VS id v sp nm kn Kz (oneN id nl hx) (oneL id Kz nl hx q.del vl) W F5∧Grew w9 F F5∧Untouched F w9 W) D W) (by kernel_rfl) (by kernel_rfl) (by kernel_rfl) (by kernel_rfl) (fun j v w w' hT hr=>?_) (fun j v w hlt hj _=>?_) (Untouched.of_below (Below.refl _ _).drew) ?_ ⟨fun _=>(Below.refl _ _).drew,fun e=>Bool.noConfusion e⟩ ?_
 ·exact hr
 ·rcases j with _ | _ | _ | _ | _ | _ | _ | _ | _ | _ | _ | _ | _ | j
  all_goals first
   | (exfalso;simp [dstOf] at hj;done)
   | trivial
 ·refine ⟨?_,?_,?_,?_,?_,?_,?_,?_,?_,?_,?_,?_,?_,trivial⟩
  all_goals intro D a W hC hd hsz hf hv hJ hL hW K hK
  ·clear hsz
   have e1:=slot_of (a:=a) (s:=7) (v:=.pointer (some ⟨v,0,none⟩)) (hf 7 (by kernel_rfl))
   refine step_run (wanted_none rfl) (v:=.pointer (some ⟨v,0,none⟩)) (w':=W) ?_ (hK _ _ hC trivial rfl (hJ.same 0 (by decide)))
   go_simp
  ·clear hsz
   have e1:=slot_of (a:=a) (s:=9) (v:=.slice A9 mn c9) (hf 9 (by kernel_rfl))
   refine step_run (wanted_none rfl) (v:=.slice A9 mn c9) (w':=W) ?_ (hK _ _ hC trivial rfl (hJ.same 1 (by decide)))
   go_simp
  ·clear hsz
   exact step_load_rowW (wanted_none rfl) 34 (.tmp 10) rfl gh (eval_of (hf 10 (by kernel_rfl))) 34 hx.row (H9.out.untouched hC NH.out) _ Tryz.underlying34 rfl (iHead _) (hK _ _ hC trivial rfl (hJ.same 2 (by decide)))
  ·clear hsz
   have e1:=slot_of (a:=a) (s:=4) (v:=.pointer (some ⟨g,0,none⟩)) (hf 4 (by kernel_rfl))
   refine step_run (wanted_none rfl) (v:=.pointer (some ⟨g,6,none⟩)) (w':=W) ?_ (hK _ _ hC trivial rfl (hJ.same 3 (by decide)))
   go_simp
  ·clear hsz
   have e1:=slot_of (a:=a) (s:=37) (v:=.pointer (some ⟨g,6,none⟩)) (hv 3 (by kernel_rfl))
   have k6:=(show W.cell? ⟨g,6,none⟩=some (.slice q.va q.vl.length q.vc) from (Q9.out.untouched hC NQ.out).cell 6)
   refine step_run (wanted_none rfl) (v:=.slice q.va q.vl.length q.vc) (w':=W) ?_ (hK _ _ hC trivial rfl (hJ.same 4 (by decide)))
   go_simp
  ·clear hsz
   have e1:=slot_of (a:=a) (s:=4) (v:=.pointer (some ⟨g,0,none⟩)) (hf 4 (by kernel_rfl))
   refine step_run (wanted_none rfl) (v:=.pointer (some ⟨g,6,none⟩)) (w':=W) ?_ (hK _ _ hC trivial rfl (hJ.same 5 (by decide)))
   go_simp
  ·clear hsz
   have e1:=slot_of (a:=a) (s:=39) (v:=.pointer (some ⟨g,6,none⟩)) (hv 5 (by kernel_rfl))
   have k6:=(show W.cell? ⟨g,6,none⟩=some (.slice q.va q.vl.length q.vc) from (Q9.out.untouched hC NQ.out).cell 6)
   refine step_run (wanted_none rfl) (v:=.slice q.va q.vl.length q.vc) (w':=W) ?_ (hK _ _ hC trivial rfl (hJ.same 6 (by decide)))
   go_simp
  ·clear hsz
   have e1:=slot_of (a:=a) (s:=40) (v:=.slice q.va q.vl.length q.vc) (hv 6 (by kernel_rfl))
   refine step_run (wanted_none rfl) (v:=.int .i64 (q.vl.length:Int)) (w':=W) ?_ (hK _ _ hC trivial rfl (hJ.same 7 (by decide)))
   go_simp
  ·clear hsz
   have e1:=slot_of (a:=a) (s:=41) (v:=.int .i64 (q.vl.length:Int)) (hv 7 (by kernel_rfl))
   have hm:=HM1.out W
   rw [show ((300:Nat):Int)=300 from rfl] at hm
   refine step_run (wanted_none rfl) (v:=.int .i64 (nv:Int)) (w':=W) ?_ (hK _ _ hC trivial rfl (hJ.same 8 (by decide)))
   go_simp
  ·clear hsz
   have e1:=slot_of (a:=a) (s:=38) (v:=.slice q.va q.vl.length q.vc) (hv 4 (by kernel_rfl))
   have e2:=slot_of (a:=a) (s:=42) (v:=.int .i64 (nv:Int)) (hv 8 (by kernel_rfl))
   have hs:=HS1.out W
   refine step_run (wanted_none rfl) (v:=.slice q.va nv q.vc) (w':=W) ?_ (hK _ _ hC trivial rfl (hJ.same 9 (by decide)))
   go_simp
  ·clear hsz
   have e1:=slot_of (a:=a) (s:=4) (v:=.pointer (some ⟨g,0,none⟩)) (hf 4 (by kernel_rfl))
   refine step_run (wanted_none rfl) (v:=.pointer (some ⟨g,7,none⟩)) (w':=W) ?_ (hK _ _ hC trivial rfl (hJ.same 10 (by decide)))
   go_simp
  ·clear hsz
   have e1:=slot_of (a:=a) (s:=44) (v:=.pointer (some ⟨g,7,none⟩)) (hv 10 (by kernel_rfl))
   have k7:=(show W.cell? ⟨g,7,none⟩=some (.bool q.del) from (Q9.out.untouched hC NQ.out).cell 7)
   refine step_run (wanted_none rfl) (v:=.bool q.del) (w':=W) ?_ (hK _ _ hC trivial rfl (hJ.same 11 (by decide)))
   go_simp
  ·clear hsz
   have e1:=slot_of (a:=a) (s:=34) (v:=.pointer (some ⟨v,0,none⟩)) (hv 0 (by kernel_rfl))
   have e2:=slot_of (a:=a) (s:=35) (v:=.slice A9 mn c9) (hv 1 (by kernel_rfl))
   have e3:=slot_of (a:=a) (s:=36) (v:=.agg hx.row) (hv 2 (by kernel_rfl))
   have e4:=slot_of (a:=a) (s:=43) (v:=.slice q.va nv q.vc) (hv 9 (by kernel_rfl))
   have e5:=slot_of (a:=a) (s:=45) (v:=.bool q.del) (hv 11 (by kernel_rfl))
   have hp:=hJ.1 hL
   have MW:=M9.out.then_ hp
   have OW:=ON9.out.below hp (Nat.le_refl _)
   have cs:=sealOne MW.vs A9 mn c9 nl NL.out OW.cap.1 OW.cap.2 OW.rd.1 hx (RDF.out.keep (Untouched.of_below hp) (Grew.refl _ _)) q.va nv q.vc vl VL.out (by omega) (HVL.out W MW.below) q.del (MW.tab HT.out g01) (MW.glt g01) (MW.ptab HP.out g02) (MW.glt g02) (MW.gF g01)
   refine step_callx 8 #[.pointer (some ⟨v,0,none⟩),.slice A9 mn c9,.agg hx.row,.slice q.va nv q.vc,.bool q.del] (wanted_none rfl) (w':=W) ?_ (cs.mono fun e W2 hh=>?_)
   ·clear cs
    go_simp
   ·obtain ⟨V,x,F5,rfl,hV,hGr,hU⟩:=hh
    exact ⟨_,rfl,hK _ _ (hC.trans (Grew.refl _ _) hU) trivial trivial (FlX.now ⟨F5,hV,(Grew.refl w9 F).trans hp.size hGr,(Untouched.of_below (F:=F) hp).trans (Grew.refl w9 F) hU⟩)⟩
 ·intro f w10 hC10 hv10 D7 hD7 hJ7
  obtain ⟨a7,hJ,hs⟩:=hJ7
  obtain ⟨F5,hV,hGr,hU⟩:=hJ.2 (hD7 12 (by decide))
  simp only [framed,List.foldl_cons,List.foldl_nil,List.setIfInBounds_toArray,List.set_cons_succ,List.set_cons_zero]
  have M10:=hid_ (M9.out.next hV hGr hU)
  have RG10:=hid_ ((RS.foot id rg Kz [] []).keep RG9.out hU (fun k hk hm=>by rw [List.mem_singleton.1 hk] at hm;exact NRF.out hm))
  have Q10:=hid_ (Q9.out.untouched hU NQ.out)
  have R10:=hid_ (R9.out.untouched hU NR.out)
  have H10:=hid_ (H9.out.untouched hU NH.out)
  have J10:=hid_ (J9.out.untouched hU NJ.out)
  have ON10:=hid_ (ON9.out.untouched hU (fun k hk=>(HFR.out k hk).2))
  have NRA:=hid_ (show ∀ a,A9=some a→w3.heap.size≤a.block from fun a e=>(ownX ON9.out a e).1)
  have NCP:=hid_ ON9.out.cap
  have RN10:=hid_ ((rdf_of (F':=F) ON9.out.rd.1 (fun a e hm=>by have h1:=NRA.out a e;have h2:=HFR.out _ hm;omega)).keep hU hGr)
  have NRF5:=hid_ (show rg∉F5 from fun hm=>(hGr _ hm).elim NRF.out (fun e=>by have:=(RS.foot id rg Kz [] []).lt RG9.out rg (List.mem_singleton.2 rfl);omega))
  clear hv10 hD7 hJ hs hV hGr hU hC10 M9 RG9 Q9 R9 H9 J9 ON9 OP9 RDF NQ NR NH NJ NRF HFR
  refine hK9 _ _ ?_
  clear hK9 K9
  go_upto_region 5 with fail
  rename_i K9 hK9
  obtain ⟨base,hbase⟩:∃ x,w10.heap.size=x:=⟨_,rfl⟩
  have HB10:=hid_ hbase
  have RGB:=hid_ (show rg < base by have:=M10.out.below.size;have:=(RS.foot id rg Kz [] []).lt RG10.out rg (List.mem_singleton.2 rfl);omega)
  have NQ5:=hid_ (show g∉[rg] from fun hm=>by have:=List.mem_singleton.1 hm;have:=PRG.out.1;have:=HS2.out;omega)
  have NR5:=hid_ (show g + 1∉[rg] from fun hm=>by have:=List.mem_singleton.1 hm;have:=PRG.out.1;have:=HS2.out;omega)
  have NJ5:=hid_ (show gj∉[rg] from fun hm=>by have:=List.mem_singleton.1 hm;have:=PRG.out.2;have:=PJ.out;omega)
  have ZN:=hid_ (show ∀ W,Untouched [rg] w10 W→(convert 23 9 (.slice A9 mn c9)).run Tryz.prog W = .ok (.string (strOf nl)) W from fun W hW=>conv_strn (ON10.out.untouched hW (fun k hk=>by rw [List.mem_singleton.1 hk];exact PRG.out.2)).rd.1 mn c9 NL.out)
  have ZV:=hid_ (show ∀ W,Untouched [rg] w10 W→(convert 23 9 (.slice q.va nv q.vc)).run Tryz.prog W = .ok (.string (strOf vl)) W from fun W hW=>conv_strn (HVL.out W (M10.out.below.trans (hW.below (fun k hk=>by rw [List.mem_singleton.1 hk];exact PRG.out.1) M10.out.below.size))) nv q.vc VL.out)
  obtain ⟨EK,hEK⟩:∃ x,oneK id Kz nl hx=x:=⟨_,rfl⟩
  have SEK:=hid_ hEK
  obtain ⟨EH,hEH⟩:∃ x,oneH nl hx=x:=⟨_,rfl⟩
  have SEH:=hid_ hEH
  obtain ⟨ES,hES⟩:∃ x,oneS id Kz nl hx q.del vl=x:=⟨_,rfl⟩
  have SES:=hid_ hES
  obtain ⟨EX,hEX⟩:∃ x,oneX nl hx=x:=⟨_,rfl⟩
  have SEX:=hid_ hEX
  obtain ⟨EN,hEN⟩:∃ x,oneN id nl hx=x:=⟨_,rfl⟩
  have SEN:=hid_ hEN
  obtain ⟨EL,hEL⟩:∃ x,oneL id Kz nl hx q.del vl=x:=⟨_,rfl⟩
  have SEL:=hid_ hEL
  clear hbase hEK hEH hES hEX hEN hEL
  try rw [put_none]
  refine region_byJF [48,49,50,51,52,53,54,55,56,57,58,59,60,61,62,47,63,64,12,13] (fun W=>Untouched [rg] w10 W) (fun _ _=>True) (fun jR_ vR_ (_:World)=>(match jR_ with | 0=>vR_ = .pointer (some ⟨rg,0,none⟩) | 1=>vR_ = .slice A9 mn c9 | 2=>vR_ = .string (strOf nl) | 3=>vR_ = .agg (rRow [] hx []) | 4=>vR_ = .pointer (some ⟨g,6,none⟩) | 5=>vR_ = .slice q.va q.vl.length q.vc | 6=>vR_ = .pointer (some ⟨g,6,none⟩) | 7=>vR_ = .slice q.va q.vl.length q.vc | 8=>vR_ = .int .i64 (q.vl.length:Int) | 9=>vR_ = .int .i64 (nv:Int) | 10=>vR_ = .slice q.va nv q.vc | 11=>vR_ = .string (strOf vl) | 12=>vR_ = .pointer (some ⟨g,7,none⟩) | 13=>vR_ = .bool q.del | _=>True:Prop)) (fun D a W=>XeJ (soVX EK EH ES EX) (soRW EK EH ES) (.int .i64 EX) 36 base (fun W=>RS id rg Kz [] [] W [rg]) (RgP id rg Kz EN EL base) (fun G=>G) 7 (D 14) (D 15) (D 16) (D 17) (D 18) (D 19) (D 20) (a.tmps.getD 62 undef) (a.tmps.getD 47 undef) (a.tmps.getD 63 undef) (a.tmps.getD 64 undef) (a.tmps.getD 12 undef) (a.tmps.getD 13 undef) W) (by kernel_rfl) (by kernel_rfl) (by kernel_rfl) (by kernel_rfl) (fun j v w w' hT hr=>hr) (fun j v w hlt hj _=>?_) ⟨rfl,rfl,rfl,Nat.le_refl _,fun _ _ _=>rfl⟩ ?_ (XeJ.start ((RS.foot id rg Kz [] []).keep RG10.out (Untouched.of_below (F:=[]) ((Below.refl _ _).drew)) (fun _ _=>by simp))) ?_
  ·rcases j with _ | _ | _ | _ | _ | _ | _ | _ | _ | _ | _ | _ | _ | _ | _ | _ | _ | _ | _ | _ | _ | j
   all_goals first
    | (exfalso;simp [dstOf] at hj;done)
    | trivial
  ·refine ⟨?_,?_,?_,?_,?_,?_,?_,?_,?_,?_,?_,?_,?_,?_,?_,?_,?_,?_,?_,?_,?_,trivial⟩
   all_goals intro D a W hC hd hsz hf hv hJ hL hW K hK
   ·have HSZ:a.tmps.size=151:=hsz
    have e1:=slot_of (a:=a) (s:=8) (v:=.pointer (some ⟨rg,0,none⟩)) (hf 8 (by kernel_rfl))
    refine step_run (wanted_none rfl) (v:=.pointer (some ⟨rg,0,none⟩)) (w':=W) ?_ (hK _ _ hC trivial rfl (by simp only [put_otherX (show (62:Nat)≠48 by decide),put_otherX (show (47:Nat)≠48 by decide),put_otherX (show (63:Nat)≠48 by decide),put_otherX (show (64:Nat)≠48 by decide),put_otherX (show (12:Nat)≠48 by decide),put_otherX (show (13:Nat)≠48 by decide)];exact hJ))
    clear hsz HSZ
    go_simp
   ·have HSZ:a.tmps.size=151:=hsz
    have e1:=slot_of (a:=a) (s:=9) (v:=.slice A9 mn c9) (hf 9 (by kernel_rfl))
    refine step_run (wanted_none rfl) (v:=.slice A9 mn c9) (w':=W) ?_ (hK _ _ hC trivial rfl (by simp only [put_otherX (show (62:Nat)≠49 by decide),put_otherX (show (47:Nat)≠49 by decide),put_otherX (show (63:Nat)≠49 by decide),put_otherX (show (64:Nat)≠49 by decide),put_otherX (show (12:Nat)≠49 by decide),put_otherX (show (13:Nat)≠49 by decide)];exact hJ))
    clear hsz HSZ
    go_simp
   ·have HSZ:a.tmps.size=151:=hsz
    have e1:=slot_of (a:=a) (s:=49) (v:=.slice A9 mn c9) (hv 1 (by kernel_rfl))
    have hz:=ZN.out W hC
    refine step_run (wanted_none rfl) (v:=.string (strOf nl)) (w':=W) ?_ (hK _ _ hC trivial rfl (by simp only [put_otherX (show (62:Nat)≠50 by decide),put_otherX (show (47:Nat)≠50 by decide),put_otherX (show (63:Nat)≠50 by decide),put_otherX (show (64:Nat)≠50 by decide),put_otherX (show (12:Nat)≠50 by decide),put_otherX (show (13:Nat)≠50 by decide)];exact hJ))
    clear hsz HSZ
    go_simp
   ·have HSZ:a.tmps.size=151:=hsz
    exact step_load_rowW (wanted_none rfl) 36 (.tmp 11) rfl gj (eval_of (hf 11 (by kernel_rfl))) 36 (rRow [] hx []) (J10.out.untouched hC NJ5.out) _ Tryz.underlying36 rfl (iRr _ _ _) (hK _ _ hC trivial rfl (by simp only [put_otherX (show (62:Nat)≠51 by decide),put_otherX (show (47:Nat)≠51 by decide),put_otherX (show (63:Nat)≠51 by decide),put_otherX (show (64:Nat)≠51 by decide),put_otherX (show (12:Nat)≠51 by decide),put_otherX (show (13:Nat)≠51 by decide)];exact hJ))
   ·have HSZ:a.tmps.size=151:=hsz
    have e1:=slot_of (a:=a) (s:=4) (v:=.pointer (some ⟨g,0,none⟩)) (hf 4 (by kernel_rfl))
    refine step_run (wanted_none rfl) (v:=.pointer (some ⟨g,6,none⟩)) (w':=W) ?_ (hK _ _ hC trivial rfl (by simp only [put_otherX (show (62:Nat)≠52 by decide),put_otherX (show (47:Nat)≠52 by decide),put_otherX (show (63:Nat)≠52 by decide),put_otherX (show (64:Nat)≠52 by decide),put_otherX (show (12:Nat)≠52 by decide),put_otherX (show (13:Nat)≠52 by decide)];exact hJ))
    clear hsz HSZ
    go_simp
   ·have HSZ:a.tmps.size=151:=hsz
    have e1:=slot_of (a:=a) (s:=52) (v:=.pointer (some ⟨g,6,none⟩)) (hv 4 (by kernel_rfl))
    have k6:=(show W.cell? ⟨g,6,none⟩=some (.slice q.va q.vl.length q.vc) from (Q10.out.untouched hC NQ5.out).cell 6)
    refine step_run (wanted_none rfl) (v:=.slice q.va q.vl.length q.vc) (w':=W) ?_ (hK _ _ hC trivial rfl (by simp only [put_otherX (show (62:Nat)≠53 by decide),put_otherX (show (47:Nat)≠53 by decide),put_otherX (show (63:Nat)≠53 by decide),put_otherX (show (64:Nat)≠53 by decide),put_otherX (show (12:Nat)≠53 by decide),put_otherX (show (13:Nat)≠53 by decide)];exact hJ))
    clear hsz HSZ
    go_simp
   ·have HSZ:a.tmps.size=151:=hsz
    have e1:=slot_of (a:=a) (s:=4) (v:=.pointer (some ⟨g,0,none⟩)) (hf 4 (by kernel_rfl))
    refine step_run (wanted_none rfl) (v:=.pointer (some ⟨g,6,none⟩)) (w':=W) ?_ (hK _ _ hC trivial rfl (by simp only [put_otherX (show (62:Nat)≠54 by decide),put_otherX (show (47:Nat)≠54 by decide),put_otherX (show (63:Nat)≠54 by decide),put_otherX (show (64:Nat)≠54 by decide),put_otherX (show (12:Nat)≠54 by decide),put_otherX (show (13:Nat)≠54 by decide)];exact hJ))
    clear hsz HSZ
    go_simp
   ·have HSZ:a.tmps.size=151:=hsz
    have e1:=slot_of (a:=a) (s:=54) (v:=.pointer (some ⟨g,6,none⟩)) (hv 6 (by kernel_rfl))
    have k6:=(show W.cell? ⟨g,6,none⟩=some (.slice q.va q.vl.length q.vc) from (Q10.out.untouched hC NQ5.out).cell 6)
    refine step_run (wanted_none rfl) (v:=.slice q.va q.vl.length q.vc) (w':=W) ?_ (hK _ _ hC trivial rfl (by simp only [put_otherX (show (62:Nat)≠55 by decide),put_otherX (show (47:Nat)≠55 by decide),put_otherX (show (63:Nat)≠55 by decide),put_otherX (show (64:Nat)≠55 by decide),put_otherX (show (12:Nat)≠55 by decide),put_otherX (show (13:Nat)≠55 by decide)];exact hJ))
    clear hsz HSZ
    go_simp
   ·have HSZ:a.tmps.size=151:=hsz
    have e1:=slot_of (a:=a) (s:=55) (v:=.slice q.va q.vl.length q.vc) (hv 7 (by kernel_rfl))
    refine step_run (wanted_none rfl) (v:=.int .i64 (q.vl.length:Int)) (w':=W) ?_ (hK _ _ hC trivial rfl (by simp only [put_otherX (show (62:Nat)≠56 by decide),put_otherX (show (47:Nat)≠56 by decide),put_otherX (show (63:Nat)≠56 by decide),put_otherX (show (64:Nat)≠56 by decide),put_otherX (show (12:Nat)≠56 by decide),put_otherX (show (13:Nat)≠56 by decide)];exact hJ))
    clear hsz HSZ
    go_simp
   ·have HSZ:a.tmps.size=151:=hsz
    have e1:=slot_of (a:=a) (s:=56) (v:=.int .i64 (q.vl.length:Int)) (hv 8 (by kernel_rfl))
    have hm:=HM1.out W
    rw [show ((300:Nat):Int)=300 from rfl] at hm
    refine step_run (wanted_none rfl) (v:=.int .i64 (nv:Int)) (w':=W) ?_ (hK _ _ hC trivial rfl (by simp only [put_otherX (show (62:Nat)≠57 by decide),put_otherX (show (47:Nat)≠57 by decide),put_otherX (show (63:Nat)≠57 by decide),put_otherX (show (64:Nat)≠57 by decide),put_otherX (show (12:Nat)≠57 by decide),put_otherX (show (13:Nat)≠57 by decide)];exact hJ))
    clear hsz HSZ
    go_simp
   ·have HSZ:a.tmps.size=151:=hsz
    have e1:=slot_of (a:=a) (s:=53) (v:=.slice q.va q.vl.length q.vc) (hv 5 (by kernel_rfl))
    have e2:=slot_of (a:=a) (s:=57) (v:=.int .i64 (nv:Int)) (hv 9 (by kernel_rfl))
    have hs:=HS1.out W
    refine step_run (wanted_none rfl) (v:=.slice q.va nv q.vc) (w':=W) ?_ (hK _ _ hC trivial rfl (by simp only [put_otherX (show (62:Nat)≠58 by decide),put_otherX (show (47:Nat)≠58 by decide),put_otherX (show (63:Nat)≠58 by decide),put_otherX (show (64:Nat)≠58 by decide),put_otherX (show (12:Nat)≠58 by decide),put_otherX (show (13:Nat)≠58 by decide)];exact hJ))
    clear hsz HSZ
    go_simp
   ·have HSZ:a.tmps.size=151:=hsz
    have e1:=slot_of (a:=a) (s:=58) (v:=.slice q.va nv q.vc) (hv 10 (by kernel_rfl))
    have hz:=ZV.out W hC
    refine step_run (wanted_none rfl) (v:=.string (strOf vl)) (w':=W) ?_ (hK _ _ hC trivial rfl (by simp only [put_otherX (show (62:Nat)≠59 by decide),put_otherX (show (47:Nat)≠59 by decide),put_otherX (show (63:Nat)≠59 by decide),put_otherX (show (64:Nat)≠59 by decide),put_otherX (show (12:Nat)≠59 by decide),put_otherX (show (13:Nat)≠59 by decide)];exact hJ))
    clear hsz HSZ
    go_simp
   ·have HSZ:a.tmps.size=151:=hsz
    have e1:=slot_of (a:=a) (s:=4) (v:=.pointer (some ⟨g,0,none⟩)) (hf 4 (by kernel_rfl))
    refine step_run (wanted_none rfl) (v:=.pointer (some ⟨g,7,none⟩)) (w':=W) ?_ (hK _ _ hC trivial rfl (by simp only [put_otherX (show (62:Nat)≠60 by decide),put_otherX (show (47:Nat)≠60 by decide),put_otherX (show (63:Nat)≠60 by decide),put_otherX (show (64:Nat)≠60 by decide),put_otherX (show (12:Nat)≠60 by decide),put_otherX (show (13:Nat)≠60 by decide)];exact hJ))
    clear hsz HSZ
    go_simp
   ·have HSZ:a.tmps.size=151:=hsz
    have e1:=slot_of (a:=a) (s:=60) (v:=.pointer (some ⟨g,7,none⟩)) (hv 12 (by kernel_rfl))
    have k7:=(show W.cell? ⟨g,7,none⟩=some (.bool q.del) from (Q10.out.untouched hC NQ5.out).cell 7)
    refine step_run (wanted_none rfl) (v:=.bool q.del) (w':=W) ?_ (hK _ _ hC trivial rfl (by simp only [put_otherX (show (62:Nat)≠61 by decide),put_otherX (show (47:Nat)≠61 by decide),put_otherX (show (63:Nat)≠61 by decide),put_otherX (show (64:Nat)≠61 by decide),put_otherX (show (12:Nat)≠61 by decide),put_otherX (show (13:Nat)≠61 by decide)];exact hJ))
    clear hsz HSZ
    go_simp
   ·have HSZ:a.tmps.size=151:=hsz
    have e1:=slot_of (a:=a) (s:=48) (v:=.pointer (some ⟨rg,0,none⟩)) (hv 0 (by kernel_rfl))
    have e2:=slot_of (a:=a) (s:=50) (v:=.string (strOf nl)) (hv 2 (by kernel_rfl))
    have e3:=slot_of (a:=a) (s:=51) (v:=.agg (rRow [] hx [])) (hv 3 (by kernel_rfl))
    have e4:=slot_of (a:=a) (s:=59) (v:=.string (strOf vl)) (hv 11 (by kernel_rfl))
    have e5:=slot_of (a:=a) (s:=61) (v:=.bool q.del) (hv 13 (by kernel_rfl))
    have M:=hJ.no hL
    have hsz9:base≤W.heap.size:=by have:=hC.size;have:=HB10.out;omega
    have cs:=refSealOneX M KL.out [] hx [] nl vl q.del (by have:=NL.out;omega) (by have:=VL.out;omega)
    rw [SEK.out,SEH.out,SES.out,SEX.out,SEN.out,SEL.out] at cs
    refine step_callx 9 #[.pointer (some ⟨rg,0,none⟩),.string (strOf nl),.agg (rRow [] hx []),.string (strOf vl),.bool q.del] (wanted_none rfl) (w':=W) ?_ (cs.mono fun e W2 hh=>?_)
    ·clear hsz HSZ
     go_simp
    ·obtain ⟨rfl,G5,hV,hGr,hU⟩:=hh
     exact ⟨_,rfl,hK _ _ (hC.trans (Grew.refl _ _) hU) trivial trivial (by simp only [put_otherX (show (47:Nat)≠62 by decide),put_otherX (show (63:Nat)≠62 by decide),put_otherX (show (64:Nat)≠62 by decide),put_otherX (show (12:Nat)≠62 by decide),put_otherX (show (13:Nat)≠62 by decide),put_selfX (show 62 < a.tmps.size by rw [HSZ];omega)];exact hJ.to_x hL G5 ⟨hV,fun k hk=>(hGr k hk).imp List.mem_singleton.1 (fun h=>Nat.le_trans hsz9 h)⟩ (fun k h1 h2=>hU.block k h2 (fun hm=>by have:=List.mem_singleton.1 hm;have:=RGB.out;omega)) (fun k hm=>(hGr k hm).imp (fun h=>by have:=List.mem_singleton.1 h;have:=RGB.out;omega) (fun h=>h)))⟩
   ·have HSZ:a.tmps.size=151:=hsz
    refine step_run (wanted_none rfl) (v:=a.tmps.getD 62 undef) (w':=W) ?_ (hK _ _ hC trivial trivial (by simp only [put_otherX (show (62:Nat)≠47 by decide),put_otherX (show (63:Nat)≠47 by decide),put_otherX (show (64:Nat)≠47 by decide),put_otherX (show (12:Nat)≠47 by decide),put_otherX (show (13:Nat)≠47 by decide),put_selfX (show 47 < a.tmps.size by rw [HSZ];omega)];exact hJ.to_mv (hW 14 (by kernel_rfl))))
    clear hsz HSZ
    go_simp
   ·have HSZ:a.tmps.size=151:=hsz
    obtain ⟨a2,q2,X2,k1,k2,k3,k4,k5,k6,k7,k8⟩:=hJ.ex
    have e1:=slot_of (k2 (hW 15 (by kernel_rfl)))
    refine step_run (wanted_none rfl) (v:=.agg (soRW EK EH ES a2)) (w':=W) ?_ (hK _ _ hC trivial trivial (by simp only [put_otherX (show (62:Nat)≠63 by decide),put_otherX (show (47:Nat)≠63 by decide),put_otherX (show (64:Nat)≠63 by decide),put_otherX (show (12:Nat)≠63 by decide),put_otherX (show (13:Nat)≠63 by decide),put_selfX (show 63 < a.tmps.size by rw [HSZ];omega)];exact hJ.to_s0 (hW 15 (by kernel_rfl)) a2 (k2 (hW 15 (by kernel_rfl))) (fun _ _ _=>rfl)))
    (try unfold soRW);unfold soVX at e1
    clear hsz HSZ k1 k2 k3 k4 k5 k6 k7 k8
    go_simp
   ·have HSZ:a.tmps.size=151:=hsz
    obtain ⟨a2,q2,X2,k1,k2,k3,k4,k5,k6,k7,k8⟩:=hJ.ex
    have e1:=slot_of (k2 (hW 15 (by kernel_rfl)))
    refine step_run (wanted_none rfl) (v:=.int .i64 EX) (w':=W) ?_ (hK _ _ hC trivial trivial (by simp only [put_otherX (show (62:Nat)≠64 by decide),put_otherX (show (47:Nat)≠64 by decide),put_otherX (show (63:Nat)≠64 by decide),put_otherX (show (12:Nat)≠64 by decide),put_otherX (show (13:Nat)≠64 by decide),put_selfX (show 64 < a.tmps.size by rw [HSZ];omega)];exact hJ.to_s1 (hW 15 (by kernel_rfl))))
    (try unfold soRW);unfold soVX at e1
    clear hsz HSZ k1 k2 k3 k4 k5 k6 k7 k8
    go_simp
   ·have HSZ:a.tmps.size=151:=hsz
    have hBW:base≤W.heap.size:=(by have:=hC.size;have:=HB10.out;omega)
    refine step_run (wanted_none rfl) (v:=.pointer (some ⟨W.heap.size,0,none⟩)) (w':=W.alloc (.cells (rRow [] hd0 []) 36)) ?_ (hK _ _ (hC.trans (Grew.refl _ _) (Untouched.alloc _)) trivial trivial (by simp only [put_otherX (show (62:Nat)≠12 by decide),put_otherX (show (47:Nat)≠12 by decide),put_otherX (show (63:Nat)≠12 by decide),put_otherX (show (64:Nat)≠12 by decide),put_otherX (show (13:Nat)≠12 by decide),put_selfX (show 12 < a.tmps.size by rw [HSZ];omega)];exact hJ.to_al hL hBW rfl (fun h=>(RS.foot id rg Kz [] []).keep h (Untouched.alloc (F:=[]) _) (fun _ _=>by simp)) (fun G h=>⟨h.keep (Untouched.alloc (F:=[]) _) (fun _ _=>by simp),fun k hk=>(RS.foot id rg Kz EN EL).lt h.1 k hk⟩)))
    clear hsz HSZ hBW
    go_simp
   ·have HSZ:a.tmps.size=151:=hsz
    obtain ⟨a2,q2,X2,k1,k2,k3,k4,k5,k6,k7,k8⟩:=hJ.ex
    obtain ⟨m1,m2,m3,m4⟩:=k6 (hW 18 (by kernel_rfl))
    have e1:=eval_of m1
    have e2:=eval_of (k3 (hW 16 (by kernel_rfl)))
    refine step_put_row rfl 36 _ _ rfl q2 (soRW EK EH ES a2) e1 e2 36 X2 m3 (iRr _ _ _) (m4.trans (rRow_size _ _ _).symm) (rRow_one _ _ _) ?_
    intro W' k9 g9 s9
    exact hK _ _ (hC.trans (F':=[q2]) (fun k hk=>.inr (by rw [List.mem_singleton.1 hk];have:=HB10.out;omega)) (Untouched.of_grown (F:=[q2]) g9 (fun k hk=>by injection hk with hk;subst hk;exact List.mem_singleton.2 rfl))) trivial trivial (by simp only [put_none];exact hJ.to_st (hW 16 (by kernel_rfl)) (hW 18 (by kernel_rfl)) m1 (k3 (hW 16 (by kernel_rfl))) (rRow_size _ _ _) k9 (fun G h hq=>h.keep (Untouched.of_grown (F:=[q2]) g9 (fun k hk=>by injection hk with hk;subst hk;exact List.mem_singleton.2 rfl)) (fun k hk hm=>hq (by rw [← List.mem_singleton.1 hm];exact hk))))
   ·have HSZ:a.tmps.size=151:=hsz
    obtain ⟨a2,q2,X2,k1,k2,k3,k4,k5,k6,k7,k8⟩:=hJ.ex
    have e1:=slot_of (k4 (hW 17 (by kernel_rfl)))
    refine step_run (wanted_none rfl) (v:=.int .i64 EX) (w':=W) ?_ (hK _ _ hC trivial trivial (by simp only [put_otherX (show (62:Nat)≠13 by decide),put_otherX (show (47:Nat)≠13 by decide),put_otherX (show (63:Nat)≠13 by decide),put_otherX (show (64:Nat)≠13 by decide),put_otherX (show (12:Nat)≠13 by decide),put_selfX (show 13 < a.tmps.size by rw [HSZ];omega)];exact hJ.to_ae (hW 17 (by kernel_rfl))))
    clear hsz HSZ k1 k2 k3 k4 k5 k6 k7 k8
    go_simp
  ·intro f W hC hv L hL hJ'
   obtain ⟨aE,hJ,hfr⟩:=hJ'
   obtain ⟨a2,q2,X2,k1,k2,k3,k4,k5,k6,k7,k8⟩:=hJ.ex
   obtain ⟨-,jP⟩:=k1 (hL 14 (by decide))
   obtain ⟨m1,m2,m3,m4⟩:=k6 (hL 18 (by decide))
   have m7:=k7 (hL 19 (by decide))
   have m8:=k8 (hL 14 (by decide)) (hL 18 (by decide))
   rw [m7] at m3
   have hfa:f 12 = .pointer (some ⟨q2,0,none⟩):=by rw [← hfr 12];exact m1
   have hfe:f 13 = .int .i64 EX:=by rw [← hfr 13];exact k5 (hL 20 (by decide))
   simp only [framed,List.foldl_cons,List.foldl_nil,List.setIfInBounds_toArray,List.set_cons_succ,List.set_cons_zero,hfa,hfe]
   clear hv hJ hfr hL k1 k2 k3 k4 k5 k6 k7 k8 m1 m4 m7 hfa hfe
   have R11:=hid_ jP
   have E11:=hid_ (show Bk W q2 36 (rRow EK EH ES) from m3)
   have U11:=hid_ hC
   obtain ⟨w11,hw11⟩:∃ x,x=W:=⟨_,rfl⟩
   subst hw11
   obtain ⟨ge,hge⟩:∃ x,q2=x:=⟨_,rfl⟩
   rw [hge] at E11 m2 m8 ⊢
   have GE:=hid_ (show base≤ge from m2)
   have GEN:=hid_ (show ge∉a2 from m8)
   have BF:=hid_ (show ∀ k∈F5,k < base from fun k hk=>by have:=M10.out.lt k hk;have:=HB10.out;omega)
   have X11:=hid_ (show Below w2.heap.size w2 w11 from M10.out.below.trans (U11.out.below (fun k hk=>by rw [List.mem_singleton.1 hk];exact PRG.out.1) M10.out.below.size))
   have M11:=hid_ (show MineX w2 id v sp nm kn Kz (oneN id nl hx) (oneL id Kz nl hx q.del vl) F5 w11 from ⟨(VS.foot id v sp nm kn Kz _ _).keep M10.out.vs U11.out (fun k hk hm=>NRF5.out (by rw [← List.mem_singleton.1 hm];exact hk)),M10.out.own,X11.out⟩)
   have ON11:=hid_ (ON10.out.untouched U11.out (fun k hk=>by rw [List.mem_singleton.1 hk];exact PRG.out.2))
   have R11b:=hid_ (R10.out.untouched U11.out NR5.out)
   have RN11:=hid_ (rdf_other RN10.out U11.out (fun a e hm=>by have h1:=List.mem_singleton.1 hm;have h2:=NRA.out a e;have h3:=PRG.out.2;omega))
   have DIS:=hid_ (show ∀ k∈a2,k∉F5 from fun k hk hm=>(R11.out.2 k hk).elim (fun h=>NRF5.out (h ▸ hm)) (fun h=>by have:=BF.out k hm;omega))
   rw [SEN.out,SEL.out] at M11
   clear hC jP m2 m3 m8 hge U11 M10 RG10 Q10 R10 H10 J10 ON10 RN10 NQ5 NJ5 NR5 NRF5 ZN ZV
   refine hK9 _ _ ?_
   clear hK9 K9
   go_upto_region 6 with fail
   rename_i K9 hK9
   obtain ⟨ze,zn,zc,zd,zpa,pA,zpc⟩:=h
   obtain ⟨tA,htA⟩:∃ x,s=x:=⟨_,rfl⟩
   rw [htA] at R11b
   clear htA
   have S11:=hid_ (show Bk w11 (g + 1) 36 (rRow Ke ⟨ze,zn,zc,zd,zpa,pA,zpc⟩ tA) from R11b.out)
   obtain ⟨ee,en,ec,ed,epa,ep,epc⟩:=EH
   obtain ⟨nA,hnA⟩:∃ n,pA.length=n:=⟨_,rfl⟩
   obtain ⟨mA,hmA⟩:∃ n,tA.length=n:=⟨_,rfl⟩
   obtain ⟨nB,hnB⟩:∃ n,n=min nA 200:=⟨_,rfl⟩
   obtain ⟨mB,hmB⟩:∃ n,n=min mA 200:=⟨_,rfl⟩
   have SZA:=hid_ (show (strOf pA).size=nA by rw [strOf_size,hnA])
   have SZT:=hid_ (show (strOf tA).size=mA by rw [strOf_size,hmA])
   have HMA:=hid_ (fun W ts t=>(show (Builtin.min_ ts t #[.int .i64 (nA:Int),.int .i64 200]).run Tryz.prog W = .ok (.int .i64 (nB:Int)) W from run_min2 nA 200 nB hnB W ts t))
   have HMT:=hid_ (fun W ts t=>(show (Builtin.min_ ts t #[.int .i64 (mA:Int),.int .i64 200]).run Tryz.prog W = .ok (.int .i64 (mB:Int)) W from run_min2 mA 200 mB hmB W ts t))
   obtain ⟨pB,hpB⟩:∃ x,pA.take nB=x:=⟨_,rfl⟩
   obtain ⟨tB,htB⟩:∃ x,tA.take mB=x:=⟨_,rfl⟩
   have HSA:=hid_ (fun W=>hpB ▸ str_to pA nA nB hnA (by omega) W)
   have HST:=hid_ (fun W=>htB ▸ str_to tA mA mB hmA (by omega) W)
   have PBL:=hid_ (show pB.length≤200 by rw [← hpB,List.length_take];omega)
   have TBL:=hid_ (show tB.length≤200 by rw [← htB,List.length_take];omega)
   clear hnA hmA hnB hmB hpB htB R11b
   refine region_byJF [65,66,67,68,69,70,71,72,73,74,75,76,77,78,79,80] (fun W=>Untouched [g + 1] w11 W) (fun _ _=>True) (fun jR_ vR_ (_:World)=>(match jR_ with | 0=>vR_ = .pointer (some ⟨g + 1,5,none⟩) | 1=>vR_ = .string (strOf pA) | 2=>vR_ = .pointer (some ⟨g + 1,5,none⟩) | 3=>vR_ = .string (strOf pA) | 4=>vR_ = .int .i64 (nA:Int) | 5=>vR_ = .int .i64 (nB:Int) | 6=>vR_ = .string (strOf pB) | 7=>vR_ = .pointer (some ⟨g + 1,6,none⟩) | 8=>vR_ = .string (strOf tA) | 9=>vR_ = .pointer (some ⟨g + 1,6,none⟩) | 10=>vR_ = .string (strOf tA) | 11=>vR_ = .int .i64 (mA:Int) | 12=>vR_ = .int .i64 (mB:Int) | 13=>vR_ = .string (strOf tB) | 14=>vR_ = .pointer (some ⟨g + 1,5,none⟩) | 16=>vR_ = .pointer (some ⟨g + 1,6,none⟩) | _=>True:Prop)) (fun D _ W=>RwJ (g + 1) 36 [1,3,8,10] 15 17 (fun b1 b2=>rRow Ke ⟨ze,zn,zc,zd,zpa,if b1 then pB else pA,zpc⟩ (if b2 then tB else tA)) D W) (by kernel_rfl) (by kernel_rfl) (by kernel_rfl) (by kernel_rfl) (fun j v w w' hT hr=>?_) (fun j v w hlt hj _=>?_) ⟨rfl,rfl,rfl,Nat.le_refl _,fun _ _ _=>rfl⟩ ?_ ⟨fun e=>Bool.noConfusion e,fun e=>Bool.noConfusion e,S11.out.drew⟩ ?_
   ·exact hr
   ·rcases j with _ | _ | _ | _ | _ | _ | _ | _ | _ | _ | _ | _ | _ | _ | _ | _ | _ | _ | j
    all_goals first
     | (exfalso;simp [dstOf] at hj;done)
     | trivial
   ·refine ⟨?_,?_,?_,?_,?_,?_,?_,?_,?_,?_,?_,?_,?_,?_,?_,?_,?_,?_,trivial⟩
    all_goals intro D a W hC hd hsz hf hv hJ hL hW K hK
    ·clear hsz
     have e1:=slot_of (a:=a) (s:=5) (v:=.pointer (some ⟨g + 1,0,none⟩)) (hf 5 (by kernel_rfl))
     refine step_run (wanted_none rfl) (v:=.pointer (some ⟨g + 1,5,none⟩)) (w':=W) ?_ (hK _ _ hC trivial rfl (hJ.same 0 (by decide)))
     go_simp
    ·clear hsz
     have e1:=slot_of (a:=a) (s:=65) (v:=.pointer (some ⟨g + 1,5,none⟩)) (hv 0 (by kernel_rfl))
     obtain ⟨k0,k1,k2,k3,k4,k5,k6⟩:=rr_cells (show Bk W (g + 1) 36 (rRow Ke ⟨ze,zn,zc,zd,zpa,pA,zpc⟩ tA) from hJ.read (i:=1) (by simp) hL)
     refine step_run (wanted_none rfl) (v:=.string (strOf pA)) (w':=W) ?_ (hK _ _ hC trivial rfl (hJ.same 1 (by decide)))
     go_simp
    ·clear hsz
     have e1:=slot_of (a:=a) (s:=5) (v:=.pointer (some ⟨g + 1,0,none⟩)) (hf 5 (by kernel_rfl))
     refine step_run (wanted_none rfl) (v:=.pointer (some ⟨g + 1,5,none⟩)) (w':=W) ?_ (hK _ _ hC trivial rfl (hJ.same 2 (by decide)))
     go_simp
    ·clear hsz
     have e1:=slot_of (a:=a) (s:=67) (v:=.pointer (some ⟨g + 1,5,none⟩)) (hv 2 (by kernel_rfl))
     obtain ⟨k0,k1,k2,k3,k4,k5,k6⟩:=rr_cells (show Bk W (g + 1) 36 (rRow Ke ⟨ze,zn,zc,zd,zpa,pA,zpc⟩ tA) from hJ.read (i:=3) (by simp) hL)
     refine step_run (wanted_none rfl) (v:=.string (strOf pA)) (w':=W) ?_ (hK _ _ hC trivial rfl (hJ.same 3 (by decide)))
     go_simp
    ·clear hsz
     have e1:=slot_of (a:=a) (s:=68) (v:=.string (strOf pA)) (hv 3 (by kernel_rfl))
     have hs:=SZA.out
     refine step_run (wanted_none rfl) (v:=.int .i64 (nA:Int)) (w':=W) ?_ (hK _ _ hC trivial rfl (hJ.same 4 (by decide)))
     go_simp
    ·clear hsz
     have e1:=slot_of (a:=a) (s:=69) (v:=.int .i64 (nA:Int)) (hv 4 (by kernel_rfl))
     have hm:=HMA.out W
     refine step_run (wanted_none rfl) (v:=.int .i64 (nB:Int)) (w':=W) ?_ (hK _ _ hC trivial rfl (hJ.same 5 (by decide)))
     go_simp
    ·clear hsz
     have e1:=slot_of (a:=a) (s:=66) (v:=.string (strOf pA)) (hv 1 (by kernel_rfl))
     have e2:=slot_of (a:=a) (s:=70) (v:=.int .i64 (nB:Int)) (hv 5 (by kernel_rfl))
     have hs:=HSA.out W
     refine step_run (wanted_none rfl) (v:=.string (strOf pB)) (w':=W) ?_ (hK _ _ hC trivial rfl (hJ.same 6 (by decide)))
     go_simp
    ·clear hsz
     have e1:=slot_of (a:=a) (s:=5) (v:=.pointer (some ⟨g + 1,0,none⟩)) (hf 5 (by kernel_rfl))
     refine step_run (wanted_none rfl) (v:=.pointer (some ⟨g + 1,6,none⟩)) (w':=W) ?_ (hK _ _ hC trivial rfl (hJ.same 7 (by decide)))
     go_simp
    ·clear hsz
     have e1:=slot_of (a:=a) (s:=72) (v:=.pointer (some ⟨g + 1,6,none⟩)) (hv 7 (by kernel_rfl))
     obtain ⟨k0,k1,k2,k3,k4,k5,k6⟩:=rr_cells (show Bk W (g + 1) 36 (rRow Ke ⟨ze,zn,zc,zd,zpa,pA,zpc⟩ tA) from hJ.read (i:=8) (by simp) hL)
     refine step_run (wanted_none rfl) (v:=.string (strOf tA)) (w':=W) ?_ (hK _ _ hC trivial rfl (hJ.same 8 (by decide)))
     go_simp
    ·clear hsz
     have e1:=slot_of (a:=a) (s:=5) (v:=.pointer (some ⟨g + 1,0,none⟩)) (hf 5 (by kernel_rfl))
     refine step_run (wanted_none rfl) (v:=.pointer (some ⟨g + 1,6,none⟩)) (w':=W) ?_ (hK _ _ hC trivial rfl (hJ.same 9 (by decide)))
     go_simp
    ·clear hsz
     have e1:=slot_of (a:=a) (s:=74) (v:=.pointer (some ⟨g + 1,6,none⟩)) (hv 9 (by kernel_rfl))
     obtain ⟨k0,k1,k2,k3,k4,k5,k6⟩:=rr_cells (show Bk W (g + 1) 36 (rRow Ke ⟨ze,zn,zc,zd,zpa,pA,zpc⟩ tA) from hJ.read (i:=10) (by simp) hL)
     refine step_run (wanted_none rfl) (v:=.string (strOf tA)) (w':=W) ?_ (hK _ _ hC trivial rfl (hJ.same 10 (by decide)))
     go_simp
    ·clear hsz
     have e1:=slot_of (a:=a) (s:=75) (v:=.string (strOf tA)) (hv 10 (by kernel_rfl))
     have hs:=SZT.out
     refine step_run (wanted_none rfl) (v:=.int .i64 (mA:Int)) (w':=W) ?_ (hK _ _ hC trivial rfl (hJ.same 11 (by decide)))
     go_simp
    ·clear hsz
     have e1:=slot_of (a:=a) (s:=76) (v:=.int .i64 (mA:Int)) (hv 11 (by kernel_rfl))
     have hm:=HMT.out W
     refine step_run (wanted_none rfl) (v:=.int .i64 (mB:Int)) (w':=W) ?_ (hK _ _ hC trivial rfl (hJ.same 12 (by decide)))
     go_simp
    ·clear hsz
     have e1:=slot_of (a:=a) (s:=73) (v:=.string (strOf tA)) (hv 8 (by kernel_rfl))
     have e2:=slot_of (a:=a) (s:=77) (v:=.int .i64 (mB:Int)) (hv 12 (by kernel_rfl))
     have hs:=HST.out W
     refine step_run (wanted_none rfl) (v:=.string (strOf tB)) (w':=W) ?_ (hK _ _ hC trivial rfl (hJ.same 13 (by decide)))
     go_simp
    ·clear hsz
     have e1:=slot_of (a:=a) (s:=5) (v:=.pointer (some ⟨g + 1,0,none⟩)) (hf 5 (by kernel_rfl))
     refine step_run (wanted_none rfl) (v:=.pointer (some ⟨g + 1,5,none⟩)) (w':=W) ?_ (hK _ _ hC trivial rfl (hJ.same 14 (by decide)))
     go_simp
    ·clear hsz
     have e1:=slot_of (a:=a) (s:=79) (v:=.pointer (some ⟨g + 1,5,none⟩)) (hv 14 (by kernel_rfl))
     have e2:=slot_of (a:=a) (s:=71) (v:=.string (strOf pB)) (hv 6 (by kernel_rfl))
     have hc:=(show W.cell? ⟨g + 1,5,none⟩=some (.string (strOf _)) from hJ.2.2.cell 5)
     have hfz:=hJ.2.2.frozen 5
     refine step_skip (wanted_none rfl) (w':=(W.setCell ⟨g + 1,5,none⟩ (.string (strOf pB)))) ?_ (hK undef _ (hC.trans (Grew.refl _ _) (Untouched.set (F:=[g + 1]) (g + 1) 5 (List.mem_singleton.2 rfl) _)) trivial trivial (hJ.st1 (by decide) (fun i hi=>by simp only [List.mem_cons,List.not_mem_nil,or_false] at hi;rcases hi with rfl | rfl | rfl | rfl <;> exact hW _ (by kernel_rfl)) (hJ.2.2.set_ 5 _)))
     go_simp
    ·clear hsz
     have e1:=slot_of (a:=a) (s:=5) (v:=.pointer (some ⟨g + 1,0,none⟩)) (hf 5 (by kernel_rfl))
     refine step_run (wanted_none rfl) (v:=.pointer (some ⟨g + 1,6,none⟩)) (w':=W) ?_ (hK _ _ hC trivial rfl (hJ.same 16 (by decide)))
     go_simp
    ·clear hsz
     have e1:=slot_of (a:=a) (s:=80) (v:=.pointer (some ⟨g + 1,6,none⟩)) (hv 16 (by kernel_rfl))
     have e2:=slot_of (a:=a) (s:=78) (v:=.string (strOf tB)) (hv 13 (by kernel_rfl))
     have hc:=(show W.cell? ⟨g + 1,6,none⟩=some (.string (strOf _)) from hJ.2.2.cell 6)
     have hfz:=hJ.2.2.frozen 6
     refine step_skip (wanted_none rfl) (w':=(W.setCell ⟨g + 1,6,none⟩ (.string (strOf tB)))) ?_ (hK undef _ (hC.trans (Grew.refl _ _) (Untouched.set (F:=[g + 1]) (g + 1) 6 (List.mem_singleton.2 rfl) _)) trivial trivial (hJ.st2 (by decide) (fun i hi=>by simp only [List.mem_cons,List.not_mem_nil,or_false] at hi;rcases hi with rfl | rfl | rfl | rfl <;> exact hW _ (by kernel_rfl)) (hJ.2.2.set_ 6 _)))
     go_simp
   ·intro f w12 hC12 hv12 D6 hD6 hJ6
    obtain ⟨a6,hJ,hs⟩:=hJ6
    simp only [framed,List.foldl_cons,List.foldl_nil,List.setIfInBounds_toArray,List.set_cons_succ,List.set_cons_zero]
    have S12:=hid_ (show Bk w12 (g + 1) 36 (rRow Ke ⟨ze,zn,zc,zd,zpa,pB,zpc⟩ tB) from hJ.last (hD6 15 (by decide)) (hD6 17 (by decide)))
    have U12:=hid_ hC12
    clear hv12 hD6 hJ hs hC12 SZA SZT HMA HMT HSA HST S11
    refine hK9 _ _ ?_
    clear hK9 K9
    obtain ⟨ZB,hZB⟩:∃ x,List.replicate 32 (0:UInt8)=x:=⟨_,rfl⟩
    have ZBL:=hid_ (show ZB.length=32 by rw [← hZB];exact List.length_replicate)
    have HMK:=hid_ (show ∀ W:World,(Instr.makeSlice 23 (.int .i64 32) (.int .i64 32)).run Tryz.prog W = .ok (.slice (some ⟨W.heap.size,0,none⟩) 32 32) (W.alloc (.cells (rowOf ZB) 5)) from fun W=>hZB ▸ mk8 32 (by omega) W)
    obtain ⟨KT,hKT⟩:∃ x,Ke ++ ZB=x:=⟨_,rfl⟩
    obtain ⟨KZ,hKZ⟩:∃ x,KT.take 32=x:=⟨_,rfl⟩
    obtain ⟨nT,hnT⟩:∃ x,KT.length=x:=⟨_,rfl⟩
    have APK:=hid_ (show strOf Ke ++ strOf ZB=strOf KT∧(strOf Ke).size + (strOf ZB).size≤9223372036854775807 from ⟨by rw [strOf_append,hKT],by rw [strOf_size,strOf_size,ZBL.out];have:=KEB.out;omega⟩)
    have nT32:32≤nT:=by rw [← hnT,← hKT,List.length_append,ZBL.out];omega
    have HSK:=hid_ (show ∀ W,(Instr.slice 9 (.string (strOf KT)) none (some (.int .i64 32)) none).run Tryz.prog W = .ok (.string (strOf KZ)) W from fun W=>hKZ ▸ str_to KT nT 32 hnT nT32 W)
    have KZL:=hid_ (show KZ.length=32 by rw [← hKZ,List.length_take,hnT];omega)
    clear hZB hKT hKZ hnT nT32
    go_upto_region 7 with fail
    rename_i K9 hK9
    refine region_byJF [81,82,83,84,85,86,87] (fun W=>Untouched [g + 1] w12 W) (fun W W2=>Untouched [g + 1] W W2) (Rg7 (g + 1) Ke ZB KT KZ) (fun D _ W=>RwJ (g + 1) 36 [1] 7 1000 (fun b1 _=>rRow (if b1 then KZ else Ke) ⟨ze,zn,zc,zd,zpa,pB,zpc⟩ tB) D W) (by kernel_rfl) (by kernel_rfl) (by kernel_rfl) (by kernel_rfl) (fun j v w w' hT hr=>?_) (fun j v w hlt hj _=>?_) ⟨rfl,rfl,rfl,Nat.le_refl _,fun _ _ _=>rfl⟩ ?_ ⟨fun e=>Bool.noConfusion e,fun e=>Bool.noConfusion e,S12.out.drew⟩ ?_
    ·exact Rg7.any hT hr
    ·rcases j with _ | _ | _ | _ | _ | _ | _ | _ | j
     all_goals first
      | (exfalso;simp [dstOf] at hj;done)
      | trivial
    ·refine ⟨?_,?_,?_,?_,?_,?_,?_,?_,trivial⟩
     all_goals intro D a W hC hd hsz hf hv hJ hL hW K hK
     ·clear hsz
      have e1:=slot_of (a:=a) (s:=5) (v:=.pointer (some ⟨g + 1,0,none⟩)) (hf 5 (by kernel_rfl))
      refine step_run (wanted_none rfl) (v:=.pointer (some ⟨g + 1,0,none⟩)) (w':=W) ?_ (hK _ _ hC (Untouched.refl _ _) rfl (hJ.same 0 (by decide)))
      go_simp
     ·clear hsz
      have e1:=slot_of (a:=a) (s:=81) (v:=.pointer (some ⟨g + 1,0,none⟩)) (hv 0 (by kernel_rfl))
      obtain ⟨k0,k1,k2,k3,k4,k5,k6⟩:=rr_cells (show Bk W (g + 1) 36 (rRow Ke ⟨ze,zn,zc,zd,zpa,pB,zpc⟩ tB) from hJ.read (i:=1) (by simp) hL)
      refine step_run (wanted_none rfl) (v:=.string (strOf Ke)) (w':=W) ?_ (hK _ _ hC (Untouched.refl _ _) rfl (hJ.same 1 (by decide)))
      go_simp
     ·clear hsz
      have hm:=HMK.out W
      refine step_run (wanted_none rfl) (v:=.slice (some ⟨W.heap.size,0,none⟩) 32 32) (w':=W.alloc (.cells (rowOf ZB) 5)) ?_ (hK _ _ (hC.trans (Grew.refl _ _) (Untouched.alloc _)) (Untouched.alloc _) ⟨_,rfl,Bk.new _ _ _,fun hm=>by have h1:=List.mem_singleton.1 hm;have h2:=hC.size;have h3:=S12.out.lt;omega⟩ (hJ.mv 2 (by decide) (fun _ k=>k.alloc _)))
      go_simp
     ·clear hsz
      obtain ⟨b,hb1,hb2,hb3⟩:=hv 2 (by kernel_rfl)
      have e1:=slot_of (a:=a) (s:=83) (v:=.slice (some ⟨b,0,none⟩) 32 32) hb1
      have hcv:(convert 23 9 (.slice (some ⟨b,0,none⟩) 32 32)).run Tryz.prog W = .ok (.string (strOf ZB)) W:=conv_strn (hb2.rd (B:=W.heap.size) hb2.lt) 32 32 ZBL.out
      clear hb1 hb2 hb3
      refine step_run (wanted_none rfl) (v:=.string (strOf ZB)) (w':=W) ?_ (hK _ _ hC (Untouched.refl _ _) rfl (hJ.same 3 (by decide)))
      go_simp
     ·clear hsz
      have e1:=slot_of (a:=a) (s:=82) (v:=.string (strOf Ke)) (hv 1 (by kernel_rfl))
      have e2:=slot_of (a:=a) (s:=84) (v:=.string (strOf ZB)) (hv 3 (by kernel_rfl))
      have ha:=APK.out.1
      have hb:=APK.out.2
      refine step_run (wanted_none rfl) (v:=.string (strOf KT)) (w':=W) ?_ (hK _ _ hC (Untouched.refl _ _) rfl (hJ.same 4 (by decide)))
      go_simp
     ·clear hsz
      have e1:=slot_of (a:=a) (s:=85) (v:=.string (strOf KT)) (hv 4 (by kernel_rfl))
      have hs:=HSK.out W
      refine step_run (wanted_none rfl) (v:=.string (strOf KZ)) (w':=W) ?_ (hK _ _ hC (Untouched.refl _ _) rfl (hJ.same 5 (by decide)))
      go_simp
     ·clear hsz
      have e1:=slot_of (a:=a) (s:=5) (v:=.pointer (some ⟨g + 1,0,none⟩)) (hf 5 (by kernel_rfl))
      refine step_run (wanted_none rfl) (v:=.pointer (some ⟨g + 1,0,none⟩)) (w':=W) ?_ (hK _ _ hC (Untouched.refl _ _) rfl (hJ.same 6 (by decide)))
      go_simp
     ·clear hsz
      have e1:=slot_of (a:=a) (s:=87) (v:=.pointer (some ⟨g + 1,0,none⟩)) (hv 6 (by kernel_rfl))
      have e2:=slot_of (a:=a) (s:=86) (v:=.string (strOf KZ)) (hv 5 (by kernel_rfl))
      have hc:=(show W.cell? ⟨g + 1,0,none⟩=some (.string (strOf _)) from hJ.2.2.cell 0)
      have hfz:=hJ.2.2.frozen 0
      refine step_skip (wanted_none rfl) (w':=(W.setCell ⟨g + 1,0,none⟩ (.string (strOf KZ)))) ?_ (hK undef _ (hC.trans (Grew.refl _ _) (Untouched.set (F:=[g + 1]) (g + 1) 0 (List.mem_singleton.2 rfl) _)) (Untouched.set (F:=[g + 1]) (g + 1) 0 (List.mem_singleton.2 rfl) _) trivial (hJ.st1 (by decide) (fun i hi=>by simp only [List.mem_cons,List.not_mem_nil,or_false] at hi;rcases hi with rfl <;> exact hW _ (by kernel_rfl)) (hJ.2.2.set_ 0 _)))
      go_simp
    ·intro f w13 hC13 hv13 D7 hD7 hJ7
     obtain ⟨a7,hJ,hs⟩:=hJ7
     obtain ⟨b83,f83,hz1,hz2⟩:=hv13 2 (by decide)
     have f83b:f 83 = .slice (some ⟨b83,0,none⟩) 32 32:=f83
     simp only [framed,List.foldl_cons,List.foldl_nil,List.setIfInBounds_toArray,List.set_cons_succ,List.set_cons_zero]
     have S13:=hid_ (show Bk w13 (g + 1) 36 (rRow KZ ⟨ze,zn,zc,zd,zpa,pB,zpc⟩ tB) from by have h:=hJ.2.2;rw [hD7 7 (by decide)] at h;exact h)
     have U13:=hid_ (show Untouched [g + 1] w11 w13 from U12.out.trans (Grew.refl _ _) hC13)
     try rw [f83b]
     clear hv13 hD7 hJ hs hC13 f83 hz1 hz2 f83b S12 U12 HMK APK HSK
     refine hK9 _ _ ?_
     clear hK9 K9
     obtain ⟨r2,hr2⟩:∃ r,ze.tmod 2=r:=⟨_,rfl⟩
     have NGE:=hid_ (show ge∉[g + 1] from fun hm=>by have h1:=List.mem_singleton.1 hm;have h2:=GE.out;have h3:=RGB.out;have h4:=PRG.out.1;have h5:=HS2.out;omega)
     by_cases h2:r2=0
     case' pos =>
      have hq2:(r2 == 0)=true:=by simp [h2]
      clear h2
      have kk1:=(rr_cells S13.out).2.1
      have E13:=E11.out.untouched U13.out NGE.out
      have ek0:=(rr_cells E13).1
      have kk0:=(rr_cells S13.out).1
      have kf0:=S13.out.frozen 0
      clear E13
      go_upto_region 10 with fail
      obtain ⟨w14,hw14⟩:∃ W,w13.setCell ⟨g + 1,0,none⟩ (.string (strOf EK))=W:=⟨_,rfl⟩
      rw [hw14]
      obtain ⟨Kf,hKf⟩:∃ x,EK=x:=⟨_,rfl⟩
      have S14:=hid_ (show Bk w14 (g + 1) 36 (rRow Kf ⟨ze,zn,zc,zd,zpa,pB,zpc⟩ tB) from by rw [← hw14,← hKf];exact S13.out.set_ 0 _)
      have U14:=hid_ (show Untouched [g + 1] w11 w14 from U13.out.trans (Grew.refl _ _) (by rw [← hw14];exact Untouched.set (F:=[g + 1]) (g + 1) 0 (List.mem_singleton.2 rfl) _))
      have KFX:=hid_ (show Kf.length=0∨Kf.length=32 by rw [← hKf,← SEK.out];exact oneK_len _ _ _ _)
      try rw [hKf]
      clear hw14 hKf kk1 ek0 kk0 kf0 hq2 hr2 S13 U13
     case' neg =>
      have hq2:(r2 == 0)=false:=by simp [h2]
      clear h2
      have kk1:=(rr_cells S13.out).2.1
      go_upto_region 10 with fail
      obtain ⟨w14,hw14⟩:∃ W,W=w13:=⟨_,rfl⟩
      rw [← hw14] at S13 U13 ⊢
      clear hw14 kk1 hq2 hr2
      obtain ⟨Kf,hKf⟩:∃ x,KZ=x:=⟨_,rfl⟩
      rw [hKf] at S13 KZL
      have S14:=S13
      have U14:=U13
      have KFX:=hid_ (show Kf.length=0∨Kf.length=32 from .inr KZL.out)
      clear S13 U13 hKf
     all_goals
      obtain ⟨r3,hr3⟩:∃ r,zn.tmod 3=r:=⟨_,rfl⟩
      by_cases h3:r3=0
      case' pos =>
       have hq3:(r3 == 0)=true:=by simp [h3]
       have kk2:=(rr_cells S14.out).2.2.1
       clear h3
       have E14:=hid_ (show Bk w14 ge 36 (rRow EK ⟨ee,en,ec,ed,epa,ep,epc⟩ ES) from E11.out.untouched U14.out NGE.out)
       have ZD11:=hid_ (fun W (hW:Untouched [g + 1] w14 W)=>(show ∀ j,j < (#[.int .i64 ec,.int .i64 ed]:Array Value).size→W.cell? ⟨ge,3 + j,none⟩=(#[.int .i64 ec,.int .i64 ed]:Array Value)[j]? from fun j hj=>by
        have hj2:j < 2:=hj
        rcases j with _ | _ | j
        ·exact (E14.out.untouched hW NGE.out).cell 3
        ·exact (E14.out.untouched hW NGE.out).cell 4
        ·omega))
       go_upto_region 11 with fail
       rename_i K9 hK9
       refine region_byJF [99,100,101,102,103,104,105,106,107,108,109,110] (fun W=>Untouched [g + 1] w14 W) (fun _ _=>True) (fun jR_ vR_ (_:World)=>(match jR_ with | 0=>vR_ = .pointer (some ⟨ge,6,none⟩) | 1=>vR_ = .string (strOf ES) | 2=>vR_ = .pointer (some ⟨ge,1,none⟩) | 3=>vR_ = .int .i64 ee | 4=>vR_ = .pointer (some ⟨ge,2,none⟩) | 5=>vR_ = .int .i64 en | 6=>vR_ = .pointer (some ⟨ge,3,none⟩) | 7=>vR_ = .agg #[.int .i64 ec,.int .i64 ed] | 8=>vR_ = .pointer (some ⟨g + 1,6,none⟩) | 10=>vR_ = .pointer (some ⟨g + 1,1,none⟩) | 12=>vR_ = .pointer (some ⟨g + 1,2,none⟩) | 14=>vR_ = .pointer (some ⟨g + 1,3,none⟩) | _=>True:Prop)) (fun D _ W=>Rw4 (g + 1) 36 9 11 13 15 (fun b1 b2 b3 b4=>rRow Kf ⟨if b2 then ee else ze,if b3 then en else zn,if b4 then ec else zc,if b4 then ed else zd,zpa,pB,zpc⟩ (if b1 then ES else tB)) D W) (by kernel_rfl) (by kernel_rfl) (by kernel_rfl) (by kernel_rfl) (fun j v w w' hT hr=>?_) (fun j v w hlt hj _=>?_) ⟨rfl,rfl,rfl,Nat.le_refl _,fun _ _ _=>rfl⟩ ?_ S14.out.drew ?_
       ·exact hr
       ·rcases j with _ | _ | _ | _ | _ | _ | _ | _ | _ | _ | _ | _ | _ | _ | _ | _ | j
        all_goals first
         | (exfalso;simp [dstOf] at hj;done)
         | trivial
       ·refine ⟨?_,?_,?_,?_,?_,?_,?_,?_,?_,?_,?_,?_,?_,?_,?_,?_,trivial⟩
        all_goals intro D a W hC hd hsz hf hv hJ hL hW K hK
        ·clear hsz
         have e1:=slot_of (a:=a) (s:=12) (v:=.pointer (some ⟨ge,0,none⟩)) (hf 12 (by kernel_rfl))
         refine step_run (wanted_none rfl) (v:=.pointer (some ⟨ge,6,none⟩)) (w':=W) ?_ (hK _ _ hC trivial rfl (Rw4.same hJ 0 (by decide)))
         go_simp
        ·clear hsz
         have e1:=slot_of (a:=a) (s:=99) (v:=.pointer (some ⟨ge,6,none⟩)) (hv 0 (by kernel_rfl))
         obtain ⟨k0,k1,k2,k3,k4,k5,k6⟩:=rr_cells (E14.out.untouched hC NGE.out)
         refine step_run (wanted_none rfl) (v:=.string (strOf ES)) (w':=W) ?_ (hK _ _ hC trivial rfl (Rw4.same hJ 1 (by decide)))
         go_simp
        ·clear hsz
         have e1:=slot_of (a:=a) (s:=12) (v:=.pointer (some ⟨ge,0,none⟩)) (hf 12 (by kernel_rfl))
         refine step_run (wanted_none rfl) (v:=.pointer (some ⟨ge,1,none⟩)) (w':=W) ?_ (hK _ _ hC trivial rfl (Rw4.same hJ 2 (by decide)))
         go_simp
        ·clear hsz
         have e1:=slot_of (a:=a) (s:=101) (v:=.pointer (some ⟨ge,1,none⟩)) (hv 2 (by kernel_rfl))
         obtain ⟨k0,k1,k2,k3,k4,k5,k6⟩:=rr_cells (E14.out.untouched hC NGE.out)
         refine step_run (wanted_none rfl) (v:=.int .i64 ee) (w':=W) ?_ (hK _ _ hC trivial rfl (Rw4.same hJ 3 (by decide)))
         go_simp
        ·clear hsz
         have e1:=slot_of (a:=a) (s:=12) (v:=.pointer (some ⟨ge,0,none⟩)) (hf 12 (by kernel_rfl))
         refine step_run (wanted_none rfl) (v:=.pointer (some ⟨ge,2,none⟩)) (w':=W) ?_ (hK _ _ hC trivial rfl (Rw4.same hJ 4 (by decide)))
         go_simp
        ·clear hsz
         have e1:=slot_of (a:=a) (s:=103) (v:=.pointer (some ⟨ge,2,none⟩)) (hv 4 (by kernel_rfl))
         obtain ⟨k0,k1,k2,k3,k4,k5,k6⟩:=rr_cells (E14.out.untouched hC NGE.out)
         refine step_run (wanted_none rfl) (v:=.int .i64 en) (w':=W) ?_ (hK _ _ hC trivial rfl (Rw4.same hJ 5 (by decide)))
         go_simp
        ·clear hsz
         have e1:=slot_of (a:=a) (s:=12) (v:=.pointer (some ⟨ge,0,none⟩)) (hf 12 (by kernel_rfl))
         refine step_run (wanted_none rfl) (v:=.pointer (some ⟨ge,3,none⟩)) (w':=W) ?_ (hK _ _ hC trivial rfl (Rw4.same hJ 6 (by decide)))
         go_simp
        ·clear hsz
         have e1:=eval_of (a:=a) (s:=105) (v:=.pointer (some ⟨ge,3,none⟩)) (hv 6 (by kernel_rfl))
         exact step_load_sub (wanted_none rfl) 25 (.tmp 105) rfl ge 3 e1 #[.int .i64 ec,.int .i64 ed] (ZD11.out W hC) _ Tryz.underlying25 rfl (iDot2 _ _) (hK _ _ hC trivial rfl (Rw4.same hJ 7 (by decide)))
        ·clear hsz
         have e1:=slot_of (a:=a) (s:=5) (v:=.pointer (some ⟨g + 1,0,none⟩)) (hf 5 (by kernel_rfl))
         refine step_run (wanted_none rfl) (v:=.pointer (some ⟨g + 1,6,none⟩)) (w':=W) ?_ (hK _ _ hC trivial rfl (Rw4.same hJ 8 (by decide)))
         go_simp
        ·clear hsz
         have e1:=slot_of (a:=a) (s:=107) (v:=.pointer (some ⟨g + 1,6,none⟩)) (hv 8 (by kernel_rfl))
         have e2:=slot_of (a:=a) (s:=100) (v:=.string (strOf ES)) (hv 1 (by kernel_rfl))
         have hc6:=(show W.cell? ⟨g + 1,6,none⟩=some (.string (strOf _)) from Bk.cell (show Bk W (g + 1) 36 _ from hJ) 6)
         have hfz6:=Bk.frozen (show Bk W (g + 1) 36 _ from hJ) 6
         refine step_skip (wanted_none rfl) (w':=(W.setCell ⟨g + 1,6,none⟩ (.string (strOf ES)))) ?_ (hK undef _ (hC.trans (Grew.refl _ _) (Untouched.set (F:=[g + 1]) (g + 1) 6 (List.mem_singleton.2 rfl) _)) trivial trivial (Rw4.st1 (D:=D) (by decide) (Bk.set_ (show Bk W (g + 1) 36 _ from hJ) 6 (.string (strOf ES)))))
         go_simp
        ·clear hsz
         have e1:=slot_of (a:=a) (s:=5) (v:=.pointer (some ⟨g + 1,0,none⟩)) (hf 5 (by kernel_rfl))
         refine step_run (wanted_none rfl) (v:=.pointer (some ⟨g + 1,1,none⟩)) (w':=W) ?_ (hK _ _ hC trivial rfl (Rw4.same hJ 10 (by decide)))
         go_simp
        ·clear hsz
         have e1:=slot_of (a:=a) (s:=108) (v:=.pointer (some ⟨g + 1,1,none⟩)) (hv 10 (by kernel_rfl))
         have e2:=slot_of (a:=a) (s:=102) (v:=.int .i64 ee) (hv 3 (by kernel_rfl))
         have hc1:=(show W.cell? ⟨g + 1,1,none⟩=some (.int .i64 _) from Bk.cell (show Bk W (g + 1) 36 _ from hJ) 1)
         have hfz1:=Bk.frozen (show Bk W (g + 1) 36 _ from hJ) 1
         refine step_skip (wanted_none rfl) (w':=(W.setCell ⟨g + 1,1,none⟩ (.int .i64 ee))) ?_ (hK undef _ (hC.trans (Grew.refl _ _) (Untouched.set (F:=[g + 1]) (g + 1) 1 (List.mem_singleton.2 rfl) _)) trivial trivial (Rw4.st2 (D:=D) (by decide) (Bk.set_ (show Bk W (g + 1) 36 _ from hJ) 1 (.int .i64 ee))))
         go_simp
        ·clear hsz
         have e1:=slot_of (a:=a) (s:=5) (v:=.pointer (some ⟨g + 1,0,none⟩)) (hf 5 (by kernel_rfl))
         refine step_run (wanted_none rfl) (v:=.pointer (some ⟨g + 1,2,none⟩)) (w':=W) ?_ (hK _ _ hC trivial rfl (Rw4.same hJ 12 (by decide)))
         go_simp
        ·clear hsz
         have e1:=slot_of (a:=a) (s:=109) (v:=.pointer (some ⟨g + 1,2,none⟩)) (hv 12 (by kernel_rfl))
         have e2:=slot_of (a:=a) (s:=104) (v:=.int .i64 en) (hv 5 (by kernel_rfl))
         have hc2:=(show W.cell? ⟨g + 1,2,none⟩=some (.int .i64 _) from Bk.cell (show Bk W (g + 1) 36 _ from hJ) 2)
         have hfz2:=Bk.frozen (show Bk W (g + 1) 36 _ from hJ) 2
         refine step_skip (wanted_none rfl) (w':=(W.setCell ⟨g + 1,2,none⟩ (.int .i64 en))) ?_ (hK undef _ (hC.trans (Grew.refl _ _) (Untouched.set (F:=[g + 1]) (g + 1) 2 (List.mem_singleton.2 rfl) _)) trivial trivial (Rw4.st3 (D:=D) (by decide) (Bk.set_ (show Bk W (g + 1) 36 _ from hJ) 2 (.int .i64 en))))
         go_simp
        ·clear hsz
         have e1:=slot_of (a:=a) (s:=5) (v:=.pointer (some ⟨g + 1,0,none⟩)) (hf 5 (by kernel_rfl))
         refine step_run (wanted_none rfl) (v:=.pointer (some ⟨g + 1,3,none⟩)) (w':=W) ?_ (hK _ _ hC trivial rfl (Rw4.same hJ 14 (by decide)))
         go_simp
        ·clear hsz
         have e1:=slot_of (a:=a) (s:=110) (v:=.pointer (some ⟨g + 1,3,none⟩)) (hv 14 (by kernel_rfl))
         have e2:=slot_of (a:=a) (s:=106) (v:=.agg #[.int .i64 ec,.int .i64 ed]) (hv 7 (by kernel_rfl))
         have hc3:=(show W.cell? ⟨g + 1,3,none⟩=some (.int .i64 _) from Bk.cell (show Bk W (g + 1) 36 _ from hJ) 3)
         have hfz3:=Bk.frozen (show Bk W (g + 1) 36 _ from hJ) 3
         have hc4:=(show W.cell? ⟨g + 1,4,none⟩=some (.int .i64 _) from Bk.cell (show Bk W (g + 1) 36 _ from hJ) 4)
         have hfz4:=Bk.frozen (show Bk W (g + 1) 36 _ from hJ) 4
         refine step_skip (wanted_none rfl) (w':=((W.setCell ⟨g + 1,3,none⟩ (.int .i64 ec)).setCell ⟨g + 1,4,none⟩ (.int .i64 ed))) ?_ (hK undef _ ((hC.trans (Grew.refl _ _) (Untouched.set (F:=[g + 1]) (g + 1) 3 (List.mem_singleton.2 rfl) _)).trans (Grew.refl _ _) (Untouched.set (F:=[g + 1]) (g + 1) 4 (List.mem_singleton.2 rfl) _)) trivial trivial (Rw4.st4 (D:=D) (by decide) (Bk.set_ (Bk.set_ (show Bk W (g + 1) 36 _ from hJ) 3 (.int .i64 ec)) 4 (.int .i64 ed))))
         go_simp
       intro f w15 hC15 hv15 D11 hD11 hJ11
       obtain ⟨a11,hJ,hs⟩:=hJ11
       simp only [framed,List.foldl_cons,List.foldl_nil,List.setIfInBounds_toArray,List.set_cons_succ,List.set_cons_zero]
       have S15:=hid_ (show Bk w15 (g + 1) 36 (rRow Kf ⟨ee,en,ec,ed,zpa,pB,zpc⟩ ES) from by have h:=hJ;unfold Rw4 at h;rw [hD11 9 (by decide),hD11 11 (by decide),hD11 13 (by decide),hD11 15 (by decide)] at h;exact h)
       have U15:=hid_ (show Untouched [g + 1] w11 w15 from U14.out.trans (Grew.refl _ _) hC15)
       clear hv15 hD11 hJ hs hC15 S14 U14 E14 ZD11 NGE
       refine hK9 _ _ ?_
       clear hK9 K9
       clear hq3 hr3
       obtain ⟨fe,hfe⟩:∃ x,ee=x:=⟨_,rfl⟩
       obtain ⟨fn,hfn⟩:∃ x,en=x:=⟨_,rfl⟩
       obtain ⟨fc,hfc⟩:∃ x,ec=x:=⟨_,rfl⟩
       obtain ⟨fd,hfd⟩:∃ x,ed=x:=⟨_,rfl⟩
       obtain ⟨ft,hft⟩:∃ x,ES=x:=⟨_,rfl⟩
       have TL:=hid_ (show ft.length≤100000 by rw [← hft,← SES.out];exact oneS_len _ _ _ _ _ _ (by have:=VL.out;omega))
       rw [hfe,hfn,hfc,hfd,hft] at S15
       clear hfe hfn hfc hfd hft
      case' neg =>
       have hq3:(r3 == 0)=false:=by simp [h3]
       have kk2:=(rr_cells S14.out).2.2.1
       go_upto_region 12 with fail
       obtain ⟨w15,hw15⟩:∃ W,W=w14:=⟨_,rfl⟩
       rw [← hw15] at S14 U14 ⊢
       clear hw15 h3 hq3 hr3 kk2
       have S15:=S14
       have U15:=U14
       clear S14 U14
       obtain ⟨fe,hfe⟩:∃ x,ze=x:=⟨_,rfl⟩
       obtain ⟨fn,hfn⟩:∃ x,zn=x:=⟨_,rfl⟩
       obtain ⟨fc,hfc⟩:∃ x,zc=x:=⟨_,rfl⟩
       obtain ⟨fd,hfd⟩:∃ x,zd=x:=⟨_,rfl⟩
       obtain ⟨ft,hft⟩:∃ x,tB=x:=⟨_,rfl⟩
       have TL:=hid_ (show ft.length≤100000 by rw [← hft];have:=TBL.out;omega)
       rw [hfe,hfn,hfc,hfd,hft] at S15
       clear hfe hfn hfc hfd hft
     all_goals
      have UW:=hid_ (show Untouched [g + 1] w2 w15 from (Untouched.of_below X11.out).trans (Grew.refl _ _) U15.out)
      have XW:=hid_ (show Below w.heap.size w w15 from B2.out.trans (UW.out.below (fun k hk=>by have h1:=List.mem_singleton.1 hk;have h2:=HG.out;omega) B2.out.size))
      have kf:=(rr_cells S15.out).1
      rcases KFX.out with hk0 | hk32
      ·have hsz:(strOf Kf).size=0:=by rw [strOf_size];exact hk0
       have cl:=seals_env w15 (tab_un HT.out UW.out g01 (fun hm=>by have h1:=List.mem_singleton.1 hm;have h2:=HG.out;omega)) (Nat.lt_of_lt_of_le g01 UW.out.size) (ptab_un HP.out UW.out g02 (fun hm=>by have h1:=List.mem_singleton.1 hm;have h2:=HG.out;omega)) (Nat.lt_of_lt_of_le g02 UW.out.size)
       go_wp2_with (go_at_call 10;((with_reducible refine cl.mono ?_);clear cl;rintro e w16 ⟨rfl,hB⟩;have X16:=hid_ (XW.out.trans (hB.mono XW.out.size));clear hB))
       go_ret
       exact ⟨rfl,X16.out⟩
      ·have KFL:=hid_ hk32
       have hsz:(strOf Kf).size=32:=by rw [strOf_size];exact KFL.out
       clear hk32
       have HT15:=hid_ (tab_un HT.out UW.out g01 (fun hm=>by have h1:=List.mem_singleton.1 hm;have h2:=HG.out;omega))
       have HP15:=hid_ (ptab_un HP.out UW.out g02 (fun hm=>by have h1:=List.mem_singleton.1 hm;have h2:=HG.out;omega))
       have V15:=hid_ (show VS id v sp nm kn Kz EN EL w15 F5 from (VS.foot id v sp nm kn Kz EN EL).keep M11.out.vs U15.out (fun k hk hm=>by have h1:=List.mem_singleton.1 hm;have h2:=M11.out.own k hk;have h3:=HS2.out;omega))
       have G15:=hid_ (show RS id rg Kz EN EL w15 a2 from (RS.foot id rg Kz EN EL).keep R11.out.1 U15.out (fun k hk hm=>by have h1:=List.mem_singleton.1 hm;have h3:=HS2.out;have h4:=PRG.out.1;rcases R11.out.2 k hk with h5 | h5;omega;have h6:=RGB.out;omega))
       have NGF:=hid_ (show 2∉F5∧0∉F5 from ⟨fun hm=>by have:=M11.out.own _ hm;omega,fun hm=>by have:=M11.out.own _ hm;omega⟩)
       have RN15:=hid_ (show RdF w15 F5 A9 nl from rdf_other RN11.out U15.out (fun a e hm=>by have h1:=List.mem_singleton.1 hm;have h2:=NRA.out a e;have h3:=PRG.out.1;have h4:=PRG.out.2;have h5:=HS2.out;omega))
       have HO:=hid_ (oneN_len (id:=id) (name:=nl) (h:=hx))
       have HOL:=hid_ (oneL_len (id:=id) (K:=Kz) (name:=nl) (h:=hx) (del:=q.del) (u:=vl))
       have HOB:=hid_ (oneL_b (id:=id) (K:=Kz) (name:=nl) (h:=hx) (del:=q.del) (u:=vl) (by have:=VL.out;omega))
       rw [SEN.out] at HO
       rw [SEL.out] at HOL HOB
       obtain ⟨O,hO_⟩:∃ o,opR id Kz EN EL nl Kf (⟨fe,fn,fc,fd,zpa,pB,zpc⟩:HeadV) ft=o:=⟨_,rfl⟩
       have HOO:=hid_ hO_
       clear hO_
       have ct:=lawto_any w15 Kf KFL.out (⟨fe,fn,fc,fd,zpa,pB,zpc⟩:HeadV) ft (by show pB.length≤100000;have:=PBL.out;omega) TL.out
       go_upto_region 15 with (first
        | (refine wpList_load_row rfl 36 (.tmp 5) rfl (g + 1) rfl 36 (rRow Kf (⟨fe,fn,fc,fd,zpa,pB,zpc⟩:HeadV) ft) (0,0) _ S15.out Tryz.underlying36 rfl (iRr _ _ _) ?_)
        | (go_at_call 16;((with_reducible refine ct.mono ?_);clear ct;rintro e w16 ⟨pa,pc,sa,sc,rfl,hs1,hs2,hrd,hB⟩;have RD16:=hid_ (hrd F5 (VS.foot id v sp nm kn Kz EN EL |>.lt V15.out));have V16:=hid_ ((VS.foot id v sp nm kn Kz EN EL).keep V15.out (Untouched.of_below (F:=[]) hB) (fun _ _=>by simp));have U16:=hid_ (Untouched.of_below (F:=[]) hB);have RN16:=hid_ (RN15.out.keep (Untouched.of_below hB) (Grew.refl _ _));have co:=open_anyF V16.out A9 mn c9 nl NL.out NCP.out.1 NCP.out.2 RN16.out.rd Kf KFL.out ⟨fe,fn,fc,fd,pa,pB,pc⟩ sa (ft).length sc ft rfl RD16.out.1 RD16.out.2 hs1 hs2 (by have:=HO.out;omega) HOB.out (tab_un HT15.out U16.out (Nat.lt_of_lt_of_le g01 UW.out.size) (fun hm=>by cases hm)) (Nat.lt_of_lt_of_le (Nat.lt_of_lt_of_le g01 UW.out.size) U16.out.size) NGF.out.1 (ptab_un HP15.out U16.out (Nat.lt_of_lt_of_le g02 UW.out.size) (fun hm=>by cases hm)) (Nat.lt_of_lt_of_le (Nat.lt_of_lt_of_le g02 UW.out.size) U16.out.size) NGF.out.2;rw [show opR id Kz EN EL nl Kf (⟨fe,fn,fc,fd,pa,pB,pc⟩:HeadV) (ft)=O from HOO.out] at co;clear hrd hB))
        | (go_at_call 11;((with_reducible refine co.mono ?_);clear co;rintro e w17 ⟨A17,m17,c17,rfl,hm17,hfr,hR17,F6,hGr,hU⟩;have M17:=hid_ hm17;have FR17:=hid_ hfr;have RD17:=hid_ hR17;have U17:=hid_ hU;have RN17:=hid_ (RN16.out.keep hU hGr);clear hm17 hfr hR17 hU hGr)))
       have G17:=hid_ (show RS id rg Kz EN EL w17 a2 from (RS.foot id rg Kz EN EL).keep ((RS.foot id rg Kz EN EL).keep G15.out U16.out (fun _ _=>by simp)) U17.out (fun k hk hm=>DIS.out k hk hm))
       have cr:=refOpen_any w17 G17.out KL.out nl Kf (⟨fe,fn,fc,fd,zpa,pB,zpc⟩:HeadV) ft (by have:=NL.out;omega) (by have:=HO.out;omega) (by have:=HOL.out;omega) HOB.out
       rw [HOO.out] at cr
       have S17:=hid_ (show Bk w17 (g + 1) 36 (rRow Kf (⟨fe,fn,fc,fd,zpa,pB,zpc⟩:HeadV) ft) from (S15.out.untouched U16.out (fun hm=>by cases hm)).untouched U17.out (fun hm=>by have h1:=M11.out.own _ hm;have h2:=HS2.out;omega))
       have cn:(convert 23 9 (.slice A9 mn c9)).run Tryz.prog w17 = .ok (.string (strOf nl)) w17:=conv_strn RN17.out.rd mn c9 NL.out
       obtain ⟨o1,o2,o3⟩:=O
       go_upto_region 16 with (first
        | (refine wpList_load_row rfl 36 (.tmp 5) rfl (g + 1) rfl 36 (rRow Kf (⟨fe,fn,fc,fd,zpa,pB,zpc⟩:HeadV) ft) (0,0) _ S17.out Tryz.underlying36 rfl (iRr _ _ _) ?_)
        | (go_at_call 17;((with_reducible refine cr.mono ?_);clear cr;rintro e w18 ⟨rfl,G6,hGr,hU⟩;have U18:=hid_ hU;have RD18:=hid_ ((rdf_of (F':=a2) RD17.out (fun a e hm=>by have h1:=FR17.out a e;have h2:=(RS.foot id rg Kz EN EL).lt G15.out _ hm;have h3:=U16.out.size;omega)).keep hU hGr);clear hGr hU)))
       clear cn
       have L15:=Nat.lt_of_lt_of_le g01 UW.out.size
       have N15:=Nat.lt_of_lt_of_le g02 UW.out.size
       have L16:=Nat.lt_of_lt_of_le L15 U16.out.size
       have N16:=Nat.lt_of_lt_of_le N15 U16.out.size
       have L17:=Nat.lt_of_lt_of_le L16 U17.out.size
       have N17:=Nat.lt_of_lt_of_le N16 U17.out.size
       have L18:=Nat.lt_of_lt_of_le L17 U18.out.size
       have N18:=Nat.lt_of_lt_of_le N17 U18.out.size
       have OWA:=hid_ (show ∀ k∈a2,w2.heap.size≤k from fun k hk=>(R11.out.2 k hk).elim (fun e=>by rw [e];exact PRG.out.1) (fun e=>by have h1:=PRG.out.1;have h2:=RGB.out;omega))
       have X16:=XW.out.trans (U16.out.below (fun k hk=>by cases hk) XW.out.size)
       have X17:=X16.trans (U17.out.below (fun k hk=>Nat.le_trans B2.out.size (M11.out.own k hk)) X16.size)
       have X18:=hid_ (X17.trans (U18.out.below (fun k hk=>Nat.le_trans B2.out.size (OWA.out k hk)) X17.size))
       have cl:=seals_env w18 (tab_un (tab_un (tab_un HT15.out U16.out L15 (fun hm=>by cases hm)) U17.out L16 NGF.out.1) U18.out L17 (fun hm=>by have h1:=OWA.out _ hm;omega)) L18 (ptab_un (ptab_un (ptab_un HP15.out U16.out N15 (fun hm=>by cases hm)) U17.out N16 NGF.out.2) U18.out N17 (fun hm=>by have h1:=OWA.out _ hm;omega)) N18
       clear L15 L16 L17 L18 N15 N16 N17 N18 X16 X17
       go_wp2_with (go_at_call 10;((with_reducible refine cl.mono ?_);clear cl;rintro e w19 ⟨rfl,hB⟩;have X19:=hid_ (X18.out.trans (hB.mono X18.out.size));have cv:(convert 23 9 (.slice A17 m17 c17)).run Tryz.prog w19 = .ok (.string (strOf o1)) w19:=conv_strn ((RD18.out.rd.below hB).more hB.size) m17 c17 M17.out.symm;clear hB))
       go_ret
       exact ⟨rfl,X19.out⟩
theorem cells_strX {H:Type} {enc:TypeId × Value→H} {P:Program} {t:TypeId} {w:World} {fuel:Nat} {sp:Nat→Bool} {held:Bool} {cs:List Value} {d:DataW H × List MemPlace}
  (ht:P.underlying t=some .string) (hf:DataW.trod enc P w 0 sp held fuel t cs=some d):∃ l:List UInt8,cs = [.string (strOf l)]∧d=(.lit (.string l),[]):=by
 obtain ⟨s,e,hd,_⟩:=DataW.trod_string ht hf
 exact ⟨s.data.toList,by rw [e];rfl,hd⟩
theorem cellsStr_:Tryz.prog.cellsOf 9=1:=by kernel_rfl
theorem cellsRaw_:Tryz.prog.cellsOf 36=7:=by kernel_rfl
theorem open_raw {H:Type} {enc:TypeId × Value→H} {w:World} {b0:Nat} {sp:Nat→Bool} {held:Bool} {r:Reach} {v:Value} {d:DataW H} {p:List MemPlace}
  (hv:Value.okWide Tryz.prog w r b0 36 v) (h:DataW.Trod enc Tryz.prog w 0 sp held 36 v d p):∃ (Ke:List UInt8) (hh:HeadV) (s:List UInt8),v = .agg (rRow Ke hh s)∧Ke.length∈d.weights Tryz.prog 36:=by
 obtain ⟨cs,rfl,hsz⟩:=okWide_struct Tryz.underlying36 hv
 obtain ⟨fuel,hf⟩:=h
 have hlc:(Value.agg cs).cells.toList.length=7:=by rw [cellsRaw_] at hsz;simpa [Value.cells] using hsz
 obtain ⟨xs,n,_,hx,hl,hlen,hg⟩:=DataW.trod_struct Tryz.underlying36 hf
 have hcs:cs.toList=(Value.agg cs).cells.toList:=by simp [Value.cells]
 generalize (Value.agg cs).cells.toList=L at *
 match L,hlc with
 | [k0,k1,k2,k3,k4,k5,k6],_ =>
 match xs,hlen with
 | [y0,y1,y2,y3,y4,y5],_ =>
  have g0:=hg 0 _ rfl
  have g1:=hg 1 _ rfl
  have g2:=hg 2 _ rfl
  have g3:=hg 3 _ rfl
  have g4:=hg 4 _ rfl
  have g5:=hg 5 _ rfl
  simp only [cellsI_,cellsStr_,cellsDt_,List.drop_succ_cons,List.drop_zero,List.take_succ_cons,List.take_zero,List.getElem?_cons_succ,List.getElem?_cons_zero] at g0 g1 g2 g3 g4 g5
  obtain ⟨l0,e0,d0⟩:=cells_strX Tryz.underlying9 g0
  obtain ⟨z1,e1,o1⟩:=cells_intV Tryz.underlying3 g1
  obtain ⟨z2,e2,o2⟩:=cells_intV Tryz.underlying3 g2
  obtain ⟨z3,z4,e3,o3,o4⟩:=cells_dotX rfl g3
  obtain ⟨l5,e5,d5⟩:=cells_strX Tryz.underlying9 g4
  obtain ⟨l6,e6,d6⟩:=cells_strX Tryz.underlying9 g5
  simp [cellsI_,cellsStr_,cellsDt_] at e0 e1 e2 e3 e5 e6
  refine ⟨l0,⟨z1,z2,z3,z4,none,l5,0⟩,l6,?_,?_⟩
  ·congr 1
   apply Array.ext'
   rw [hcs,e0,e1,e2,e3.1,e3.2,e5,e6]
   rfl
  ·simp only [Prod.mk.injEq] at hx
   rw [hx.1,d0]
   simp [DataW.weights,Tryz.underlying36,DataW.weightsEach]

theorem laid_metE (os : Os) : laidMet Tryz.prog [("casket/pad.sizes", Rows.laid_casket_pad_sizes), ("casket/sha2.roundWords", Rows.laid_casket_sha2_roundWords)] ((laidWorldE os).forCall (fun _ _ => 0) ⟨#[], #[.bool false, .agg #[.slice none 0 0, .int .i64 0, .int .i64 0, .int .i64 0, .int .i64 0, .slice none 0 0, .slice none 0 0, .bool false], .agg #[.string (strOf []), .int .i64 0, .int .i64 0, .int .i64 0, .int .i64 0, .string (strOf []), .string (strOf [])]], []⟩).memory :=
 laidMet_of_run' 8 (by kernel_rfl) (by kernel_rfl)

/-- What the walk gives, for every argument and every world in which the constants lie. -/
theorem contract (H:Type) (enc:TypeId × Value→H) (W:World) (base:Nat) (args:Array Value) (ds gs:List (DataW H)) (before:List MemPlace)
  (hval:∀ (j:Nat) t v,Tryz.f4.params[j]? = some t→args[j]? = some v→Value.okWide Tryz.prog W .any base t v)
  (hW:DataW.Whole enc Tryz.prog Tryz.f4.params.toList Rows.envelopeOpensSpec.vars false W args.toList ds gs before) (hL:laidMetH Tryz.prog Rows.envelopeOpensRow.laid W)
  (hz:(DataW.weightsEach Tryz.prog (Tryz.f4.params.toList ++ (OpenSpec.ofChange Rows.envelopeOpensSpec).bare.plain.varTypes Tryz.prog) (ds ++ gs)).all (·≤reachBytes)=true) :
  Calls Tryz.prog 4 args W fun e W'=>∃ v,e = .returned v∧Rows.envelopeOpensSpec.post enc Tryz.prog Tryz.f4 false true false false W args v W':=by
 obtain ⟨⟨hpt,hg2⟩,ht,hg1⟩:=two_of hL
 have hW':=hW
 obtain ⟨p,q,hA0,hV,rfl,hfz,hnd⟩:=hW
 have hA:DataW.TrodAll enc Tryz.prog W 0 (fun _=>true) true Tryz.f4.params.toList args.toList ds p:=hA0
 rw [Tryz.params4] at hA hval
 obtain ⟨v0,vs0,d0,ds0,p0,q0,hargs,rfl,rfl,h0,r0⟩:=trodAll_cons hA
 obtain ⟨v1,vs1,d1,ds1,p1,q1,rfl,rfl,rfl,h1,r1⟩:=trodAll_cons r0
 obtain ⟨v2,vs2,d2,ds2,p2,q2,rfl,rfl,rfl,h2,r2⟩:=trodAll_cons r1
 obtain ⟨rfl,rfl,rfl⟩:=trodAll_nil r2
 obtain rfl:args = #[v0,v1,v2]:=by cases args;simp_all
 obtain ⟨rfl,rfl⟩:=trodVars_none hV
 obtain ⟨b0,rfl,rfl,rfl⟩:=open_bool Tryz.underlying4 (hval 0 4 v0 rfl rfl) h0
 obtain ⟨q,rfl,hq⟩:=open_ask (hval 1 27 v1 rfl rfl) h1
 obtain ⟨Ke,hh,sx,rfl,hkw⟩:=open_raw (hval 2 36 v2 rfl rfl) h2
 have hKB:Ke.length≤140737488351232:=by
  have h:=List.all_eq_true.1 hz _ (DataW.weights_mem_each (j:=2) (t:=36) (d:=d2) (by kernel_rfl) rfl _ hkw)
  exact of_decide_eq_true h
 refine (walk W b0 q hq Ke hh sx ht hg1 hpt hg2 hKB).mono fun e W' ⟨he,hg⟩=>⟨_,he,?_⟩
 exact law_post laidOut_ (of_decide_eq_true (by kernel_rfl)) rfl rfl Tryz.underlying4 rfl hW' hg

theorem reads (os:Os) {H:Type} (enc:TypeId × Value→H):∃ places,DataW.whole enc Tryz.prog ((laidWorldE os).forCall (fun _ _=>0) ⟨#[],#[.bool false,.agg #[.slice none 0 0,.int .i64 0,.int .i64 0,.int .i64 0,.int .i64 0,.slice none 0 0,.slice none 0 0,.bool false],.agg #[.string (strOf []),.int .i64 0,.int .i64 0,.int .i64 0,.int .i64 0,.string (strOf []),.string (strOf [])]],[]⟩).memory Tryz.f4.params.toList Rows.envelopeOpensSpec.vars false (#[.bool false,.agg #[.slice none 0 0,.int .i64 0,.int .i64 0,.int .i64 0,.int .i64 0,.slice none 0 0,.slice none 0 0,.bool false],.agg #[.string (strOf []),.int .i64 0,.int .i64 0,.int .i64 0,.int .i64 0,.string (strOf []),.string (strOf [])]]:Array Value).toList 8=some ([.lit (.bool false),.agg [.nil,.lit (.int .i64 0),.lit (.int .i64 0),.agg [.lit (.int .i64 0),.lit (.int .i64 0)],.nil,.nil,.lit (.bool false)],.agg [.lit (.string []),.lit (.int .i64 0),.lit (.int .i64 0),.agg [.lit (.int .i64 0),.lit (.int .i64 0)],.lit (.string []),.lit (.string [])]],[],places) :=
 ⟨[],by kernel_rfl⟩

set_option maxRecDepth 100000 in
theorem lifted (os:Os) (started:os.Started) (H:Type) (enc:TypeId × Value→H) (F:Stop.Interp) :
  ReturnsInHanded {} Tryz.checked os 4 .any ((OpenSpec.ofChange Rows.envelopeOpensSpec).preRow enc Tryz.prog Tryz.f4 Rows.envelopeOpensRow.domain false Rows.envelopeOpensRow.laid) (((OpenSpec.ofChange Rows.envelopeOpensSpec).at F).post enc Tryz.prog Tryz.f4 false true false false):=by
 obtain ⟨places,hx⟩:=reads os enc
 refine returnsInHanded_of_row (C:=Tryz.checked) (s:=OpenSpec.ofChange Rows.envelopeOpensSpec) own_ started (by kernel_rfl) Tryz.func4
  (witness_row_at (enc:=enc) (C:=Tryz.checked) false (laidWorldE os) #[.bool false,.agg #[.slice none 0 0,.int .i64 0,.int .i64 0,.int .i64 0,.int .i64 0,.slice none 0 0,.slice none 0 0,.bool false],.agg #[.string (strOf []),.int .i64 0,.int .i64 0,.int .i64 0,.int .i64 0,.string (strOf []),.string (strOf [])]] rfl (by kernel_rfl) (by kernel_rfl) (by kernel_rfl)
   (OpenSpec.preRow_of_cond 8 hx (by kernel_rfl) (fun k hk=>by cases hk) (by kernel_rfl) (laid_metE os))) ?_
 intro W base args ds gs before hval hW _ _ hz hL _ _
 exact contract H enc W base args ds gs before hval hW hL hz

theorem said:Rows.EnvelopeOpensSaid :=
 OpenClaim.holds_of_cond 4 Tryz.f4 rfl rfl rfl rfl rfl rfl rfl ⟨rfl,rfl,rfl,rfl,rfl⟩ rfl rfl rfl rfl rfl (by kernel_rfl) Tryz.func4 (by kernel_rfl)
  (of_decide_eq_true (by kernel_rfl)) (by unfold Func.isWrapper;first | (rw [if_pos (by decide +kernel)];kernel_rfl) | (rw [if_neg (by decide +kernel)];exact ⟨rfl,rfl⟩))
  (fun os started H enc _ F=>by rw [OpenClaim.pre_eq_preRow];exact lifted os started H enc F)

/-- No parameter wants a stand-in; the program's own looks are off: what the card asks. -/
theorem plain (f : FuncId) (fn : Func) (hf : Tryz.pinned.checked.prog.funcNamed "casket/casketlaw13.EnvelopeOpens" = some f) (hfn : Tryz.pinned.checked.prog.funcs[f]? = some fn) :
  false=Tryz.pinned.checked.prog.looks []∧∀ (j:Nat) t,fn.params[j]? = some t→Tryz.pinned.checked.prog.wantsStandIn t=false:=by
 obtain rfl : f = 4 := Option.some.inj ((show Tryz.prog.funcNamed "casket/casketlaw13.EnvelopeOpens" = some 4 by kernel_rfl).symm.trans hf) |>.symm
 obtain rfl:fn=Tryz.f4:=(Option.some.inj (Tryz.func4.symm.trans hfn)).symm
 refine ⟨by kernel_rfl,fun j t ht=>?_⟩
 rw [Tryz.params4] at ht
 have hm:=Array.mem_of_getElem? ht
 simp only [List.mem_toArray,List.mem_cons,List.not_mem_nil,or_false] at hm
 rcases hm with rfl | rfl | rfl
 ·exact (show Tryz.prog.wantsStandIn 4=false by kernel_rfl)
 ·exact (show Tryz.prog.wantsStandIn 27=false by kernel_rfl)
 ·exact (show Tryz.prog.wantsStandIn 36=false by kernel_rfl)

/-- The card. -/
theorem proved:Rows.EnvelopeOpensCardSaid :=
 Claim7.holds_tied_plain_at .later [] _ _ _ _ said (fun _ h=>by cases h) (by kernel_rfl) (fun _ h=>by cases h) envelopeOpens_row_tie rfl ⟨rfl,rfl⟩ (by kernel_rfl) rfl plain (by kernel_rfl)
#print axioms proved
end Go.Proofs.YtpcbmnmgefhaaaaGreatDoor.envelopeOpens

