import Derived.Test.YtpcbmnmgefhaaaaGreatDoorZt
import Derived.Test.YtpcbmnmgefhaaaaGreatDoorYJ
namespace Go.Proofs.YtpcbmnmgefhaaaaGreatDoor
set_option maxRecDepth 100000
open Go.ChangeShapes Go.WideShapes Go.ChangeAt Go.RowKit
set_option linter.unusedVariables false
set_option linter.unusedSimpArgs false
theorem slice_all32j (g:Nat) (W:World) :
  (Instr.sliceAt 22 (.pointer (some ⟨g,0,none⟩)) none none none).run Tryz.prog W = .ok (.slice (some ⟨g,0,none⟩) 32 32) W:=by
 have he:Tryz.prog.elem 22=5:=by kernel_rfl
 have hn:Tryz.prog.arrayLen 22=32:=by kernel_rfl
 have ht:Tryz.prog.underlying 22=some (.array (Tryz.prog.arrayLen 22) (Tryz.prog.elem 22)):=by rw [he,hn];exact Tryz.underlying22
 rw [run_sliceAt_array_all W 22 ⟨g,0,none⟩ ht,size32,hn]
 rfl
theorem sizeB_ (W:World):(sizeOf (Tryz.prog.elem 39)).run Tryz.prog W = .ok 1 W:=by
 have he:Tryz.prog.elem 39=5:=by kernel_rfl
 rw [he]
 obtain ⟨i,hi,hz,hsize,hby⟩:=info_parts info8
 simp [sizeOf,typeInfo,hi,hsize]
theorem slice_allB (g:Nat) (W:World) :
  (Instr.sliceAt 39 (.pointer (some ⟨g,0,none⟩)) none none none).run Tryz.prog W = .ok (.slice (some ⟨g,0,none⟩) 32 32) W:=by
 have he:Tryz.prog.elem 39=5:=by kernel_rfl
 have hn:Tryz.prog.arrayLen 39=32:=by kernel_rfl
 have hs:Tryz.prog.cellsOf (Tryz.prog.elem 39)=1:=by kernel_rfl
 have ht:Tryz.prog.underlying 39=some (.array (Tryz.prog.arrayLen 39) (Tryz.prog.elem 39)):=by rw [he,hn];exact Tryz.underlying39
 rw [run_sliceAt_array_all W 39 ⟨g,0,none⟩ ht,sizeB_,hn]
 rfl
theorem rd_bk {w:World} {g:Nat} {t:TypeId} {l:List UInt8} (h:Bk w g t (rowOf l)):Rd w w.heap.size (some ⟨g,0,none⟩) l:=fun _=>⟨g,0,rfl,h.lt,fun j hj=>by rw [Nat.zero_add];exact (h.cell j).trans (rowOf_at l j hj)⟩
structure JW (i1 i2 i3 i4 s1 s2 d1 d2:Nat) (P Q:Value→World→Prop) (PQ:Value→Value→World→Prop) (D:Nat→Bool) (a:Act) (W:World):Prop where
 one:D i1=true→D i2=false→P (a.tmps.getD s1 undef) W
 two:D i2=true→D i1=false→Q (a.tmps.getD s2 undef) W
 both:D i1=true→D i2=true→PQ (a.tmps.getD s1 undef) (a.tmps.getD s2 undef) W
 e1:D i3=true→D i1=true∧a.tmps.getD d1 undef=a.tmps.getD s1 undef
 e2:D i4=true→D i2=true∧a.tmps.getD d2 undef=a.tmps.getD s2 undef
section
variable {i1 i2 i3 i4 s1 s2 d1 d2 : Nat} {P Q : Value → World → Prop} {PQ : Value → Value → World → Prop} {D : Nat → Bool} {a : Act} {W W' : World}
theorem JW.other (h:JW i1 i2 i3 i4 s1 s2 d1 d2 P Q PQ D a W) (i s:Nat) (v:Value) (hi:i1≠i∧i2≠i∧i3≠i∧i4≠i) (hs:s1≠s∧s2≠s∧d1≠s∧d2≠s):JW i1 i2 i3 i4 s1 s2 d1 d2 P Q PQ (fun j=>decide (j=i) || D j) (a.put (some s) v) W:=by
 refine ⟨?_,?_,?_,?_,?_⟩
 ·rw [orf_ne hi.1,orf_ne hi.2.1,put_otherY hs.1];exact h.one
 ·rw [orf_ne hi.1,orf_ne hi.2.1,put_otherY hs.2.1];exact h.two
 ·rw [orf_ne hi.1,orf_ne hi.2.1,put_otherY hs.1,put_otherY hs.2.1];exact h.both
 ·rw [orf_ne hi.1,orf_ne hi.2.2.1,put_otherY hs.1,put_otherY hs.2.2.1];exact h.e1
 ·rw [orf_ne hi.2.1,orf_ne hi.2.2.2,put_otherY hs.2.1,put_otherY hs.2.2.2];exact h.e2
theorem JW.first (h:JW i1 i2 i3 i4 s1 s2 d1 d2 P Q PQ D a W) (v:Value) (hL:D i1=false) (hi:i2≠i1∧i3≠i1∧i4≠i1) (hs:s2≠s1∧d2≠s1) (hsz:s1 < a.tmps.size) (hp:P v W') (hq:∀ u,Q u W→PQ v u W') :
  JW i1 i2 i3 i4 s1 s2 d1 d2 P Q PQ (fun j=>decide (j=i1) || D j) (a.put (some s1) v) W':=by
 have h3:D i3=false:=by
  cases e:D i3 with
  | false=>rfl
  | true=>rw [(h.e1 e).1] at hL;cases hL
 refine ⟨fun _ _=>?_,fun _ e=>?_,fun _ e=>?_,fun e=>?_,?_⟩
 ·rw [put_selfY hsz];exact hp
 ·rw [orf_eq] at e;cases e
 ·rw [orf_ne hi.1] at e
  rw [put_selfY hsz,put_otherY hs.1]
  exact hq _ (h.two e hL)
 ·rw [orf_ne hi.2.1,h3] at e;cases e
 ·rw [orf_ne hi.1,orf_ne hi.2.2,put_otherY hs.1,put_otherY hs.2];exact h.e2
theorem JW.second (h:JW i1 i2 i3 i4 s1 s2 d1 d2 P Q PQ D a W) (v:Value) (hL:D i2=false) (hi:i1≠i2∧i3≠i2∧i4≠i2) (hs:s1≠s2∧d1≠s2) (hsz:s2 < a.tmps.size) (hq:Q v W') (hp:∀ u,P u W→PQ u v W') :
  JW i1 i2 i3 i4 s1 s2 d1 d2 P Q PQ (fun j=>decide (j=i2) || D j) (a.put (some s2) v) W':=by
 have h4:D i4=false:=by
  cases e:D i4 with
  | false=>rfl
  | true=>rw [(h.e2 e).1] at hL;cases hL
 refine ⟨fun _ e=>?_,fun _ _=>?_,fun e _=>?_,?_,fun e=>?_⟩
 ·rw [orf_eq] at e;cases e
 ·rw [put_selfY hsz];exact hq
 ·rw [orf_ne hi.1] at e
  rw [put_selfY hsz,put_otherY hs.1]
  exact hp _ (h.one e hL)
 ·rw [orf_ne hi.1,orf_ne hi.2.1,put_otherY hs.1,put_otherY hs.2];exact h.e1
 ·rw [orf_ne hi.2.2,h4] at e;cases e
theorem JW.third (h:JW i1 i2 i3 i4 s1 s2 d1 d2 P Q PQ D a W) (h1:D i1=true) (hi:i1≠i3∧i2≠i3∧i4≠i3) (hs:s1≠d1∧s2≠d1∧d2≠d1) (hsz:d1 < a.tmps.size):JW i1 i2 i3 i4 s1 s2 d1 d2 P Q PQ (fun j=>decide (j=i3) || D j) (a.put (some d1) (a.tmps.getD s1 undef)) W:=by
 refine ⟨?_,?_,?_,fun _=>?_,?_⟩
 ·rw [orf_ne hi.1,orf_ne hi.2.1,put_otherY hs.1];exact h.one
 ·rw [orf_ne hi.1,orf_ne hi.2.1,put_otherY hs.2.1];exact h.two
 ·rw [orf_ne hi.1,orf_ne hi.2.1,put_otherY hs.1,put_otherY hs.2.1];exact h.both
 ·rw [orf_ne hi.1,put_selfY hsz,put_otherY hs.1];exact ⟨h1,rfl⟩
 ·rw [orf_ne hi.2.1,orf_ne hi.2.2,put_otherY hs.2.1,put_otherY hs.2.2];exact h.e2
theorem JW.fourth (h:JW i1 i2 i3 i4 s1 s2 d1 d2 P Q PQ D a W) (h2:D i2=true) (hi:i1≠i4∧i2≠i4∧i3≠i4) (hs:s1≠d2∧s2≠d2∧d1≠d2) (hsz:d2 < a.tmps.size):JW i1 i2 i3 i4 s1 s2 d1 d2 P Q PQ (fun j=>decide (j=i4) || D j) (a.put (some d2) (a.tmps.getD s2 undef)) W:=by
 refine ⟨?_,?_,?_,?_,fun _=>?_⟩
 ·rw [orf_ne hi.1,orf_ne hi.2.1,put_otherY hs.1];exact h.one
 ·rw [orf_ne hi.1,orf_ne hi.2.1,put_otherY hs.2.1];exact h.two
 ·rw [orf_ne hi.1,orf_ne hi.2.1,put_otherY hs.1,put_otherY hs.2.1];exact h.both
 ·rw [orf_ne hi.1,orf_ne hi.2.2,put_otherY hs.1,put_otherY hs.2.2];exact h.e1
 ·rw [orf_ne hi.2.1,put_selfY hsz,put_otherY hs.2.1];exact ⟨h2,rfl⟩
theorem JW.start:JW i1 i2 i3 i4 s1 s2 d1 d2 P Q PQ (fun _=>false) a W :=
 ⟨fun e=>Bool.noConfusion e,fun e=>Bool.noConfusion e,fun e=>Bool.noConfusion e,fun e=>Bool.noConfusion e,fun e=>Bool.noConfusion e⟩
end
def WV (id:Bool) (K:List UInt8) (b:Nat) (u:Value) (W:World):Prop:=∃ v sp nm kn F,u = .pointer (some ⟨v,0,none⟩)∧VS id v sp nm kn K [] [] W F∧∀ k∈F,b≤k
def rfRow (id:Bool) (K:List UInt8):Array Value:=#[.bool id,.string (strOf K),.slice none 0 0,.slice none 0 0]
def WR (id:Bool) (K:List UInt8) (b:Nat) (u:Value) (W:World):Prop:=∃ g,u = .pointer (some ⟨g,0,none⟩)∧Bk W g 64 (rfRow id K)∧b≤g
def WVR (id:Bool) (K:List UInt8) (b:Nat) (u u':Value) (W:World):Prop:=∃ v sp nm kn g F,u = .pointer (some ⟨v,0,none⟩)∧u' = .pointer (some ⟨g,0,none⟩)∧VS id v sp nm kn K [] [] W F∧(∀ k∈F,b≤k)∧Bk W g 64 (rfRow id K)∧b≤g∧g∉F
theorem ref_start {W:World} {g:Nat} {id:Bool} {K:List UInt8} (h:Bk W g 64 (rfRow id K)):RS id g K [] [] W [g] :=
 ⟨.slice none 0 0,.slice none 0 0,h,OwnN.nil_ W 0,OwnSL.nil_ W 0,by simp,fun b e=>(by cases e),fun b e=>(by cases e),fun k hk=>by rw [List.mem_singleton.1 hk];exact h.lt⟩
theorem vault_new (id:Bool) (w:World) (K:List UInt8) (hK:K.length=32):Calls Tryz.prog (if id then 18 else 19) #[.agg (rowOf K)] w fun e w'=>∃ v sp nm kn F,e = .returned (.pointer (some ⟨v,0,none⟩))∧VS id v sp nm kn K [] [] w' F∧(∀ k∈F,w.heap.size≤k)∧Below w.heap.size w w':=by
 cases id
 ·rw [if_neg (by decide)]
  exact (real_new w K hK).mono fun e w' ⟨v,sp,F,h1,h2,h3,h4⟩=>⟨v,sp,0,0,F,h1,h2,h3,h4⟩
 ·rw [if_pos rfl]
  exact (ideal_new w K hK).mono fun e w' ⟨v,sp,nm,kn,F,h1,h2,h3,h4⟩=>⟨v,sp,nm,kn,F,h1,h2,h3,h4⟩
theorem WVR.one {id:Bool} {K:List UInt8} {b v sp nm kn:Nat} {F:List Nat} {W W':World} (hv:VS id v sp nm kn K [] [] W' F) (hF:∀ k∈F,W.heap.size≤k) (hb:Below W.heap.size W W') (hW:b≤W.heap.size):∀ u,WR id K b u W→WVR id K b (.pointer (some ⟨v,0,none⟩)) u W':=by
 rintro u ⟨g,rfl,hg,hbg⟩
 exact ⟨v,sp,nm,kn,g,F,rfl,rfl,hv,fun k hk=>Nat.le_trans hW (hF k hk),hg.below hb hg.lt,hbg,fun hm=>by have h1:=hF g hm;have h2:=hg.lt;omega⟩
theorem WVR.two {id:Bool} {K:List UInt8} {b:Nat} {W W':World} {g:Nat} (hg:Bk W' g 64 (rfRow id K)) (hgb:W.heap.size≤g) (hb:Below W.heap.size W W') (hW:b≤W.heap.size):∀ u,WV id K b u W→WVR id K b u (.pointer (some ⟨g,0,none⟩)) W':=by
 rintro u ⟨v,sp,nm,kn,F,rfl,hv,hF⟩
 exact ⟨v,sp,nm,kn,g,F,rfl,rfl,(VS.foot id v sp nm kn K [] []).keep hv (Untouched.of_below (F:=[]) hb) (fun _ _=>by simp),hF,hg,Nat.le_trans hW hgb,fun hm=>by have h1:=(VS.foot id v sp nm kn K [] []).lt hv g hm;omega⟩
end Go.Proofs.YtpcbmnmgefhaaaaGreatDoor
