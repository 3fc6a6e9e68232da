import Derived.Test.YtpcbmnmgefhaaaaGreatDoorSS
import Derived.KernelRfl
import Derived.Lib.SlBytesConst
import Derived.Test.YtpcbmnmgefhaaaaGreatDoorAp
import Derived.OpenShut
import Derived.Stop.BytesEq
import Derived.BigFrame
namespace Go.Proofs.YtpcbmnmgefhaaaaGreatDoor
set_option maxRecDepth 100000
open Go.RowKit
set_option linter.unusedVariables false
theorem Bk.rd {w:World} {g B:Nat} {t:TypeId} {l:List UInt8} (h:Bk w g t (rowOf l)) (hB:g < B):Rd w B (some ⟨g,0,none⟩) l:=fun _ =>
 ⟨g,0,rfl,hB,fun j hj=>by rw [Nat.zero_add,h.cell,rowOf_at l j hj]⟩
theorem dig_size (W:World):(sizeOf (Tryz.prog.elem 22)).run Tryz.prog W = .ok 1 W:=by
 have he:Tryz.prog.elem 22=5:=by kernel_rfl
 rw [he]
 obtain ⟨i,hi,hz,hsize,hby⟩:=info_parts info8
 simp [sizeOf,typeInfo,hi,hsize]
theorem dig_all (g:Nat) (W:World) :
  (Instr.sliceAt 22 (.pointer (some ⟨g,0,none⟩)) none none none).run Tryz.prog W = .ok (.slice (some ⟨g,0,none⟩) 32 32) W:=by
 have he:Tryz.prog.elem 22=5:=by kernel_rfl
 have hn:Tryz.prog.arrayLen 22=32:=by kernel_rfl
 have ht:Tryz.prog.underlying 22=some (.array (Tryz.prog.arrayLen 22) (Tryz.prog.elem 22)):=by rw [he,hn];exact Tryz.underlying22
 rw [run_sliceAt_array_all W 22 ⟨g,0,none⟩ ht,dig_size,hn]
 simp only [Result.andThen,slicedAt,Nat.mul_one]
 rw [if_neg (by omega)]
 congr 3
open Go.ChangeShapes Go.WideShapes Go.ChangeAt Go.RowKit
theorem infoS:(Tryz.prog.info? 23).map (fun i=>(i.zero,i.size,i.bytes))=some (some (.slice none 0 0),1,24):=by kernel_rfl
def PartAt (w:World) (B:Nat) (v:Value) (m:List UInt8):Prop:=∃ A c,v = .slice A m.length c∧Rd w B A m∧m.length≤c∧c≤maxLen
def PartsAt (w:World) (B:Nat) (vs:List Value) (ls:List (List UInt8)):Prop:=vs.length=ls.length∧∀ j,j < ls.length→∃ v,vs[j]? = some v∧PartAt w B v (ls.getD j [])
def OwnP (w:World) (base B:Nat) (v:Value) (ls:List (List UInt8)):Prop:=∃ vs,w.ownsRow base 23 1 v ls.length vs∧PartsAt w B vs ls
section
variable {w w' : World} {base B : Nat} {v : Value} {ls : List (List UInt8)}
theorem PartAt.keep {m:List UInt8} (h:PartAt w B v m) (hk:∀ p:Addr,p.block < B→w'.cell? p=w.cell? p):PartAt w' B v m:=by
 obtain ⟨A,c,h1,h2,h3⟩:=h
 exact ⟨A,c,h1,h2.keep hk,h3⟩
theorem PartsAt.keep {vs:List Value} (h:PartsAt w B vs ls) (hk:∀ p:Addr,p.block < B→w'.cell? p=w.cell? p):PartsAt w' B vs ls:=by
 refine ⟨h.1,fun j hj=>?_⟩
 obtain ⟨v,h1,h2⟩:=h.2 j hj
 exact ⟨v,h1,h2.keep hk⟩
theorem cell_grown {row:Option Nat} (hg:w.grownBy w' row) (hB:B≤w.heap.size) (hne:∀ g,row=some g→B≤g):∀ p:Addr,p.block < B→w'.cell? p=w.cell? p:=fun p hp=>by
 have h:=hg.block p.block (by omega) (fun e=>by have:=hne _ e.symm;omega)
 unfold World.cell?
 rw [h]
theorem OwnP.lt (h:OwnP w base B v ls):∀ g,v.ownBlock=some g→base≤g∧g < w.heap.size:=by
 obtain ⟨vs,h1,_⟩:=h
 exact World.ownsRow.lt h1
theorem OwnP.form (h:OwnP w base B v ls):∃ A c,v = .slice A ls.length c:=by
 obtain ⟨vs,h1,_⟩:=h
 rcases h1.2 with ⟨hv,h0⟩ | ⟨g,cap,cur,hv,_⟩
 ·exact ⟨none,0,by rw [h0];exact hv⟩
 ·exact ⟨_,cap,hv⟩
theorem OwnP.parts (h:OwnP w base B v ls) (hB:B≤w.heap.size) {A:Option Addr} {n c:Nat} (hv:v = .slice A n c):Parts w w.heap.size A ls:=by
 have hlt:=h.lt
 obtain ⟨vs,h1,h2⟩:=h
 intro h0
 rcases h1.2 with ⟨hv',h0'⟩ | ⟨g,cap,cur,hv',_⟩
 ·omega
 ·subst hv
  injection hv' with e1 e2 e3
  subst e1
  refine ⟨g,0,rfl,(hlt g rfl).2,fun j hj=>?_⟩
  obtain ⟨u,hu,A',c',rfl,hr,hl,hm⟩:=h2.2 j hj
  subst e2
  subst e3
  have hc:=World.ownsRow.cellAt h1 j (by omega)
  refine ⟨A',c',?_,hr.more hB,hl,hm⟩
  rw [Nat.zero_add,hc,hu]
end
theorem parts_one (W:World) (A:Option Addr) (n c:Nat) (L:List UInt8) (B:Nat) (hn:L.length=n) (hr:Rd W B A L) (hB:B≤W.heap.size) (hc:n≤c) (hm:c≤maxLen):Parts (W.alloc (.cells #[.slice A n c] 23)) (W.heap.size + 1) (some ⟨W.heap.size,0,none⟩) [L]:=by
 subst hn
 refine fun _=>⟨_,0,rfl,by omega,fun j hj=>?_⟩
 obtain rfl:j=0:=by simp at hj;omega
 exact ⟨A,c,World.cell?_alloc_mark _ _ _ _ _,(hr.alloc hB _).more (by omega),hc,hm⟩
end Go.Proofs.YtpcbmnmgefhaaaaGreatDoor
