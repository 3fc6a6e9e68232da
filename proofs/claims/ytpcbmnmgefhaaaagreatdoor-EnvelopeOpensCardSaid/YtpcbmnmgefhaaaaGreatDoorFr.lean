import Derived.Test.YtpcbmnmgefhaaaaGreatDoorQQ
import Derived.Test.YtpcbmnmgefhaaaaGreatDoorDn
import Derived.Deep.Upon
namespace Go.Proofs.YtpcbmnmgefhaaaaGreatDoor
set_option maxRecDepth 100000
open Go.RowKit
set_option linter.unusedSimpArgs false
set_option linter.unusedVariables false
section
variable {P : Program} {ops : Array Oper} {md : Region.Mode}
def framed (slots:List Nat) (f:Nat→Value) (a:Array Value):Array Value:=slots.foldl (fun x s=>x.setIfInBounds s (f s)) a
theorem framed_size (f:Nat→Value):∀ (slots:List Nat) (a:Array Value),(framed slots f a).size=a.size
 | [],a=>rfl
 | s :: l,a=>by
  have:=framed_size f l (a.setIfInBounds s (f s))
  simpa [framed] using this
theorem framed_getD (f:Nat→Value):∀ (slots:List Nat) (a:Array Value) (i:Nat),i < a.size→(framed slots f a).getD i undef=if i∈slots then f i else a.getD i undef
 | [],a,i,h=>by simp [framed]
 | s :: l,a,i,h=>by
  have ih:=framed_getD f l (a.setIfInBounds s (f s)) i (by simpa using h)
  have e:framed (s :: l) f a=framed l f (a.setIfInBounds s (f s)):=rfl
  rw [e,ih]
  by_cases hl:i∈l
  ·simp [hl]
  ·by_cases hs:s=i
   ·subst hs
    simp [hl,h]
   ·simp [hl,hs,Ne.symm hs,Array.getElem?_setIfInBounds]
theorem frame_back (slots:List Nat) (a a0:Array Value) (hsz:a.size=a0.size) (h:∀ s,s∉slots→a.getD s undef=a0.getD s undef):a=framed slots (fun s=>a.getD s undef) a0:=by
 apply Array.ext
 ·rw [framed_size,hsz]
 ·intro i h1 h2
  have h3:=framed_getD (fun s=>a.getD s undef) slots a0 i (by omega)
  have e1:a[i]=a.getD i undef:=by simp [h1]
  have e2:(framed slots (fun s=>a.getD s undef) a0)[i]=(framed slots (fun s=>a.getD s undef) a0).getD i undef:=by
   rw [Array.getD_eq_getD_getElem?,Array.getElem?_eq_getElem h2];rfl
  rw [e1,e2,h3]
  by_cases hs:i∈slots
  ·rw [if_pos hs]
  ·rw [if_neg hs,h i hs]
def dstsOf (ops:List Oper):List Nat:=ops.filterMap (·.dst)
theorem free_of {l:List Oper} {s:Nat} (h:s∉dstsOf l):freeB l.toArray s=true:=by
 unfold freeB
 rw [List.all_eq_true]
 intro k _
 simp only [decide_eq_true_eq]
 intro e
 apply h
 unfold dstOf at e
 cases hq:l.toArray[k]? with
 | none=>rw [hq] at e;cases e
 | some o =>
  rw [hq] at e
  have ho:o∈l:=by
   have:l[k]? = some o:=by simpa using hq
   exact List.mem_of_getElem? this
  exact List.mem_filterMap.2 ⟨o,ho,e⟩
theorem region_byF {id:Nat} {Q:Exit→Act→World→Prop} {a0:Act} {w0:World} {l:List Oper} (slots:List Nat) (C:World→Prop) (T:World→World→Prop) (R:Nat→Value→World→Prop)
  (hm:P.follows .mixedOrders=true) (hsl:slotsB l.toArray a0.tmps.size=true) (ht:topoB .any l.toArray=true) (hd:dstsOf l=slots)
  (hstab:∀ j v w w',T w w'→R j v w→R j v w') (hnone:∀ j v w,j < l.toArray.size→dstOf l.toArray j=none→R j v w→R j undef w)
  (hC:C { w0 with drawn:=w0.drawn + 1 }) (hsteps:StepsOk P .any l.toArray Q a0 C T R 0 l)
  (hend:∀ (f:Nat→Value) w,C w→(∀ j,j < l.toArray.size→R j (match dstOf l.toArray j with | some s=>f s | none=>undef) w)→Q .normal { tmps:=framed slots f a0.tmps,defers:=a0.defers } w) :
  (Code.region id l.toArray true).wp P Q a0 w0:=by
 refine region_by C T R hm hsl ht hstab hnone hC hsteps fun a w hC hdf hsz hf hv=>?_
 have e:=frame_back slots a.tmps a0.tmps hsz fun s hs=>hf s (free_of (by rw [hd];exact hs))
 obtain ⟨tm,df⟩:=a
 obtain rfl:df=a0.defers:=hdf
 have h:=hend (fun s=>tm.getD s undef) w hC fun j hj=>by
  have h1:=hv j hj
  unfold valOf at h1
  exact h1
 rw [← e] at h
 exact h
end
section
variable {w : World} {base : Nat} {A : Option Addr} {n c g : Nat} {l : List UInt8}
theorem Own8.block_ (h:Own8 w base (.slice A n c) l) (h0:0 < n):∃ g,A=some ⟨g,0,none⟩:=by
 have hl:=h.rd.2
 rcases h.2 with ⟨h1,h2⟩ | ⟨g,cap,cur,hv,_⟩
 ·omega
 ·injection hv with e1 e2 e3
  exact ⟨g,e1⟩
theorem Own8.cellz (h:Own8 w base (.slice (some ⟨g,0,none⟩) n c) l) (j:Nat) (hj:j < n):w.cell? ⟨g,j,none⟩=some (.int .u8 ((l.getD j 0).toNat:Int)):=by
 have hl:=h.rd.2
 subst hl
 have hc:=World.ownsRow.cellAt h j (by omega)
 rw [hc]
 have:=rowOf_at l j hj
 simpa using this
end
end Go.Proofs.YtpcbmnmgefhaaaaGreatDoor
