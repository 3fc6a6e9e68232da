import Derived.Test.YtpcbmnmgefhaaaaGreatDoorYJ
namespace Go.Proofs.YtpcbmnmgefhaaaaGreatDoor
set_option maxRecDepth 100000
open Go.ChangeShapes Go.WideShapes Go.ChangeAt Go.RowKit
set_option linter.unusedVariables false
set_option linter.unusedSimpArgs false
theorem bk_ne {w:World} {a b:Nat} {t t':TypeId} {cs cs':Array Value} (h:Bk w a t cs) (h':Bk w b t' cs') (ht:t≠t'):a≠b:=by
 rintro rfl
 have e:=Option.some.inj ((show w.heap[a]? = some (.cells cs t (0,0)) from h).symm.trans (show w.heap[a]? = some (.cells cs' t' (0,0)) from h'))
 injection e with _ e2 _
 exact ht e2
def slR (t:SealV):Array Value:=#[.int .i64 (t.e:Int),.int .i64 (t.c:Int),.int .i64 (t.n:Int),.string (strOf t.x),.string (strOf t.b),.string (strOf t.s)]
def slC (l:List SealV):List Value:=l.flatMap fun t=>(slR t).toList
theorem slC_len (l:List SealV):(slC l).length=l.length * 6:=by
 induction l with
 | nil=>rfl
 | cons p l ih =>
  have e:slC (p :: l)=(slR p).toList ++ slC l:=rfl
  have h3:(slR p).toList.length=6:=rfl
  rw [e,List.length_append,ih,List.length_cons,h3]
  omega
theorem slC_at:∀ (l:List SealV) (k j:Nat) (h:k < l.length),j < 6→(slC l)[k * 6 + j]? = (slR l[k])[j]?
 | [],_,_,h,_=>absurd h (by simp)
 | p :: l,0,j,_,hj=>by
  have e:slC (p :: l)=(slR p).toList ++ slC l:=rfl
  have h3:(slR p).toList.length=6:=rfl
  rw [e,List.getElem?_append_left (by omega)]
  simp
 | p :: l,k + 1,j,h,hj=>by
  have ih:=slC_at l k j (by simpa using h) hj
  have e:slC (p :: l)=(slR p).toList ++ slC l:=rfl
  have h3:(slR p).toList.length=6:=rfl
  rw [e,List.getElem?_append_right (by omega),h3,show (k + 1) * 6 + j - 6=k * 6 + j by omega,ih]
  simp
def OwnSL (w:World) (base:Nat) (v:Value) (l:List SealV):Prop:=w.ownsRow base 120 6 v l.length (slC l)
section
variable {w w' : World} {base : Nat} {v : Value} {l : List SealV} {F : List Nat}
theorem OwnSL.nil_ (w:World) (base:Nat):OwnSL w base (.slice none 0 0) []:=World.ownsRow_nil w base 120 6
theorem OwnSL.keep (h:OwnSL w base v l) (hu:Untouched F w w') (hF:∀ g,v.ownBlock=some g→g∉F):OwnSL w' base v l:=rowKeep h hu hF
theorem OwnSL.form (h:OwnSL w base v l):∃ A c,v = .slice A l.length c:=rowForm h
theorem OwnSL.cells {A:Option Addr} {n c:Nat} (h:OwnSL w base (.slice A n c) l) (k:Nat) (hk:k < l.length):∃ g,A=some ⟨g,0,none⟩∧∀ j,j < 6→w.cell? ⟨g,k * 6 + j,none⟩=(slR l[k])[j]?:=by
 have h0:=h
 rcases h.2 with ⟨hv,hz⟩ | ⟨g,cap,cur,hv,_⟩
 ·omega
 ·injection hv with e1 e2 e3
  subst e1 e2 e3
  have hl:=slC_len l
  refine ⟨g,rfl,fun j hj=>?_⟩
  rw [World.ownsRow.cellAt h0 (k * 6 + j) (by omega)]
  exact slC_at l k j hk hj
theorem infoSl:(Tryz.prog.info? 120).map (fun i=>(i.size,i.bytes,i.zero.map (·.cells.size)))=some (6,72,some 6):=by kernel_rfl
theorem slR_one (t:SealV):∀ u∈(slR t).toList,u.oneCell' = true:=fun u hu=>by
 simp [slR] at hu
 rcases hu with rfl | rfl | rfl | rfl | rfl | rfl <;> rfl
theorem run_appSL (h:OwnSL w base v l) (t:SealV) (g:Nat) (hg:Bk w g 120 (slR t)) (ty:TypeId) (c:Nat) (hsz:l.length + 1≤1000000) (hbase:base≤w.heap.size) :
  ∃ v' w',(Builtin.append_ #[62,62] ty #[v,.slice (some ⟨g,0,none⟩) 1 c]).run Tryz.prog w = .ok v' w'∧OwnSL w' base v' (l ++ [t])∧w.grownBy w' v.ownBlock∧(v'.ownBlock=v.ownBlock∨v'.ownBlock=some w.heap.size):=by
 obtain ⟨i,hi,hii⟩:=Option.map_eq_some_iff.1 infoSl
 simp only [Prod.mk.injEq] at hii
 obtain ⟨hsize,hby,hzz⟩:=hii
 obtain ⟨z,hz,hzs⟩:=Option.map_eq_some_iff.1 hzz
 have hplain:∀ j,(⟨g,0,none⟩:Addr).add j=⟨g,j,none⟩:=fun j=>by unfold Addr.add;split <;> simp_all
 obtain ⟨v',w',hrun,h2,h3,_,h5⟩:=run_append_own_at (P:=Tryz.prog) w base 62 ty 120 i z 6 72 Tryz.underlying62 hi hz hsize hby hzs (by decide) v l.length (slC l) h ⟨g,0,none⟩ 1 c (slR t).toList
  rfl (fun j u hj=>by rw [hplain,hg.cell];simpa using hj) (slR_one t) (by simp only [maxLen];omega) (by omega) hbase
 refine ⟨v',w',hrun,?_,h3,h5⟩
 unfold OwnSL
 have e:slC (l ++ [t])=slC l ++ (slR t).toList:=by simp [slC]
 rw [List.length_append,e]
 exact h2
end
theorem tyN {w:World} {b:Nat} {v:Value} {l:List (List UInt8)} (h:OwnN w b v l):∀ g,v.ownBlock=some g→g < w.heap.size∧∃ cs,Bk w g 9 cs:=fun g e=>by
 refine ⟨(World.ownsRow.lt h g e).2,?_⟩
 rcases h.2 with ⟨rfl,_⟩ | ⟨g',cap,cur,rfl,_,hh,_⟩
 ·cases e
 ·injection e with e
  simp only at e
  subst e
  exact ⟨_,hh⟩
theorem tySL {w:World} {b:Nat} {v:Value} {l:List SealV} (h:OwnSL w b v l):∀ g,v.ownBlock=some g→g < w.heap.size∧∃ cs,Bk w g 120 cs:=fun g e=>by
 refine ⟨(World.ownsRow.lt h g e).2,?_⟩
 rcases h.2 with ⟨rfl,_⟩ | ⟨g',cap,cur,rfl,_,hh,_⟩
 ·cases e
 ·injection e with e
  simp only at e
  subst e
  exact ⟨_,hh⟩
theorem wpList_appRun {P:Program} {ops:Array Oper} {rest:List Oper} {o:Oper} {a:Act} {w w':World} {Q:Exit→Act→World→Prop} (hgd:o.guard=none) (T:Array TypeId) (s x:Operand) (ho:o.op = .call { callee:=.builtin .append,args:=#[s,x],argTypes:=T }) (u v r:Value) (hs:a.eval s=u) (hx:a.eval x=v)
  (hrun:(Builtin.append_ T o.type #[u,v]).run P w = .ok r w') (hk:wpList P ops Q rest (a.put o.dst r) w'):wpList P ops Q (o :: rest) a w :=
 wpList_plain hgd fun _ h=>by
  unfold Oper.wp execOp
  simp only [ho,resolve,invoke,builtin,Sem.run_bind,Sem.run_pure,Result.andThen_ok,List.map_toArray,List.map_cons,List.map_nil,hs,hx,hrun]
  exact h _ _ hk
theorem run_oneSL (w:World) (t:SealV):(Instr.buildSlice 62 1 #[(0,.agg (slR t))]).run Tryz.prog w = .ok (.slice (some ⟨w.heap.size,0,none⟩) 1 1) (w.alloc (.cells (slR t) 120)):=by
 obtain ⟨i,hi,hii⟩:=Option.map_eq_some_iff.1 infoSl
 simp only [Prod.mk.injEq] at hii
 obtain ⟨hsize,hby,hzz⟩:=hii
 obtain ⟨z,hz,hzs⟩:=Option.map_eq_some_iff.1 hzz
 refine run_buildSlice w 62 120 1 _ (slR t) i z Tryz.underlying62 hi hz (by rw [hsize];decide) (by rw [hsize];decide) ?_
 rw [hsize]
 have h:=Go.Great.fill_whole (s:=6) (by decide) [.agg (slR t)] ((Array.range (1 * 6)).map (z.cells[· % z.cells.size]!)) (fun v hv=>by simp at hv;subst hv;simp [Value.cells,slR]) (by simp)
 rw [show ([Value.agg (slR t)].flatMap fun v=>v.cells.toList).toArray=slR t by simp [Value.cells]] at h
 exact h
theorem wpList_oneSL {ops:Array Oper} {rest:List Oper} {o:Oper} {a:Act} {w:World} {Q:Exit→Act→World→Prop} (hgd:o.guard=none) (x:Operand) (ho:o.op = .buildSlice 62 1 #[(0,x)]) (t:SealV) (hx:a.eval x = .agg (slR t))
  (hk:wpList Tryz.prog ops Q rest (a.put o.dst (.slice (some ⟨w.heap.size,0,none⟩) 1 1)) (w.alloc (.cells (slR t) 120))):wpList Tryz.prog ops Q (o :: rest) a w :=
 wpList_plain hgd fun _ h=>by
  unfold Oper.wp execOp
  simp only [ho,Sem.run_bind,Sem.run_pure,Result.andThen_ok,List.map_toArray,List.map_cons,List.map_nil,hx,run_oneSL w t]
  exact h _ _ hk
structure RefV (w:World) (g:Nat) (id:Bool) (K:List UInt8) (vn vl:Value) (N:List (List UInt8)) (L:List SealV) (G:List Nat):Prop where
 blk:Bk w g 64 #[.bool id,.string (strOf K),vn,vl]
 names:OwnN w 0 vn N
 sls:OwnSL w 0 vl L
 ing:g∈G
 inn:∀ b,vn.ownBlock=some b→b∈G
 inl:∀ b,vl.ownBlock=some b→b∈G
 hG:∀ k∈G,k < w.heap.size
section
variable {w w' : World} {g : Nat} {id : Bool} {K : List UInt8} {vn vl vn' vl' : Value} {N N' : List (List UInt8)} {L L' : List SealV} {G F : List Nat}
theorem RefV.keep (h:RefV w g id K vn vl N L G) (hu:Untouched F w w') (hd:∀ k∈G,k∉F):RefV w' g id K vn vl N L G :=
 ⟨h.blk.untouched hu (hd g h.ing),OwnN.keep h.names hu (fun b e=>hd b (h.inn b e)),h.sls.keep hu (fun b e=>hd b (h.inl b e)),h.ing,h.inn,h.inl,fun k hk=>Nat.lt_of_lt_of_le (h.hG k hk) hu.size⟩
theorem RefV.below (h:RefV w g id K vn vl N L G) (hb:Below w.heap.size w w'):RefV w' g id K vn vl N L G:=h.keep (F:=[]) (.of_below hb) (fun _ _=>by simp)
theorem RefV.gn (h:RefV w g id K vn vl N L G):∀ b,vn.ownBlock=some b→b≠g:=fun b e=>by
 obtain ⟨_,cs,hc⟩:=tyN h.names b e
 exact bk_ne hc h.blk (by decide)
theorem RefV.gl (h:RefV w g id K vn vl N L G):∀ b,vl.ownBlock=some b→b≠g:=fun b e=>by
 obtain ⟨_,cs,hc⟩:=tySL h.sls b e
 exact bk_ne hc h.blk (by decide)
theorem RefV.nl (h:RefV w g id K vn vl N L G):∀ b b',vn.ownBlock=some b→vl.ownBlock=some b'→b≠b':=fun b b' e e'=>by
 obtain ⟨_,cs,hc⟩:=tyN h.names b e
 obtain ⟨_,cs',hc'⟩:=tySL h.sls b' e'
 exact bk_ne hc hc' (by decide)
end
end Go.Proofs.YtpcbmnmgefhaaaaGreatDoor
