import Derived.Test.YtpcbmnmgefhaaaaGreatDoorLp
import Derived.Maps.OwnSet
import Derived.DeepKeys4
import Derived.Test.YtpcbmnmgefhaaaaGreatDoorUn
import Derived.LaidEqlPtr
import Derived.Test.YtpcbmnmgefhaaaaGreatDoorHB
import Derived.Test.YtpcbmnmgefhaaaaGreatDoorKK
import Derived.Test.YtpcbmnmgefhaaaaGreatDoorHM
namespace Go.Proofs.YtpcbmnmgefhaaaaGreatDoor
set_option maxRecDepth 100000
open Go.RowKit Go.Maps
set_option linter.unusedVariables false
set_option linter.unusedSimpArgs false
def Rh (v:Value):Option (DataW Value × List MemPlace):=some (.held v,[])
open Classical in
noncomputable def upd (f:Value→Option Value) (k v:Value):Value→Option Value:=fun x=>if x=k then some v else f x
theorem upd_same (f:Value→Option Value) (k v:Value):upd f k v k=some v:=by simp [upd]
theorem upd_other {f:Value→Option Value} {k v x:Value} (h:x≠k):upd f k v x=f x:=by simp [upd,h]
def TellsAt (D:DataW Value) (kl:Lit):Option Value→Prop
 | some v=>Maps.has D kl=true∧∀ z,D.atKey kl z = .held v
 | none=>Maps.has D kl=false
def MapIs (w:World) (k:TypeId) (b n:Nat) (f:Value→Option Value):Prop :=
 ∃ D,w.ownsMap Tryz.prog k Rh b n D∧Maps.size D=n∧∀ key kl,keyOf Tryz.prog k key=some kl→TellsAt D kl (f key)
section
variable {w w' : World} {k t e : TypeId} {b n : Nat} {f : Value → Option Value}
theorem MapIs.made (w:World) (k:TypeId):MapIs (w.alloc (.map #[] 0)) k w.heap.size 0 (fun _=>none) :=
 ⟨.map [],World.ownsMap_made w _ _ _,rfl,fun _ _ _=>rfl⟩
theorem MapIs.lt (h:MapIs w k b n f):b < w.heap.size:=by
 obtain ⟨D,h1,_⟩:=h
 exact h1.lt
theorem MapIs.keep (h:MapIs w k b n f) (hb:w'.heap[b]? = w.heap[b]?):MapIs w' k b n f:=by
 obtain ⟨D,⟨es,clock,h0,r⟩,h2⟩:=h
 exact ⟨D,⟨es,clock,hb.trans h0,r⟩,h2⟩
theorem MapIs.notCells (h:MapIs w k b n f) {cs:Array Value} {ty:TypeId} {fz:Nat × Nat}:w.heap[b]?≠some (.cells cs ty fz):=by
 obtain ⟨D,⟨es,clock,h0,_⟩,_⟩:=h
 rw [h0]
 intro e
 cases e
theorem MapIs.look (h:MapIs w k b n f) (K:Keyed Tryz.prog k) (ht:Tryz.prog.underlying t=some (.map k e)) {z:Value} (hz:(zeroValue e).run Tryz.prog w = .ok z w) {key:Value} {kl:Lit} (hkey:keyOf Tryz.prog k key=some kl) :
  (Instr.lookup t (.map (some b)) key true).run Tryz.prog w = .ok (.tuple #[(f key).getD z,.bool (f key).isSome]) w:=by
 obtain ⟨D,hown,hs,hf⟩:=h
 obtain ⟨v,ps,hrun,hv⟩:=hown.look_ok K ht hz (zd:=.held z) (zp:=[]) rfl hkey
 have hv2:DataW.held v=D.atKey kl (.held z):=by
  have:=Option.some.inj hv
  exact congrArg Prod.fst this
 have hk:=hf key kl hkey
 rw [hrun]
 cases hfk:f key with
 | none =>
  rw [hfk] at hk
  have h1:Maps.has D kl=false:=hk
  rw [Maps.atKey_of_not_has h1] at hv2
  injection hv2 with hv2
  rw [hv2,h1]
  rfl
 | some u =>
  rw [hfk] at hk
  rw [hk.2] at hv2
  injection hv2 with hv2
  rw [hv2,hk.1]
  rfl
theorem MapIs.store (h:MapIs w k b n f) (K:Keyed Tryz.prog k) (ht:Tryz.prog.underlying t=some (.map k e)) (hn:n < maxLen) {key val:Value} {kl:Lit} (hkey:keyOf Tryz.prog k key=some kl) (hnew:f key=none) :
  ∃ w',(Instr.mapUpdate t (.map (some b)) key val).run Tryz.prog w = .ok () w'∧MapIs w' k b (n + 1) (upd f key val)∧w.mapTurned w' b:=by
 obtain ⟨D,hown,hs,hf⟩:=h
 obtain ⟨w',hrun,h1,h2⟩:=hown.store K ht hn hkey (d:=.held val) (ps:=[]) rfl
 have hT:=hown.tidy K
 have hk0:=hf key kl hkey
 rw [hnew] at hk0
 have h0:Maps.has D kl=false:=hk0
 refine ⟨w',hrun,⟨_,h1,?_,?_⟩,h2⟩
 ·rw [Maps.size_put hT,h0,hs]
  rfl
 ·intro key' kl' hk'
  by_cases he:key' = key
  ·subst he
   rw [upd_same]
   rw [hkey] at hk'
   injection hk' with hk'
   subst hk'
   exact ⟨Maps.has_put_same hT.isMap (K.key hkey) _,fun z=>Maps.atKey_put_same hT.isMap (K.key hkey) _ _⟩
  ·rw [upd_other he]
   have hne:kl'≠kl:=fun e=>he (K.inj hk' (e ▸ hkey))
   have hh:=hf key' kl' hk'
   cases hf':f key' with
   | none =>
    rw [hf'] at hh
    exact (Maps.has_put_other hne _).trans hh
   | some u =>
    rw [hf'] at hh
    exact ⟨(Maps.has_put_other hne _).trans hh.1,fun z=>(Maps.atKey_put_other hne _ _).trans (hh.2 z)⟩
theorem MapIs.len (h:MapIs w k b n f) (ht:Tryz.prog.underlying t=some (.map k e)) (ty:TypeId):(Builtin.len_ #[t] ty #[.map (some b)]).run Tryz.prog w = .ok (.int .i64 (n:Int)) w:=by
 obtain ⟨D,hown,hs,_⟩:=h
 rw [hown.len ht ty,hs]
end
theorem keyed9:Keyed Tryz.prog 9:=string_keyed Tryz.underlying9
theorem keyedS:Keyed Tryz.prog 111:=Keyed.of_law (deep_law_laid laidOut_ (m:=3) (by omega) (of_decide_eq_true (by kernel_rfl)) (by kernel_rfl) (by kernel_rfl))
theorem keyedB:Keyed Tryz.prog 116:=Keyed.of_law (deep_law_laid laidOut_ (m:=3) (by omega) (of_decide_eq_true (by kernel_rfl)) (by kernel_rfl) (by kernel_rfl))
def okI (x:Int):Prop:=-9223372036854775808≤x∧x≤9223372036854775807
theorem okI.wf {x:Int} (h:okI x):(Lit.int .i64 x).wf=true:=by
 have h1:IntKind.i64.min = -9223372036854775808:=by decide
 have h2:IntKind.i64.max=9223372036854775807:=by decide
 simp only [Lit.wf,h1,h2,Bool.and_eq_true,decide_eq_true_eq]
 exact h
theorem key9 (s:List UInt8) (h:s.length≤1000000):keyOf Tryz.prog 9 (.string (strOf s))=some (.string s):=by
 have h1:(strOf s).size≤maxLen:=by rw [strOf_size];unfold maxLen;omega
 have h2:(strOf s).data.toList=s:=by simp [strOf]
 unfold keyOf
 simp [Tryz.underlying9,mapKey,h1,h2]
def sKey (c n:Int):Value:=.agg #[.int .i64 c,.int .i64 n]
theorem keyTypeS:Tryz.prog.keyType 111=true:=by kernel_rfl
theorem keyTypeB:Tryz.prog.keyType 116=true:=by kernel_rfl
theorem cellsS:Tryz.prog.cellsOf 111=2:=by kernel_rfl
theorem cellsB:Tryz.prog.cellsOf 116=5:=by kernel_rfl
theorem cellsI_:Tryz.prog.cellsOf 3=1:=by kernel_rfl
theorem cellsT_:Tryz.prog.cellsOf 9=1:=by kernel_rfl
theorem lits_int (d:Nat) (x:Int) (h:okI x):Tryz.prog.keyLits (d + 1) 3 [.int .i64 x]=some [.int .i64 x]:=by
 unfold Program.keyLits
 simp [Tryz.underlying3,h.wf]
theorem lits_str (d:Nat) (s:List UInt8) (h:s.length≤1000000):Tryz.prog.keyLits (d + 1) 9 [.string (strOf s)]=some [.string s]:=by
 unfold Program.keyLits
 have:(strOf s).size≤maxLen:=by rw [strOf_size];unfold maxLen;omega
 have h2:(strOf s).data.toList=s:=by simp [strOf]
 simp [Tryz.underlying9,this,h2]
theorem sKey_lit (c n:Int) (hc:okI c) (hn:okI n):∃ kl,keyOf Tryz.prog 111 (sKey c n)=some kl:=by
 obtain ⟨d,hd⟩:∃ d,Tryz.prog.types.size=d + 1:=⟨_,(show Tryz.prog.types.size=(Tryz.prog.types.size - 1) + 1 by kernel_rfl)⟩
 have hl:Tryz.prog.keyLits (d + 2) 111 [.int .i64 c,.int .i64 n]=some [.int .i64 c,.int .i64 n]:=by
  unfold Program.keyLits
  have h1:=lits_int d c hc
  have h2:=lits_int d n hn
  simp [Tryz.underlying111,cellsS,cellsI_,h1,h2]
 refine ⟨.string (keyBytes [.int .i64 c,.int .i64 n]),?_⟩
 have hf:(sKey c n).formed Tryz.prog 111=true:=by simp [sKey,Value.formed,Tryz.underlying111,cellsS]
 unfold keyOf
 simp only [Tryz.underlying111,keyTypeS,hf,hd,Bool.and_self,if_true]
 rw [show (sKey c n).cells.toList = [.int .i64 c,.int .i64 n] from rfl,hl]
 rfl
def bKey (e c n:Int) (x s:List UInt8):Value:=.agg #[.int .i64 e,.int .i64 c,.int .i64 n,.string (strOf x),.string (strOf s)]
theorem bKey_lit (e c n:Int) (x s:List UInt8) (he:okI e) (hc:okI c) (hn:okI n) (hx:x.length≤1000000) (hs:s.length≤1000000):∃ kl,keyOf Tryz.prog 116 (bKey e c n x s)=some kl:=by
 obtain ⟨d,hd⟩:∃ d,Tryz.prog.types.size=d + 1:=⟨_,(show Tryz.prog.types.size=(Tryz.prog.types.size - 1) + 1 by kernel_rfl)⟩
 have hl:Tryz.prog.keyLits (d + 2) 116 [.int .i64 e,.int .i64 c,.int .i64 n,.string (strOf x),.string (strOf s)]=some [.int .i64 e,.int .i64 c,.int .i64 n,.string x,.string s]:=by
  unfold Program.keyLits
  have h0:=lits_int d e he
  have h1:=lits_int d c hc
  have h2:=lits_int d n hn
  have h3:=lits_str d x hx
  have h4:=lits_str d s hs
  simp [Tryz.underlying116,cellsB,cellsI_,cellsT_,h0,h1,h2,h3,h4]
 refine ⟨.string (keyBytes [.int .i64 e,.int .i64 c,.int .i64 n,.string x,.string s]),?_⟩
 have hf:(bKey e c n x s).formed Tryz.prog 116=true:=by simp [bKey,Value.formed,Tryz.underlying116,cellsB]
 unfold keyOf
 simp only [Tryz.underlying116,keyTypeB,hf,hd,Bool.and_self,if_true]
 rw [show (bKey e c n x s).cells.toList = [.int .i64 e,.int .i64 c,.int .i64 n,.string (strOf x),.string (strOf s)] from rfl,hl]
 rfl
theorem sKey_inj {c n c' n':Int} (h:sKey c n=sKey c' n'):c=c'∧n=n':=by
 simpa [sKey] using h
theorem bKey_inj {e c n e' c' n':Int} {x s x' s':List UInt8} (h:bKey e c n x s=bKey e' c' n' x' s'):e=e'∧c=c'∧n=n'∧x=x'∧s=s':=by
 simpa [bKey,strOf_inj] using h
theorem hidyb_ {p:Prop} (h:p):Hid p:=h
def vrow (id:Bool) (K:List UInt8) (sp nm kn:Option Nat):Array Value:=(Value.bool id :: ((K.map fun b=>Value.int .u8 (b.toNat:Int)) ++ [.map sp,.map nm,.map kn])).toArray
theorem vrow_size (id:Bool) (K:List UInt8) (hK:K.length=32) (sp nm kn:Option Nat):(vrow id K sp nm kn).size=36:=by simp [vrow,hK]
theorem vrow_0 (id:Bool) (K:List UInt8) (sp nm kn:Option Nat):(vrow id K sp nm kn)[0]? = some (.bool id):=by simp [vrow]
theorem vrow_k (id:Bool) (K:List UInt8) (hK:K.length=32) (sp nm kn:Option Nat) (j:Nat) (hj:j < 32):(vrow id K sp nm kn)[1 + j]? = (rowOf K)[j]?:=by
 have h:j < (K.map fun b=>Value.int .u8 (b.toNat:Int)).length:=by simp [hK,hj]
 simp only [vrow,rowOf,List.getElem?_toArray]
 rw [Nat.add_comm,List.getElem?_cons_succ,List.getElem?_append_left h]
theorem vrow_33 (id:Bool) (K:List UInt8) (hK:K.length=32) (sp nm kn:Option Nat):(vrow id K sp nm kn)[33]? = some (.map sp):=by
 simp only [vrow,List.getElem?_toArray]
 rw [show 33=32 + 1 from rfl,List.getElem?_cons_succ,List.getElem?_append_right (by simp [hK])]
 simp [hK]
theorem vrow_34 (id:Bool) (K:List UInt8) (hK:K.length=32) (sp nm kn:Option Nat):(vrow id K sp nm kn)[34]? = some (.map nm):=by
 simp only [vrow,List.getElem?_toArray]
 rw [show 34=33 + 1 from rfl,List.getElem?_cons_succ,List.getElem?_append_right (by simp [hK])]
 simp [hK]
theorem vrow_35 (id:Bool) (K:List UInt8) (hK:K.length=32) (sp nm kn:Option Nat):(vrow id K sp nm kn)[35]? = some (.map kn):=by
 simp only [vrow,List.getElem?_toArray]
 rw [show 35=34 + 1 from rfl,List.getElem?_cons_succ,List.getElem?_append_right (by simp [hK])]
 simp [hK]
theorem built_v32 (a0 a1 a2 a3 a4 a5 a6 a7 a8 a9 a10 a11 a12 a13 a14 a15 a16 a17 a18 a19 a20 a21 a22 a23 a24 a25 a26 a27 a28 a29 a30 a31:UInt8) (sp nm kn:Option Nat) :
  Tryz.prog.built 95 [(0,.bool true),(1,.agg (rowOf [a0,a1,a2,a3,a4,a5,a6,a7,a8,a9,a10,a11,a12,a13,a14,a15,a16,a17,a18,a19,a20,a21,a22,a23,a24,a25,a26,a27,a28,a29,a30,a31])),(2,.map sp),(3,.map nm),(4,.map kn)]=some (vrow true [a0,a1,a2,a3,a4,a5,a6,a7,a8,a9,a10,a11,a12,a13,a14,a15,a16,a17,a18,a19,a20,a21,a22,a23,a24,a25,a26,a27,a28,a29,a30,a31] sp nm kn):=by kernel_rfl
theorem built_r32 (a0 a1 a2 a3 a4 a5 a6 a7 a8 a9 a10 a11 a12 a13 a14 a15 a16 a17 a18 a19 a20 a21 a22 a23 a24 a25 a26 a27 a28 a29 a30 a31:UInt8) (sp:Option Nat) :
  Tryz.prog.built 95 [(1,.agg (rowOf [a0,a1,a2,a3,a4,a5,a6,a7,a8,a9,a10,a11,a12,a13,a14,a15,a16,a17,a18,a19,a20,a21,a22,a23,a24,a25,a26,a27,a28,a29,a30,a31])),(2,.map sp)]=some (vrow false [a0,a1,a2,a3,a4,a5,a6,a7,a8,a9,a10,a11,a12,a13,a14,a15,a16,a17,a18,a19,a20,a21,a22,a23,a24,a25,a26,a27,a28,a29,a30,a31] sp none none):=by kernel_rfl
theorem built_v (K:List UInt8) (hK:K.length=32) (sp nm kn:Option Nat):Tryz.prog.built 95 [(0,.bool true),(1,.agg (rowOf K)),(2,.map sp),(3,.map nm),(4,.map kn)]=some (vrow true K sp nm kn):=by
 match K,hK with
 | [a0,a1,a2,a3,a4,a5,a6,a7,a8,a9,a10,a11,a12,a13,a14,a15,a16,a17,a18,a19,a20,a21,a22,a23,a24,a25,a26,a27,a28,a29,a30,a31],_=>exact built_v32 a0 a1 a2 a3 a4 a5 a6 a7 a8 a9 a10 a11 a12 a13 a14 a15 a16 a17 a18 a19 a20 a21 a22 a23 a24 a25 a26 a27 a28 a29 a30 a31 sp nm kn
theorem built_r (K:List UInt8) (hK:K.length=32) (sp:Option Nat):Tryz.prog.built 95 [(1,.agg (rowOf K)),(2,.map sp)]=some (vrow false K sp none none):=by
 match K,hK with
 | [a0,a1,a2,a3,a4,a5,a6,a7,a8,a9,a10,a11,a12,a13,a14,a15,a16,a17,a18,a19,a20,a21,a22,a23,a24,a25,a26,a27,a28,a29,a30,a31],_=>exact built_r32 a0 a1 a2 a3 a4 a5 a6 a7 a8 a9 a10 a11 a12 a13 a14 a15 a16 a17 a18 a19 a20 a21 a22 a23 a24 a25 a26 a27 a28 a29 a30 a31 sp
theorem infoV:(Tryz.prog.info? 95).map (·.size)=some 36:=by kernel_rfl
open Classical in
noncomputable def fS (S:List (Nat × Nat)):Value→Option Value:=fun x=>if ∃ p∈S,x=sKey (p.1:Int) (p.2:Int) then some (.agg #[]) else none
theorem sKeyN_inj {c n c' n':Nat} (h:sKey (c:Int) (n:Int)=sKey (c':Int) (n':Int)):c=c'∧n=n':=by
 obtain ⟨h1,h2⟩:=sKey_inj h
 exact ⟨by omega,by omega⟩
theorem fS_yes {S:List (Nat × Nat)} {c n:Nat} (h:(c,n)∈S):fS S (sKey (c:Int) (n:Int))=some (.agg #[]):=by
 unfold fS
 rw [if_pos ⟨_,h,rfl⟩]
theorem fS_no {S:List (Nat × Nat)} {c n:Nat} (h:(c,n)∉S):fS S (sKey (c:Int) (n:Int))=none:=by
 unfold fS
 rw [if_neg]
 rintro ⟨⟨a,b⟩,hp,e⟩
 obtain ⟨rfl,rfl⟩:=sKeyN_inj e
 exact h hp
theorem fS_nil:fS []=fun _=>none:=by
 funext x
 unfold fS
 simp
theorem fS_snoc (S:List (Nat × Nat)) (c n:Nat):upd (fS S) (sKey (c:Int) (n:Int)) (.agg #[])=fS (S ++ [(c,n)]):=by
 funext x
 by_cases hx:x=sKey (c:Int) (n:Int)
 ·subst hx
  rw [upd_same,fS_yes (by simp)]
 ·rw [upd_other hx]
  unfold fS
  have:(∃ p∈S,x=sKey (p.1:Int) (p.2:Int))↔(∃ p∈S ++ [(c,n)],x=sKey (p.1:Int) (p.2:Int)):=by
   constructor
   ·rintro ⟨p,hp,e⟩;exact ⟨p,List.mem_append_left _ hp,e⟩
   ·rintro ⟨p,hp,e⟩
    rcases List.mem_append.1 hp with h | h
    ·exact ⟨p,h,e⟩
    ·simp at h;subst h;exact absurd e hx
  by_cases hp:∃ p∈S,x=sKey (p.1:Int) (p.2:Int)
  ·rw [if_pos hp,if_pos (this.1 hp)]
  ·rw [if_neg hp,if_neg (fun h=>hp (this.2 h))]
def ordN (N:List (List UInt8)) (s:List UInt8):Nat:=N.idxOf s + 1
def addNm (N:List (List UInt8)) (s:List UInt8):List (List UInt8):=if s∈N then N else N ++ [s]
open Classical in
noncomputable def fN (N:List (List UInt8)):Value→Option Value:=fun x=>if h:∃ s∈N,x = .string (strOf s) then some (.int .i64 ((ordN N (Classical.choose h):Nat):Int)) else none
theorem fN_yes {N:List (List UInt8)} {s:List UInt8} (h:s∈N):fN N (.string (strOf s))=some (.int .i64 ((ordN N s:Nat):Int)):=by
 unfold fN
 have hx:∃ s'∈N,Value.string (strOf s) = .string (strOf s'):=⟨s,h,rfl⟩
 rw [dif_pos hx]
 have h2:=(Classical.choose_spec hx).2
 injection h2 with h2
 rw [← strOf_inj.1 h2]
theorem fN_no {N:List (List UInt8)} {s:List UInt8} (h:s∉N):fN N (.string (strOf s))=none:=by
 unfold fN
 rw [dif_neg]
 rintro ⟨s',hs,e⟩
 injection e with e
 rw [strOf_inj.1 e] at h
 exact h hs
theorem fN_far {N:List (List UInt8)} {x:Value} (h:¬ ∃ s∈N,x = .string (strOf s)):fN N x=none:=by
 unfold fN
 rw [dif_neg h]
theorem fN_nil:fN []=fun _=>none:=by
 funext x
 exact fN_far (by simp)
theorem ordN_snoc {N:List (List UInt8)} {s t:List UInt8} (h:t∈N):ordN (N ++ [s]) t=ordN N t:=by
 unfold ordN
 rw [List.idxOf_append,if_pos h]
theorem ordN_new {N:List (List UInt8)} {s:List UInt8} (h:s∉N):ordN N s=N.length + 1:=by
 unfold ordN
 rw [List.idxOf_eq_length h]
theorem fN_snoc {N:List (List UInt8)} {s:List UInt8} (h:s∉N):upd (fN N) (.string (strOf s)) (.int .i64 ((N.length + 1:Nat):Int))=fN (N ++ [s]):=by
 funext x
 by_cases hx:x = .string (strOf s)
 ·subst hx
  rw [upd_same,fN_yes (by simp),show ordN (N ++ [s]) s=N.length + 1 by unfold ordN;rw [List.idxOf_append,if_neg h];simp]
 ·rw [upd_other hx]
  by_cases hp:∃ t∈N,x = .string (strOf t)
  ·obtain ⟨t,ht,rfl⟩:=hp
   rw [fN_yes ht,fN_yes (List.mem_append_left _ ht),ordN_snoc ht]
  ·rw [fN_far hp,fN_far]
   rintro ⟨t,ht,e⟩
   rcases List.mem_append.1 ht with h1 | h1
   ·exact hp ⟨t,h1,e⟩
   ·simp at h1;subst h1;exact hx e
structure SealV where
 e:Nat
 c:Nat
 n:Nat
 x:List UInt8
 s:List UInt8
 b:List UInt8
def SealV.key (t:SealV):Value:=bKey (t.e:Int) (t.c:Int) (t.n:Int) t.x t.s
def InF (w:World) (F:List Nat) (A:Option Addr) (l:List UInt8):Prop :=
 0 < l.length→∃ b off,A=some ⟨b,off,none⟩∧b∈F∧b < w.heap.size∧(∃ cs ty fz,w.heap[b]? = some (.cells cs ty fz))∧∀ j,j < l.length→w.cell? ⟨b,off + j,none⟩=some (.int .u8 ((l.getD j 0).toNat:Int))
theorem InF.rd {w:World} {F:List Nat} {A:Option Addr} {l:List UInt8} (h:InF w F A l):Rd w w.heap.size A l:=fun hn=>by
 obtain ⟨b,off,e,_,hb,_,hc⟩:=h hn
 exact ⟨b,off,e,hb,hc⟩
structure KnIs (w:World) (F:List Nat) (f:Value→Option Value) (L:List SealV):Prop where
 all:∀ t∈L,∃ A c,f t.key=some (.slice A t.b.length c)∧t.b.length≤c∧c≤9223372036854775807∧InF w F A t.b
 only:∀ x u,f x=some u→∃ t∈L,x=t.key
structure VltI (w:World) (v sp nm kn:Nat) (K:List UInt8) (N:List (List UInt8)) (S:List (Nat × Nat)) (L:List SealV) (F:List Nat):Prop where
 blk:Bk w v 95 (vrow true K (some sp) (some nm) (some kn))
 spent:MapIs w 111 sp S.length (fS S)
 names:MapIs w 9 nm N.length (fN N)
 known:∃ n f,n≤L.length∧MapIs w 116 kn n f∧KnIs w F f L
 len:K.length=32
 ne1:sp≠nm
 ne2:sp≠kn
 ne3:nm≠kn
 inv:v∈F
 ins:sp∈F
 inn:nm∈F
 ink:kn∈F
 lts:∀ t∈L,(t.c,t.n)∈S
 hF:∀ k∈F,k < w.heap.size
structure VltR (w:World) (v sp:Nat) (K:List UInt8) (S:List (Nat × Nat)) (F:List Nat):Prop where
 blk:Bk w v 95 (vrow false K (some sp) none none)
 spent:MapIs w 111 sp S.length (fS S)
 len:K.length=32
 inv:v∈F
 ins:sp∈F
 hF:∀ k∈F,k < w.heap.size
section
variable {w w' : World} {v sp nm kn : Nat} {K : List UInt8} {N : List (List UInt8)} {S : List (Nat × Nat)} {L : List SealV} {F F' : List Nat}
theorem heap_cell {b:Nat} (h:w'.heap[b]? = w.heap[b]?) (i:Nat):w'.cell? ⟨b,i,none⟩=w.cell? ⟨b,i,none⟩:=World.cell?_of_block h
theorem InF.keep {A:Option Addr} {l:List UInt8} (h:InF w F A l) (hk:∀ k∈F,w'.heap[k]? = w.heap[k]?) (hs:w.heap.size≤w'.heap.size):InF w' F A l:=fun hn=>by
 obtain ⟨b,off,e,hb,hlt,⟨cs,ty,fz,hc0⟩,hc⟩:=h hn
 exact ⟨b,off,e,hb,by omega,⟨cs,ty,fz,(hk b hb).trans hc0⟩,fun j hj=>(heap_cell (hk b hb) _).trans (hc j hj)⟩
theorem VltI.keep (h:VltI w v sp nm kn K N S L F) (hk:∀ k∈F,w'.heap[k]? = w.heap[k]?) (hs:w.heap.size≤w'.heap.size):VltI w' v sp nm kn K N S L F:=by
 obtain ⟨n,f,h1,h2,h3⟩:=h.known
 exact ⟨(hk v h.inv).trans h.blk,h.spent.keep (hk sp h.ins),h.names.keep (hk nm h.inn),⟨n,f,h1,h2.keep (hk kn h.ink),⟨fun t ht=>by
  obtain ⟨A,c,e1,e2,e3,e4⟩:=h3.all t ht
  exact ⟨A,c,e1,e2,e3,e4.keep hk hs⟩,h3.only⟩⟩,h.len,h.ne1,h.ne2,h.ne3,h.inv,h.ins,h.inn,h.ink,h.lts,fun k hkF=>Nat.lt_of_lt_of_le (h.hF k hkF) hs⟩
theorem VltI.below (h:VltI w v sp nm kn K N S L F) (hb:Below w.heap.size w w'):VltI w' v sp nm kn K N S L F:=h.keep (fun k hk=>hb.block k (h.hF k hk)) hb.size
theorem VltI.untouched {G:List Nat} (h:VltI w v sp nm kn K N S L F) (hb:Untouched G w w') (hG:∀ k∈F,k∉G):VltI w' v sp nm kn K N S L F:=h.keep (fun k hk=>hb.block k (h.hF k hk) (hG k hk)) hb.size
theorem VltR.keep (h:VltR w v sp K S F) (hk:∀ k∈F,w'.heap[k]? = w.heap[k]?) (hs:w.heap.size≤w'.heap.size):VltR w' v sp K S F :=
 ⟨(hk v h.inv).trans h.blk,h.spent.keep (hk sp h.ins),h.len,h.inv,h.ins,fun k hkF=>Nat.lt_of_lt_of_le (h.hF k hkF) hs⟩
theorem VltR.below (h:VltR w v sp K S F) (hb:Below w.heap.size w w'):VltR w' v sp K S F:=h.keep (fun k hk=>hb.block k (h.hF k hk)) hb.size
end
section
variable {w : World} {v sp : Nat} {id : Bool} {K : List UInt8} {nm kn : Option Nat}
set_option maxHeartbeats 1000000 in
theorem made_yes (h:Bk w v 95 (vrow id K (some sp) nm kn)) (hK:K.length=32) :
  Calls Tryz.prog 50 #[.pointer (some ⟨v,0,none⟩)] w fun e w'=>e = .returned (.bool true)∧w=w':=by
 have c33:=(h.cell 33).trans (vrow_33 id K hK _ _ _)
 have hmn:=fun W=>run_neq_map_nil (P:=Tryz.prog) W 91 111 112 (some sp) Tryz.underlying91
 clear h
 go_enter Tryz.func50,Tryz.ntmps50
 go_wp2
 go_ret
 exact ⟨rfl,rfl⟩
end
set_option maxHeartbeats 2000000 in
theorem ideal_new (w:World) (K:List UInt8) (hK:K.length=32) :
  Calls Tryz.prog 18 #[.agg (rowOf K)] w fun e w'=>∃ v sp nm kn F,e = .returned (.pointer (some ⟨v,0,none⟩))∧VltI w' v sp nm kn K [] [] [] F∧(∀ k∈F,w.heap.size≤k)∧Below w.heap.size w w':=by
 have hmm:=@run_makeMap Tryz.prog
 obtain ⟨g,hg⟩:∃ g,w.heap.size=g:=⟨_,rfl⟩
 obtain ⟨w0,hw0⟩:∃ w0,w.alloc (.cells (rowOf K) 22)=w0:=⟨_,rfl⟩
 have K0:Bk w0 g 22 (rowOf K):=by rw [← hw0,← hg];exact Bk.new w _ _
 have B0:Below g w w0:=by rw [← hw0,← hg];exact (Below.refl _ _).alloc (Nat.le_refl _) _
 have S0:w0.heap.size=g + 1:=by rw [← hw0,← hg];simp
 obtain ⟨w1,hw1⟩:∃ w1,w0.alloc (.map #[] 0)=w1:=⟨_,rfl⟩
 have M1:MapIs w1 111 (g + 1) 0 (fun _=>none):=by rw [← hw1,← S0];exact MapIs.made w0 _
 have B1:Below w0.heap.size w0 w1:=by rw [← hw1];exact (Below.refl _ _).alloc (Nat.le_refl _) _
 have S1:w1.heap.size=g + 2:=by rw [← hw1];simp [S0]
 obtain ⟨w2,hw2⟩:∃ w2,w1.alloc (.map #[] 0)=w2:=⟨_,rfl⟩
 have M2:MapIs w2 9 (g + 2) 0 (fun _=>none):=by rw [← hw2,← S1];exact MapIs.made w1 _
 have B2:Below w1.heap.size w1 w2:=by rw [← hw2];exact (Below.refl _ _).alloc (Nat.le_refl _) _
 have S2:w2.heap.size=g + 3:=by rw [← hw2];simp [S1]
 obtain ⟨w3,hw3⟩:∃ w3,w2.alloc (.map #[] 0)=w3:=⟨_,rfl⟩
 have M3:MapIs w3 116 (g + 3) 0 (fun _=>none):=by rw [← hw3,← S2];exact MapIs.made w2 _
 have B3:Below w2.heap.size w2 w3:=by rw [← hw3];exact (Below.refl _ _).alloc (Nat.le_refl _) _
 have S3:w3.heap.size=g + 4:=by rw [← hw3];simp [S2]
 obtain ⟨w4,hw4⟩:∃ w4,w3.alloc (.cells (vrow true K (some (g + 1)) (some (g + 2)) (some (g + 3))) 95)=w4:=⟨_,rfl⟩
 have K4:Bk w4 (g + 4) 95 (vrow true K (some (g + 1)) (some (g + 2)) (some (g + 3))):=by rw [← hw4,← S3];exact Bk.new w3 _ _
 have B4:Below w3.heap.size w3 w4:=by rw [← hw4];exact (Below.refl _ _).alloc (Nat.le_refl _) _
 have S4:w4.heap.size=g + 5:=by rw [← hw4];simp [S3]
 have HV:=hidyb_ (show VltI w4 (g + 4) (g + 1) (g + 2) (g + 3) K [] [] [] [g + 4,g + 1,g + 2,g + 3] from ⟨K4,
  by rw [fS_nil];exact M1.keep ((B4.block _ (by omega)).trans ((B3.block _ (by omega)).trans (B2.block _ (by omega)))),
  by rw [fN_nil];exact M2.keep ((B4.block _ (by omega)).trans (B3.block _ (by omega))),
  ⟨0,fun _=>none,Nat.le_refl _,M3.keep (B4.block _ (by omega)),⟨fun t ht=>(by cases ht),fun x u h=>(by cases h)⟩⟩,
  hK,by omega,by omega,by omega,by simp,by simp,by simp,by simp,(fun t ht=>by cases ht),by intro k hk;simp at hk;omega⟩)
 have HX:=hidyb_ (show Below g w w4 from B0.trans ((B1.trans ((B2.trans ((B3.trans (B4.mono (by omega))).mono (by omega))).mono (by omega))).mono (by omega)))
 have HB:=hidyb_ (built_v K hK (some (g + 1)) (some (g + 2)) (some (g + 3)))
 have I:=hidyb_ (ib32 K hK)
 have IV:=infoV
 have VS:=hidyb_ (vrow_size true K hK (some (g + 1)) (some (g + 2)) (some (g + 3)))
 clear M1 M2 M3 B0 B1 B2 B3 B4 K4 hK
 go_enter Tryz.func18,Tryz.ntmps18
 go_upto_region 1 with fail
 go_wp2_with (first
  | (refine wpList_load_row rfl 22 _ rfl g rfl 22 (rowOf K) (0,0) _ K0 Tryz.underlying22 rfl I.out ?_)
  | (refine wpList_built rfl 95 _ rfl (vrow true K (some (g + 1)) (some (g + 2)) (some (g + 3))) (by simp only [List.map_toArray,List.map_cons,List.map_nil];exact HB.out) ?_))
 go_ret
 exact ⟨_,_,_,_,_,rfl,HV.out,(by intro k hk;simp at hk;omega),by rw [hg];exact HX.out⟩
set_option maxHeartbeats 2000000 in
theorem real_new (w:World) (K:List UInt8) (hK:K.length=32) :
  Calls Tryz.prog 19 #[.agg (rowOf K)] w fun e w'=>∃ v sp F,e = .returned (.pointer (some ⟨v,0,none⟩))∧VltR w' v sp K [] F∧(∀ k∈F,w.heap.size≤k)∧Below w.heap.size w w':=by
 have hmm:=@run_makeMap Tryz.prog
 obtain ⟨g,hg⟩:∃ g,w.heap.size=g:=⟨_,rfl⟩
 obtain ⟨w0,hw0⟩:∃ w0,w.alloc (.cells (rowOf K) 22)=w0:=⟨_,rfl⟩
 have K0:Bk w0 g 22 (rowOf K):=by rw [← hw0,← hg];exact Bk.new w _ _
 have B0:Below g w w0:=by rw [← hw0,← hg];exact (Below.refl _ _).alloc (Nat.le_refl _) _
 have S0:w0.heap.size=g + 1:=by rw [← hw0,← hg];simp
 obtain ⟨w1,hw1⟩:∃ w1,w0.alloc (.map #[] 0)=w1:=⟨_,rfl⟩
 have M1:MapIs w1 111 (g + 1) 0 (fun _=>none):=by rw [← hw1,← S0];exact MapIs.made w0 _
 have B1:Below w0.heap.size w0 w1:=by rw [← hw1];exact (Below.refl _ _).alloc (Nat.le_refl _) _
 have S1:w1.heap.size=g + 2:=by rw [← hw1];simp [S0]
 obtain ⟨w4,hw4⟩:∃ w4,w1.alloc (.cells (vrow false K (some (g + 1)) none none) 95)=w4:=⟨_,rfl⟩
 have K4:Bk w4 (g + 2) 95 (vrow false K (some (g + 1)) none none):=by rw [← hw4,← S1];exact Bk.new w1 _ _
 have B4:Below w1.heap.size w1 w4:=by rw [← hw4];exact (Below.refl _ _).alloc (Nat.le_refl _) _
 have S4:w4.heap.size=g + 3:=by rw [← hw4];simp [S1]
 have HV:=hidyb_ (show VltR w4 (g + 2) (g + 1) K [] [g + 2,g + 1] from ⟨K4,
  by rw [fS_nil];exact M1.keep (B4.block _ (by omega)),hK,by simp,by simp,by intro k hk;simp at hk;omega⟩)
 have HX:=hidyb_ (show Below g w w4 from B0.trans ((B1.trans (B4.mono (by omega))).mono (by omega)))
 have HB:=hidyb_ (built_r K hK (some (g + 1)))
 have I:=hidyb_ (ib32 K hK)
 have IV:=infoV
 have VS:=hidyb_ (vrow_size false K hK (some (g + 1)) none none)
 clear M1 B0 B1 B4 K4 hK
 go_enter Tryz.func19,Tryz.ntmps19
 go_upto_region 1 with fail
 go_wp2_with (first
  | (refine wpList_load_row rfl 22 _ rfl g rfl 22 (rowOf K) (0,0) _ K0 Tryz.underlying22 rfl I.out ?_)
  | (refine wpList_built rfl 95 _ rfl (vrow false K (some (g + 1)) none none) (by simp only [List.map_toArray,List.map_cons,List.map_nil];exact HB.out) ?_))
 go_ret
 exact ⟨_,_,_,rfl,HV.out,(by intro k hk;simp at hk;omega),by rw [hg];exact HX.out⟩
theorem cat_rd (w3:World) (A1 A2:Option Addr) (n1 n2 c1 c2:Nat) (l1 l2:List UInt8) (h1:Rd w3 w3.heap.size A1 l1) (h2:Rd w3 w3.heap.size A2 l2) (hn1:l1.length=n1) (hn2:l2.length=n2) :
  CatAt (w3.alloc (.cells #[.slice A1 n1 c1,.slice A2 n2 c2] 23)) (w3.alloc (.cells #[.slice A1 n1 c1,.slice A2 n2 c2] 23)).heap.size w3.heap.size [(A1,c1,l1),(A2,c2,l2)]:=by
 have hb:=Bk.new w3 23 #[.slice A1 n1 c1,.slice A2 n2 c2]
 have hB:=(Below.refl w3.heap.size w3).alloc (Nat.le_refl _) (.cells #[.slice A1 n1 c1,.slice A2 n2 c2] 23)
 refine ⟨hb.lt,fun i hi=>?_⟩
 have hcell:=hb.cell i
 have hlt:i < 2:=hi
 rcases i with _ | _ | i
 ·exact ⟨hcell.trans (by simp [hn1]),(h1.below hB).more hB.size⟩
 ·exact ⟨hcell.trans (by simp [hn2]),(h2.below hB).more hB.size⟩
 ·omega
def drawB (K:List UInt8) (kind ord n:Nat):List UInt8:=highB 8 ord ++ streamB K (nonceB kind ord) 0 (zbytes n)
theorem drawB_len (K:List UInt8) (kind ord n:Nat):(drawB K kind ord n).length=8 + n:=by rw [drawB,List.length_append,highB_len,streamB_len,zbytes_len]
def DrR (v g0 g5 c5 gz n g6:Nat) (K No o8 Sm D:List UInt8):Nat→Value→World→Prop
 | 0,u,_=>u = .slice (some ⟨g0,0,none⟩) 8 8
 | 1,u,_=>u = .pointer (some ⟨v,0,none⟩)
 | 2,u,_=>u = .pointer (some ⟨v,0,none⟩)
 | 3,u,_=>u = .pointer (some ⟨v,1,none⟩)
 | 4,u,_=>u = .agg (rowOf K)
 | 5,u,_=>u = .slice (some ⟨g5,0,none⟩) 12 c5
 | 6,u,_=>u = .pointer (some ⟨g5,0,none⟩)
 | 7,u,_=>u = .agg (rowOf No)
 | 8,u,_=>u = .slice (some ⟨gz,0,none⟩) n n
 | 9,u,W=>∃ A c,u = .slice A n c∧Rd W W.heap.size A Sm
 | 10,u,W=>∃ q A c,u = .slice (some ⟨q,0,none⟩) 2 2∧CatAt W W.heap.size q [(some ⟨g0,0,none⟩,8,o8),(A,c,Sm)]
 | 11,u,W=>∃ A c,u = .slice A (8 + n) c∧Own8 W g6 (.slice A (8 + n) c) D
 | 12,u,W=>∃ A c,u = .slice A (8 + n) c∧Own8 W g6 (.slice A (8 + n) c) D
 | _,_,_=>True
theorem CatAt.more {w:World} {B B' g:Nat} {ps:List (Option Addr × Nat × List UInt8)} (h:CatAt w B g ps) (hB:B≤B'):CatAt w B' g ps :=
 ⟨Nat.lt_of_lt_of_le h.1 hB,fun i hi=>⟨(h.2 i hi).1,(h.2 i hi).2.more hB⟩⟩
theorem DrR.stable {v g0 g5 c5 gz n g6:Nat} {K No o8 Sm D:List UInt8} {W W':World} (hT:Below W.heap.size W W'):∀ (j:Nat) (u:Value),DrR v g0 g5 c5 gz n g6 K No o8 Sm D j u W→DrR v g0 g5 c5 gz n g6 K No o8 Sm D j u W'
 | 0,_,h=>h
 | 1,_,h=>h
 | 2,_,h=>h
 | 3,_,h=>h
 | 4,_,h=>h
 | 5,_,h=>h
 | 6,_,h=>h
 | 7,_,h=>h
 | 8,_,h=>h
 | 9,_,⟨A,c,e,h⟩=>⟨A,c,e,(h.below hT).more hT.size⟩
 | 10,_,⟨q,A,c,e,h⟩=>⟨q,A,c,e,(h.below hT).more hT.size⟩
 | 11,_,⟨A,c,e,h⟩=>⟨A,c,e,h.below hT (Nat.le_refl _)⟩
 | 12,_,⟨A,c,e,h⟩=>⟨A,c,e,h.below hT (Nat.le_refl _)⟩
 | _ + 13,_,_=>trivial
set_option maxHeartbeats 4000000 in
theorem draw_any {w:World} {v:Nat} {id:Bool} {K:List UInt8} {sp nm kn:Option Nat} (h:Bk w v 95 (vrow id K sp nm kn)) (hK:K.length=32) (kind ord n:Nat) (hk:kind≤1) (ho:ord≤4611686018427387904) (hn:n≤1000000) :
  Calls Tryz.prog 52 #[.pointer (some ⟨v,0,none⟩),.int .i64 (kind:Int),.int .i64 (ord:Int),.int .i64 ((n:Int) + 8)] w (NewP w (8 + n) (drawB K kind ord n)):=by
 have hw1:IntKind.u64.wrap (kind:Int)=(kind:Int):=IntWalk.u64_in _ (by omega)
 have hw2:IntKind.u64.wrap (ord:Int)=(ord:Int):=IntWalk.u64_in _ (by omega)
 have hw3:IntKind.i64.wrap ((n:Int) + 8 - 8)=(n:Int):=by
  have:(n:Int) + 8 - 8=(n:Int):=by omega
  rw [this];exact IntWalk.i64_in _ (by omega)
 have hw4:(n:Int) + 8 - 8=(n:Int):=by omega
 have hmk:=fun W=>mk8 n (by omega) W
 have c1:=fun W=>putHigh_any ord 8 8 (by omega) (by omega) (by omega) (.inr (.inl ⟨by omega,by omega,rfl⟩)) W
 have c2:=fun W=>putHigh_any kind 4 4 (by omega) (by omega) (by omega) (.inr (.inl ⟨by omega,by omega,rfl⟩)) W
 have HV:=hidyb_ h
 have KL:=hidyb_ hK
 have NL:=hidyb_ (nonceB_len kind ord)
 have I32:=hidyb_ (ib32 K hK)
 have I12:=hidyb_ (ib12 (nonceB kind ord) (nonceB_len kind ord))
 have hat:∀ (A:Option Addr) (c:Nat) (W:World),(Instr.arrayAt 107 (.slice A 12 c)).run Tryz.prog W = .ok (.pointer A) W:=fun A c W=>run_arrayAt W 107 5 12 A 12 c Tryz.underlying107 (Nat.le_refl _)
 have hvl:=h.lt
 clear h hK hk ho
 go_enter Tryz.func52,Tryz.ntmps52
 go_upto_region 4 with (first
  | (go_at_call 73;((with_reducible refine (c1 _).mono ?_);rintro e w2 ⟨rfl,hb,hB⟩;have P2:=hidyb_ hb;have V2:=hidyb_ (HV.out.below hB hvl);have B2:=hidyb_ hB;clear hb hB))
  | (go_at_call 73;((with_reducible refine (c2 _).mono ?_);rintro e w3 ⟨rfl,hb,hB⟩;have P3:=hidyb_ hb;have P23:=hidyb_ (P2.out.below hB P2.out.lt);have V3:=hidyb_ (V2.out.below hB V2.out.lt);have B3:=hidyb_ (B2.out.trans (hB.mono B2.out.size));clear hb hB))
  | (go_at_call 49;have cc:=concat_any w3.heap.size 2 2 12 [(some ⟨w2.heap.size,0,none⟩,4,highB 4 kind),(some ⟨w.heap.size,0,none⟩,8,highB 8 ord)] _ rfl (by simp [flat,highB_len]) (cat_two w3 w2.heap.size w.heap.size 4 8 _ _ P3.out P23.out (highB_len _ _) (highB_len _ _)) (by omega) (by omega);((with_reducible refine cc.mono ?_);clear cc;rintro e w5 ⟨A5,c5,rfl,ho,hb⟩;rw [show flat [((some ⟨w2.heap.size,0,none⟩:Option Addr),4,highB 4 kind),(some ⟨w.heap.size,0,none⟩,8,highB 8 ord)]=nonceB kind ord by simp [flat,nonceB]] at ho;obtain ⟨g5,rfl⟩:=ho.block_ (by omega);have O5:=hidyb_ ho;have P5:=hidyb_ (P23.out.below (((Below.refl w3.heap.size w3).alloc (Nat.le_refl _) _).trans (hb.mono (by simp))) P23.out.lt);have V5:=hidyb_ (V3.out.below (((Below.refl w3.heap.size w3).alloc (Nat.le_refl _) _).trans (hb.mono (by simp))) V3.out.lt);have B5:=hidyb_ (B3.out.trans ((((Below.refl w3.heap.size w3).alloc (Nat.le_refl _) _).trans (hb.mono (by simp))).mono B3.out.size));clear ho hb)))
 rename_i K9 hK9
 obtain ⟨w6,hw6⟩:∃ w6,w5.alloc (.cells (rowOf (List.replicate n 0)) 5)=w6:=⟨_,rfl⟩
 have hb6:Below w5.heap.size w5 w6:=by rw [← hw6];exact (Below.refl _ _).alloc (Nat.le_refl _) _
 have Z6:=hidyb_ (show Blk8 w6 w5.heap.size (zbytes n) by rw [← hw6];exact Blk8.new w5 _)
 have V6:=hidyb_ (V5.out.below hb6 V5.out.lt)
 have P6:=hidyb_ (P5.out.below hb6 P5.out.lt)
 have B6:=hidyb_ (B5.out.trans (hb6.mono B5.out.size))
 have O6:=hidyb_ ((O5.out.below hb6 (Nat.le_refl _)).lower (show 0≤_ by omega))
 rw [hw6]
 have g5l:g5 < w6.heap.size:=(World.ownsRow.lt O6.out g5 rfl).2
 have CK:Hid (∀ W,Below w6.heap.size w6 W→∀ j,j < (rowOf K).size→W.cell? ⟨v,1 + j,none⟩=(rowOf K)[j]?):=hidyb_ (fun W hW j hj=>by
  rw [hW.cell (p:=⟨v,1 + j,none⟩) V6.out.lt,V6.out.cell (1 + j)]
  exact vrow_k id K KL.out _ _ _ j (by rw [rowOf_size,KL.out] at hj;exact hj))
 have CN:Hid (∀ W,Below w6.heap.size w6 W→∀ j,j < (rowOf (nonceB kind ord)).size→W.cell? ⟨g5,0 + j,none⟩=(rowOf (nonceB kind ord))[j]?):=hidyb_ (fun W hW j hj=>by
  rw [rowOf_size,NL.out] at hj
  have hz:=O6.out.cellz j (by rw [NL.out] at *;exact hj)
  rw [hW.cell (p:=⟨g5,0 + j,none⟩) g5l,Nat.zero_add,hz,rowOf_at _ _ (by rw [NL.out];exact hj)])
 have DD:=hidyb_ (show highB 8 ord ++ streamB K (nonceB kind ord) 0 (zbytes n)=drawB K kind ord n from rfl)
 have O8L:=hidyb_ (highB_len 8 ord)
 have SL:=hidyb_ (show (streamB K (nonceB kind ord) 0 (zbytes n)).length=n by rw [streamB_len,zbytes_len])
 obtain ⟨D0,hD⟩:∃ D,drawB K kind ord n=D:=⟨_,rfl⟩
 obtain ⟨Sm,hS⟩:∃ D,streamB K (nonceB kind ord) 0 (zbytes n)=D:=⟨_,rfl⟩
 obtain ⟨No,hNo⟩:∃ D,nonceB kind ord=D:=⟨_,rfl⟩
 obtain ⟨o8,ho8⟩:∃ D,highB 8 ord=D:=⟨_,rfl⟩
 obtain ⟨K0,hK0⟩:∃ D,K=D:=⟨_,rfl⟩
 obtain ⟨gz,hgz⟩:∃ D,w5.heap.size=D:=⟨_,rfl⟩
 obtain ⟨g0,hg0⟩:∃ D,w.heap.size=D:=⟨_,rfl⟩
 obtain ⟨g6,hg6⟩:∃ D,w6.heap.size=D:=⟨_,rfl⟩
 have G0:=hidyb_ hg0
 have G6:=hidyb_ hg6
 have O6':=O6.out
 clear c1 c2 hw1 hw2 hw3 hw4 hmk hvl P2 V2 B2 P3 P23 V3 B3 O5 P5 V5 hb6 hw6 O6
 have SM:=hidyb_ hS
 rw [hS] at DD SL
 rw [hD] at DD
 rw [hNo] at SM NL I12 CN O6'
 rw [ho8] at DD O8L P6
 simp only [hK0] at *
 have HD:=hidyb_ hD
 have Z6l:gz < g6:=by have h:=Z6.out.lt;rw [hgz,hg6] at h;exact h
 have P6l:g0 < g6:=by have h:=P6.out.lt;rw [hg0,hg6] at h;exact h
 rw [hgz] at Z6 ⊢
 rw [hg0] at P6 B6 ⊢
 rw [hg6] at CK CN
 refine region_byF [24,25,26,27,28,29,30,31,32,33,34,35,8] (fun W=>Below g6 w6 W) (fun W W'=>Below W.heap.size W W') (DrR v g0 g5 c5 gz n g6 K0 No o8 Sm D0) (by kernel_rfl) (by kernel_rfl) (by kernel_rfl) (by kernel_rfl) (fun j v w w' hT hr=>?_) (fun j v w hlt hj _=>?_) (by rw [← hg6];exact (Below.refl _ _).drew) ?_ ?_
 ·exact DrR.stable hT j v hr
 ·rcases j with _ | _ | _ | _ | _ | _ | _ | _ | _ | _ | _ | _ | _ | j
  all_goals first
   | (exfalso;simp [dstOf] at hj;done)
   | trivial
 ·refine ⟨?_,?_,?_,?_,?_,?_,?_,?_,?_,?_,?_,?_,?_,trivial⟩
  all_goals intro a W hC hd hf hv K hK
  ·have e1:=slot_of (a:=a) (s:=9) (v:=.slice (some ⟨g0,0,none⟩) 8 8) (hf 9 (by kernel_rfl))
   refine step_run (wanted_none rfl) (v:=.slice (some ⟨g0,0,none⟩) 8 8) (w':=W) ?_ (hK _ _ hC (Below.refl _ _) rfl)
   go_simp
  ·have e1:=slot_of (a:=a) (s:=0) (v:=.pointer (some ⟨v,0,none⟩)) (hf 0 (by kernel_rfl))
   refine step_run (wanted_none rfl) (v:=.pointer (some ⟨v,0,none⟩)) (w':=W) ?_ (hK _ _ hC (Below.refl _ _) rfl)
   go_simp
  ·have e1:=slot_of (a:=a) (s:=25) (v:=.pointer (some ⟨v,0,none⟩)) (hv 1 (by kernel_rfl))
   refine step_run (wanted_none rfl) (v:=.pointer (some ⟨v,0,none⟩)) (w':=W) ?_ (hK _ _ hC (Below.refl _ _) rfl)
   go_simp
  ·have e1:=slot_of (a:=a) (s:=26) (v:=.pointer (some ⟨v,0,none⟩)) (hv 2 (by kernel_rfl))
   refine step_run (wanted_none rfl) (v:=.pointer (some ⟨v,1,none⟩)) (w':=W) ?_ (hK _ _ hC (Below.refl _ _) rfl)
   go_simp
  ·have e1:=eval_of (a:=a) (s:=27) (v:=.pointer (some ⟨v,1,none⟩)) (hv 3 (by kernel_rfl))
   exact step_load_sub (wanted_none rfl) 22 (.tmp 27) rfl v 1 e1 (rowOf K0) (CK.out W hC) _ Tryz.underlying22 rfl I32.out (hK _ _ hC (Below.refl _ _) rfl)
  ·have e1:=slot_of (a:=a) (s:=10) (v:=.slice (some ⟨g5,0,none⟩) 12 c5) (hf 10 (by kernel_rfl))
   refine step_run (wanted_none rfl) (v:=.slice (some ⟨g5,0,none⟩) 12 c5) (w':=W) ?_ (hK _ _ hC (Below.refl _ _) rfl)
   go_simp
  ·have e1:=slot_of (a:=a) (s:=29) (v:=.slice (some ⟨g5,0,none⟩) 12 c5) (hv 5 (by kernel_rfl))
   refine step_run (wanted_none rfl) (v:=.pointer (some ⟨g5,0,none⟩)) (w':=W) ?_ (hK _ _ hC (Below.refl _ _) rfl)
   go_simp
  ·have e1:=eval_of (a:=a) (s:=30) (v:=.pointer (some ⟨g5,0,none⟩)) (hv 6 (by kernel_rfl))
   exact step_load_sub (wanted_none rfl) 107 (.tmp 30) rfl g5 0 e1 (rowOf No) (CN.out W hC) _ Tryz.underlying107 rfl I12.out (hK _ _ hC (Below.refl _ _) rfl)
  ·have e1:=slot_of (a:=a) (s:=11) (v:=.slice (some ⟨gz,0,none⟩) n n) (hf 11 (by kernel_rfl))
   refine step_run (wanted_none rfl) (v:=.slice (some ⟨gz,0,none⟩) n n) (w':=W) ?_ (hK _ _ hC (Below.refl _ _) rfl)
   go_simp
  ·have e1:=slot_of (a:=a) (s:=28) (v:=.agg (rowOf K0)) (hv 4 (by kernel_rfl))
   have e2:=slot_of (a:=a) (s:=31) (v:=.agg (rowOf No)) (hv 7 (by kernel_rfl))
   have e3:=slot_of (a:=a) (s:=32) (v:=.slice (some ⟨gz,0,none⟩) n n) (hv 8 (by kernel_rfl))
   have hz:=(Z6.out.below hC Z6l)
   have cs:=stream_any K0 No 0 (some ⟨gz,0,none⟩) n n (zbytes n) W KL.out NL.out ok32_zeroq (zbytes_len n) (hz.rd hz.lt) (Nat.le_refl _) (by omega) (by omega)
   rw [SM.out] at cs
   refine step_callx 84 #[.agg (rowOf K0),.int .u32 0,.agg (rowOf No),.slice (some ⟨gz,0,none⟩) n n] (wanted_none rfl) (w':=W) ?_ (cs.mono fun e W2 hh=>?_)
   ·go_simp
   ·obtain ⟨A,c,rfl,ho,hb⟩:=hh
    exact ⟨_,rfl,hK _ _ (hC.trans (hb.mono (G6.out ▸ hC.size))) hb ⟨A,c,rfl,ho.rd.1⟩⟩
  ·obtain ⟨A,c,eA,hA⟩:∃ A c,a.tmps.getD 33 undef = .slice A n c∧Rd W W.heap.size A Sm:=hv 9 (by kernel_rfl)
   have e1:=slot_of (a:=a) (s:=24) (v:=.slice (some ⟨g0,0,none⟩) 8 8) (hv 0 (by kernel_rfl))
   have e2:=slot_of (a:=a) (s:=33) eA
   have hp:=(P6.out.below hC P6l)
   have hcat:=cat_rd W (some ⟨g0,0,none⟩) A 8 n 8 c o8 Sm (hp.rd hp.lt) hA O8L.out SL.out
   have hbl:=(Below.refl W.heap.size W).alloc (Nat.le_refl _) (.cells #[.slice (some ⟨g0,0,none⟩) 8 8,.slice A n c] 23)
   refine step_run (wanted_none rfl) (v:=.slice (some ⟨W.heap.size,0,none⟩) 2 2) (w':=W.alloc (.cells #[.slice (some ⟨g0,0,none⟩) 8 8,.slice A n c] 23)) ?_ (hK _ _ (hC.trans (hbl.mono (G6.out ▸ hC.size))) hbl ⟨W.heap.size,A,c,rfl,hcat⟩)
   go_simp
  ·obtain ⟨q,A,c,eq,hq⟩:∃ q A c,a.tmps.getD 34 undef = .slice (some ⟨q,0,none⟩) 2 2∧CatAt W W.heap.size q [(some ⟨g0,0,none⟩,8,o8),(A,c,Sm)]:=hv 10 (by kernel_rfl)
   have e1:=slot_of (a:=a) (s:=34) eq
   have cc:=concat_any q 2 2 (8 + n) [(some ⟨g0,0,none⟩,8,o8),(A,c,Sm)] W rfl (by simp [flat,O8L.out,SL.out]) hq (by omega) (by omega)
   rw [show flat [((some ⟨g0,0,none⟩:Option Addr),8,o8),(A,c,Sm)]=D0 by simp [flat];exact DD.out] at cc
   refine step_callx 49 #[.slice (some ⟨q,0,none⟩) 2 2] (wanted_none rfl) (w':=W) ?_ (cc.mono fun e W2 hh=>?_)
   ·go_simp
   ·obtain ⟨A5,c5,rfl,ho,hb⟩:=hh
    exact ⟨_,rfl,hK _ _ (hC.trans (hb.mono (G6.out ▸ hC.size))) hb ⟨A5,c5,rfl,ho.lower (G6.out ▸ hC.size)⟩⟩
  ·obtain ⟨A,c,eA,hA⟩:∃ A c,a.tmps.getD 35 undef = .slice A (8 + n) c∧Own8 W g6 (.slice A (8 + n) c) D0:=hv 11 (by kernel_rfl)
   have e1:=slot_of (a:=a) (s:=35) eA
   refine step_run (wanted_none rfl) (v:=.slice A (8 + n) c) (w':=W) ?_ (hK _ _ hC (Below.refl _ _) ⟨A,c,rfl,hA⟩)
   go_simp
 ·intro f w7 hC7 hv7
  obtain ⟨A,c,e8,hO⟩:∃ A c,f 8 = .slice A (8 + n) c∧Own8 w7 g6 (.slice A (8 + n) c) D0:=hv7 12 (by decide)
  have HO:=hidyb_ hO
  have HB:=hidyb_ hC7
  simp only [framed,List.foldl_cons,List.foldl_nil,List.setIfInBounds_toArray,List.set_cons_succ,List.set_cons_zero]
  rw [e8]
  clear hv7 hC7 hO
  refine hK9 _ _ ?_
  go_wp2
  go_ret
  have hs6:g0≤g6:=by have h1:=B6.out.size;rw [G0.out,G6.out] at h1;exact h1
  exact ⟨A,c,rfl,by rw [G0.out,HD.out];exact HO.out.lower hs6,by rw [G0.out];exact B6.out.trans (HB.out.mono hs6)⟩
open Go.RowKit Go.Maps Go.ChangeMaps Go.MapKept
section
variable {ops : Array Oper} {rest : List Oper} {o : Oper} {a : Act} {w : World} {Q : Exit → Act → World → Prop}
theorem wpList_storeM (hg:o.guard=none) (m x y:Operand) (t:TypeId) (hop:o.op=Op.mapUpdate t m x y) (k e:TypeId) (K:Keyed Tryz.prog k) (ht:Tryz.prog.underlying t=some (.map k e))
  (b n:Nat) (f:Value→Option Value) (hm:a.eval m = .map (some b)) (h:MapIs w k b n f) (hn:n < maxLen) (key val:Value) (kl:Lit) (hx:a.eval x=key) (hv:a.eval y=val) (hkey:keyOf Tryz.prog k key=some kl) (hnew:f key=none)
  (hK:∀ w',MapIs w' k b (n + 1) (upd f key val)→w.mapTurned w' b→wpList Tryz.prog ops Q rest (a.put o.dst undef) w'):wpList Tryz.prog ops Q (o :: rest) a w:=by
 refine wpList_plain hg fun K' hK'=>?_
 obtain ⟨w',hrun,r1,r2⟩:=h.store K ht hn hkey hnew (val:=val)
 unfold Oper.wp
 simp [execOp,hop,hm,hx,hv,hrun,Result.andThen]
 exact hK' _ _ (hK w' r1 r2)
end
section
variable {w w' : World} {v sp nm kn : Nat} {K : List UInt8} {N : List (List UInt8)} {S : List (Nat × Nat)} {L : List SealV} {F : List Nat}
theorem turned_heap {b:Nat} (ht:w.mapTurned w' b) (k:Nat) (hk:k≠b):w'.heap[k]? = w.heap[k]?:=by
 obtain ⟨es,clock,es',clock',hb,rfl⟩:=ht
 exact heap_setBlock_other hb _ hk
theorem turned_size {b:Nat} (ht:w.mapTurned w' b):w'.heap.size=w.heap.size:=by
 obtain ⟨es,clock,es',clock',hb,rfl⟩:=ht
 simp [setBlock]
theorem InF.turned {b:Nat} (ht:w.mapTurned w' b) {A:Option Addr} {l:List UInt8} (h:InF w F A l):InF w' F A l:=fun hn=>by
 obtain ⟨g,off,e,hb,hlt,⟨cs,ty,fz,hc0⟩,hc⟩:=h hn
 have hne:g≠b:=by
  obtain ⟨es,clock,es',clock',h0,-⟩:=ht
  rintro rfl
  rw [h0] at hc0
  cases hc0
 have hh:=turned_heap ht g hne
 exact ⟨g,off,e,hb,by rw [turned_size ht];exact hlt,⟨cs,ty,fz,hh.trans hc0⟩,fun j hj=>(heap_cell hh _).trans (hc j hj)⟩
theorem KnIs.turned {b:Nat} {f:Value→Option Value} (ht:w.mapTurned w' b) (h:KnIs w F f L):KnIs w' F f L:=⟨fun t h1=>by
  obtain ⟨A,c,e1,e2,e3,e4⟩:=h.all t h1
  exact ⟨A,c,e1,e2,e3,e4.turned ht⟩,h.only⟩
theorem Bk.turned {b g:Nat} {t:TypeId} {cs:Array Value} (h:Bk w g t cs) (ht:w.mapTurned w' b):Bk w' g t cs:=by
 refine (turned_heap ht g ?_).trans h
 obtain ⟨es,clock,es',clock',h0,-⟩:=ht
 rintro rfl
 have:=h0.symm.trans h
 cases this
theorem VltI.named (h:VltI w v sp nm kn K N S L F) (ht:w.mapTurned w' nm) {N':List (List UInt8)} (hN:MapIs w' 9 nm N'.length (fN N')):VltI w' v sp nm kn K N' S L F:=by
 obtain ⟨n,f,h1,h2,h3⟩:=h.known
 exact ⟨h.blk.turned ht,h.spent.keep (turned_heap ht sp h.ne1),hN,⟨n,f,h1,h2.keep (turned_heap ht kn (Ne.symm h.ne3)),h3.turned ht⟩,h.len,h.ne1,h.ne2,h.ne3,h.inv,h.ins,h.inn,h.ink,h.lts,fun k hk=>by rw [turned_size ht];exact h.hF k hk⟩
theorem Untouched.turned {b:Nat} (ht:w.mapTurned w' b) (hb:b∈F):Untouched F w w':=.of_grown ht.grown (fun k e=>by injection e with e;subst e;exact hb)
end
def LeavesI (w w':World) (v sp nm kn:Nat) (K:List UInt8) (N:List (List UInt8)) (S:List (Nat × Nat)) (L:List SealV) (F F':List Nat):Prop :=
 VltI w' v sp nm kn K N S L F'∧Grew w F F'∧Untouched F w w'
theorem z64i (W:World):(zeroValue 3).run Tryz.prog W = .ok (.int .i64 0) W:=by kernel_rfl
set_option maxHeartbeats 2000000 in
theorem ordinal_any {w:World} {v sp nm kn:Nat} {K:List UInt8} {N:List (List UInt8)} {S:List (Nat × Nat)} {L:List SealV} {F:List Nat} (h:VltI w v sp nm kn K N S L F) (A:Option Addr) (n c:Nat) (name:List UInt8) (hn:name.length=n) (hr:Rd w w.heap.size A name) (hn64:n≤1000000) (hN:N.length≤1000000) :
  Calls Tryz.prog 53 #[.pointer (some ⟨v,0,none⟩),.slice A n c] w fun e w'=>e = .returned (.int .i64 ((ordN N name:Nat):Int))∧LeavesI w w' v sp nm kn K (addNm N name) S L F F:=by
 have hlk:=fun W (hW:Below w.heap.size w W)=>((h.below hW).names).look keyed9 Tryz.underlying92 (z64i W) (key9 name (by omega))
 have CM:Hid (∀ W,Below w.heap.size w W→W.cell? ⟨v,34,none⟩=some (.map (some nm))):=hidyb_ (fun W hW=>((h.below hW).blk.cell 34).trans (vrow_34 true K h.len _ _ _))
 have CV:Hid (∀ W,Below w.heap.size w W→(convert 23 9 (.slice A n c)).run Tryz.prog W = .ok (.string (strOf name)) W):=hidyb_ (fun W hW=>conv_strn (hr.below hW) n c hn)
 have HV:=hidyb_ h
 by_cases hm:name∈N
 ·have hlk2:=fun W hW=>(hlk W hW).trans (by rw [fN_yes hm])
  have LK:=hidyb_ hlk2
  have HM:Hid (addNm N name=N):=hidyb_ (by unfold addNm;rw [if_pos hm])
  clear hlk hlk2 h hr hm hn
  generalize ordN N name=q at *
  go_enter Tryz.func53,Tryz.ntmps53
  go_upto_region 1 with fail
  rename_i K9 hK9
  refine region_quiet_in (C:=fun W=>Below w.heap.size w W) (by kernel_rfl) (by kernel_rfl) ((Below.refl _ _).drew) ?_
  repeat (go_big_quiet_want;(first
   | (refine BigFrame.quiet_move _ rfl ?_;go_simp)
   | (refine BigFrame.quiet_assign _ rfl ?_;go_simp)
   | (refine quiet_run (.pointer (some ⟨v,0,none⟩)) ?_ ?_;(focus (intro W hW;go_simp;done));go_simp)
   | (refine quiet_run (.pointer (some ⟨v,34,none⟩)) ?_ ?_;(focus (intro W hW;go_simp;done));go_simp)
   | (refine quiet_run (.map (some nm)) ?_ ?_;(focus (intro W hW;have h:=CM.out W hW;go_simp;done));go_simp)
   | (refine quiet_run (.string (strOf name)) ?_ ?_;(focus (intro W hW;have h:=CV.out W hW;go_simp;done));go_simp)
   | (refine quiet_run (.tuple #[.int .i64 ((q:Nat):Int),.bool true]) ?_ ?_;(focus (intro W hW;have h:=LK.out W hW;go_simp;done));go_simp)
   | (refine quiet_run (.int .i64 ((q:Nat):Int)) ?_ ?_;(focus (intro W hW;go_simp;done));go_simp)
   | (refine quiet_run (.bool true) ?_ ?_;(focus (intro W hW;go_simp;done));go_simp));go_big_quiet_on)
  refine wpQuiet_nil ?_
  intro w7 hw7
  have HB:=hidyb_ hw7
  clear hw7
  refine hK9 _ _ ?_
  go_wp2
  go_ret
  exact ⟨rfl,by rw [HM.out];exact ⟨HV.out.below HB.out,Grew.refl _ _,.of_below HB.out⟩⟩
 ·have hlk2:=fun W hW=>(hlk W hW).trans (by rw [fN_no hm])
  have LK:=hidyb_ hlk2
  have HM:Hid (addNm N name=N ++ [name]):=hidyb_ (by unfold addNm;rw [if_neg hm])
  have HQ:=hidyb_ (ordN_new hm)
  have HF:=hidyb_ (fN_no hm)
  have HS:=hidyb_ (fN_snoc hm)
  have KK:=hidyb_ (key9 name (by omega))
  have hl:=fun W (hW:Below w.heap.size w W)=>((h.below hW).names).len Tryz.underlying92
  have LN:=hidyb_ hl
  have hi:IntKind.i64.wrap ((N.length:Int) + 1)=(N.length:Int) + 1:=IntWalk.i64_in _ (by omega)
  clear hlk hlk2 h hr hm hn hl
  rw [HQ.out]
  go_enter Tryz.func53,Tryz.ntmps53
  go_upto_region 1 with fail
  rename_i K9 hK9
  refine region_quiet_in (C:=fun W=>Below w.heap.size w W) (by kernel_rfl) (by kernel_rfl) ((Below.refl _ _).drew) ?_
  repeat (go_big_quiet_want;(first
   | (refine BigFrame.quiet_move _ rfl ?_;go_simp)
   | (refine BigFrame.quiet_assign _ rfl ?_;go_simp)
   | (refine quiet_run (.pointer (some ⟨v,0,none⟩)) ?_ ?_;(focus (intro W hW;go_simp;done));go_simp)
   | (refine quiet_run (.pointer (some ⟨v,34,none⟩)) ?_ ?_;(focus (intro W hW;go_simp;done));go_simp)
   | (refine quiet_run (.map (some nm)) ?_ ?_;(focus (intro W hW;have h:=CM.out W hW;go_simp;done));go_simp)
   | (refine quiet_run (.string (strOf name)) ?_ ?_;(focus (intro W hW;have h:=CV.out W hW;go_simp;done));go_simp)
   | (refine quiet_run (.tuple #[.int .i64 0,.bool false]) ?_ ?_;(focus (intro W hW;have h:=LK.out W hW;go_simp;done));go_simp)
   | (refine quiet_run (.int .i64 0) ?_ ?_;(focus (intro W hW;go_simp;done));go_simp)
   | (refine quiet_run (.bool false) ?_ ?_;(focus (intro W hW;go_simp;done));go_simp));go_big_quiet_on)
  refine wpQuiet_nil ?_
  intro w7 hw7
  have HB:=hidyb_ hw7
  have cm:=CM.out w7 hw7
  have ln:=LN.out w7 hw7
  clear hw7
  refine hK9 _ _ ?_
  go_upto_region 4 with fail
  clear cm ln
  rename_i K8 hK8
  refine region_quiet_tail (C:=fun W=>Below w.heap.size w W) 7 (by kernel_rfl) (by kernel_rfl) (HB.out.drew) ?_
  simp only [List.take_succ_cons,List.take_zero]
  repeat (go_big_quiet_want;(first
   | (refine BigFrame.quiet_move _ rfl ?_;go_simp)
   | (refine quiet_run (.pointer (some ⟨v,0,none⟩)) ?_ ?_;(focus (intro W hW;go_simp;done));go_simp)
   | (refine quiet_run (.pointer (some ⟨v,34,none⟩)) ?_ ?_;(focus (intro W hW;go_simp;done));go_simp)
   | (refine quiet_run (.map (some nm)) ?_ ?_;(focus (intro W hW;have h:=CM.out W hW;go_simp;done));go_simp)
   | (refine quiet_run (.string (strOf name)) ?_ ?_;(focus (intro W hW;have h:=CV.out W hW;go_simp;done));go_simp));go_big_quiet_on)
  refine wpQuiet_nil ?_
  intro w8 hw8
  simp only [List.drop_succ_cons,List.drop_zero]
  have V8:=HV.out.below hw8
  refine wpList_storeM rfl (.tmp 28) (.tmp 30) (.tmp 31) 92 rfl 9 3 keyed9 Tryz.underlying92 nm N.length (fN N) rfl V8.names (by unfold maxLen;omega) (.string (strOf name)) (.int .i64 ((N.length + 1:Nat):Int)) _ rfl rfl KK.out HF.out ?_
  intro w9 hm9 ht9
  rw [HS.out] at hm9
  have V9:=hidyb_ (V8.named (N':=N ++ [name]) ht9 (by rw [List.length_append];exact hm9))
  have U9:=hidyb_ ((Untouched.of_below (F:=F) hw8).trans (Grew.refl _ _) (Untouched.turned ht9 V8.inn))
  clear hw8 V8 hm9 ht9
  refine hK8 _ _ ?_
  go_wp2
  go_ret
  exact ⟨by simp,by rw [HM.out];exact ⟨V9.out,Grew.refl _ _,U9.out⟩⟩
theorem results_cells_slot {P:Program} {fn:Func} {p q r:Tmp} {ty ty':TypeId} (h:fn.results = #[.cell p ty,.cell q ty',.tmp r]) (tmps:Array Value) (w:World) (g g':Nat) {v v' u:Value}
  (hp:tmps.getD p undef = .pointer (some ⟨g,0,none⟩)) (hq:tmps.getD q undef = .pointer (some ⟨g',0,none⟩)) (hr:tmps.getD r undef=u)
  (h1:(loadVar ty ⟨g,0,none⟩).run P w = .ok v w) (h2:(loadVar ty' ⟨g',0,none⟩).run P w = .ok v' w) :
  (results fn tmps).run P w = .ok (.tuple #[v,v',u]) w:=by
 have hp':tmps[p]?.getD undef = .pointer (some ⟨g,0,none⟩):=by simpa using hp
 have hq':tmps[q]?.getD undef = .pointer (some ⟨g',0,none⟩):=by simpa using hq
 have hr':tmps[r]?.getD undef=u:=by simpa using hr
 simp [results,h,hp',hq',hr',asAddr,h1,h2]
def noKeys:Value:=.tuple #[.agg (rowOf (zbytes 32)),.agg (rowOf (zbytes 12)),.int .i64 1]
def yesKeys (K:List UInt8) (e c n:Nat):Value:=.tuple #[.agg (rowOf (sealK K e)),.agg (rowOf (nonceB c n)),.int .i64 0]
structure KoC (w:World) (g b2 b4:Nat) (L No:List UInt8) (W:World):Prop where
 below:Below g w W
 k:Bk W b2 22 (rowOf L)
 n:Bk W b4 107 (rowOf No)
 h2:g + 2≤b2
 h4:g + 2≤b4
 hs:g + 2≤W.heap.size
theorem KoC.grown {w W W2:World} {g b2 b4 q:Nat} {L No:List UInt8} (h:KoC w g b2 b4 L No W) (hg:W.grownBy W2 (some q)) (hq:g≤q∧q≤g + 1) (hw:w.heap.size=g):KoC w g b2 b4 L No W2:=by
 have h2:=h.h2
 have h4:=h.h4
 exact ⟨h.below.grown hg (by have:=h.hs;omega) (fun k hk=>by injection hk with hk;omega),(hg.block b2 h.k.lt (fun e=>by injection e with e;omega)).trans h.k,(hg.block b4 h.n.lt (fun e=>by injection e with e;omega)).trans h.n,h2,h4,Nat.le_trans h.hs hg.size⟩
def KoR (L No:List UInt8):Nat→Value→World→Prop
 | 0,u,_=>u = .agg (rowOf L)
 | 1,u,_=>u = .agg (rowOf No)
 | 4,u,_=>u = .int .i64 0
 | _,_,_=>True
theorem KoR.any {L No:List UInt8} {j:Nat} {v:Value} {W W':World} (h:KoR L No j v W):KoR L No j v W':=by
 unfold KoR at h ⊢
 split at h <;> first | exact h | trivial
def KoJ (g:Nat) (L No:List UInt8) (D:Nat→Bool) (W:World):Prop :=
 (D 2=false→Bk W g 22 (rowOf (zbytes 32)))∧(D 2=true→Bk W g 22 (rowOf L))∧(D 3=false→Bk W (g + 1) 107 (rowOf (zbytes 12)))∧(D 3=true→Bk W (g + 1) 107 (rowOf No))
theorem KoJ.same {g:Nat} {L No:List UInt8} {D:Nat→Bool} {W:World} (h:KoJ g L No D W) (i:Nat) (h2:i≠2) (h3:i≠3):KoJ g L No (fun j=>decide (j=i) || D j) W:=by
 have a2:=orf_ne (L:=D) (i:=i) (fun e:2=i=>h2 e.symm)
 have a3:=orf_ne (L:=D) (i:=i) (fun e:3=i=>h3 e.symm)
 unfold KoJ
 simp only [a2,a3]
 exact h
theorem Bk.oneOf {W W2:World} {g g':Nat} {t:TypeId} {cs:Array Value} (h:Bk W g t cs) (hg:W.grownBy W2 (some g')) (hne:g≠g'):Bk W2 g t cs:=(hg.block g h.lt (fun e=>by injection e with e;exact hne e)).trans h
theorem KoJ.put0 {g:Nat} {L No:List UInt8} {D:Nat→Bool} {W W2:World} (h:KoJ g L No D W) (k:Bk W2 g 22 (rowOf L)) (hg:W.grownBy W2 (some g)):KoJ g L No (fun j=>decide (j=2) || D j) W2:=by
 have a3:=orf_ne (L:=D) (i:=2) (show 3≠2 by decide)
 unfold KoJ
 simp only [a3]
 exact ⟨fun e=>by simp at e,fun _=>k,fun e=>(h.2.2.1 e).oneOf hg (by omega),fun e=>(h.2.2.2 e).oneOf hg (by omega)⟩
theorem KoJ.put1 {g:Nat} {L No:List UInt8} {D:Nat→Bool} {W W2:World} (h:KoJ g L No D W) (k:Bk W2 (g + 1) 107 (rowOf No)) (hg:W.grownBy W2 (some (g + 1))):KoJ g L No (fun j=>decide (j=3) || D j) W2:=by
 have a2:=orf_ne (L:=D) (i:=3) (show 2≠3 by decide)
 unfold KoJ
 simp only [a2]
 exact ⟨fun e=>(h.1 e).oneOf hg (by omega),fun e=>(h.2.1 e).oneOf hg (by omega),fun e=>by simp at e,fun _=>k⟩
section
variable {w : World} {v sp : Nat} {id : Bool} {K : List UInt8} {nm kn : Option Nat}
theorem keys_start (w:World):∃ g w0,w.heap.size=g∧(w.alloc (.cells (rowOf (zbytes 32)) 22)).alloc (.cells (rowOf (zbytes 12)) 107)=w0∧Bk w0 g 22 (rowOf (zbytes 32))∧Bk w0 (g + 1) 107 (rowOf (zbytes 12))∧Below g w w0∧w0.heap.size=g + 2:=by
 refine ⟨_,_,rfl,rfl,(Bk.new w _ _).alloc _,?_,((Below.refl _ _).alloc (Nat.le_refl _) _).alloc (by simp) _,by simp⟩
 have h:=Bk.new (w.alloc (.cells (rowOf (zbytes 32)) 22)) 107 (rowOf (zbytes 12))
 simpa using h
set_option maxHeartbeats 4000000 in
theorem keysOf_yes (h:Bk w v 95 (vrow id K (some sp) nm kn)) (hK:K.length=32) (e c n:Nat) (he1:1≤e) (he2:e≤1048576) (hc1:1≤c) (hc2:c≤16) (hn1:1≤n) (hn2:n≤4611686018427387904) (ht:Tab w) (hg1:2 < w.heap.size) :
  Calls Tryz.prog 57 #[.pointer (some ⟨v,0,none⟩),.int .i64 (e:Int),.int .i64 (c:Int),.int .i64 (n:Int)] w fun r w'=>r = .returned (yesKeys K e c n)∧Below w.heap.size w w':=by
 have hz:=z32
 have hz12:=z12
 obtain ⟨g,w0,hg,hw0,A0,A1,X0,S0⟩:=keys_start w
 have V0:=hidyb_ (h.below X0 (by have:=h.lt;omega))
 have HX0:=hidyb_ X0
 have Z0:=hidyb_ A0
 have Z1:=hidyb_ A1
 have KL:=hidyb_ hK
 have HT:=hidyb_ ht
 rw [hg] at hg1
 have T0:Tab w0:=fun t h=>(X0.cell (p:=⟨_,t,none⟩) hg1).trans (ht t h)
 have LL:=hidyb_ (sealK_len K e)
 have NL:=hidyb_ (nonceB_len c n)
 have I32:=hidyb_ (ib32 K hK)
 have IL:=hidyb_ (ib32 (sealK K e) LL.out)
 have IN:=hidyb_ (ib12 (nonceB c n) NL.out)
 have QL:=hidyb_ (show (rowOf (zbytes 32)).size=(rowOf (sealK K e)).size by rw [rowOf_size,rowOf_size,LL.out,zbytes_len])
 have QN:=hidyb_ (show (rowOf (zbytes 12)).size=(rowOf (nonceB c n)).size by rw [rowOf_size,rowOf_size,NL.out,zbytes_len])
 have CK:Hid (∀ j,j < (rowOf K).size→w0.cell? ⟨v,1 + j,none⟩=(rowOf K)[j]?):=hidyb_ (fun j hj=>by
  rw [V0.out.cell (1 + j)]
  exact vrow_k id K KL.out _ _ _ j (by rw [rowOf_size,KL.out] at hj;exact hj))
 have ck:=kseal_yes w0 K hK e he1 he2 T0 (by omega)
 have cn:=fun W=>nonce_yes W c n hc1 hc2 hn1 hn2
 have cm:=made_yes V0.out hK
 obtain ⟨Ls,hLs⟩:∃ L,sealK K e=L:=⟨_,rfl⟩
 obtain ⟨No,hNo⟩:∃ L,nonceB c n=L:=⟨_,rfl⟩
 unfold yesKeys
 rw [hLs] at LL IL QL ck ⊢
 rw [hNo] at NL IN QN ⊢
 simp only [hNo] at cn
 clear h hK he1 he2 hc1 hc2 hn1 hn2 ht T0 X0 A0 A1 hLs hNo
 go_enter Tryz.func57,Tryz.ntmps57
 go_upto_region 9 with (first
  | (go_at_call 50;((with_reducible refine cm.mono ?_);clear cm;rintro e w' ⟨rfl,rfl⟩))
  | (refine wpList_load_sub rfl 22 (.tmp 22) rfl v 1 rfl (rowOf K) CK.out _ Tryz.underlying22 rfl I32.out ?_)
  | (go_at_call 86;((with_reducible refine ck.mono ?_);clear ck;rintro e w2 ⟨rfl,hb⟩;have B2:=hidyb_ hb;clear hb))
  | (refine wpList_put_row rfl 22 (.tmp 11) (.tmp 26) rfl w2.heap.size (rowOf Ls) rfl rfl 22 (rowOf (zbytes 32)) (Bk.new w2 _ _) IL.out QL.out (bytes_one _) ?_;intro w3 k3 g3 s3;have BX:Below w2.heap.size w2 w3:=(((Below.refl w2.heap.size w2).alloc (Nat.le_refl _) (.cells (rowOf (zbytes 32)) 22)).grown g3 (by simp) (fun k hk=>by injection hk with hk;omega));have K3:=hidyb_ k3;have B3:=hidyb_ (B2.out.trans (BX.mono B2.out.size));clear k3 g3 s3 BX)
  | (go_at_call 87;((with_reducible refine (cn _).mono ?_);clear cn;rintro e w4 ⟨rfl,hb⟩;have K4:=hidyb_ (K3.out.below hb K3.out.lt);have B4:=hidyb_ (B3.out.trans (hb.mono B3.out.size));clear hb))
  | (refine wpList_put_row rfl 107 (.tmp 13) (.tmp 37) rfl w4.heap.size (rowOf No) rfl rfl 107 (rowOf (zbytes 12)) (Bk.new w4 _ _) IN.out QN.out (bytes_one _) ?_;intro w5 k5 g5 s5;have BX:Below w4.heap.size w4 w5:=(((Below.refl w4.heap.size w4).alloc (Nat.le_refl _) (.cells (rowOf (zbytes 12)) 107)).grown g5 (by simp) (fun k hk=>by injection hk with hk;omega));have K5:=hidyb_ k5;have L5:=hidyb_ (K4.out.below BX K4.out.lt);have B5:=hidyb_ (B4.out.trans (BX.mono B4.out.size));clear k5 g5 s5 BX))
 rename_i K9 hK9
 have G2:=hidyb_ B2.out.size
 have G4:=hidyb_ B4.out.size
 generalize w2.heap.size=b2 at *
 generalize w4.heap.size=b4 at *
 clear K3 B3 K4 B2 B4
 have HX5:=hidyb_ (HX0.out.trans (B5.out.mono (by omega)))
 have A5:=hidyb_ (Z0.out.below B5.out (by omega))
 have A6:=hidyb_ (Z1.out.below B5.out (by omega))
 have hs5:=B5.out.size
 have HG:=hidyb_ hg
 clear Z0 Z1 V0 CK HX0 HT hw0 B5
 refine region_byJF [44,45,10] (KoC w g b2 b4 Ls No) (fun _ _=>True) (KoR Ls No) (fun D _ W=>KoJ g Ls No D W) (by kernel_rfl) (by kernel_rfl) (by kernel_rfl) (by kernel_rfl) (fun j v w w' hT hr=>hr.any) (fun j v w hlt hj _=>?_) ⟨HX5.out.drew,L5.out.drew,K5.out.drew,by have:=G2.out;omega,by have:=G4.out;omega,by show g + 2≤w5.heap.size;omega⟩ ?_ ⟨fun _=>A5.drew,fun e=>Bool.noConfusion e,fun _=>A6.drew,fun e=>Bool.noConfusion e⟩ ?_
 ·rcases j with _ | _ | _ | _ | _ | j
  all_goals first
   | (exfalso;simp [dstOf] at hj;done)
   | trivial
 ·refine ⟨?_,?_,?_,?_,?_,trivial⟩
  all_goals intro D a W hC hd hsz hf hv hJ hL hW K hK
  ·clear hsz
   have e1:a.tmps.getD 11 undef = .pointer (some ⟨b2,0,none⟩):=hf 11 (by kernel_rfl)
   exact step_load_rowW (wanted_none rfl) 22 (.tmp 11) rfl b2 (eval_of e1) 22 (rowOf Ls) hC.k _ Tryz.underlying22 rfl IL.out (hK _ _ hC trivial rfl (hJ.same 0 (by decide) (by decide)))
  ·clear hsz
   have e1:a.tmps.getD 13 undef = .pointer (some ⟨b4,0,none⟩):=hf 13 (by kernel_rfl)
   exact step_load_rowW (wanted_none rfl) 107 (.tmp 13) rfl b4 (eval_of e1) 107 (rowOf No) hC.n _ Tryz.underlying107 rfl IN.out (hK _ _ hC trivial rfl (hJ.same 1 (by decide) (by decide)))
  ·clear hsz
   refine step_put_row rfl 22 (.tmp 8) (.tmp 44) rfl g (rowOf Ls) (eval_of (hf 8 (by kernel_rfl))) (eval_of (hv 0 (by kernel_rfl))) 22 (rowOf (zbytes 32)) (hJ.1 hL) IL.out QL.out (bytes_one _) ?_
   intro W2 k2 g2 s2
   exact hK undef _ (hC.grown g2 (by omega) HG.out) trivial trivial (hJ.put0 k2 g2)
  ·clear hsz
   refine step_put_row rfl 107 (.tmp 9) (.tmp 45) rfl (g + 1) (rowOf No) (eval_of (hf 9 (by kernel_rfl))) (eval_of (hv 1 (by kernel_rfl))) 107 (rowOf (zbytes 12)) (hJ.2.2.1 hL) IN.out QN.out (bytes_one _) ?_
   intro W2 k2 g2 s2
   exact hK undef _ (hC.grown g2 (by omega) HG.out) trivial trivial (hJ.put1 k2 g2)
  ·clear hsz
   refine step_run (wanted_none rfl) (v:=.int .i64 0) (w':=W) ?_ (hK _ _ hC trivial rfl (hJ.same 4 (by decide) (by decide)))
   go_simp
 ·intro f w7 hC7 hv7 D7 hD7 hJ7
  obtain ⟨a7,hJ,-⟩:=hJ7
  have K7:=hJ.2.1 (hD7 2 (by decide))
  have N7:=hJ.2.2.2 (hD7 3 (by decide))
  have B7:=hidyb_ hC7.below
  have f5:f 10 = .int .i64 0:=hv7 4 (by decide)
  simp only [framed,List.foldl_cons,List.foldl_nil,List.setIfInBounds_toArray,List.set_cons_succ,List.set_cons_zero]
  rw [f5]
  clear hv7 hD7 hJ hC7
  refine hK9 _ _ ?_
  go_wp2
  exact bodyPost_ret (results_cells_slot Tryz.results57 _ _ g (g + 1) rfl rfl rfl (run_loadVar_row _ _ _ _ _ (0,0) _ K7 Tryz.underlying22 rfl IL.out) (run_loadVar_row _ _ _ _ _ (0,0) _ N7 Tryz.underlying107 rfl IN.out)) rfl ⟨rfl,HG.out ▸ B7.out⟩
theorem kseal_no (w:World) (m:List UInt8) (z:Int) (h:¬ (1≤z∧z≤1048576)) :
  Calls Tryz.prog 86 #[.agg (rowOf m),.int .i64 z] w fun e w'=>e = .returned (.tuple #[.agg (rowOf (zbytes 32)),.int .i64 1])∧Below w.heap.size w w':=by
 by_cases h1:z < 1
 ·exact kseal_no1 w m z h1
 ·exact kseal_no2 w m z (by omega) (by omega)
set_option maxHeartbeats 4000000 in
theorem keysOf_no1 (h:Bk w v 95 (vrow id K (some sp) nm kn)) (hK:K.length=32) (e c n:Int) (he:¬ (1≤e∧e≤1048576)) :
  Calls Tryz.prog 57 #[.pointer (some ⟨v,0,none⟩),.int .i64 e,.int .i64 c,.int .i64 n] w fun r w'=>r = .returned noKeys∧Below w.heap.size w w':=by
 have hz:=z32
 have hz12:=z12
 obtain ⟨g,w0,hg,hw0,A0,A1,X0,S0⟩:=keys_start w
 have V0:=hidyb_ (h.below X0 (by have:=h.lt;omega))
 have HX0:=hidyb_ X0
 have Z0:=hidyb_ A0
 have Z1:=hidyb_ A1
 have KL:=hidyb_ hK
 have I32:=hidyb_ (ib32 K hK)
 have IL:=hidyb_ (ib32 (zbytes 32) (zbytes_len 32))
 have IN:=hidyb_ (ib12 (zbytes 12) (zbytes_len 12))
 have CK:Hid (∀ j,j < (rowOf K).size→w0.cell? ⟨v,1 + j,none⟩=(rowOf K)[j]?):=hidyb_ (fun j hj=>by
  rw [V0.out.cell (1 + j)]
  exact vrow_k id K KL.out _ _ _ j (by rw [rowOf_size,KL.out] at hj;exact hj))
 have ck:=kseal_no w0 K e he
 have cm:=made_yes V0.out hK
 have HG:=hidyb_ hg
 unfold noKeys
 clear h hK he X0 A0 A1
 go_enter Tryz.func57,Tryz.ntmps57
 go_wp2_with (first
  | (go_at_call 50;((with_reducible refine cm.mono ?_);clear cm;rintro e w' ⟨rfl,rfl⟩))
  | (refine wpList_load_sub rfl 22 (.tmp 22) rfl v 1 rfl (rowOf K) CK.out _ Tryz.underlying22 rfl I32.out ?_)
  | (go_at_call 86;((with_reducible refine ck.mono ?_);clear ck;rintro e w2 ⟨rfl,hb⟩;have B2:=hidyb_ hb;clear hb))
  | (refine wpList_put_row rfl 22 (.tmp 11) (.tmp 26) rfl w2.heap.size (rowOf (zbytes 32)) rfl rfl 22 (rowOf (zbytes 32)) (Bk.new w2 _ _) IL.out rfl (bytes_one _) ?_;intro w3 k3 g3 s3;have BX:Below w2.heap.size w2 w3:=(((Below.refl w2.heap.size w2).alloc (Nat.le_refl _) (.cells (rowOf (zbytes 32)) 22)).grown g3 (by simp) (fun k hk=>by injection hk with hk;omega));have B3:=hidyb_ (B2.out.trans (BX.mono B2.out.size));have Y0:=hidyb_ (Z0.out.below B3.out Z0.out.lt);have Y1:=hidyb_ (Z1.out.below B3.out Z1.out.lt);have HX3:=hidyb_ (HX0.out.trans (B3.out.mono (by omega)));clear k3 g3 s3 BX)
  | (refine wpList_built rfl 22 _ rfl (rowOf (zbytes 32)) (by kernel_rfl) ?_)
  | (refine wpList_built rfl 107 _ rfl (rowOf (zbytes 12)) (by kernel_rfl) ?_)
  | (refine wpList_put_row rfl 22 (.tmp 8) (.tmp 30) rfl g (rowOf (zbytes 32)) rfl rfl 22 (rowOf (zbytes 32)) Y0.out IL.out rfl (bytes_one _) ?_;intro w6 k6 g6 s6;have k7:=hidyb_ (Y1.out.oneOf g6 (by omega));have k6h:=hidyb_ k6;have HX6:=hidyb_ (HX3.out.grown g6 (by have:=HX3.out.size;omega) (fun k hk=>by injection hk with hk;omega));clear k6 g6 s6)
  | (refine wpList_put_row rfl 107 (.tmp 9) (.tmp 31) rfl (g + 1) (rowOf (zbytes 12)) rfl rfl 107 (rowOf (zbytes 12)) k7.out IN.out rfl (bytes_one _) ?_;intro w7 k8 g7 s7;have k9:=hidyb_ (k6h.out.oneOf g7 (by omega));have k8h:=hidyb_ k8;have HX7:=hidyb_ (HX6.out.grown g7 (by have:=HX6.out.size;omega) (fun k hk=>by injection hk with hk;omega));clear k8 g7 s7))
 exact bodyPost_ret (results_cells_slot Tryz.results57 _ _ g (g + 1) rfl rfl rfl (run_loadVar_row _ _ _ _ _ (0,0) _ k9.out Tryz.underlying22 rfl IL.out) (run_loadVar_row _ _ _ _ _ (0,0) _ k8h.out Tryz.underlying107 rfl IN.out)) rfl ⟨rfl,HG.out ▸ HX7.out⟩
set_option maxHeartbeats 4000000 in
theorem keysOf_no2 (h:Bk w v 95 (vrow id K (some sp) nm kn)) (hK:K.length=32) (e:Nat) (c n:Int) (he1:1≤e) (he2:e≤1048576) (hcn:¬ NonceOk c n) (ht:Tab w) (hg1:2 < w.heap.size) :
  Calls Tryz.prog 57 #[.pointer (some ⟨v,0,none⟩),.int .i64 (e:Int),.int .i64 c,.int .i64 n] w fun r w'=>r = .returned noKeys∧Below w.heap.size w w':=by
 have hz:=z32
 have hz12:=z12
 obtain ⟨g,w0,hg,hw0,A0,A1,X0,S0⟩:=keys_start w
 have V0:=hidyb_ (h.below X0 (by have:=h.lt;omega))
 have HX0:=hidyb_ X0
 have Z0:=hidyb_ A0
 have Z1:=hidyb_ A1
 have KL:=hidyb_ hK
 rw [hg] at hg1
 have T0:Tab w0:=fun t h=>(X0.cell (p:=⟨_,t,none⟩) hg1).trans (ht t h)
 have LL:=hidyb_ (sealK_len K e)
 have IS:=hidyb_ (ib32 (sealK K e) LL.out)
 have QL:=hidyb_ (show (rowOf (zbytes 32)).size=(rowOf (sealK K e)).size by rw [rowOf_size,rowOf_size,LL.out,zbytes_len])
 have I32:=hidyb_ (ib32 K hK)
 have IL:=hidyb_ (ib32 (zbytes 32) (zbytes_len 32))
 have IN:=hidyb_ (ib12 (zbytes 12) (zbytes_len 12))
 have CK:Hid (∀ j,j < (rowOf K).size→w0.cell? ⟨v,1 + j,none⟩=(rowOf K)[j]?):=hidyb_ (fun j hj=>by
  rw [V0.out.cell (1 + j)]
  exact vrow_k id K KL.out _ _ _ j (by rw [rowOf_size,KL.out] at hj;exact hj))
 have ck:=kseal_yes w0 K hK e he1 he2 T0 (by omega)
 have cn:=fun W=>nonce_no W c n hcn
 have cm:=made_yes V0.out hK
 have HG:=hidyb_ hg
 generalize sealK K e=Ls at *
 unfold noKeys
 clear h hK he1 he2 X0 A0 A1 ht T0 hcn
 go_enter Tryz.func57,Tryz.ntmps57
 go_wp2_with (first
  | (go_at_call 50;((with_reducible refine cm.mono ?_);clear cm;rintro e w' ⟨rfl,rfl⟩))
  | (refine wpList_load_sub rfl 22 (.tmp 22) rfl v 1 rfl (rowOf K) CK.out _ Tryz.underlying22 rfl I32.out ?_)
  | (go_at_call 86;((with_reducible refine ck.mono ?_);clear ck;rintro e w2 ⟨rfl,hb⟩;have B2:=hidyb_ hb;clear hb))
  | (refine wpList_put_row rfl 22 (.tmp 11) (.tmp 26) rfl w2.heap.size (rowOf Ls) rfl rfl 22 (rowOf (zbytes 32)) (Bk.new w2 _ _) IS.out QL.out (bytes_one _) ?_;intro w3 k3 g3 s3;have BX:Below w2.heap.size w2 w3:=(((Below.refl w2.heap.size w2).alloc (Nat.le_refl _) (.cells (rowOf (zbytes 32)) 22)).grown g3 (by simp) (fun k hk=>by injection hk with hk;omega));have B3:=hidyb_ (B2.out.trans (BX.mono B2.out.size));clear k3 g3 s3 BX)
  | (go_at_call 87;((with_reducible refine (cn _).mono ?_);clear cn;rintro e w4 ⟨rfl,hb⟩;have B4:=hidyb_ (B3.out.trans (hb.mono B3.out.size));clear hb))
  | (refine wpList_put_row rfl 107 (.tmp 13) (.tmp 37) rfl w4.heap.size (rowOf (zbytes 12)) rfl rfl 107 (rowOf (zbytes 12)) (Bk.new w4 _ _) IN.out rfl (bytes_one _) ?_;intro w5 k5 g5 s5;have BX:Below w4.heap.size w4 w5:=(((Below.refl w4.heap.size w4).alloc (Nat.le_refl _) (.cells (rowOf (zbytes 12)) 107)).grown g5 (by simp) (fun k hk=>by injection hk with hk;omega));have B5:=hidyb_ (B4.out.trans (BX.mono B4.out.size));have Y0:=hidyb_ (Z0.out.below B5.out Z0.out.lt);have Y1:=hidyb_ (Z1.out.below B5.out Z1.out.lt);have HX3:=hidyb_ (HX0.out.trans (B5.out.mono (by omega)));clear k5 g5 s5 BX)
  | (refine wpList_built rfl 22 _ rfl (rowOf (zbytes 32)) (by kernel_rfl) ?_)
  | (refine wpList_built rfl 107 _ rfl (rowOf (zbytes 12)) (by kernel_rfl) ?_)
  | (refine wpList_put_row rfl 22 (.tmp 8) (.tmp 41) rfl g (rowOf (zbytes 32)) rfl rfl 22 (rowOf (zbytes 32)) Y0.out IL.out rfl (bytes_one _) ?_;intro w6 k6 g6 s6;have k7:=hidyb_ (Y1.out.oneOf g6 (by omega));have k6h:=hidyb_ k6;have HX6:=hidyb_ (HX3.out.grown g6 (by have:=HX3.out.size;omega) (fun k hk=>by injection hk with hk;omega));clear k6 g6 s6)
  | (refine wpList_put_row rfl 107 (.tmp 9) (.tmp 42) rfl (g + 1) (rowOf (zbytes 12)) rfl rfl 107 (rowOf (zbytes 12)) k7.out IN.out rfl (bytes_one _) ?_;intro w7 k8 g7 s7;have k9:=hidyb_ (k6h.out.oneOf g7 (by omega));have k8h:=hidyb_ k8;have HX7:=hidyb_ (HX6.out.grown g7 (by have:=HX6.out.size;omega) (fun k hk=>by injection hk with hk;omega));clear k8 g7 s7))
 exact bodyPost_ret (results_cells_slot Tryz.results57 _ _ g (g + 1) rfl rfl rfl (run_loadVar_row _ _ _ _ _ (0,0) _ k9.out Tryz.underlying22 rfl IL.out) (run_loadVar_row _ _ _ _ _ (0,0) _ k8h.out Tryz.underlying107 rfl IN.out)) rfl ⟨rfl,HG.out ▸ HX7.out⟩
end
section
variable {w w1 w2 : World} {F F' : List Nat}
theorem Untouched.thenB (h:Untouched F w w1) (hb:Below w1.heap.size w1 w2):Untouched F w w2:=h.trans (Grew.refl _ _) (.of_below hb)
theorem Untouched.thenG (h:Untouched F w w1) {g:Nat} (hg:w1.grownBy w2 (some g)) (hw:w.heap.size≤g):Untouched F w w2 :=
 ⟨hg.os.trans h.os,hg.tape.trans h.tape,hg.output.trans h.output,Nat.le_trans h.size hg.size,fun k hk hn=>(hg.block k (Nat.lt_of_lt_of_le hk h.size) (fun e=>by injection e with e;omega)).trans (h.block k hk hn)⟩
theorem VltI.grownG {v sp nm kn:Nat} {K:List UInt8} {N:List (List UInt8)} {S:List (Nat × Nat)} {L:List SealV} (h:VltI w v sp nm kn K N S L F) {g:Nat} (hg:w.grownBy w1 (some g)) (hF:g∉F):VltI w1 v sp nm kn K N S L F :=
 h.keep (fun k hk=>hg.block k (h.hF k hk) (fun e=>by injection e with e;subst e;exact hF hk)) hg.size
end
theorem vblind_start (w:World):∃ g w0,w.heap.size=g∧w.alloc (.cells (rowOf (zbytes 32)) 39)=w0∧Bk w0 g 39 (rowOf (zbytes 32))∧Below g w w0∧w0.heap.size=g + 1 :=
 ⟨_,_,rfl,rfl,Bk.new w _ _,(Below.refl _ _).alloc (Nat.le_refl _) _,by simp⟩
theorem kblind_no (w:World) (m:List UInt8) (A:Option Addr) (n c:Nat) (h:n=0∨64 < n) :
  Calls Tryz.prog 51 #[.agg (rowOf m),.slice A n c] w fun e w'=>e = .returned (.tuple #[.agg (rowOf (zbytes 32)),.int .i64 1])∧Below w.heap.size w w':=by
 rcases h with rfl | h
 ·exact blind_nil w m A c
 ·exact blind_big w m A n c h
set_option maxHeartbeats 4000000 in
theorem vblind_no {w:World} {v sp:Nat} {id:Bool} {K:List UInt8} {nm kn:Option Nat} (h:Bk w v 95 (vrow id K (some sp) nm kn)) (hK:K.length=32) (A:Option Addr) (n c:Nat) (hn:n=0∨64 < n) :
  Calls Tryz.prog 23 #[.pointer (some ⟨v,0,none⟩),.slice A n c] w fun e w'=>e = .returned (.tuple #[.agg (rowOf (zbytes 32)),.int .i64 1])∧Below w.heap.size w w':=by
 have hz:=zB
 obtain ⟨g,w0,hg,hw0,A0,X0,S0⟩:=vblind_start w
 have V0:=hidyb_ (h.below X0 (by have:=h.lt;omega))
 have HX0:=hidyb_ X0
 have Z0:=hidyb_ A0
 have KL:=hidyb_ hK
 have I32:=hidyb_ (ib32 K hK)
 have IB:=hidyb_ (iB (zbytes 32) (zbytes_len 32))
 have CK:Hid (∀ j,j < (rowOf K).size→w0.cell? ⟨v,1 + j,none⟩=(rowOf K)[j]?):=hidyb_ (fun j hj=>by
  rw [V0.out.cell (1 + j)]
  exact vrow_k id K KL.out _ _ _ j (by rw [rowOf_size,KL.out] at hj;exact hj))
 have ck:=kblind_no w0 K A n c hn
 have cm:=made_yes V0.out hK
 have HG:=hidyb_ hg
 clear h hK X0 A0 hn
 go_enter Tryz.func23,Tryz.ntmps23
 go_wp2_with (first
  | (go_at_call 50;((with_reducible refine cm.mono ?_);clear cm;rintro e w' ⟨rfl,rfl⟩))
  | (refine wpList_load_sub rfl 22 (.tmp 15) rfl v 1 rfl (rowOf K) CK.out _ Tryz.underlying22 rfl I32.out ?_)
  | (go_at_call 51;((with_reducible refine ck.mono ?_);clear ck;rintro e w2 ⟨rfl,hb⟩;have B2:=hidyb_ hb;clear hb))
  | (refine wpList_put_row rfl 39 (.tmp 6) (.tmp 19) rfl w2.heap.size (rowOf (zbytes 32)) rfl rfl 39 (rowOf (zbytes 32)) (Bk.new w2 _ _) IB.out rfl (bytes_one _) ?_;intro w3 k3 g3 s3;have BX:Below w2.heap.size w2 w3:=(((Below.refl w2.heap.size w2).alloc (Nat.le_refl _) (.cells (rowOf (zbytes 32)) 39)).grown g3 (by simp) (fun k hk=>by injection hk with hk;omega));have K3:=hidyb_ k3;have B3:=hidyb_ (B2.out.trans (BX.mono B2.out.size));have Y0:=hidyb_ (Z0.out.below B3.out Z0.out.lt);have HX3:=hidyb_ (HX0.out.trans (B3.out.mono (by omega)));clear k3 g3 s3 BX)
  | (refine wpList_load_row rfl 39 (.tmp 6) rfl w2.heap.size rfl 39 (rowOf (zbytes 32)) (0,0) _ K3.out Tryz.underlying39 rfl IB.out ?_)
  | (refine wpList_put_row rfl 39 (.tmp 4) (.tmp 30) rfl g (rowOf (zbytes 32)) rfl rfl 39 (rowOf (zbytes 32)) Y0.out IB.out rfl (bytes_one _) ?_;intro w7 k8 g7 s7;have k8h:=hidyb_ k8;have HX7:=hidyb_ (HX3.out.grown g7 (by have:=HX3.out.size;omega) (fun k hk=>by injection hk with hk;omega));clear k8 g7 s7))
 exact bodyPost_ret (results_cell_slot Tryz.results23 _ _ g rfl rfl (run_loadVar_row _ _ _ _ _ (0,0) _ k8h.out Tryz.underlying39 rfl IB.out)) rfl ⟨rfl,HG.out ▸ HX7.out⟩
set_option maxHeartbeats 4000000 in
theorem vblind_yes {w:World} {v sp nm kn:Nat} {K:List UInt8} {N:List (List UInt8)} {S:List (Nat × Nat)} {L:List SealV} {F:List Nat} (h:VltI w v sp nm kn K N S L F) (A:Option Addr) (n c:Nat) (name:List UInt8) (hn:name.length=n) (h1:1≤n) (h64:n≤64) (hc:n≤c) (hcm:c≤9223372036854775807) (hr:Rd w w.heap.size A name) (hN:N.length≤100000) (ht:Tab w) (hg1:2 < w.heap.size) :
  Calls Tryz.prog 23 #[.pointer (some ⟨v,0,none⟩),.slice A n c] w fun e w'=>e = .returned (.tuple #[.agg (rowOf (drawB K 0 (ordN N name) 24)),.int .i64 0])∧LeavesI w w' v sp nm kn K (addNm N name) S L F F:=by
 have hz:=zB
 obtain ⟨g,w0,hg,hw0,A0,X0,S0⟩:=vblind_start w
 have hK:=h.len
 have V0:=hidyb_ (h.below (by rw [hg];exact X0))
 have HX0:=hidyb_ X0
 have Z0:=hidyb_ A0
 have KL:=hidyb_ hK
 have HF:Hid (∀ k∈F,k < g):=hidyb_ (fun k hk=>by rw [← hg];exact h.hF k hk)
 rw [hg] at hg1
 have T0:Tab w0:=fun t h=>(X0.cell (p:=⟨_,t,none⟩) hg1).trans (ht t h)
 have R0:=hidyb_ (((hg ▸ hr).below X0).more (show g≤w0.heap.size by omega))
 have I32:=hidyb_ (ib32 K hK)
 obtain ⟨D,hD⟩:∃ D,drawB K 0 (ordN N name) 24=D:=⟨_,rfl⟩
 have DL:=hidyb_ (show D.length=32 by rw [← hD,drawB_len])
 have BL:=hidyb_ (blindK_len K name)
 have IB:=hidyb_ (iB D DL.out)
 have IA:=hidyb_ (iB (blindK K name) BL.out)
 have QA:=hidyb_ (show (rowOf (zbytes 32)).size=(rowOf (blindK K name)).size by rw [rowOf_size,rowOf_size,BL.out,zbytes_len])
 have QD:=hidyb_ (show (rowOf (zbytes 32)).size=(rowOf D).size by rw [rowOf_size,rowOf_size,DL.out,zbytes_len])
 have CK:Hid (∀ j,j < (rowOf K).size→w0.cell? ⟨v,1 + j,none⟩=(rowOf K)[j]?):=hidyb_ (fun j hj=>by
  rw [V0.out.blk.cell (1 + j)]
  exact vrow_k true K KL.out _ _ _ j (by rw [rowOf_size,KL.out] at hj;exact hj))
 have ck:=blind_yes w0 K hK A n c name hn h1 h64 hc hcm R0.out T0 (by omega)
 have cm:=made_yes V0.out.blk hK
 have HG:=hidyb_ hg
 have NL:=hidyb_ hn
 have NB:=hidyb_ hN
 have ON:=hidyb_ (show ordN N name≤1000000 by unfold ordN;have:=List.idxOf_le_length (l:=N) (a:=name);omega)
 have H64:=hidyb_ h64
 have hat:∀ (A:Option Addr) (c:Nat) (W:World),(Instr.arrayAt 39 (.slice A 32 c)).run Tryz.prog W = .ok (.pointer A) W:=fun A c W=>run_arrayAt W 39 5 32 A 32 c Tryz.underlying39 (Nat.le_refl _)
 generalize blindK K name=b0 at *
 rw [hD]
 have HD:=hidyb_ hD
 clear hD
 clear h hK X0 A0 hn T0 ht hr h1 h64 hc hcm hN
 go_enter Tryz.func23,Tryz.ntmps23
 go_upto_region 6 with (first
  | (go_at_call 50;((with_reducible refine cm.mono ?_);clear cm;rintro e w' ⟨rfl,rfl⟩))
  | (refine wpList_load_sub rfl 22 (.tmp 15) rfl v 1 rfl (rowOf K) CK.out _ Tryz.underlying22 rfl I32.out ?_)
  | (go_at_call 51;((with_reducible refine ck.mono ?_);clear ck;rintro e w2 ⟨rfl,hb⟩;have B2:=hidyb_ hb;clear hb))
  | (refine wpList_put_row rfl 39 (.tmp 6) (.tmp 19) rfl w2.heap.size (rowOf b0) rfl rfl 39 (rowOf (zbytes 32)) (Bk.new w2 _ _) IA.out QA.out (bytes_one _) ?_;intro w3 k3 g3 s3;have BX:Below w2.heap.size w2 w3:=(((Below.refl w2.heap.size w2).alloc (Nat.le_refl _) (.cells (rowOf (zbytes 32)) 39)).grown g3 (by simp) (fun k hk=>by injection hk with hk;omega));have B3:=hidyb_ (B2.out.trans (BX.mono B2.out.size));have V3:=hidyb_ (V0.out.below B3.out);have Y0:=hidyb_ (Z0.out.below B3.out Z0.out.lt);have c3:=(V3.out.blk.cell 0).trans (vrow_0 _ _ _ _ _);clear k3 g3 s3 BX))
 clear c3
 have U3:=hidyb_ ((Untouched.of_below (F:=F) (hg ▸ HX0.out)).thenB B3.out)
 have R3:=hidyb_ ((R0.out.below B3.out).more B3.out.size)
 have co:=ordinal_any V3.out A n c name NL.out R3.out (by have:=H64.out;omega) (by have:=NB.out;omega)
 go_wp2_with (first
  | (go_at_call 53;((with_reducible refine co.mono ?_);clear co;rintro e w4 ⟨rfl,hl⟩;have V4:=hidyb_ hl.1;have U4:=hidyb_ (U3.out.trans (Grew.refl _ _) hl.2.2);have Y4:=hidyb_ (Y0.out.untouched hl.2.2 (fun hm=>by have:=HF.out _ hm;omega));clear hl))
  | (go_at_call 52;have cd:Calls Tryz.prog 52 #[.pointer (some ⟨v,0,none⟩),.int .i64 0,.int .i64 ((ordN N name:Nat):Int),.int .i64 32] w4 (NewP w4 (8 + 24) (drawB K 0 (ordN N name) 24)):=draw_any V4.out.blk KL.out 0 (ordN N name) 24 (by omega) (by have:=ON.out;omega) (by omega);rw [HD.out] at cd;((with_reducible refine cd.mono ?_);clear cd;rintro e w5 ⟨A5,c5,rfl,ho,hb⟩;obtain ⟨g5,rfl⟩:=ho.block_ (by omega);have O5:=hidyb_ ho;have V5:=hidyb_ (V4.out.below hb);have U5:=hidyb_ (U4.out.thenB hb);have Y5:=hidyb_ (Y4.out.below hb Y4.out.lt);have C5:=hidyb_ (fun j (hj:j < (rowOf D).size)=>(show w5.cell? ⟨g5,0 + j,none⟩=(rowOf D)[j]? by rw [rowOf_size] at hj;rw [Nat.zero_add,ho.cellz j (by rw [DL.out] at hj;exact hj),rowOf_at _ _ hj]));clear ho hb))
  | (refine wpList_load_sub rfl 39 (.tmp 37) rfl g5 0 rfl (rowOf D) C5.out _ Tryz.underlying39 rfl IB.out ?_)
  | (refine wpList_put_row rfl 39 (.tmp 4) (.tmp 38) rfl g (rowOf D) rfl rfl 39 (rowOf (zbytes 32)) Y5.out IB.out QD.out (bytes_one _) ?_;intro w7 k8 g7 s7;have k8h:=hidyb_ k8;have V7:=hidyb_ (V5.out.grownG g7 (fun hm=>by have:=HF.out _ hm;omega));have U7:=hidyb_ (U5.out.thenG g7 (by rw [HG.out];exact Nat.le_refl _));clear k8 g7 s7))
 exact bodyPost_ret (results_cell_slot Tryz.results23 _ _ g rfl rfl (run_loadVar_row _ _ _ _ _ (0,0) _ k8h.out Tryz.underlying39 rfl IB.out)) rfl ⟨rfl,V7.out,Grew.refl _ _,U7.out⟩
end Go.Proofs.YtpcbmnmgefhaaaaGreatDoor
