import Derived.Test.YtpcbmnmgefhaaaaGreatDoorDn
import Derived.Test.YtpcbmnmgefhaaaaGreatDoorFr
import Derived.Laws.Cover3
import Derived.LaidEqlPtr
import Derived.Test.YtpcbmnmgefhaaaaGreatDoorLc
import Derived.Laws.StructEq
import Derived.Test.YtpcbmnmgefhaaaaGreatDoorQc
import Derived.BigFrame
namespace Go.Proofs.YtpcbmnmgefhaaaaGreatDoor
set_option maxRecDepth 100000
open Go.RowKit
set_option linter.unusedVariables false
set_option linter.unusedSimpArgs false
theorem hidn_ {p:Prop} (h:p):Hid p:=h
theorem results_cell_slot {P:Program} {fn:Func} {p q:Tmp} {ty:TypeId} (h:fn.results = #[.cell p ty,.tmp q]) (tmps:Array Value) (w:World) (g:Nat) {v v':Value}
  (hp:tmps.getD p undef = .pointer (some ⟨g,0,none⟩)) (hq:tmps.getD q undef=v')
  (h1:(loadVar ty ⟨g,0,none⟩).run P w = .ok v w) :
  (results fn tmps).run P w = .ok (.tuple #[v,v']) w:=by
 have hp':tmps[p]?.getD undef = .pointer (some ⟨g,0,none⟩):=by simpa using hp
 have hq':tmps[q]?.getD undef=v':=by simpa using hq
 simp [results,h,hp',hq',asAddr,h1]
theorem z12 (W:World):(zeroValue 107).run Tryz.prog W = .ok (.agg (rowOf (zbytes 12))) W:=by kernel_rfl
theorem i12_:(Tryz.prog.info? 107).map (·.size)=some 12:=by kernel_rfl
theorem i12 (l:List UInt8) (h:l.length=12):(Tryz.prog.info? 107).map (·.size)=some (rowOf l).size:=by rw [rowOf_size,h];exact i12_
def nonceB (c n:Nat):List UInt8:=highB 4 c ++ highB 8 n
theorem nonceB_len (c n:Nat):(nonceB c n).length=12:=by rw [nonceB,List.length_append,highB_len,highB_len]
def NonceOk (a b:Int):Prop:=1≤a∧a≤16∧1≤b∧b≤4611686018427387904
instance (a b:Int):Decidable (NonceOk a b):=by unfold NonceOk;infer_instance
set_option maxHeartbeats 1000000 in
theorem nonce_no1 (w:World) (a b:Int) (h:a < 1) :
  Calls Tryz.prog 87 #[.int .i64 a,.int .i64 b] w fun e w'=>e = .returned (.tuple #[.agg (rowOf (zbytes 12)),.int .i64 1])∧Below w.heap.size w w':=by
 have hz:=z12
 have hd0:decide (a < 1)=true:=decide_eq_true (by omega)
 have BK:=hidn_ (Bk.new w 107 (rowOf (zbytes 12)))
 have I:=hidn_ (i12 (zbytes 12) (zbytes_len 12))
 have HB:=hidn_ ((Below.refl w.heap.size w).alloc (Nat.le_refl _) (.cells (rowOf (zbytes 12)) 107))
 clear h
 go_enter Tryz.func87,Tryz.ntmps87
 go_wp2_with (first
  | (refine wpList_built rfl 107 _ rfl (rowOf (zbytes 12)) (by kernel_rfl) ?_)
  | (refine wpList_put_row rfl 107 _ _ rfl w.heap.size (rowOf (zbytes 12)) rfl rfl 107 (rowOf (zbytes 12)) BK.out I.out rfl (bytes_one _) ?_;intro W9 k9 g9 s9))
 exact bodyPost_ret (results_cell_slot Tryz.results87 _ _ w.heap.size rfl rfl (run_loadVar_row _ _ _ _ _ (0,0) _ k9 Tryz.underlying107 rfl I.out)) rfl ⟨rfl,HB.out.grown g9 HB.out.size (fun k hk=>by injection hk with hk;omega)⟩
set_option maxHeartbeats 1000000 in
theorem nonce_no2 (w:World) (a b:Int) (h:1≤a) (h2:16 < a) :
  Calls Tryz.prog 87 #[.int .i64 a,.int .i64 b] w fun e w'=>e = .returned (.tuple #[.agg (rowOf (zbytes 12)),.int .i64 1])∧Below w.heap.size w w':=by
 have hz:=z12
 have hd0:decide (a < 1)=false:=decide_eq_false (by omega)
 have hd1:decide (16 < a)=true:=decide_eq_true (by omega)
 have BK:=hidn_ (Bk.new w 107 (rowOf (zbytes 12)))
 have I:=hidn_ (i12 (zbytes 12) (zbytes_len 12))
 have HB:=hidn_ ((Below.refl w.heap.size w).alloc (Nat.le_refl _) (.cells (rowOf (zbytes 12)) 107))
 clear h h2
 go_enter Tryz.func87,Tryz.ntmps87
 go_wp2_with (first
  | (refine wpList_built rfl 107 _ rfl (rowOf (zbytes 12)) (by kernel_rfl) ?_)
  | (refine wpList_put_row rfl 107 _ _ rfl w.heap.size (rowOf (zbytes 12)) rfl rfl 107 (rowOf (zbytes 12)) BK.out I.out rfl (bytes_one _) ?_;intro W9 k9 g9 s9))
 exact bodyPost_ret (results_cell_slot Tryz.results87 _ _ w.heap.size rfl rfl (run_loadVar_row _ _ _ _ _ (0,0) _ k9 Tryz.underlying107 rfl I.out)) rfl ⟨rfl,HB.out.grown g9 HB.out.size (fun k hk=>by injection hk with hk;omega)⟩
set_option maxHeartbeats 1000000 in
theorem nonce_no3 (w:World) (a b:Int) (h:1≤a) (h2:a≤16) (h3:b < 1) :
  Calls Tryz.prog 87 #[.int .i64 a,.int .i64 b] w fun e w'=>e = .returned (.tuple #[.agg (rowOf (zbytes 12)),.int .i64 1])∧Below w.heap.size w w':=by
 have hz:=z12
 have hd0:decide (a < 1)=false:=decide_eq_false (by omega)
 have hd1:decide (16 < a)=false:=decide_eq_false (by omega)
 have hd2:decide (b < 1)=true:=decide_eq_true (by omega)
 have BK:=hidn_ (Bk.new w 107 (rowOf (zbytes 12)))
 have I:=hidn_ (i12 (zbytes 12) (zbytes_len 12))
 have HB:=hidn_ ((Below.refl w.heap.size w).alloc (Nat.le_refl _) (.cells (rowOf (zbytes 12)) 107))
 clear h h2 h3
 go_enter Tryz.func87,Tryz.ntmps87
 go_wp2_with (first
  | (refine wpList_built rfl 107 _ rfl (rowOf (zbytes 12)) (by kernel_rfl) ?_)
  | (refine wpList_put_row rfl 107 _ _ rfl w.heap.size (rowOf (zbytes 12)) rfl rfl 107 (rowOf (zbytes 12)) BK.out I.out rfl (bytes_one _) ?_;intro W9 k9 g9 s9))
 exact bodyPost_ret (results_cell_slot Tryz.results87 _ _ w.heap.size rfl rfl (run_loadVar_row _ _ _ _ _ (0,0) _ k9 Tryz.underlying107 rfl I.out)) rfl ⟨rfl,HB.out.grown g9 HB.out.size (fun k hk=>by injection hk with hk;omega)⟩
set_option maxHeartbeats 1000000 in
theorem nonce_no4 (w:World) (a b:Int) (h:1≤a) (h2:a≤16) (h3:1≤b) (h4:4611686018427387904 < b) :
  Calls Tryz.prog 87 #[.int .i64 a,.int .i64 b] w fun e w'=>e = .returned (.tuple #[.agg (rowOf (zbytes 12)),.int .i64 1])∧Below w.heap.size w w':=by
 have hz:=z12
 have hd0:decide (a < 1)=false:=decide_eq_false (by omega)
 have hd1:decide (16 < a)=false:=decide_eq_false (by omega)
 have hd2:decide (b < 1)=false:=decide_eq_false (by omega)
 have hd3:decide (4611686018427387904 < b)=true:=decide_eq_true (by omega)
 have BK:=hidn_ (Bk.new w 107 (rowOf (zbytes 12)))
 have I:=hidn_ (i12 (zbytes 12) (zbytes_len 12))
 have HB:=hidn_ ((Below.refl w.heap.size w).alloc (Nat.le_refl _) (.cells (rowOf (zbytes 12)) 107))
 clear h h2 h3 h4
 go_enter Tryz.func87,Tryz.ntmps87
 go_wp2_with (first
  | (refine wpList_built rfl 107 _ rfl (rowOf (zbytes 12)) (by kernel_rfl) ?_)
  | (refine wpList_put_row rfl 107 _ _ rfl w.heap.size (rowOf (zbytes 12)) rfl rfl 107 (rowOf (zbytes 12)) BK.out I.out rfl (bytes_one _) ?_;intro W9 k9 g9 s9))
 exact bodyPost_ret (results_cell_slot Tryz.results87 _ _ w.heap.size rfl rfl (run_loadVar_row _ _ _ _ _ (0,0) _ k9 Tryz.underlying107 rfl I.out)) rfl ⟨rfl,HB.out.grown g9 HB.out.size (fun k hk=>by injection hk with hk;omega)⟩
theorem cat_two (w3:World) (g1 g2 n1 n2:Nat) (l1 l2:List UInt8) (h1:Blk8 w3 g1 l1) (h2:Blk8 w3 g2 l2) (hn1:l1.length=n1) (hn2:l2.length=n2) :
  CatAt (w3.alloc (.cells #[.slice (some ⟨g1,0,none⟩) n1 n1,.slice (some ⟨g2,0,none⟩) n2 n2] 23)) (w3.alloc (.cells #[.slice (some ⟨g1,0,none⟩) n1 n1,.slice (some ⟨g2,0,none⟩) n2 n2] 23)).heap.size w3.heap.size [(some ⟨g1,0,none⟩,n1,l1),(some ⟨g2,0,none⟩,n2,l2)]:=by
 have hb:=Bk.new w3 23 #[.slice (some ⟨g1,0,none⟩) n1 n1,.slice (some ⟨g2,0,none⟩) n2 n2]
 refine ⟨hb.lt,fun i hi=>?_⟩
 have hcell:=hb.cell i
 have hlt:i < 2:=hi
 rcases i with _ | _ | i
 ·exact ⟨hcell.trans (by simp [hn1]),(h1.alloc _).rd (h1.alloc _).lt⟩
 ·exact ⟨hcell.trans (by simp [hn2]),(h2.alloc _).rd (h2.alloc _).lt⟩
 ·omega
set_option maxHeartbeats 2000000 in
theorem nonce_yes (w:World) (a b:Nat) (ha1:1≤a) (ha2:a≤16) (hb1:1≤b) (hb2:b≤4611686018427387904) :
  Calls Tryz.prog 87 #[.int .i64 (a:Int),.int .i64 (b:Int)] w fun e w'=>e = .returned (.tuple #[.agg (rowOf (nonceB a b)),.int .i64 0])∧Below w.heap.size w w':=by
 have hz:=z12
 have hd0:decide ((a:Int) < 1)=false:=decide_eq_false (by omega)
 have hd1:decide (16 < (a:Int))=false:=decide_eq_false (by omega)
 have hd2:decide ((b:Int) < 1)=false:=decide_eq_false (by omega)
 have hd3:decide (4611686018427387904 < (b:Int))=false:=decide_eq_false (by omega)
 have hd4:decide (16 < a)=false:=decide_eq_false (by omega)
 have hd5:decide (4611686018427387904 < b)=false:=decide_eq_false (by omega)
 have hd6:decide (a < 1)=false:=decide_eq_false (by omega)
 have hd7:decide (b < 1)=false:=decide_eq_false (by omega)
 have hw1:IntKind.u64.wrap (a:Int)=(a:Int):=IntWalk.u64_in _ (by omega)
 have hw2:IntKind.u64.wrap (b:Int)=(b:Int):=IntWalk.u64_in _ (by omega)
 have BK:=hidn_ (Bk.new w 107 (rowOf (zbytes 12)))
 have HB:=hidn_ ((Below.refl w.heap.size w).alloc (Nat.le_refl _) (.cells (rowOf (zbytes 12)) 107))
 have c1:=fun W=>putHigh_any a 4 4 (by omega) (by omega) (by omega) (.inr (.inl ⟨by omega,by omega,rfl⟩)) W
 have c2:=fun W=>putHigh_any b 8 8 (by omega) (by omega) (by omega) (.inr (.inl ⟨by omega,by omega,rfl⟩)) W
 have I:=hidn_ (i12 (nonceB a b) (nonceB_len a b))
 have Q:=hidn_ (show (rowOf (zbytes 12)).size=(rowOf (nonceB a b)).size by rw [rowOf_size,rowOf_size,nonceB_len,zbytes_len])
 have NL:=hidn_ (nonceB_len a b)
 have hat:∀ (A:Option Addr) (c:Nat) (W:World),(Instr.arrayAt 107 (.slice A 12 c)).run Tryz.prog W = .ok (.pointer A) W:=fun A c W=>run_arrayAt W 107 5 12 A 12 c Tryz.underlying107 (Nat.le_refl _)
 clear ha1 ha2 hb1 hb2
 go_enter Tryz.func87,Tryz.ntmps87
 have e1:(w.alloc (.cells (rowOf (zbytes 12)) 107)).heap.size=w.heap.size + 1:=by simp
 go_wp2_with (first
  | (go_at_call 73;((with_reducible refine (c1 _).mono ?_);rintro e w2 ⟨rfl,hb,hB⟩;rw [e1] at hb hB ⊢;have P2:=hidn_ hb;have BK2:=hidn_ (BK.out.below hB (by omega));have B2:=hidn_ (HB.out.trans (hB.mono (by omega)));clear hb hB))
  | (go_at_call 73;((with_reducible refine (c2 _).mono ?_);rintro e w3 ⟨rfl,hb,hB⟩;have P3:=hidn_ hb;have P23:=hidn_ (P2.out.below hB P2.out.lt);have BK3:=hidn_ (BK2.out.below hB BK2.out.lt);have B3:=hidn_ (B2.out.trans (hB.mono B2.out.size));clear hb hB))
  | (go_at_call 49;have cc:=concat_any w3.heap.size 2 2 12 [(some ⟨w.heap.size + 1,0,none⟩,4,highB 4 a),(some ⟨w2.heap.size,0,none⟩,8,highB 8 b)] _ rfl (by simp [flat,highB_len]) (cat_two w3 (w.heap.size + 1) w2.heap.size 4 8 _ _ P23.out P3.out (highB_len _ _) (highB_len _ _)) (by omega) (by omega);((with_reducible refine cc.mono ?_);clear cc;rintro e w5 ⟨A5,c5,rfl,ho,hb⟩;rw [show flat [((some ⟨w.heap.size + 1,0,none⟩:Option Addr),4,highB 4 a),(some ⟨w2.heap.size,0,none⟩,8,highB 8 b)]=nonceB a b by simp [flat,nonceB]] at ho;obtain ⟨g5,rfl⟩:=ho.block_ (by omega);have O5:=hidn_ ho;have BK5:=hidn_ ((BK3.out.alloc (.cells #[.slice (some ⟨w.heap.size + 1,0,none⟩) 4 4,.slice (some ⟨w2.heap.size,0,none⟩) 8 8] 23)).below hb (BK3.out.alloc _).lt);have B5:=hidn_ ((B3.out.alloc B3.out.size (.cells #[.slice (some ⟨w.heap.size + 1,0,none⟩) 4 4,.slice (some ⟨w2.heap.size,0,none⟩) 8 8] 23)).trans (hb.mono (by have:=B3.out.size;simp;omega)));clear ho hb;have C5:=hidn_ (fun j (hj:j < (rowOf (nonceB a b)).size)=>(show w5.cell? ⟨g5,0 + j,none⟩=(rowOf (nonceB a b))[j]? by rw [rowOf_size] at hj;rw [Nat.zero_add,O5.out.cellz j (by rw [NL.out] at hj;exact hj),rowOf_at _ _ hj]))))
  | (refine wpList_load_sub rfl 107 (.tmp 31) rfl g5 0 rfl (rowOf (nonceB a b)) C5.out _ Tryz.underlying107 rfl I.out ?_)
  | (refine wpList_put_row rfl 107 _ _ rfl w.heap.size (rowOf (nonceB a b)) rfl rfl 107 (rowOf (zbytes 12)) BK5.out I.out Q.out (bytes_one _) ?_;intro W9 k9 g9 s9))
 exact bodyPost_ret (results_cell_slot Tryz.results87 _ _ w.heap.size rfl rfl (run_loadVar_row _ _ _ _ _ (0,0) _ k9 Tryz.underlying107 rfl I.out)) rfl ⟨rfl,B5.out.grown g9 B5.out.size (fun k hk=>by injection hk with hk;omega)⟩
theorem nonce_no (w:World) (a b:Int) (h:¬ NonceOk a b) :
  Calls Tryz.prog 87 #[.int .i64 a,.int .i64 b] w fun e w'=>e = .returned (.tuple #[.agg (rowOf (zbytes 12)),.int .i64 1])∧Below w.heap.size w w':=by
 unfold NonceOk at h
 by_cases h1:a < 1
 ·exact nonce_no1 w a b h1
 ·by_cases h2:16 < a
  ·exact nonce_no2 w a b (by omega) h2
  ·by_cases h3:b < 1
   ·exact nonce_no3 w a b (by omega) (by omega) h3
   ·exact nonce_no4 w a b (by omega) (by omega) (by omega) (by omega)
theorem zB (W:World):(zeroValue 39).run Tryz.prog W = .ok (.agg (rowOf (zbytes 32))) W:=by kernel_rfl
theorem iB_:(Tryz.prog.info? 39).map (·.size)=some 32:=by kernel_rfl
theorem iB (l:List UInt8) (h:l.length=32):(Tryz.prog.info? 39).map (·.size)=some (rowOf l).size:=by rw [rowOf_size,h];exact iB_
set_option maxHeartbeats 1000000 in
theorem blind_nil (w:World) (m:List UInt8) (A:Option Addr) (c:Nat) :
  Calls Tryz.prog 51 #[.agg (rowOf m),.slice A 0 c] w fun e w'=>e = .returned (.tuple #[.agg (rowOf (zbytes 32)),.int .i64 1])∧Below w.heap.size w w':=by
 have hz:=zB
 have BK:=hidn_ (Bk.new (w.alloc (.cells (rowOf m) 22)) 39 (rowOf (zbytes 32)))
 have e1:(w.alloc (.cells (rowOf m) 22)).heap.size=w.heap.size + 1:=by simp
 have I:=hidn_ (iB (zbytes 32) (zbytes_len 32))
 have HB:=hidn_ (((Below.refl w.heap.size w).alloc (Nat.le_refl _) (.cells (rowOf m) 22)).alloc (by omega) (.cells (rowOf (zbytes 32)) 39))
 rw [e1] at BK
 generalize rowOf m=M at *
 go_enter Tryz.func51,Tryz.ntmps51
 go_wp2_with (first
  | (refine wpList_built rfl 39 _ rfl (rowOf (zbytes 32)) (by kernel_rfl) ?_)
  | (refine wpList_put_row rfl 39 _ _ rfl (w.heap.size + 1) (rowOf (zbytes 32)) rfl rfl 39 (rowOf (zbytes 32)) BK.out I.out rfl (bytes_one _) ?_;intro W9 k9 g9 s9))
 exact bodyPost_ret (results_cell_slot Tryz.results51 _ _ (w.heap.size + 1) rfl rfl (run_loadVar_row _ _ _ _ _ (0,0) _ k9 Tryz.underlying39 rfl I.out)) rfl ⟨rfl,HB.out.grown g9 HB.out.size (fun k hk=>by injection hk with hk;omega)⟩
open Go.ChangeShapes Go.WideShapes Go.ChangeAt Go.RowKit
section
variable {P : Program} {C : World → Prop} {ops : Array Oper} {rest : List Oper} {o : Oper} {a : Act} {w : World} {Q : Exit → Act → World → Prop} {K0 : Act → Prop}
theorem quiet_load_row (ty:TypeId) (x:Operand) (ho:o.op = .load ty x) (g:Nat) (hx:a.eval x = .pointer (some ⟨g,0,none⟩)) (t:TypeId) (cs:Array Value) (d:TypeDesc)
  (hu:P.underlying ty=some d) (hd:(match d with | .struct _ | .array _ _=>true | _=>false)=true) (hi:(P.info? ty).map (·.size)=some cs.size)
  (hC:∀ W,C W→Bk W g t cs) (hk:K0 (a.put o.dst (.agg cs))):o.quiet P a C K0 :=
 quiet_run (.agg cs) (fun W hW=>by
  have hrun:(loadVar ty ⟨g,0,none⟩).run P W = .ok (.agg cs) W:=run_loadVar_row _ _ _ _ _ (0,0) _ (hC W hW) hu hd hi
  unfold execOp
  simp only [ho,hx,Instr.loadAt,Instr.sureAddr,Sem.run_bind,Sem.run_pure,Result.andThen_ok,hrun]) hk
theorem wpList_load_rowW (hw:Region.wanted o (yielded ops a.tmps)=true) (ty:TypeId) (x:Operand) (ho:o.op = .load ty x) (g:Nat) (hx:a.eval x = .pointer (some ⟨g,0,none⟩)) (t:TypeId) (cs:Array Value) (hb:Bk w g t cs) (d:TypeDesc)
  (hu:P.underlying ty=some d) (hd:(match d with | .struct _ | .array _ _=>true | _=>false)=true) (hi:(P.info? ty).map (·.size)=some cs.size)
  (h:wpList P ops Q rest (a.put o.dst (.agg cs)) w):wpList P ops Q (o :: rest) a w:=by
 have hrun:(loadVar ty ⟨g,0,none⟩).run P w = .ok (.agg cs) w:=run_loadVar_row _ _ _ _ _ (0,0) _ hb hu hd hi
 refine BigFrame.wpList_want hw fun K hK=>?_
 unfold Oper.wp execOp
 simp only [ho,hx,Instr.loadAt,Instr.sureAddr,Sem.run_bind,Sem.run_pure,Result.andThen_ok,hrun]
 exact hK _ _ h
end
def clientB (z:Int):Bool:=decide (1≤z) && decide (z≤16)
def counterB (z:Int):Bool:=decide (1≤z) && decide (z≤4611686018427387904)
set_option maxHeartbeats 1000000 in
theorem refClient_any (w:World) (z:Int):Calls Tryz.prog 61 #[.int .i64 z] w fun e w'=>e = .returned (.bool (clientB z))∧w=w':=by
 unfold clientB
 by_cases h1:1≤z
 ·by_cases h2:z≤16
  ·have d1:decide (1≤z)=true:=decide_eq_true h1
   have d2:decide (z≤16)=true:=decide_eq_true h2
   rw [d1,d2]
   go_enter Tryz.func61,Tryz.ntmps61
   go_wp2
   go_ret
   exact ⟨rfl,rfl⟩
  ·have d1:decide (1≤z)=true:=decide_eq_true h1
   have d2:decide (z≤16)=false:=decide_eq_false h2
   rw [d1,d2]
   go_enter Tryz.func61,Tryz.ntmps61
   go_wp2
   go_ret
   exact ⟨rfl,rfl⟩
 ·have d1:decide (1≤z)=false:=decide_eq_false h1
  rw [d1]
  go_enter Tryz.func61,Tryz.ntmps61
  go_wp2
  go_ret
  exact ⟨rfl,rfl⟩
set_option maxHeartbeats 1000000 in
theorem refCounter_any (w:World) (z:Int):Calls Tryz.prog 60 #[.int .i64 z] w fun e w'=>e = .returned (.bool (counterB z))∧w=w':=by
 unfold counterB
 by_cases h1:1≤z
 ·by_cases h2:z≤4611686018427387904
  ·have d1:decide (1≤z)=true:=decide_eq_true h1
   have d2:decide (z≤4611686018427387904)=true:=decide_eq_true h2
   rw [d1,d2]
   go_enter Tryz.func60,Tryz.ntmps60
   go_wp2
   go_ret
   exact ⟨rfl,rfl⟩
  ·have d1:decide (1≤z)=true:=decide_eq_true h1
   have d2:decide (z≤4611686018427387904)=false:=decide_eq_false h2
   rw [d1,d2]
   go_enter Tryz.func60,Tryz.ntmps60
   go_wp2
   go_ret
   exact ⟨rfl,rfl⟩
 ·have d1:decide (1≤z)=false:=decide_eq_false h1
  rw [d1]
  go_enter Tryz.func60,Tryz.ntmps60
  go_wp2
  go_ret
  exact ⟨rfl,rfl⟩
theorem nonceOk_iff (a b:Int):(clientB a && counterB b)=true↔NonceOk a b:=by
 unfold clientB counterB NonceOk
 simp
 omega
set_option maxHeartbeats 1000000 in
theorem refNonce_any (w:World) (a b:Nat) (ha:a≤16) (hb:b≤4611686018427387904):Calls Tryz.prog 67 #[.int .i64 (a:Int),.int .i64 (b:Int)] w fun e w'=>e = .returned (.string (strOf (nonceB a b)))∧Below w.heap.size w w':=by
 have c1:=fun W=>refPut_any a 4 4 true (by omega) (by omega) (by omega) (.inr (.inl ⟨by omega,by omega,rfl⟩)) W
 have c2:=fun W=>refPut_any b 8 8 true (by omega) (by omega) (by omega) (.inr (.inl ⟨by omega,by omega,rfl⟩)) W
 have hw1:IntKind.u64.wrap (a:Int)=(a:Int):=IntWalk.u64_in _ (by omega)
 have hw2:IntKind.u64.wrap (b:Int)=(b:Int):=IntWalk.u64_in _ (by omega)
 have hap:=strOf_append (putB true 4 a) (putB true 8 b)
 have h1:(strOf (putB true 4 a)).size=4:=by rw [strOf_size,putB_len]
 have h2:(strOf (putB true 8 b)).size=8:=by rw [strOf_size,putB_len]
 have hn:putB true 4 a ++ putB true 8 b=nonceB a b:=rfl
 rw [hn] at hap
 have hs:(strOf (putB true 4 a)).size + (strOf (putB true 8 b)).size≤9223372036854775807:=by omega
 clear hn
 generalize nonceB a b=N at *
 generalize putB true 4 a=X at *
 generalize putB true 8 b=Y at *
 go_enter Tryz.func67,Tryz.ntmps67
 go_wp2_with (first
  | (go_at_call 77;((with_reducible refine (c1 _).mono ?_);rintro e w2 ⟨rfl,hb⟩;have B2:=hidn_ hb;clear hb))
  | (go_at_call 77;((with_reducible refine (c2 _).mono ?_);rintro e w3 ⟨rfl,hb⟩;have B3:=hidn_ (B2.out.trans (hb.mono B2.out.size));clear hb)))
 go_ret
 exact ⟨rfl,B3.out⟩
end Go.Proofs.YtpcbmnmgefhaaaaGreatDoor
