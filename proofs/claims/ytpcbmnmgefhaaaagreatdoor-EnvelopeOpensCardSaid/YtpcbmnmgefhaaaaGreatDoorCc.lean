import Derived.Test.YtpcbmnmgefhaaaaGreatDoorAp
import Derived.Test.YtpcbmnmgefhaaaaGreatDoorBB
import Derived.Lib.AppendZerosOnto
import Derived.Lib.SliceRun
import Derived.WalkSpells
import Derived.WalkLawsBesides
import Derived.BigCall
namespace Go.Proofs.YtpcbmnmgefhaaaaGreatDoor
set_option maxRecDepth 100000
open Go.RowKit
set_option linter.unusedVariables false
theorem hidk_ {p:Prop} (h:p):Hid p:=h
def NewP (w:World) (n:Nat) (l:List UInt8) (e:Ending) (w':World):Prop :=
 ∃ A c,e = .returned (.slice A n c)∧Own8 w' w.heap.size (.slice A n c) l∧Below w.heap.size w w'
set_option maxHeartbeats 1000000 in
theorem clone_any (A:Option Addr) (n c:Nat) (l:List UInt8) (w:World) (hn:l.length=n) (hr:Rd w w.heap.size A l) (hm:n≤140737488355328) :
  Calls Tryz.prog 27 #[.slice A n c] w (NewP w n l):=by
 cases A with
 | none =>
  have hl:l = []:=by
   rcases Nat.eq_zero_or_pos l.length with h0 | h0
   ·exact List.eq_nil_of_length_eq_zero h0
   ·obtain ⟨_,_,e,_⟩:=hr h0
    cases e
  subst hl
  obtain rfl:n=0:=by simpa using hn.symm
  clear hn hr
  have heq:=fun W=>Lib.run_eql_slice_nil (P:=Tryz.prog) W 23 5 none 0 c 0 0 Tryz.underlying23
  go_enter Tryz.func27,Tryz.ntmps27
  go_wp2
  go_ret
  exact ⟨none,0,rfl,Own8.nil_ _ _,Below.refl _ _⟩
 | some a =>
  have hown:=Own8.lit w w.heap.size [] (Nat.le_refl _) (Nat.zero_le _)
  have hrd:=hr.alloc (Nat.le_refl _) (.cells (rowOf []) 5)
  have HN:=hidk_ hn
  have heq:=fun W=>Lib.run_eql_slice_nil (P:=Tryz.prog) W 23 5 (some a) n c 0 0 Tryz.underlying23
  clear hn hr
  go_enter Tryz.func27,Tryz.ntmps27
  go_wp2_with (at_builtin;refine wpList_app rfl (.tmp 5) (.tmp 6) rfl hown rfl n c rfl hrd HN.out ?_ ?_ ?_;(simp;omega);(simp);(intro A' c' w2 k1 k2 k3))
  have hp:=hidk_ k1
  have hb:=hidk_ (((Below.refl w.heap.size w).alloc (Nat.le_refl _) _).grown k2 (by simp) (fun k hk=>by simp [Value.ownBlock] at hk;omega))
  clear k1 k2 k3 hrd
  go_wp2
  go_ret
  exact ⟨A',c',by simp,by simpa using hp.out,hb.out⟩
theorem zero_cells8 (n:Nat):Builtin.zeroCells (Value.int .u8 0).cells n=rowOf (List.replicate n 0):=by
 apply Array.ext
 ·simp [Builtin.zeroCells,rowOf,Value.cells]
 ·intro i h1 h2
  simp [Builtin.zeroCells,rowOf,Value.cells,Nat.mod_one]
theorem own_grown (w:World) (n G:Nat) (hG:n≤G) (hm:G≤maxLen):Own8 (w.alloc (.cells (rowOf (List.replicate n 0) ++ rowOf (List.replicate (G - n) 0)) 5)) w.heap.size (.slice (some ⟨w.heap.size,0,none⟩) 0 G) []:=by
 refine ⟨rfl,.inr ⟨w.heap.size,G,_,rfl,Nat.le_refl _,heap_alloc_new w _,Nat.zero_le _,hm,?_,rfl⟩⟩
 simp [rowOf]
 omega
set_option maxHeartbeats 1000000 in
theorem grow_any (n:Nat) (w:World) (hm:n≤140737488355328) :
  Calls Tryz.prog 81 #[.slice none 0 0,.int .i64 (n:Int)] w (NewP w 0 []):=by
 by_cases h0:n=0
 ·subst h0
  go_enter Tryz.func81,Tryz.ntmps81
  go_wp2
  go_ret
  exact ⟨none,0,rfl,Own8.nil_ _ _,Below.refl _ _⟩
 ·obtain ⟨i,hi,hz,hsize,hby⟩:=info_parts info8
  have hrz:∀ ty,(Builtin.append_ #[23,3] ty #[.slice none 0 0,.int .i64 (n:Int)]).run Tryz.prog w = .ok (.slice (some ⟨w.heap.size,0,none⟩) n (grownCap w n 0 5)) (w.drew.alloc (.cells (rowOf (List.replicate n 0) ++ rowOf (List.replicate (grownCap w n 0 5 - n) 0)) 5)):=fun ty=>by
   have h:=Lib.run_append_grow_zeros w 23 3 ty 5 i (.int .u8 0) .i64 .i64 Tryz.underlying23 Tryz.underlying3 hi hz none 0 0 [] (run_firstCells_none w.drew i.size 0 0 0) n (by omega) (by omega) (by omega) (by omega) (by rw [hby];omega) (growslice_fits (by omega) (by rw [hby];omega))
   rw [zero_cells8,zero_cells8,Nat.zero_add] at h
   simpa using h
  have hG1:=grownCap_ge w n 0 5
  have hG2:=grownCap_le_maxLen w n 0 5 (by unfold maxLen;omega)
  generalize grownCap w n 0 5=G at *
  have hown:=own_grown w.drew n G hG1 hG2
  have HO:=hidk_ hown
  unfold maxLen at hG2
  clear hown hi hz hsize hby
  go_enter Tryz.func81,Tryz.ntmps81
  go_wp2_with (at_builtin;refine Lib.wpList_append_run _ rfl _ _ _ _ rfl _ _ rfl rfl _ _ (hrz _) ?_)
  all_goals (go_ret;exact ⟨_,_,rfl,HO.out,((Below.refl _ _).drew).alloc (Nat.le_refl _) _⟩)
def flat (ps:List (Option Addr × Nat × List UInt8)):List UInt8:=(ps.map (·.2.2)).flatten
theorem flat_snoc (ps:List (Option Addr × Nat × List UInt8)) (k:Nat) (h:k < ps.length):flat (ps.take (k + 1))=flat (ps.take k) ++ (ps[k]).2.2:=by
 unfold flat
 rw [List.take_succ_eq_append_getElem h]
 simp only [List.map_append,List.flatten_append,List.map_cons,List.map_nil,List.flatten_cons,List.flatten_nil,List.append_nil]
theorem flat_le (ps:List (Option Addr × Nat × List UInt8)) (k:Nat):(flat (ps.take k)).length≤(flat ps).length:=by
 have h:flat ps=flat (ps.take k) ++ flat (ps.drop k):=by
  unfold flat
  rw [← List.flatten_append,← List.map_append,List.take_append_drop]
 rw [h,List.length_append]
 omega
def CatAt (w:World) (B g:Nat) (ps:List (Option Addr × Nat × List UInt8)):Prop :=
 g < B∧∀ (i:Nat) (h:i < ps.length),w.cell? ⟨g,i,none⟩=some (.slice (ps[i]).1 (ps[i]).2.2.length (ps[i]).2.1)∧Rd w B (ps[i]).1 (ps[i]).2.2
theorem CatAt.below {w w':World} {B g:Nat} {ps:List (Option Addr × Nat × List UInt8)} (h:CatAt w B g ps) (hb:Below B w w'):CatAt w' B g ps :=
 ⟨h.1,fun i hi=>⟨(hb.cell (p:=⟨g,i,none⟩) h.1).trans (h.2 i hi).1,(h.2 i hi).2.below hb⟩⟩
set_option maxHeartbeats 2000000 in
theorem concat_any (g m c n:Nat) (ps:List (Option Addr × Nat × List UInt8)) (w:World) (hm:ps.length=m) (hn:(flat ps).length=n) (hp:CatAt w w.heap.size g ps) (hm1:m≤1000) (hn1:n≤70368744177664) :
  Calls Tryz.prog 49 #[.slice (some ⟨g,0,none⟩) m c] w (NewP w n (flat ps)):=by
 have HP:=hidk_ hp
 have HN:=hidk_ hn
 have HM:=hidk_ hm
 clear hp hn hm
 go_enter Tryz.func49,Tryz.ntmps49
 go_wp2
 go_loop [3,5,11] (fun z _ i=>∃ k:Nat,k≤m∧i = .int .i64 k∧z = .int .i64 (((flat (ps.take k)).length:Nat):Int)) (fun _ _ i=>m - (intOf i).toNat)
 case atStart=>exact ⟨0,Nat.zero_le _,rfl,rfl⟩
 case round =>
  obtain ⟨k,hk,rfl,rfl⟩:=hrel
  by_cases hlt:k < m
  ·obtain ⟨hc,hr⟩:=HP.out.2 k (by rw [HM.out];exact hlt)
   have hs:Hid ((flat (ps.take (k + 1))).length=(flat (ps.take k)).length + (ps[k]'(by rw [HM.out];exact hlt)).2.2.length):=hidk_ (by rw [flat_snoc ps k (by rw [HM.out];exact hlt),List.length_append])
   have hle:=flat_le ps (k + 1)
   rw [hs.out,HN.out] at hle
   clear hr
   generalize (ps[k]'(by rw [HM.out];exact hlt))=p at *
   obtain ⟨q,hq⟩:∃ q,Hid ((flat (ps.take k)).length=q):=⟨_,rfl⟩
   obtain ⟨r,hr⟩:∃ q,Hid (p.2.2.length=q):=⟨_,rfl⟩
   rw [hq.out,hr.out] at hle hs
   rw [hq.out]
   rw [hr.out] at hc
   go_wp2
   go_round
   case rel=>exact ⟨k + 1,by omega,by go_num,by rw [hs.out];go_num⟩
   case measure=>simp [intOf];omega
  ·obtain rfl:k=m:=by omega
   have he:ps.take k=ps:=List.take_of_length_le (by rw [HM.out];omega)
   rw [he,HN.out]
   clear he
   have cg:=grow_any n w (by omega)
   go_wp2_with (go_at_call 81;((with_reducible refine cg.mono ?_);rintro e w1 ⟨A1,c1,rfl,ho,hb⟩))
   have HO:=hidk_ ho
   have HB:=hidk_ hb
   clear ho hb cg
   go_loopw [6,8,27] (fun v _ i wr=>∃ j:Nat,j≤k∧i = .int .i64 j∧Own8 wr w.heap.size v (flat (ps.take j))∧Below w.heap.size w wr) (fun _ _ i _=>k - (intOf i).toNat)
   case atStart=>exact ⟨0,Nat.zero_le _,rfl,HO.out,HB.out⟩
   case round =>
    obtain ⟨j,hj,rfl,ho,hb⟩:=hrel
    obtain ⟨A2,c2,rfl,_⟩:=ho.form
    have hlt2:=ho.lt
    have HO2:=hidk_ ho
    have HB2:=hidk_ hb
    have HL2:=hidk_ hlt2
    clear ho hb hlt2 HO HB
    by_cases hlt:j < k
    ·obtain ⟨hc,hr⟩:=(HP.out.below HB2.out).2 j (by rw [HM.out];exact hlt)
     have hs:Hid (flat (ps.take (j + 1))=flat (ps.take j) ++ (ps[j]'(by rw [HM.out];exact hlt)).2.2):=hidk_ (flat_snoc ps j (by rw [HM.out];exact hlt))
     have hle:=flat_le ps (j + 1)
     rw [hs.out,HN.out,List.length_append] at hle
     have HR:=hidk_ hr
     clear hr
     generalize (ps[j]'(by rw [HM.out];exact hlt))=p at *
     have H2:=HO2.out
     generalize flat (ps.take j)=fl at *
     obtain ⟨q,hq⟩:∃ q,Hid (fl.length=q):=⟨_,rfl⟩
     obtain ⟨r,hr⟩:∃ q,Hid (p.2.2.length=q):=⟨_,rfl⟩
     rw [hq.out,hr.out] at hle
     rw [hq.out] at H2 HL2 ⊢
     rw [hr.out] at hc
     clear HO2
     go_wp2_with (at_builtin;refine wpList_app rfl (.tmp 31) (.tmp 32) rfl H2 rfl r p.2.1 rfl HR.out hr.out ?_ ?_ ?_;(rw [hq.out];omega);(exact HB2.out.size);(intro A' c' w2 k1 k2 k3;rw [hq.out] at *))
     have HK:=hidk_ k1
     have HG:=hidk_ (HB2.out.grown k2 HB2.out.size (fun t ht=>(HL2.out t ht).1))
     clear k1 k2 k3 H2
     go_wp2
     go_roundw
     case rel=>exact ⟨j + 1,by omega,by go_num,by rw [hs.out];exact HK.out,HG.out⟩
     case measure=>simp [intOf];omega
    ·obtain rfl:j=k:=by omega
     have he:ps.take j=ps:=List.take_of_length_le (by rw [HM.out];omega)
     have H2:=HO2.out
     rw [he] at H2 ⊢
     rw [HN.out] at H2 ⊢
     have H3:=hidk_ H2
     clear he HO2 H2
     go_wp2
     go_ret
     exact ⟨A2,c2,rfl,H3.out,HB2.out⟩
end Go.Proofs.YtpcbmnmgefhaaaaGreatDoor
