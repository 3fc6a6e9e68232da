import Derived.Test.YtpcbmnmgefhaaaaGreatDoorGG
import Derived.Test.YtpcbmnmgefhaaaaGreatDoorLp
import Derived.Test.YtpcbmnmgefhaaaaGreatDoorCards
import Derived.Test.YtpcbmnmgefhaaaaGreatDoorTie
import Derived.Deep.DeepHandedRow
import Derived.Lib.LaidTab
import Derived.Test.YtpcbmnmgefhaaaaGreatDoorGR
import Derived.Test.YtpcbmnmgefhaaaaGreatDoorEA
import Derived.Test.YtpcbmnmgefhaaaaGreatDoorYG
import Derived.Test.YtpcbmnmgefhaaaaGreatDoorYJ
import Derived.Test.YtpcbmnmgefhaaaaGreatDoorZZ
import Derived.Laws.StructEq
import Derived.Test.YtpcbmnmgefhaaaaGreatDoorLc
import Derived.LaidSub
import Derived.Test.YtpcbmnmgefhaaaaGreatDoorHM
import Derived.Test.YtpcbmnmgefhaaaaGreatDoorFj
import Derived.Test.YtpcbmnmgefhaaaaGreatDoorUn
namespace Go.Proofs.YtpcbmnmgefhaaaaGreatDoor
set_option maxRecDepth 100000
open Go.ChangeShapes Go.WideShapes Go.ChangeAt Go.RowKit
set_option linter.unusedVariables false
set_option linter.unusedSimpArgs false
theorem hidp_ {p:Prop} (h:p):Hid p:=h
def clsK (n:Nat):Nat:=if n≤60 then 0 else if n≤252 then 1 else if n≤1020 then 2 else 3
def sizeK (k:Nat):Nat:=if k=0 then 64 else if k=1 then 256 else if k=2 then 1024 else 4096
def clsS (n:Nat):Nat:=sizeK (clsK n)
theorem clsK_le (n:Nat):clsK n≤3:=by
 unfold clsK
 repeat' split
 all_goals omega
theorem size_below (n k:Nat) (hn:n≤4000) (h:k < clsK n):sizeK k < 4 + n:=by
 unfold clsK at h
 unfold sizeK
 repeat' split at h
 all_goals (repeat' split) <;> omega
theorem size_at (n:Nat) (hn:n≤4000):4 + n≤clsS n:=by
 unfold clsS clsK sizeK
 repeat' split
 all_goals omega
theorem clsS_le (n:Nat):clsS n≤4096:=by
 unfold clsS clsK sizeK
 repeat' split
 all_goals omega
def clsR (z:Int):Int × Int × Int:=if z < 0 then (0,0,1) else if 4000 < z then (0,0,5) else ((clsS z.toNat:Int),(clsK z.toNat:Int),0)
def PTab (w:World):Prop:=∀ k,k < 4→w.cell? ⟨0,k,none⟩=some (.int .i64 (sizeK k:Int))
theorem PTab.below {w w':World} {B:Nat} (h:PTab w) (hb:Below B w w') (hg:0 < B):PTab w':=fun k hk=>(hb.cell (p:=⟨_,k,none⟩) hg).trans (h k hk)
set_option maxHeartbeats 2000000 in
theorem class_any (w:World) (z:Int) (ht:PTab w) :
  Calls Tryz.prog 80 #[.int .i64 z] w fun e w'=>e = .returned (.tuple #[.int .i64 (clsR z).1,.int .i64 (clsR z).2.1,.int .i64 (clsR z).2.2])∧w=w':=by
 by_cases h1:z < 0
 ·have d1:decide (z < 0)=true:=decide_eq_true h1
  rw [show clsR z=(0,0,1) from if_pos h1]
  go_enter Tryz.func80,Tryz.ntmps80
  go_wp2
  go_ret3
  exact ⟨rfl,rfl⟩
 ·have d1:decide (z < 0)=false:=decide_eq_false h1
  by_cases h2:4000 < z
  ·have d2:decide (4000 < z)=true:=decide_eq_true h2
   rw [show clsR z=(0,0,5) by unfold clsR;rw [if_neg h1,if_pos h2]]
   go_enter Tryz.func80,Tryz.ntmps80
   go_wp2
   go_ret3
   exact ⟨rfl,rfl⟩
  ·obtain ⟨n,rfl⟩:∃ n:Nat,z=(n:Int):=⟨z.toNat,by omega⟩
   have hn:n≤4000:=by omega
   have d2:decide (4000 < (n:Int))=false:=decide_eq_false h2
   have d3:decide (4000 < n)=false:=decide_eq_false (by omega)
   rw [show clsR (n:Int)=((clsS n:Int),(clsK n:Int),0) by unfold clsR;rw [if_neg h1,if_neg h2];rfl]
   have HT:=hidp_ ht
   have K3:=clsK_le n
   have HS:=hidp_ (show sizeK (clsK n)=clsS n from rfl)
   have HB:=hidp_ (fun k=>size_below n k hn)
   have HA:=hidp_ (size_at n hn)
   have hw4:IntKind.i64.wrap (4 + (n:Int))=((4 + n:Nat):Int):=by rw [IntWalk.i64_in _ (by omega)];omega
   obtain ⟨n4,hn4⟩:∃ m,4 + n=m:=⟨_,rfl⟩
   have hw5:(4:Int) + (n:Int)=(n4:Int):=by omega
   rw [hn4] at hw4 HA
   have HB2:Hid (∀ k,k < clsK n→sizeK k < n4):=hidp_ (fun k hk=>by rw [← hn4];exact HB.out k hk)
   generalize clsK n=K at *
   generalize clsS n=S at *
   clear ht h1 h2 HB hn4
   go_enter Tryz.func80,Tryz.ntmps80
   go_upto_region 6 with fail
   go_loopw [5] (fun i wr=>∃ k:Nat,k≤K∧i = .int .i64 k∧w=wr) (fun i _=>4 - (intOf i).toNat)
   case atStart=>exact ⟨0,Nat.zero_le _,rfl,rfl⟩
   case round =>
    obtain ⟨k,hk,rfl,rfl⟩:=hrel
    have hk4:k < 4:=by omega
    have hc:=HT.out k hk4
    have t0:(0:Int)≤(k:Int):=by omega
    have t4:(k:Int) < 4:=by omega
    have t5:k < 4:=hk4
    by_cases hlt:k < K
    ·have hsz:=HB2.out k hlt
     generalize sizeK k=s at *
     have d4:decide ((s:Int) < (n4:Int))=true:=decide_eq_true (by omega)
     have d5:decide (s < n4)=true:=decide_eq_true hsz
     go_wp2
     go_roundw
     case rel=>exact ⟨k + 1,by omega,by go_num,by first | trivial | rfl⟩
     case measure=>simp [intOf];omega
    ·obtain rfl:k=K:=by omega
     have hsz:=HA.out
     rw [HS.out] at hc
     have d4:decide ((S:Int) < (n4:Int))=false:=decide_eq_false (by omega)
     have d5:decide (S < n4)=false:=decide_eq_false (by omega)
     clear hsz hlt
     go_wp2
     go_ret3
     exact ⟨rfl,rfl⟩
set_option maxHeartbeats 2000000 in
theorem refClass_any (w:World) (z:Int) :
  Calls Tryz.prog 69 #[.int .i64 z] w fun e w'=>e = .returned (.tuple #[.int .i64 (clsR z).1,.int .i64 (clsR z).2.1,.int .i64 (clsR z).2.2])∧w=w':=by
 by_cases h1:z < 0
 ·have d1:decide (z < 0)=true:=decide_eq_true h1
  rw [show clsR z=(0,0,1) from if_pos h1]
  go_enter Tryz.func69,Tryz.ntmps69
  go_wp2
  go_ret3
  exact ⟨rfl,rfl⟩
 ·have d1:decide (z < 0)=false:=decide_eq_false h1
  by_cases h2:4000 < z
  ·have d2:decide (4000 < z)=true:=decide_eq_true h2
   rw [show clsR z=(0,0,5) by unfold clsR;rw [if_neg h1,if_pos h2]]
   go_enter Tryz.func69,Tryz.ntmps69
   go_wp2
   go_ret3
   exact ⟨rfl,rfl⟩
  ·obtain ⟨n,rfl⟩:∃ n:Nat,z=(n:Int):=⟨z.toNat,by omega⟩
   have hn:n≤4000:=by omega
   have d2:decide (4000 < (n:Int))=false:=decide_eq_false h2
   have d3:decide (4000 < n)=false:=decide_eq_false (by omega)
   rw [show clsR (n:Int)=((clsS n:Int),(clsK n:Int),0) by unfold clsR;rw [if_neg h1,if_neg h2];rfl]
   have K3:=clsK_le n
   have HS:=hidp_ (show sizeK (clsK n)=clsS n from rfl)
   have HB:=hidp_ (fun k=>size_below n k hn)
   have HA:=hidp_ (size_at n hn)
   obtain ⟨n4,hn4⟩:∃ m,4 + n=m:=⟨_,rfl⟩
   have hw4:IntKind.i64.wrap ((n:Int) + 4)=(n4:Int):=by rw [IntWalk.i64_in _ (by omega)];omega
   have hw5:(n:Int) + 4=(n4:Int):=by omega
   rw [hn4] at HA
   have HB2:Hid (∀ k,k < clsK n→sizeK k < n4):=hidp_ (fun k hk=>by rw [← hn4];exact HB.out k hk)
   generalize clsK n=K at *
   generalize clsS n=S at *
   clear h1 h2 HB hn4
   go_enter Tryz.func69,Tryz.ntmps69
   go_upto_region 6 with fail
   go_loopw [5,6] (fun s i wr=>∃ k:Nat,k≤K∧i = .int .i64 k∧s = .int .i64 (sizeK k:Int)∧w=wr) (fun _ i _=>4 - (intOf i).toNat)
   case atStart=>exact ⟨0,Nat.zero_le _,rfl,rfl,rfl⟩
   case round =>
    obtain ⟨k,hk,rfl,rfl,rfl⟩:=hrel
    by_cases hlt:k < K
    ·have hsz:=HB2.out k hlt
     have hk3:k < 3:=by omega
     have hnx:=hidp_ (show sizeK (k + 1)=sizeK k * 4 by rcases (by omega:k=0∨k=1∨k=2) with rfl | rfl | rfl <;> rfl)
     have hsm:sizeK k≤4096:=by
      unfold sizeK
      repeat' split
      all_goals omega
     generalize sizeK k=s at *
     have d4:decide ((s:Int) < (n4:Int))=true:=decide_eq_true (by omega)
     have d5:decide (s < n4)=true:=decide_eq_true hsz
     have hw6:IntKind.i64.wrap ((s:Int) * 4)=(s:Int) * 4:=IntWalk.i64_in _ (by omega)
     go_wp2
     go_roundw
     case rel=>exact ⟨k + 1,by omega,by go_num,by rw [hnx.out];go_num,by first | trivial | rfl⟩
     case measure=>simp [intOf];omega
    ·obtain rfl:k=K:=by omega
     have hsz:=HA.out
     rw [HS.out]
     have d4:decide ((S:Int) < (n4:Int))=false:=decide_eq_false (by omega)
     have d5:decide (S < n4)=false:=decide_eq_false (by omega)
     clear hsz hlt
     go_wp2
     go_ret3
     exact ⟨rfl,rfl⟩
theorem gSizes : Tryz.prog.globalNamed "casket/pad.sizes" = some 0 := by kernel_rfl
theorem gSizesType:(Tryz.prog.globals[0]?).map (·.type)=some 160:=by kernel_rfl
theorem cells4p:Tryz.prog.cellsOf 160=4:=by kernel_rfl
theorem cells1p:Tryz.prog.cellsOf 3=1:=by kernel_rfl
theorem sizes_of {W : World} (h : laidMetH Tryz.prog [("casket/pad.sizes", Rows.laid_casket_pad_sizes)] W) : PTab W ∧ 0 < W.heap.size := by
 have h1 : laidMet Tryz.prog [("casket/pad.sizes", Lib.tabData .i64 [64, 256, 1024, 4096])] W := h
 have h2 : Lib.TabIs Tryz.prog W "casket/pad.sizes" .i64 [64, 256, 1024, 4096] := Lib.tabIs_of_head (rest := []) gSizes gSizesType Tryz.underlying160 Tryz.underlying3 cells1p cells4p h1
 have h3:PTab W:=fun t ht=>by
  have h:=h2.cell gSizes t (by simpa using ht)
  rw [h]
  rcases (by omega:t=0∨t=1∨t=2∨t=3) with rfl | rfl | rfl | rfl <;> rfl
 exact ⟨h3,World.block_lt_of_cell? W _ (h3 0 (by omega))⟩
def padB (l:List UInt8):List UInt8:=highB 4 l.length ++ l ++ List.replicate (clsS l.length - 4 - l.length) 0
theorem padB_len (l:List UInt8) (h:l.length≤4000):(padB l).length=clsS l.length:=by
 have:=size_at l.length h
 simp [padB,highB_len]
 omega
def PadP (w:World) (N:Nat) (l:List UInt8) (e:Ending) (w':World):Prop:=∃ A c,e = .returned (.tuple #[.slice A N c,.int .i64 0])∧Own8 w' w.heap.size (.slice A N c) l∧Below w.heap.size w w'
theorem below_untp {w w1 w2:World} {B:Nat} {F:List Nat} (hx:Below B w w1) (hB:B≤w.heap.size) (hu:Untouched F w1 w2) (hF:∀ k∈F,B≤k):Below B w w2:=hx.trans (hu.below hF (Nat.le_trans hB hx.size))
theorem grew_gep {w1:World} {B:Nat} {F F2:List Nat} (hG:Grew w1 F F2) (hF:∀ k∈F,B≤k) (hB:B≤w1.heap.size):∀ k∈F2,B≤k:=fun k hk=>by
 rcases hG k hk with h | h
 ·exact hF k h
 ·omega
set_option maxHeartbeats 4000000 in
theorem pad_any (w:World) (A:Option Addr) (n c:Nat) (l:List UInt8) (hn:l.length=n) (hn4:n≤4000) (hr:Rd w w.heap.size A l) (ht:PTab w) :
  Calls Tryz.prog 48 #[.slice A n c] w (PadP w (clsS n) (padB l)):=by
 have cc:=class_any w (n:Int) ht
 rw [show clsR (n:Int)=((clsS n:Int),(clsK n:Int),0) by unfold clsR;rw [if_neg (by omega),if_neg (by omega)];rfl] at cc
 have hsa:=size_at n hn4
 have hsl:=clsS_le n
 have HP0:padB l=highB 4 n ++ l ++ List.replicate (clsS n - 4 - n) 0:=by rw [padB,hn]
 have HPL0:=padB_len l (by omega)
 rw [hn] at HPL0
 generalize clsK n=K at *
 generalize clsS n=N at *
 obtain ⟨m,hm⟩:∃ m,N - 4=m:=⟨_,rfl⟩
 obtain ⟨z,hz⟩:∃ z,m - n=z:=⟨_,rfl⟩
 rw [hm,hz] at HP0
 have r1:IntKind.i64.wrap ((N:Int) - 4)=(m:Int):=by rw [IntWalk.i64_in _ (by omega)];omega
 have r2:(N:Int) - 4=(m:Int):=by omega
 have r3:IntKind.i64.wrap ((m:Int) - (n:Int))=(z:Int):=by rw [IntWalk.i64_in _ (by omega)];omega
 have r4:(m:Int) - (n:Int)=(z:Int):=by omega
 have hmk:=fun W=>mk8 z (by omega) W
 have hz5:z≤5000:=by omega
 have hN5:N≤5000:=by omega
 have K1:Blk8 (w.alloc (.cells (rowOf (List.replicate z 0)) 5)) w.heap.size (List.replicate z 0):=Blk8.new w _
 have B1:Below w.heap.size w (w.alloc (.cells (rowOf (List.replicate z 0)) 5)):=(Below.refl _ _).alloc (Nat.le_refl _) _
 have s1:(w.alloc (.cells (rowOf (List.replicate z 0)) 5)).heap.size=w.heap.size + 1:=by simp
 obtain ⟨w1,hw1⟩:∃ w1,w.alloc (.cells (rowOf (List.replicate z 0)) 5)=w1:=⟨_,rfl⟩
 rw [hw1] at K1 B1 s1
 have O2:OutF (w1.alloc (.cells #[.pointer none,.int .i64 0,.bool false] 104)) w1.heap.size [] false [w1.heap.size]:=OutF.zero w1
 have B2:Below w1.heap.size w1 (w1.alloc (.cells #[.pointer none,.int .i64 0,.bool false] 104)):=(Below.refl _ _).alloc (Nat.le_refl _) _
 obtain ⟨w2,hw2⟩:∃ w2,w1.alloc (.cells #[.pointer none,.int .i64 0,.bool false] 104)=w2:=⟨_,rfl⟩
 rw [hw2] at O2 B2
 have K2:=hidp_ (show Blk8 w2 w.heap.size (List.replicate z 0) from (B2.block _ (by omega)).trans K1)
 have X2:=hidp_ (show Below w.heap.size w w2 from B1.trans (B2.mono (by omega)))
 obtain ⟨g,hg⟩:∃ g,w.heap.size + 1=g:=⟨_,rfl⟩
 rw [hg] at s1
 rw [s1] at O2
 have s2:=hidp_ (show g < w2.heap.size by rw [← hw2];simp;omega)
 have HG:=hidp_ hg
 have E2:=hidp_ (show ∀ k∈[g],w.heap.size≤k by simp;omega)
 have R2:=hidp_ ((hr.below X2.out).rdf (F:=[g]) X2.out.size (by simp;omega))
 have c1:=bytes_any w2 g [] false [g] A n c l O2 R2.out hn (by simp;omega)
 rw [List.nil_append] at c1
 have LL:=hidp_ (show (highB 4 n ++ l).length=4 + n by rw [List.length_append,highB_len,hn])
 have HP:=hidp_ HP0
 have HPL:=hidp_ HPL0
 have ZL:=hidp_ (show (List.replicate z (0:UInt8)).length=z by simp)
 generalize List.replicate z (0:UInt8)=Z at *
 generalize highB 4 n ++ l=L at *
 clear hr hn ht K1 B1 B2 O2 HP0 HPL0 hm hz
 go_enter Tryz.func48,Tryz.ntmps48
 go_wp2_with (first
  | (go_at_call 80;((with_reducible refine cc.mono ?_);rintro e wc ⟨rfl,rfl⟩))
  | (go_at_call 37;((with_reducible refine c1.mono ?_);clear c1;rintro e w3 ⟨rfl,F3,hO3,hG3,hU3⟩;have O3:=hidp_ hO3;have E3:=hidp_ (grew_gep hG3 E2.out X2.out.size);have X3:=hidp_ (below_untp X2.out (Nat.le_refl _) hU3 E2.out);have N3:=hidp_ (show RdF w3 F3 (some ⟨w.heap.size,0,none⟩) Z from RdF.keep (fun hn=>⟨_,0,rfl,by have:=HG.out;simp;omega,K2.out.lt,fun j hj=>by rw [Nat.zero_add];exact K2.out.cell j hj⟩) hU3 hG3);clear hO3 hG3 hU3))
  | (go_at_call 54;have c2:=fixed_any w3 g L false F3 (some ⟨w.heap.size,0,none⟩) z z Z O3.out N3.out ZL.out (by rw [LL.out];omega);rw [← HP.out] at c2;((with_reducible refine c2.mono ?_);clear c2;rintro e w4 ⟨rfl,F4,hO4,hG4,hU4⟩;have O4:=hidp_ hO4;have X4:=hidp_ (below_untp X3.out (Nat.le_refl _) hU4 E3.out);clear hO4 hG4 hU4))
  | (go_at_call 25;have c3:=done_any w4 g N (padB l) false F4 O4.out HPL.out (by omega);((with_reducible refine c3.mono ?_);clear c3;rintro e w5 ⟨A5,c5,rfl,hO5,hB5⟩;have O5:=hidp_ (hO5.lower X4.out.size);have X5:=hidp_ (X4.out.trans (hB5.mono X4.out.size));clear hO5 hB5)))
 go_ret2
 exact ⟨A5,c5,rfl,O5.out,X5.out⟩
set_option maxHeartbeats 4000000 in
theorem refPad_anyc (w:World) (n:Nat) (l:List UInt8) (hn:l.length=n) (hn4:n≤4000) :
  Calls Tryz.prog 33 #[.string (strOf l)] w fun e w'=>e = .returned (.string (strOf (padB l)))∧Below w.heap.size w w':=by
 have cc:=refClass_any w (n:Int)
 rw [show clsR (n:Int)=((clsS n:Int),(clsK n:Int),0) by unfold clsR;rw [if_neg (by omega),if_neg (by omega)];rfl] at cc
 have hsa:=size_at n hn4
 have hsl:=clsS_le n
 have HP0:padB l=highB 4 n ++ l ++ List.replicate (clsS n - 4 - n) 0:=by rw [padB,hn]
 generalize clsK n=K at *
 generalize clsS n=N at *
 have cb:=refBytes_any w l n hn (by omega)
 have LL:(strOf (highB 4 n ++ l)).size=4 + n:=by rw [strOf_size,List.length_append,highB_len,hn]
 have hls:(strOf l).size=n:=by rw [strOf_size,hn]
 obtain ⟨n4,hn4e⟩:∃ m,4 + n=m:=⟨_,rfl⟩
 obtain ⟨z,hz⟩:∃ z,N - n4=z:=⟨_,rfl⟩
 rw [show N - 4 - n=z by omega] at HP0
 rw [hn4e] at LL
 have r3:IntKind.i64.wrap ((N:Int) - (n4:Int))=(z:Int):=by rw [IntWalk.i64_in _ (by omega)];omega
 have r4:(N:Int) - (n4:Int)=(z:Int):=by omega
 have hmk:=fun W=>mk8 z (by omega) W
 have ZL:=hidp_ (show (List.replicate z (0:UInt8)).length=z by simp)
 have ZS:(strOf (List.replicate z (0:UInt8))).size=z:=by rw [strOf_size];simp
 have hap:=strOf_append (highB 4 n ++ l) (List.replicate z 0)
 rw [← HP0] at hap
 have hsz:(strOf (highB 4 n ++ l)).size + (strOf (List.replicate z (0:UInt8))).size≤9223372036854775807:=by rw [LL,ZS];omega
 generalize padB l=P at *
 generalize highB 4 n ++ l=L at *
 generalize List.replicate z (0:UInt8)=Z at *
 clear HP0 hn hz hn4e
 go_enter Tryz.func33,Tryz.ntmps33
 go_wp2_with (first
  | (go_at_call 69;((with_reducible refine cc.mono ?_);rintro e wc ⟨rfl,rfl⟩))
  | (go_at_call 43;((with_reducible refine cb.mono ?_);clear cb;rintro e w2 ⟨rfl,hb⟩;have B2:=hidp_ hb;have hcv:=conv_strn ((Blk8.new w2 Z).rd (Blk8.new w2 Z).lt) z z ZL.out;clear hb)))
 go_ret
 exact ⟨rfl,B2.out.alloc B2.out.size _⟩
def valB (s:List UInt8):List UInt8:=(bytS 4000 s 0).1
def errB (s:List UInt8):Int:=(bytS 4000 s 0).2.2
def cutB (s:List UInt8):List UInt8:=if padB (valB s)=s then valB s else []
theorem fixS_len (n:Int) (l:List UInt8) (err:Int):((fixS n l err).1.length:Int)≤max n 0:=by
 unfold fixS
 split
 ·simp;omega
 ·split
  ·simp;omega
  ·simp [List.length_take];omega
theorem numS_le4 (s:List UInt8):(numS 4 4000 s 0).1≤4000∧0≤(numS 4 4000 s 0).1:=by
 unfold numS
 split
 ·simp
 ·split
  ·simp
  ·split
   ·simp
   ·simp only
    omega
theorem valB_len (s:List UInt8):(valB s).length≤4000:=by
 have h:=fixS_len (numS 4 4000 s 0).1 (numS 4 4000 s 0).2.1 (numS 4 4000 s 0).2.2
 have h2:=numS_le4 s
 have h3:(valB s).length=(fixS (numS 4 4000 s 0).1 (numS 4 4000 s 0).2.1 (numS 4 4000 s 0).2.2).1.length:=rfl
 omega
theorem bytS_pad (v:List UInt8) (hv:v.length≤4000):valB (padB v)=v∧errB (padB v)=0:=by
 obtain ⟨Z,hZ⟩:∃ Z,List.replicate (clsS v.length - 4 - v.length) (0:UInt8)=Z:=⟨_,rfl⟩
 have hp:padB v=highB 4 v.length ++ (v ++ Z):=by rw [padB,hZ,List.append_assoc]
 have e:(highB 4 v.length).length=4:=highB_len 4 v.length
 have h1:(padB v).take 4=highB 4 v.length:=by rw [hp];exact List.take_left' e
 have h2:(padB v).drop 4=v ++ Z:=by rw [hp];exact List.drop_left' e
 have hl:¬ (padB v).length < 4:=by rw [hp,List.length_append,e];omega
 have hb:beN ((padB v).take 4)=v.length:=by
  rw [h1,beN_highB]
  have:(256:Nat) ^ 4=4294967296:=by decide
  omega
 have hn:numS 4 4000 (padB v) 0=((v.length:Int),v ++ Z,0):=by
  rw [numS_yes hl (by rw [hb];omega),hb,h2]
 have hf:fixS (v.length:Int) (v ++ Z) 0=(v,(v ++ Z).drop v.length,0):=by
  by_cases h0:v.length=0
  ·have:v = []:=List.eq_nil_of_length_eq_zero h0
   subst this
   rfl
  ·rw [fixS_yes (by omega) (by simp),List.take_left' rfl]
 have hb2:bytS 4000 (padB v) 0=(v,(v ++ Z).drop v.length,0):=by unfold bytS;rw [hn];exact hf
 exact ⟨by unfold valB;rw [hb2],by unfold errB;rw [hb2]⟩
theorem cut_ok_err (s:List UInt8) (h:padB (valB s)=s):errB s=0:=by
 have h1:=(bytS_pad (valB s) (valB_len s)).2
 rwa [h] at h1
theorem cutB_pad (v:List UInt8) (hv:v.length≤4000):cutB (padB v)=v∧padB (valB (padB v))=padB v:=by
 have h:=(bytS_pad v hv).1
 unfold cutB
 rw [h]
 exact ⟨if_pos rfl,rfl⟩
def CutP (w:World) (s:List UInt8) (code:Int) (e:Ending) (w':World):Prop:=∃ A m c,e = .returned (.tuple #[.slice A m c,.int .i64 code])∧m=(cutB s).length∧Own8 w' w.heap.size (.slice A m c) (cutB s)∧Below w.heap.size w w'
set_option maxHeartbeats 4000000 in
theorem cut_any (w:World) (A:Option Addr) (n c:Nat) (s:List UInt8) (hn:s.length=n) (hn4:n≤1000000) (hr:Rd w w.heap.size A s) (ht:PTab w) (hg1:0 < w.heap.size) :
  Calls Tryz.prog 71 #[.slice A n c] w (CutP w s (if padB (valB s)=s then 0 else 2)):=by
 have c1:=of_any w A n c s hn hr (by omega)
 have VL:=valB_len s
 have VF:=hidp_ (show fixS (numS 4 4000 s 0).1 (numS 4 4000 s 0).2.1 (numS 4 4000 s 0).2.2=bytS 4000 s 0 from rfl)
 have VV:=hidp_ (show (bytS 4000 s 0).1=valB s from rfl)
 have HN:=hidp_ hn
 have HR:=hidp_ hr
 have HT:=hidp_ ht
 have hpl:=padB_len (valB s) (valB_len s)
 have hSL:=clsS_le (valB s).length
 have HC:=hidp_ (show cutB s=if padB (valB s)=s then valB s else [] from rfl)
 obtain ⟨m,hm⟩:∃ m,(valB s).length=m:=⟨_,rfl⟩
 have HM:=hidp_ hm
 rw [hm] at VL hpl hSL
 have hpm:=fun W A c hr ht=>pad_any W A m c (valB s) hm VL hr ht
 generalize clsS m=N at *
 have HPL:=hidp_ hpl
 have hN:N≤4096:=hSL
 clear hpl hSL hr ht hn hm
 obtain ⟨ok,hok⟩:∃ ok,(padB (valB s) == s)=ok:=⟨_,rfl⟩
 have HOK:=hidp_ hok
 clear hok
 obtain ⟨code,hcode⟩:∃ code,(if padB (valB s)=s then (0:Int) else 2)=code:=⟨_,rfl⟩
 rw [hcode]
 have HCD:=hidp_ hcode
 clear hcode
 cases ok
 all_goals
  go_enter Tryz.func71,Tryz.ntmps71
  go_wp2_with (first
   | (go_at_call 38;((with_reducible refine c1.mono ?_);clear c1;rintro e w1 ⟨g,F,rfl,hI,hF,hB⟩;have I1:=hidp_ hI;have X1:=hidp_ hB;have G1:=hidp_ (show ∀ k∈[g],w.heap.size≤k from fun k hk=>by rcases List.mem_singleton.1 hk with rfl;exact (hF k hI.1).1);clear hI hF hB))
   | (go_at_call 41;have cp:=inbytes_any w1 g 4000 s 0 F I1.out (by have:=HN.out;omega) (by omega) (by omega);((with_reducible refine cp.mono ?_);clear cp;rintro e w2 ⟨⟨A2,m2,c2,rfl,hm2,hO2⟩,hI2,hU2⟩;rw [VF.out,VV.out] at hm2 hO2;obtain rfl:m2=m:=hm2.trans HM.out;have O2:=hidp_ (hO2.lower X1.out.size);have X2:=hidp_ (below_untp X1.out (Nat.le_refl _) hU2 G1.out);clear hO2 hI2 hU2 hm2))
   | (go_at_call 48;have cp:=hpm w2 A2 c2 O2.out.rd.1 (HT.out.below X2.out hg1);((with_reducible refine cp.mono ?_);clear cp;rintro e w3 ⟨A3,c3,rfl,hO3,hB3⟩;have O3:=hidp_ hO3;have O23:=hidp_ (O2.out.below hB3 (Nat.le_refl _));have X3:=hidp_ (X2.out.trans (hB3.mono X2.out.size));clear hO3 hB3))
   | (go_at_call 93;have cp:=same_any A3 A c3 c (padB (valB s)) s N n w3 HPL.out HN.out O3.out.rd.1 ((HR.out.below X3.out).more X3.out.size) (by omega) (by omega);rw [HOK.out] at cp;((with_reducible refine cp.mono ?_);clear cp;rintro e w4 ⟨rfl,hB4⟩;have O4:=hidp_ (O23.out.below hB4 (Nat.le_refl _));have X4:=hidp_ (X3.out.trans (hB4.mono X3.out.size));clear hB4)))
  go_ret2
 ·have hne:¬ padB (valB s)=s:=fun e=>by have:=HOK.out;rw [e] at this;simp at this
  obtain rfl:(2:Int)=code:=by have h2:=HCD.out;rwa [if_neg hne] at h2
  have hc:cutB s = []:=by rw [HC.out,if_neg hne]
  exact ⟨none,0,0,rfl,by rw [hc];rfl,by rw [hc];exact Own8.nil_ _ _,X4.out⟩
 ·have he:padB (valB s)=s:=by simpa using HOK.out
  obtain rfl:(0:Int)=code:=by have h2:=HCD.out;rwa [if_pos he] at h2
  have hc:cutB s=valB s:=by rw [HC.out,if_pos he]
  exact ⟨A2,_,c2,rfl,by rw [hc,HM.out],by rw [hc];exact O4.out,X4.out⟩
set_option maxHeartbeats 4000000 in
theorem refCut_any (w:World) (n:Nat) (s:List UInt8) (hn:s.length=n) (hn4:n≤1000000) :
  Calls Tryz.prog 46 #[.string (strOf s)] w fun e w'=>e = .returned (.tuple #[.string (strOf (cutB s)),.bool (decide (padB (valB s)=s))])∧Below w.heap.size w w':=by
 have O1:RiF (w.alloc (.cells #[.string (strOf s),.int .i64 0] 138)) w.heap.size s 0:=Bk.new w _ _
 have B1:=hidp_ (show Below w.heap.size w (w.alloc (.cells #[.string (strOf s),.int .i64 0] 138)) from (Below.refl _ _).alloc (Nat.le_refl _) _)
 have cb:=refbytes_any _ w.heap.size 4000 s 0 O1 (fun _=>by omega) (by omega) (by omega)
 have hE:=cut_ok_err s
 rw [show (bytS 4000 s 0).1=valB s from rfl,show (bytS 4000 s 0).2.2=errB s from rfl] at cb
 have cp:=fun W=>refPad_anyc W (valB s).length (valB s) rfl (valB_len s)
 have HC:=hidp_ (show cutB s=if padB (valB s)=s then valB s else [] from rfl)
 generalize errB s=err at *
 generalize (bytS 4000 s 0).2.1=rest at *
 clear O1
 by_cases he:err=0
 ·subst he
  by_cases hp:padB (valB s)=s
  ·have hd:decide (padB (valB s)=s)=true:=decide_eq_true hp
   have hc:cutB s=valB s:=by rw [HC.out,if_pos hp]
   have q:=strOf_eq _ _ hp
   rw [hd,hc]
   generalize padB (valB s)=P at *
   generalize valB s=V at *
   clear hE hd hc hp
   go_enter Tryz.func46,Tryz.ntmps46
   go_wp2_with (first
    | (go_at_call 79;((with_reducible refine cb.mono ?_);clear cb;rintro e w2 ⟨rfl,⟨l2,hR2,-⟩,hU2⟩;have X2:=hidp_ (below_untp B1.out (Nat.le_refl _) hU2 (by simp));have hc1:=Bk.cell hR2 1;simp only [List.getElem?_toArray,List.getElem?_cons_zero,List.getElem?_cons_succ] at hc1;clear hR2 hU2))
    | (go_at_call 33;((with_reducible refine (cp _).mono ?_);rintro e w3 ⟨rfl,hb⟩;have X3:=hidp_ (X2.out.trans (hb.mono X2.out.size));clear hb)))
   go_ret2
   exact ⟨rfl,X3.out⟩
  ·have hd:decide (padB (valB s)=s)=false:=decide_eq_false hp
   have hc:cutB s = []:=by rw [HC.out,if_neg hp]
   have q:=strOf_ne _ _ hp
   rw [hd,hc]
   generalize padB (valB s)=P at *
   generalize valB s=V at *
   clear hE hd hc hp
   go_enter Tryz.func46,Tryz.ntmps46
   go_wp2_with (first
    | (go_at_call 79;((with_reducible refine cb.mono ?_);clear cb;rintro e w2 ⟨rfl,⟨l2,hR2,-⟩,hU2⟩;have X2:=hidp_ (below_untp B1.out (Nat.le_refl _) hU2 (by simp));have hc1:=Bk.cell hR2 1;simp only [List.getElem?_toArray,List.getElem?_cons_zero,List.getElem?_cons_succ] at hc1;clear hR2 hU2))
    | (go_at_call 33;((with_reducible refine (cp _).mono ?_);rintro e w3 ⟨rfl,hb⟩;have X3:=hidp_ (X2.out.trans (hb.mono X2.out.size));clear hb)))
   go_ret2
   exact ⟨rfl,X3.out⟩
 ·have hp:¬ padB (valB s)=s:=fun h=>he (hE h)
  have hd:decide (padB (valB s)=s)=false:=decide_eq_false hp
  have hc:cutB s = []:=by rw [HC.out,if_neg hp]
  have hne:(err == 0)=false:=beq_false_of_ne he
  have hne2:(err != 0)=true:=by simpa using he
  rw [hd,hc]
  generalize valB s=V at *
  clear hE hd hc hp cp HC
  go_enter Tryz.func46,Tryz.ntmps46
  go_wp2_with (go_at_call 79;((with_reducible refine cb.mono ?_);clear cb;rintro e w2 ⟨rfl,⟨l2,hR2,-⟩,hU2⟩;have X2:=hidp_ (below_untp B1.out (Nat.le_refl _) hU2 (by simp));have hc1:=Bk.cell hR2 1;simp only [List.getElem?_toArray,List.getElem?_cons_zero,List.getElem?_cons_succ] at hc1;clear hR2 hU2))
  go_ret2
  exact ⟨rfl,X2.out⟩
open Go.RowKit
theorem hidxa_ {p:Prop} (h:p):Hid p:=h
theorem within_any (w:World) (n a b:Int):Calls Tryz.prog 47 #[.int .i64 n,.int .i64 a,.int .i64 b] w fun e w'=>e = .returned (.bool (decide (a≤n∧n≤b)))∧w=w':=by
 by_cases h:a≤n
 ·have d1:decide (a≤n)=true:=decide_eq_true h
  rw [show decide (a≤n∧n≤b)=decide (n≤b) by simp [h]]
  clear h
  go_enter Tryz.func47,Tryz.ntmps47
  go_wp2
  go_ret
  exact ⟨rfl,rfl⟩
 ·have d1:decide (a≤n)=false:=decide_eq_false h
  rw [show decide (a≤n∧n≤b)=false by simp [h]]
  clear h
  go_enter Tryz.func47,Tryz.ntmps47
  go_wp2
  go_ret
  exact ⟨rfl,rfl⟩
theorem isName_any (w:World) (A:Option Addr) (n c:Nat):Calls Tryz.prog 20 #[.slice A n c] w fun e w'=>e = .returned (.bool (decide (1≤n) && decide (n≤64)))∧w=w':=by
 have cw:=within_any w (n:Int) 1 64
 rw [show decide ((1:Int)≤(n:Int)∧(n:Int)≤64)=(decide (1≤n) && decide (n≤64)) by rw [← Bool.decide_and,decide_eq_decide];omega] at cw
 go_enter Tryz.func20,Tryz.ntmps20
 go_wp2_with (go_at_call 47;((with_reducible refine cw.mono ?_);clear cw;rintro e w' ⟨rfl,rfl⟩))
 go_ret
 exact ⟨rfl,rfl⟩
structure HeadV where
 e:Int
 n:Int
 c:Int
 d:Int
 pa:Option Addr
 pl:List UInt8
 pc:Nat
def HeadV.row (h:HeadV):Array Value:=#[.int .i64 h.e,.int .i64 h.n,.int .i64 h.c,.int .i64 h.d,.slice h.pa h.pl.length h.pc]
def HeadV.Ok (h:HeadV):Prop:=(1≤h.e∧h.e≤1048576)∧(1≤h.n∧h.n≤4611686018427387904)∧(1≤h.c∧h.c≤16)∧(1≤h.d∧h.d≤1099511627776)∧h.pl.length≤4096
instance (h:HeadV):Decidable h.Ok:=by unfold HeadV.Ok;infer_instance
theorem head_cells {w:World} {B:Nat} {h:HeadV} (k:Bk w B 34 h.row):w.cell? ⟨B,0,none⟩=some (.int .i64 h.e)∧w.cell? ⟨B,1,none⟩=some (.int .i64 h.n)∧w.cell? ⟨B,2,none⟩=some (.int .i64 h.c)∧w.cell? ⟨B,3,none⟩=some (.int .i64 h.d)∧w.cell? ⟨B,4,none⟩=some (.slice h.pa h.pl.length h.pc):=⟨k.cell 0,k.cell 1,k.cell 2,k.cell 3,k.cell 4⟩
theorem head_one (h:HeadV):h.row.all (·.oneCell')=true:=by simp [HeadV.row,Value.oneCell']
theorem iHead (h:HeadV):(Tryz.prog.info? 34).map (·.size)=some h.row.size:=by kernel_rfl
set_option maxHeartbeats 4000000 in
theorem isHead_any (w:World) (h:HeadV):Calls Tryz.prog 21 #[.agg h.row] w fun e w'=>e = .returned (.bool (decide h.Ok))∧Below w.heap.size w w':=by
 obtain ⟨g,hg⟩:∃ g,w.heap.size=g:=⟨_,rfl⟩
 obtain ⟨w1,hw1⟩:∃ W,w.alloc (.cells h.row 34)=W:=⟨_,rfl⟩
 have B1:=hidxa_ (show Below w.heap.size w w1 by rw [← hw1];exact (Below.refl _ _).alloc (Nat.le_refl _) _)
 obtain ⟨k0,k1,k2,k3,k4⟩:=head_cells (show Bk w1 g 34 h.row by rw [← hw1,← hg];exact Bk.new w _ _)
 have e1:=within_any w1 h.e 1 1048576
 have e2:=within_any w1 h.n 1 4611686018427387904
 have e3:=within_any w1 h.c 1 16
 have e4:=within_any w1 h.d 1 1099511627776
 obtain ⟨he,hn,hc,hd,pa,pl,pc⟩:=h
 unfold HeadV.Ok
 simp only at k0 k1 k2 k3 k4 e1 e2 e3 e4 ⊢
 by_cases h1:1≤he∧he≤1048576
 ·rw [decide_eq_true h1] at e1
  by_cases h2:1≤hn∧hn≤4611686018427387904
  ·rw [decide_eq_true h2] at e2
   by_cases h3:1≤hc∧hc≤16
   ·rw [decide_eq_true h3] at e3
    by_cases h4:1≤hd∧hd≤1099511627776
    ·rw [decide_eq_true h4] at e4
     have h5:decide ((1≤he∧he≤1048576)∧(1≤hn∧hn≤4611686018427387904)∧(1≤hc∧hc≤16)∧(1≤hd∧hd≤1099511627776)∧pl.length≤4096)=decide ((pl.length:Int)≤4096):=by
      rw [decide_eq_decide]
      exact ⟨fun h=>by omega,fun h=>⟨h1,h2,h3,h4,by omega⟩⟩
     rw [h5]
     clear h1 h2 h3 h4 h5
     by_cases h6:pl.length≤4096
     ·have d1:decide ((pl.length:Int)≤4096)=true:=decide_eq_true (by omega)
      have d2:decide (pl.length≤4096)=true:=decide_eq_true h6
      rw [d1]
      clear h6
      go_enter Tryz.func21,Tryz.ntmps21
      go_wp2_with (first
       | (go_at_call 47;((with_reducible refine e1.mono ?_);clear e1;rintro e w' ⟨rfl,rfl⟩))
       | (go_at_call 47;((with_reducible refine e2.mono ?_);clear e2;rintro e w' ⟨rfl,rfl⟩))
       | (go_at_call 47;((with_reducible refine e3.mono ?_);clear e3;rintro e w' ⟨rfl,rfl⟩))
       | (go_at_call 47;((with_reducible refine e4.mono ?_);clear e4;rintro e w' ⟨rfl,rfl⟩)))
      go_ret
      exact ⟨rfl,B1.out⟩
     ·have d1:decide ((pl.length:Int)≤4096)=false:=decide_eq_false (by omega)
      have d2:decide (pl.length≤4096)=false:=decide_eq_false h6
      rw [d1]
      clear h6
      go_enter Tryz.func21,Tryz.ntmps21
      go_wp2_with (first
       | (go_at_call 47;((with_reducible refine e1.mono ?_);clear e1;rintro e w' ⟨rfl,rfl⟩))
       | (go_at_call 47;((with_reducible refine e2.mono ?_);clear e2;rintro e w' ⟨rfl,rfl⟩))
       | (go_at_call 47;((with_reducible refine e3.mono ?_);clear e3;rintro e w' ⟨rfl,rfl⟩))
       | (go_at_call 47;((with_reducible refine e4.mono ?_);clear e4;rintro e w' ⟨rfl,rfl⟩)))
      go_ret
      exact ⟨rfl,B1.out⟩
    ·rw [decide_eq_false h4] at e4
     have h5:decide ((1≤he∧he≤1048576)∧(1≤hn∧hn≤4611686018427387904)∧(1≤hc∧hc≤16)∧(1≤hd∧hd≤1099511627776)∧pl.length≤4096)=false:=decide_eq_false (fun h=>h4 h.2.2.2.1)
     rw [h5]
     clear h1 h2 h3 h4 h5
     go_enter Tryz.func21,Tryz.ntmps21
     go_wp2_with (first
      | (go_at_call 47;((with_reducible refine e1.mono ?_);clear e1;rintro e w' ⟨rfl,rfl⟩))
      | (go_at_call 47;((with_reducible refine e2.mono ?_);clear e2;rintro e w' ⟨rfl,rfl⟩))
      | (go_at_call 47;((with_reducible refine e3.mono ?_);clear e3;rintro e w' ⟨rfl,rfl⟩))
      | (go_at_call 47;((with_reducible refine e4.mono ?_);clear e4;rintro e w' ⟨rfl,rfl⟩)))
     go_ret
     exact ⟨rfl,B1.out⟩
   ·rw [decide_eq_false h3] at e3
    have h5:decide ((1≤he∧he≤1048576)∧(1≤hn∧hn≤4611686018427387904)∧(1≤hc∧hc≤16)∧(1≤hd∧hd≤1099511627776)∧pl.length≤4096)=false:=decide_eq_false (fun h=>h3 h.2.2.1)
    rw [h5]
    clear h1 h2 h3 h5 e4
    go_enter Tryz.func21,Tryz.ntmps21
    go_wp2_with (first
     | (go_at_call 47;((with_reducible refine e1.mono ?_);clear e1;rintro e w' ⟨rfl,rfl⟩))
     | (go_at_call 47;((with_reducible refine e2.mono ?_);clear e2;rintro e w' ⟨rfl,rfl⟩))
     | (go_at_call 47;((with_reducible refine e3.mono ?_);clear e3;rintro e w' ⟨rfl,rfl⟩)))
    go_ret
    exact ⟨rfl,B1.out⟩
  ·rw [decide_eq_false h2] at e2
   have h5:decide ((1≤he∧he≤1048576)∧(1≤hn∧hn≤4611686018427387904)∧(1≤hc∧hc≤16)∧(1≤hd∧hd≤1099511627776)∧pl.length≤4096)=false:=decide_eq_false (fun h=>h2 h.2.1)
   rw [h5]
   clear h1 h2 h5 e3 e4
   go_enter Tryz.func21,Tryz.ntmps21
   go_wp2_with (first
    | (go_at_call 47;((with_reducible refine e1.mono ?_);clear e1;rintro e w' ⟨rfl,rfl⟩))
    | (go_at_call 47;((with_reducible refine e2.mono ?_);clear e2;rintro e w' ⟨rfl,rfl⟩)))
   go_ret
   exact ⟨rfl,B1.out⟩
 ·rw [decide_eq_false h1] at e1
  have h5:decide ((1≤he∧he≤1048576)∧(1≤hn∧hn≤4611686018427387904)∧(1≤hc∧hc≤16)∧(1≤hd∧hd≤1099511627776)∧pl.length≤4096)=false:=decide_eq_false (fun h=>h1 h.1)
  rw [h5]
  clear h1 h5 e2 e3 e4
  go_enter Tryz.func21,Tryz.ntmps21
  go_wp2_with (first
   | (go_at_call 47;((with_reducible refine e1.mono ?_);clear e1;rintro e w' ⟨rfl,rfl⟩)))
  go_ret
  exact ⟨rfl,B1.out⟩
theorem hidxb_ {p:Prop} (h:p):Hid p:=h
def ChJ (ix:List Nat) (S:Nat→World→Prop) (D:Nat→Bool) (W:World):Prop:=∃ m,m≤ix.length∧(∀ i,(hi:i < ix.length)→D ix[i]=decide (i < m))∧S m W
section
variable {ix : List Nat} {S : Nat → World → Prop} {D : Nat → Bool} {W W' : World}
theorem ChJ.same (h:ChJ ix S D W) (i:Nat) (hi:i∉ix):ChJ ix S (fun j=>decide (j=i) || D j) W:=by
 obtain ⟨m,h1,h2,h3⟩:=h
 refine ⟨m,h1,fun k hk=>?_,h3⟩
 have hne:ix[k]≠i:=fun e=>hi (e ▸ List.getElem_mem hk)
 show (decide (ix[k]=i) || D ix[k])=decide (k < m)
 rw [decide_eq_false hne,Bool.false_or]
 exact h2 k hk
theorem ChJ.at_ (h:ChJ ix S D W) (k:Nat) (hk:k < ix.length) (hL:D ix[k]=false) (hW:∀ j,(hj:j < ix.length)→j + 1=k→D ix[j]=true):S k W∧∀ i,(hi:i < ix.length)→D ix[i]=decide (i < k):=by
 obtain ⟨m,h1,h2,h3⟩:=h
 have e1:=h2 k hk
 rw [hL] at e1
 have e2:¬ k < m:=by
  intro hlt
  rw [decide_eq_true hlt] at e1
  cases e1
 have e3:m=k:=by
  rcases Nat.eq_zero_or_pos k with h0 | h0
  ·omega
  ·have e4:=h2 (k - 1) (by omega)
   rw [hW (k - 1) (by omega) (by omega)] at e4
   have e5:k - 1 < m:=by
    by_cases h5:k - 1 < m
    ·exact h5
    ·rw [decide_eq_false h5] at e4;cases e4
   omega
 subst e3
 exact ⟨h3,h2⟩
theorem ChJ.next (k:Nat) (hk:k < ix.length) (hn:ix.Nodup) (hd:∀ i,(hi:i < ix.length)→D ix[i]=decide (i < k)) (hS:S (k + 1) W'):ChJ ix S (fun j=>decide (j=ix[k]) || D j) W':=by
 refine ⟨k + 1,hk,fun i hi=>?_,hS⟩
 by_cases e:i=k
 ·subst e
  show (decide (ix[i]=ix[i]) || D ix[i])=decide (i < i + 1)
  rw [decide_eq_true rfl,Bool.true_or]
  exact (decide_eq_true (by omega)).symm
 ·have hne:ix[i]≠ix[k]:=fun e2=>e ((List.getElem_inj hn).1 e2)
  show (decide (ix[i]=ix[k]) || D ix[i])=decide (i < k + 1)
  rw [decide_eq_false hne,Bool.false_or,hd i hi,decide_eq_decide]
  omega
theorem ChJ.start (h:S 0 W):ChJ ix S (fun _=>false) W:=⟨0,Nat.zero_le _,fun i hi=>by simp,h⟩
theorem ChJ.last (h:ChJ ix S D W) (k:Nat) (hk:k < ix.length) (hl:k + 1=ix.length) (hD:D ix[k]=true):S (k + 1) W:=by
 obtain ⟨m,h1,h2,h3⟩:=h
 have e1:=h2 k hk
 rw [hD] at e1
 have:m=k + 1:=by
  by_cases h5:k < m
  ·omega
  ·rw [decide_eq_false h5] at e1;cases e1
 rw [← this]
 exact h3
end
def boundB (K:List UInt8) (h:HeadV):List UInt8:=K ++ highB 8 h.e.toNat ++ highB 8 h.n.toNat ++ highB 8 h.c.toNat ++ highB 8 h.d.toNat ++ highB 4 h.pl.length ++ h.pl
theorem boundB_len (K:List UInt8) (hK:K.length=32) (h:HeadV):(boundB K h).length=68 + h.pl.length:=by
 unfold boundB
 simp only [List.length_append,highB_len,hK]
def bndL (K:List UInt8) (h:HeadV):List (List UInt8):=[[],K,K ++ highB 8 h.e.toNat,K ++ highB 8 h.e.toNat ++ highB 8 h.n.toNat,K ++ highB 8 h.e.toNat ++ highB 8 h.n.toNat ++ highB 8 h.c.toNat,K ++ highB 8 h.e.toNat ++ highB 8 h.n.toNat ++ highB 8 h.c.toNat ++ highB 8 h.d.toNat,boundB K h]
def BnS (b g:Nat) (K:List UInt8) (h:HeadV):Nat→World→Prop
 | 0,W=>W.heap.size=b
 | m + 1,W=>∃ F,(∀ k∈F,b≤k)∧OutF W g ((bndL K h).getD m []) false F
def BnR (gK gH g:Nat) (h:HeadV):Nat→Value→World→Prop
 | 0,u,_=>u = .pointer (some ⟨g,0,none⟩)
 | 1,u,_=>u = .slice (some ⟨gK,0,none⟩) 32 32
 | 2,u,_=>u = .pointer (some ⟨g,0,none⟩)
 | 3,u,_=>u = .pointer (some ⟨gH,0,none⟩)
 | 4,u,_=>u = .int .i64 h.e
 | 5,u,_=>u = .pointer (some ⟨g,0,none⟩)
 | 6,u,_=>u = .pointer (some ⟨gH,1,none⟩)
 | 7,u,_=>u = .int .i64 h.n
 | 8,u,_=>u = .pointer (some ⟨g,0,none⟩)
 | 9,u,_=>u = .pointer (some ⟨gH,2,none⟩)
 | 10,u,_=>u = .pointer (some ⟨gH,2,none⟩)
 | 11,u,_=>u = .int .i64 h.c
 | 12,u,_=>u = .pointer (some ⟨g,0,none⟩)
 | 13,u,_=>u = .pointer (some ⟨gH,2,none⟩)
 | 14,u,_=>u = .pointer (some ⟨gH,3,none⟩)
 | 15,u,_=>u = .int .i64 h.d
 | 16,u,_=>u = .pointer (some ⟨g,0,none⟩)
 | 17,u,_=>u = .pointer (some ⟨gH,4,none⟩)
 | 18,u,_=>u = .slice h.pa h.pl.length h.pc
 | 19,u,_=>u = .pointer (some ⟨g,0,none⟩)
 | 20,u,_=>u = .pointer (some ⟨g,0,none⟩)
 | _,_,_=>True
theorem BnR.any {gK gH g:Nat} {h:HeadV} {j:Nat} {v:Value} {W W':World} (hh:BnR gK gH g h j v W):BnR gK gH g h j v W':=by
 unfold BnR at hh ⊢
 split at hh <;> first | exact hh | trivial
set_option maxHeartbeats 8000000 in
theorem bound_at (w:World) (K:List UInt8) (hK:K.length=32) (h:HeadV) (hok:h.Ok) (hp:Rd w w.heap.size h.pa h.pl) :
  Calls Tryz.prog 24 #[.agg (rowOf K),.agg h.row] w fun r w'=>r = .returned (.pointer (some ⟨w.heap.size + 2,0,none⟩))∧∃ F,OutF w' (w.heap.size + 2) (boundB K h) false F∧(∀ k∈F,w.heap.size≤k)∧Below w.heap.size w w':=by
 obtain ⟨gK,hgK⟩:∃ g,w.heap.size=g:=⟨_,rfl⟩
 obtain ⟨w0,hw0⟩:∃ W,w.alloc (.cells (rowOf K) 39)=W:=⟨_,rfl⟩
 have B0:Below w.heap.size w w0:=by rw [← hw0];exact (Below.refl _ _).alloc (Nat.le_refl _) _
 have K0:Bk w0 gK 39 (rowOf K):=by rw [← hw0,← hgK];exact Bk.new w _ _
 obtain ⟨w1,hw1⟩:∃ W,w0.alloc (.cells h.row 34)=W:=⟨_,rfl⟩
 have B1:Below w0.heap.size w0 w1:=by rw [← hw1];exact (Below.refl _ _).alloc (Nat.le_refl _) _
 obtain ⟨gH,hgH⟩:∃ g,w0.heap.size=g:=⟨_,rfl⟩
 have H1:=hidxb_ (show Bk w1 gH 34 h.row by rw [← hw1,← hgH];exact Bk.new w0 _ _)
 have K1:=hidxb_ (K0.below B1 K0.lt)
 have X1:=hidxb_ (B0.trans (B1.mono B0.size))
 have KL:=hidxb_ hK
 have OK:=hidxb_ hok
 have RP:=hidxb_ ((hp.below X1.out).more X1.out.size)
 have LK:=hidxb_ (show ∀ W,Below w1.heap.size w1 W→W.cell? ⟨gH,0,none⟩=some (.int .i64 h.e)∧W.cell? ⟨gH,1,none⟩=some (.int .i64 h.n)∧W.cell? ⟨gH,2,none⟩=some (.int .i64 h.c)∧W.cell? ⟨gH,3,none⟩=some (.int .i64 h.d)∧W.cell? ⟨gH,4,none⟩=some (.slice h.pa h.pl.length h.pc) from fun W hW=>head_cells (H1.out.below hW H1.out.lt))
 obtain ⟨g,hg⟩:∃ g,w1.heap.size=g:=⟨_,rfl⟩
 have HG:=hidxb_ hg
 have HGW:=hidxb_ (show g=w.heap.size + 2 by rw [← hg,← hw1,← hw0];simp)
 have KK1:=hidxb_ (show gK < w1.heap.size from K1.out.lt)
 clear hK hok hp K0 B0 B1
 go_enter Tryz.func24,Tryz.ntmps24
 go_upto_region 1 with fail
 rename_i K9 hK9
 clear hw0 hw1 hgK hgH hg
 have LB:=hidxb_ (show ∀ m,((bndL K h).getD m []).length≤5000 from fun m=>by
  have hp:=OK.out.2.2.2.2
  rcases m with _ | _ | _ | _ | _ | _ | _ | m
  all_goals simp only [bndL,boundB,List.getD_cons_zero,List.getD_cons_succ,List.getD_nil,List.length_append,List.length_nil,highB_len,KL.out]
  all_goals omega)
 refine region_byJF [5,6,7,8,9,10,11,12,13,14,15,16,17,18,19,20,21,22,23,24,4] (fun W=>Below w1.heap.size w1 W) (fun _ _=>True) (BnR gK gH g h) (fun D _ W=>ChJ [0,2,5,8,12,16,19] (BnS w1.heap.size g K h) D W) (by kernel_rfl) (by kernel_rfl) (by kernel_rfl) (by kernel_rfl) (fun j v w w' hT hr=>hr.any) (fun j v w hlt hj _=>?_) ((Below.refl _ _).drew) ?_ (ChJ.start rfl) ?_
 ·rcases j with _ | _ | _ | _ | _ | _ | _ | _ | _ | _ | _ | _ | _ | _ | _ | _ | _ | _ | _ | _ | _ | j
  all_goals first
   | (exfalso;simp [dstOf] at hj;done)
   | trivial
 ·refine ⟨?_,?_,?_,?_,?_,?_,?_,?_,?_,?_,?_,?_,?_,?_,?_,?_,?_,?_,?_,?_,?_,trivial⟩
  all_goals intro D a W hC hd hsz hf hv hJ hL hW K9 hK
  ·clear hsz
   obtain ⟨hS,hd⟩:=hJ.at_ 0 (by decide) hL (fun j hj e=>by omega)
   have hS2:W.heap.size=w1.heap.size:=hS
   have hgW:W.heap.size=g:=hS2.trans HG.out
   have hzO:(zeroValue 104).run Tryz.prog W = .ok (.agg #[.pointer none,.int .i64 0,.bool false]) W:=by kernel_rfl
   have hb:Below W.heap.size W (W.alloc (.cells #[.pointer none,.int .i64 0,.bool false] 104)):=(Below.refl _ _).alloc (Nat.le_refl _) _
   have hO:=OutF.zero W
   rw [hgW] at hO
   refine step_run (wanted_none rfl) (v:=.pointer (some ⟨g,0,none⟩)) (w':=W.alloc (.cells #[.pointer none,.int .i64 0,.bool false] 104)) ?_ (hK _ _ (hC.trans (hb.mono hC.size)) trivial rfl (ChJ.next 0 (by decide) (by decide) hd ⟨[g],fun k hk=>by rw [List.mem_singleton.1 hk,HG.out];exact Nat.le_refl _,hO⟩))
   rw [← hgW]
   go_simp
  ·clear hsz
   have e1:=slot_of (a:=a) (s:=2) (v:=.pointer (some ⟨gK,0,none⟩)) (hf 2 (by kernel_rfl))
   have sl:=slice_allB gK
   refine step_run (wanted_none rfl) (v:=.slice (some ⟨gK,0,none⟩) 32 32) (w':=W) ?_ (hK _ _ hC trivial rfl (hJ.same 1 (by decide)))
   go_simp
  ·clear hsz
   have e1:=slot_of (a:=a) (s:=5) (v:=.pointer (some ⟨g,0,none⟩)) (hv 0 (by kernel_rfl))
   have e2:=slot_of (a:=a) (s:=6) (v:=.slice (some ⟨gK,0,none⟩) 32 32) (hv 1 (by kernel_rfl))
   obtain ⟨⟨F,hFb,hO⟩,hd⟩:=hJ.at_ 1 (by decide) hL (fun j hj e=>by have hj0:j=0:=(by omega);subst hj0;exact hW 0 (by kernel_rfl))
   have cc:Calls Tryz.prog 54 #[.pointer (some ⟨g,0,none⟩),.slice (some ⟨gK,0,none⟩) 32 32] W (OutP W g ((bndL K h).getD 1 []) false F):=fixed_any W g [] false F (some ⟨gK,0,none⟩) 32 32 K hO (fun _=>⟨gK,0,rfl,fun hm=>by have:=hFb gK hm;have:=KK1.out;omega,Nat.lt_of_lt_of_le KK1.out hC.size,fun j hj=>by rw [Nat.zero_add];exact ((K1.out.below hC K1.out.lt).cell j).trans (rowOf_at K j hj)⟩) KL.out (by simp)
   refine step_callx 54 #[.pointer (some ⟨g,0,none⟩),.slice (some ⟨gK,0,none⟩) 32 32] (wanted_none rfl) (w':=W) ?_ (cc.mono fun e W2 hh=>?_)
   ·go_simp
   ·obtain ⟨rfl,F2,hO2,hGr,hU⟩:=hh
    have hF2:∀ k∈F2,w1.heap.size≤k:=fun k hk=>(hGr k hk).elim (hFb k) (fun h=>Nat.le_trans hC.size h)
    exact ⟨_,rfl,hK _ _ (hC.trans (hU.below hFb hC.size)) trivial rfl (ChJ.next 1 (by decide) (by decide) hd ⟨F2,hF2,hO2⟩)⟩
  ·clear hsz
   have e1:=slot_of (a:=a) (s:=3) (v:=.pointer (some ⟨gH,0,none⟩)) (hf 3 (by kernel_rfl))
   refine step_run (wanted_none rfl) (v:=.pointer (some ⟨gH,0,none⟩)) (w':=W) ?_ (hK _ _ hC trivial rfl (hJ.same 3 (by decide)))
   go_simp
  ·clear hsz
   have e1:=slot_of (a:=a) (s:=8) (v:=.pointer (some ⟨gH,0,none⟩)) (hv 3 (by kernel_rfl))
   obtain ⟨k0,k1,k2,k3,k4⟩:=LK.out W hC
   refine step_run (wanted_none rfl) (v:=.int .i64 h.e) (w':=W) ?_ (hK _ _ hC trivial rfl (hJ.same 4 (by decide)))
   go_simp
  ·clear hsz
   have e1:=slot_of (a:=a) (s:=7) (v:=.pointer (some ⟨g,0,none⟩)) (hv 2 (by kernel_rfl))
   have e2:=slot_of (a:=a) (s:=9) (v:=.int .i64 h.e) (hv 4 (by kernel_rfl))
   obtain ⟨⟨F,hFb,hO⟩,hd⟩:=hJ.at_ 2 (by decide) hL (fun j hj e=>by have hj0:j=1:=(by omega);subst hj0;exact hW 2 (by kernel_rfl))
   have cc:Calls Tryz.prog 55 #[.pointer (some ⟨g,0,none⟩),.int .i64 h.e] W (OutP W g ((bndL K h).getD 2 []) false F):=(by
    have hz:(h.e.toNat:Int)=h.e:=by have:=OK.out.1;omega
    have h0:=num_any W g ((bndL K h).getD 1 []) false F h.e.toNat hO (by have:=OK.out.1;omega) (by have:=LB.out 1;omega)
    rw [hz] at h0
    exact h0)
   refine step_callx 55 #[.pointer (some ⟨g,0,none⟩),.int .i64 h.e] (wanted_none rfl) (w':=W) ?_ (cc.mono fun e W2 hh=>?_)
   ·go_simp
   ·obtain ⟨rfl,F2,hO2,hGr,hU⟩:=hh
    have hF2:∀ k∈F2,w1.heap.size≤k:=fun k hk=>(hGr k hk).elim (hFb k) (fun h=>Nat.le_trans hC.size h)
    exact ⟨_,rfl,hK _ _ (hC.trans (hU.below hFb hC.size)) trivial rfl (ChJ.next 2 (by decide) (by decide) hd ⟨F2,hF2,hO2⟩)⟩
  ·clear hsz
   have e1:=slot_of (a:=a) (s:=3) (v:=.pointer (some ⟨gH,0,none⟩)) (hf 3 (by kernel_rfl))
   refine step_run (wanted_none rfl) (v:=.pointer (some ⟨gH,1,none⟩)) (w':=W) ?_ (hK _ _ hC trivial rfl (hJ.same 6 (by decide)))
   go_simp
  ·clear hsz
   have e1:=slot_of (a:=a) (s:=11) (v:=.pointer (some ⟨gH,1,none⟩)) (hv 6 (by kernel_rfl))
   obtain ⟨k0,k1,k2,k3,k4⟩:=LK.out W hC
   refine step_run (wanted_none rfl) (v:=.int .i64 h.n) (w':=W) ?_ (hK _ _ hC trivial rfl (hJ.same 7 (by decide)))
   go_simp
  ·clear hsz
   have e1:=slot_of (a:=a) (s:=10) (v:=.pointer (some ⟨g,0,none⟩)) (hv 5 (by kernel_rfl))
   have e2:=slot_of (a:=a) (s:=12) (v:=.int .i64 h.n) (hv 7 (by kernel_rfl))
   obtain ⟨⟨F,hFb,hO⟩,hd⟩:=hJ.at_ 3 (by decide) hL (fun j hj e=>by have hj0:j=2:=(by omega);subst hj0;exact hW 5 (by kernel_rfl))
   have cc:Calls Tryz.prog 55 #[.pointer (some ⟨g,0,none⟩),.int .i64 h.n] W (OutP W g ((bndL K h).getD 3 []) false F):=(by
    have hz:(h.n.toNat:Int)=h.n:=by have:=OK.out.2.1;omega
    have h0:=num_any W g ((bndL K h).getD 2 []) false F h.n.toNat hO (by have:=OK.out.2.1;omega) (by have:=LB.out 2;omega)
    rw [hz] at h0
    exact h0)
   refine step_callx 55 #[.pointer (some ⟨g,0,none⟩),.int .i64 h.n] (wanted_none rfl) (w':=W) ?_ (cc.mono fun e W2 hh=>?_)
   ·go_simp
   ·obtain ⟨rfl,F2,hO2,hGr,hU⟩:=hh
    have hF2:∀ k∈F2,w1.heap.size≤k:=fun k hk=>(hGr k hk).elim (hFb k) (fun h=>Nat.le_trans hC.size h)
    exact ⟨_,rfl,hK _ _ (hC.trans (hU.below hFb hC.size)) trivial rfl (ChJ.next 3 (by decide) (by decide) hd ⟨F2,hF2,hO2⟩)⟩
  ·clear hsz
   have e1:=slot_of (a:=a) (s:=3) (v:=.pointer (some ⟨gH,0,none⟩)) (hf 3 (by kernel_rfl))
   refine step_run (wanted_none rfl) (v:=.pointer (some ⟨gH,2,none⟩)) (w':=W) ?_ (hK _ _ hC trivial rfl (hJ.same 9 (by decide)))
   go_simp
  ·clear hsz
   have e1:=slot_of (a:=a) (s:=14) (v:=.pointer (some ⟨gH,2,none⟩)) (hv 9 (by kernel_rfl))
   refine step_run (wanted_none rfl) (v:=.pointer (some ⟨gH,2,none⟩)) (w':=W) ?_ (hK _ _ hC trivial rfl (hJ.same 10 (by decide)))
   go_simp
  ·clear hsz
   have e1:=slot_of (a:=a) (s:=15) (v:=.pointer (some ⟨gH,2,none⟩)) (hv 10 (by kernel_rfl))
   obtain ⟨k0,k1,k2,k3,k4⟩:=LK.out W hC
   refine step_run (wanted_none rfl) (v:=.int .i64 h.c) (w':=W) ?_ (hK _ _ hC trivial rfl (hJ.same 11 (by decide)))
   go_simp
  ·clear hsz
   have e1:=slot_of (a:=a) (s:=13) (v:=.pointer (some ⟨g,0,none⟩)) (hv 8 (by kernel_rfl))
   have e2:=slot_of (a:=a) (s:=16) (v:=.int .i64 h.c) (hv 11 (by kernel_rfl))
   obtain ⟨⟨F,hFb,hO⟩,hd⟩:=hJ.at_ 4 (by decide) hL (fun j hj e=>by have hj0:j=3:=(by omega);subst hj0;exact hW 8 (by kernel_rfl))
   have cc:Calls Tryz.prog 55 #[.pointer (some ⟨g,0,none⟩),.int .i64 h.c] W (OutP W g ((bndL K h).getD 4 []) false F):=(by
    have hz:(h.c.toNat:Int)=h.c:=by have:=OK.out.2.2.1;omega
    have h0:=num_any W g ((bndL K h).getD 3 []) false F h.c.toNat hO (by have:=OK.out.2.2.1;omega) (by have:=LB.out 3;omega)
    rw [hz] at h0
    exact h0)
   refine step_callx 55 #[.pointer (some ⟨g,0,none⟩),.int .i64 h.c] (wanted_none rfl) (w':=W) ?_ (cc.mono fun e W2 hh=>?_)
   ·go_simp
   ·obtain ⟨rfl,F2,hO2,hGr,hU⟩:=hh
    have hF2:∀ k∈F2,w1.heap.size≤k:=fun k hk=>(hGr k hk).elim (hFb k) (fun h=>Nat.le_trans hC.size h)
    exact ⟨_,rfl,hK _ _ (hC.trans (hU.below hFb hC.size)) trivial rfl (ChJ.next 4 (by decide) (by decide) hd ⟨F2,hF2,hO2⟩)⟩
  ·clear hsz
   have e1:=slot_of (a:=a) (s:=3) (v:=.pointer (some ⟨gH,0,none⟩)) (hf 3 (by kernel_rfl))
   refine step_run (wanted_none rfl) (v:=.pointer (some ⟨gH,2,none⟩)) (w':=W) ?_ (hK _ _ hC trivial rfl (hJ.same 13 (by decide)))
   go_simp
  ·clear hsz
   have e1:=slot_of (a:=a) (s:=18) (v:=.pointer (some ⟨gH,2,none⟩)) (hv 13 (by kernel_rfl))
   refine step_run (wanted_none rfl) (v:=.pointer (some ⟨gH,3,none⟩)) (w':=W) ?_ (hK _ _ hC trivial rfl (hJ.same 14 (by decide)))
   go_simp
  ·clear hsz
   have e1:=slot_of (a:=a) (s:=19) (v:=.pointer (some ⟨gH,3,none⟩)) (hv 14 (by kernel_rfl))
   obtain ⟨k0,k1,k2,k3,k4⟩:=LK.out W hC
   refine step_run (wanted_none rfl) (v:=.int .i64 h.d) (w':=W) ?_ (hK _ _ hC trivial rfl (hJ.same 15 (by decide)))
   go_simp
  ·clear hsz
   have e1:=slot_of (a:=a) (s:=17) (v:=.pointer (some ⟨g,0,none⟩)) (hv 12 (by kernel_rfl))
   have e2:=slot_of (a:=a) (s:=20) (v:=.int .i64 h.d) (hv 15 (by kernel_rfl))
   obtain ⟨⟨F,hFb,hO⟩,hd⟩:=hJ.at_ 5 (by decide) hL (fun j hj e=>by have hj0:j=4:=(by omega);subst hj0;exact hW 12 (by kernel_rfl))
   have cc:Calls Tryz.prog 55 #[.pointer (some ⟨g,0,none⟩),.int .i64 h.d] W (OutP W g ((bndL K h).getD 5 []) false F):=(by
    have hz:(h.d.toNat:Int)=h.d:=by have:=OK.out.2.2.2.1;omega
    have h0:=num_any W g ((bndL K h).getD 4 []) false F h.d.toNat hO (by have:=OK.out.2.2.2.1;omega) (by have:=LB.out 4;omega)
    rw [hz] at h0
    exact h0)
   refine step_callx 55 #[.pointer (some ⟨g,0,none⟩),.int .i64 h.d] (wanted_none rfl) (w':=W) ?_ (cc.mono fun e W2 hh=>?_)
   ·go_simp
   ·obtain ⟨rfl,F2,hO2,hGr,hU⟩:=hh
    have hF2:∀ k∈F2,w1.heap.size≤k:=fun k hk=>(hGr k hk).elim (hFb k) (fun h=>Nat.le_trans hC.size h)
    exact ⟨_,rfl,hK _ _ (hC.trans (hU.below hFb hC.size)) trivial rfl (ChJ.next 5 (by decide) (by decide) hd ⟨F2,hF2,hO2⟩)⟩
  ·clear hsz
   have e1:=slot_of (a:=a) (s:=3) (v:=.pointer (some ⟨gH,0,none⟩)) (hf 3 (by kernel_rfl))
   refine step_run (wanted_none rfl) (v:=.pointer (some ⟨gH,4,none⟩)) (w':=W) ?_ (hK _ _ hC trivial rfl (hJ.same 17 (by decide)))
   go_simp
  ·clear hsz
   have e1:=slot_of (a:=a) (s:=22) (v:=.pointer (some ⟨gH,4,none⟩)) (hv 17 (by kernel_rfl))
   obtain ⟨k0,k1,k2,k3,k4⟩:=LK.out W hC
   refine step_run (wanted_none rfl) (v:=.slice h.pa h.pl.length h.pc) (w':=W) ?_ (hK _ _ hC trivial rfl (hJ.same 18 (by decide)))
   go_simp
  ·clear hsz
   have e1:=slot_of (a:=a) (s:=21) (v:=.pointer (some ⟨g,0,none⟩)) (hv 16 (by kernel_rfl))
   have e2:=slot_of (a:=a) (s:=23) (v:=.slice h.pa h.pl.length h.pc) (hv 18 (by kernel_rfl))
   obtain ⟨⟨F,hFb,hO⟩,hd⟩:=hJ.at_ 6 (by decide) hL (fun j hj e=>by have hj0:j=5:=(by omega);subst hj0;exact hW 16 (by kernel_rfl))
   have cc:Calls Tryz.prog 37 #[.pointer (some ⟨g,0,none⟩),.slice h.pa h.pl.length h.pc] W (OutP W g ((bndL K h).getD 6 []) false F):=bytes_any W g ((bndL K h).getD 5 []) false F h.pa h.pl.length h.pc h.pl hO (fun hn=>by obtain ⟨b,off,e,hb,hc⟩:=RP.out hn;exact ⟨b,off,e,fun hm=>by have:=hFb b hm;omega,Nat.lt_of_lt_of_le hb hC.size,fun j hj=>(hC.cell (p:=⟨b,_,none⟩) hb).trans (hc j hj)⟩) rfl (by have:=LB.out 5;have:=OK.out.2.2.2.2;omega)
   refine step_callx 37 #[.pointer (some ⟨g,0,none⟩),.slice h.pa h.pl.length h.pc] (wanted_none rfl) (w':=W) ?_ (cc.mono fun e W2 hh=>?_)
   ·go_simp
   ·obtain ⟨rfl,F2,hO2,hGr,hU⟩:=hh
    have hF2:∀ k∈F2,w1.heap.size≤k:=fun k hk=>(hGr k hk).elim (hFb k) (fun h=>Nat.le_trans hC.size h)
    exact ⟨_,rfl,hK _ _ (hC.trans (hU.below hFb hC.size)) trivial rfl (ChJ.next 6 (by decide) (by decide) hd ⟨F2,hF2,hO2⟩)⟩
  ·clear hsz
   have e1:=slot_of (a:=a) (s:=24) (v:=.pointer (some ⟨g,0,none⟩)) (hv 19 (by kernel_rfl))
   refine step_run (wanted_none rfl) (v:=.pointer (some ⟨g,0,none⟩)) (w':=W) ?_ (hK _ _ hC trivial rfl (hJ.same 20 (by decide)))
   go_simp
 ·intro f w7 hC7 hv7 D7 hD7 hJ7
  obtain ⟨a7,hJ,hs⟩:=hJ7
  obtain ⟨F,hFb,hO⟩:=hJ.last 6 (by decide) rfl (hD7 19 (by decide))
  have e4:f 4 = .pointer (some ⟨g,0,none⟩):=hv7 20 (by decide)
  have HO:=hidxb_ hO
  have HF:=hidxb_ hFb
  have HC:=hidxb_ hC7
  simp only [framed,List.foldl_cons,List.foldl_nil,List.setIfInBounds_toArray,List.set_cons_succ,List.set_cons_zero]
  rw [e4]
  clear hv7 hD7 hJ hs hO hFb hC7 e4
  refine hK9 _ _ ?_
  go_wp2
  go_ret
  exact ⟨congrArg (fun k=>Ending.returned (.pointer (some ⟨k,0,none⟩))) HGW.out,F,by rw [← HGW.out];exact HO.out,fun k hk=>Nat.le_trans X1.out.size (HF.out k hk),X1.out.trans (HC.out.mono X1.out.size)⟩
theorem bound_any (w:World) (K:List UInt8) (hK:K.length=32) (h:HeadV) (hok:h.Ok) (hp:Rd w w.heap.size h.pa h.pl) :
  Calls Tryz.prog 24 #[.agg (rowOf K),.agg h.row] w fun r w'=>∃ g F,r = .returned (.pointer (some ⟨g,0,none⟩))∧OutF w' g (boundB K h) false F∧(∀ k∈F,w.heap.size≤k)∧Below w.heap.size w w' :=
 (bound_at w K hK h hok hp).mono fun r w' ⟨e,F,h1,h2,h3⟩=>⟨_,F,e,h1,h2,h3⟩
theorem hidxc_ {p:Prop} (h:p):Hid p:=h
def packB (del:Bool) (v:List UInt8):List UInt8:=if del=true then [0] else 1 :: v
theorem packB_len (del:Bool) (v:List UInt8):(packB del v).length≤v.length + 1:=by
 unfold packB
 split <;> simp
set_option maxHeartbeats 4000000 in
theorem packed_any (w:World) (A:Option Addr) (n c:Nat) (v:List UInt8) (del:Bool) (hn:v.length=n) (hn4:n≤3999) (hr:Rd w w.heap.size A v) (ht:PTab w) (hg1:0 < w.heap.size) :
  Calls Tryz.prog 22 #[.slice A n c,.bool del] w (PadP w (clsS (packB del v).length) (padB (packB del v))):=by
 have HT:=hidxc_ ht
 cases del with
 | true =>
  have B1:Below w.heap.size w (w.alloc (.cells #[.int .u8 0] 5)):=(Below.refl _ _).alloc (Nat.le_refl _) _
  have X1:=hidxc_ B1
  have K1:Blk8 (w.alloc (.cells #[.int .u8 0] 5)) w.heap.size [0]:=Blk8.new w [0]
  have cp:=pad_any (w.alloc (.cells #[.int .u8 0] 5)) (some ⟨w.heap.size,0,none⟩) 1 1 [0] rfl (by omega) (K1.rd (by simp)) (HT.out.below B1 hg1)
  clear hr ht B1 K1
  go_enter Tryz.func22,Tryz.ntmps22
  go_wp2_with (go_at_call 48;((with_reducible refine cp.mono ?_);clear cp;rintro e w2 ⟨A2,c2,rfl,hO,hB⟩;have O2:=hidxc_ hO;have X2:=hidxc_ hB;clear hO hB))
  go_ret2
  exact ⟨A2,c2,rfl,O2.out.lower X1.out.size,X1.out.trans (X2.out.mono X1.out.size)⟩
 | false =>
  have hz:(rowOf [1]:Array Value) = #[.int .u8 1]:=by kernel_rfl
  have hw1:Below w.heap.size w ((w.alloc (.cells #[.int .u8 1] 5)).alloc (.cells #[.slice (some ⟨w.heap.size,0,none⟩) 1 1,.slice A n c] 23)):=((Below.refl _ _).alloc (Nat.le_refl _) _).alloc (by simp) _
  have c3:=concat_any (w.heap.size + 1) 2 2 (n + 1) [(some ⟨w.heap.size,0,none⟩,1,[1]),(A,c,v)] ((w.alloc (.cells #[.int .u8 1] 5)).alloc (.cells #[.slice (some ⟨w.heap.size,0,none⟩) 1 1,.slice A n c] 23)) rfl (by simp [flat,hn])
   ⟨by simp,fun i hi=>by
    have h2:i < 2:=hi
    have hcell:=(Bk.new (w.alloc (.cells #[.int .u8 1] 5)) 23 #[.slice (some ⟨w.heap.size,0,none⟩) 1 1,.slice A n c]).cell i
    have hsz:(w.alloc (.cells #[.int .u8 1] 5)).heap.size=w.heap.size + 1:=by simp
    rw [hsz] at hcell
    rcases i with _ | _ | i
    ·exact ⟨hcell.trans (by simp),(((Blk8.new w [1]).alloc _).rd (by simp;omega))⟩
    ·exact ⟨hcell.trans (by simp [hn]),(hr.below hw1).more hw1.size⟩
    ·omega⟩ (by omega) (by omega)
  have hfl:flat [(some ⟨w.heap.size,0,none⟩,1,[1]),(A,c,v)]=1 :: v:=by simp [flat]
  rw [hfl] at c3
  have X1:=hidxc_ hw1
  have HN:=hidxc_ (show (1 :: v).length=n + 1 by simp [hn])
  rw [show packB false v=1 :: v from rfl,HN.out]
  have cp:=fun W A c hr ht=>pad_any W A (n + 1) c (1 :: v) HN.out (by omega) hr ht
  have e1:((n + 1:Nat):Int)=(n:Int) + 1:=by omega
  clear hr ht hw1 hfl hz hn
  go_enter Tryz.func22,Tryz.ntmps22
  go_wp2_with (first
   | (go_at_call 49;((with_reducible refine c3.mono ?_);clear c3;rintro e w2 ⟨A2,q2,rfl,ho,hb⟩;have O2:=hidxc_ ho;have X2:=hidxc_ (X1.out.trans (hb.mono X1.out.size));clear ho hb))
   | (go_at_call 48;have c9:=cp w2 A2 q2 O2.out.rd.1 (HT.out.below X2.out hg1);((with_reducible refine c9.mono ?_);clear c9;rintro e w3 ⟨A3,c3,rfl,hO,hB⟩;have O3:=hidxc_ hO;have X3:=hidxc_ hB;clear hO hB)))
  go_ret2
  exact ⟨A3,c3,rfl,O3.out.lower X2.out.size,X2.out.trans (X3.out.mono X2.out.size)⟩
def valR:List UInt8→List UInt8 × Bool × Int
 | []=>([],false,2)
 | b :: t=>if b=1 then (t,false,0) else if b=0∧t = [] then ([],true,0) else ([],false,2)
def ValP (w:World) (r:List UInt8 × Bool × Int) (e:Ending) (w':World):Prop:=∃ A m c,e = .returned (.tuple #[.slice A m c,.bool r.2.1,.int .i64 r.2.2])∧m=r.1.length∧Rd w' w'.heap.size A r.1∧(∀ a,A=some a→w.heap.size≤a.block)∧Below w.heap.size w w'
set_option maxHeartbeats 4000000 in
theorem value_any (w:World) (A:Option Addr) (n c:Nat) (s:List UInt8) (hn:s.length=n) (hn4:n≤1000000) (hr:Rd w w.heap.size A s) (ht:PTab w) (hg1:0 < w.heap.size) :
  Calls Tryz.prog 36 #[.slice A n c] w (ValP w (valR (cutB s))):=by
 have cc:=cut_any w A n c s hn hn4 hr ht hg1
 have h4:(cutB s).length≤4000:=by
  unfold cutB
  split
  ·exact valB_len s
  ·simp
 have hc0:¬ padB (valB s)=s→cutB s = []:=fun h=>if_neg h
 obtain ⟨code,hcode⟩:∃ code:Int,(if padB (valB s)=s then (0:Int) else 2)=code:=⟨_,rfl⟩
 rw [hcode] at cc
 have hcc:(code=0)∨(code=2∧cutB s = []):=by
  by_cases h:padB (valB s)=s
  ·left;rw [← hcode,if_pos h]
  ·right;exact ⟨by rw [← hcode,if_neg h],hc0 h⟩
 clear hcode hc0
 unfold CutP at cc
 generalize cutB s=l at *
 clear hn hn4 hr ht
 cases l with
 | nil =>
  have e0:(([]:List UInt8).length:Nat)=0:=rfl
  rcases hcc with rfl | ⟨rfl,_⟩
  all_goals
   go_enter Tryz.func36,Tryz.ntmps36
   go_wp2_with (go_at_call 71;((with_reducible refine cc.mono ?_);clear cc;rintro e w2 ⟨A2,m2,c2,rfl,hm,hO,hB⟩;obtain rfl:m2=0:=hm;have X2:=hidxc_ hB;clear hO hB))
   go_ret3
   exact ⟨none,0,0,rfl,rfl,Rd.nil,fun a e=>(by cases e),X2.out⟩
 | cons b t =>
  obtain rfl:code=0:=hcc.elim id fun h=>by cases h.2
  have h4':t.length≤3999:=by simpa using h4
  obtain ⟨k,hk⟩:∃ k,t.length=k:=⟨_,rfl⟩
  have HK:=hidxc_ hk
  have hmm:(b :: t).length=k + 1:=by simp [hk]
  rw [hk] at h4'
  clear hcc h4 hk
  have lb:=b.toNat_lt
  by_cases h1:b=1
  ·subst h1
   rw [show valR (1 :: t)=(t,false,0) from rfl]
   go_enter Tryz.func36,Tryz.ntmps36
   go_wp2_with (go_at_call 71;((with_reducible refine cc.mono ?_);clear cc;rintro e w2 ⟨A2,m2,c2,rfl,hm,hO,hB⟩;obtain rfl:m2=k + 1:=hm.trans hmm;obtain ⟨g2,rfl⟩:=hO.block_ (by omega);have O2:=hidxc_ hO;have G2:=hidxc_ (World.ownsRow.lt hO g2 rfl).1;have X2:=hidxc_ hB;have hcap:=hO.cap;have cl0:=hO.rd.1.at_ (k:=0) (by simp);clear hO hB hm;obtain ⟨b2,off,e2,hb2,cl⟩:=cl0;injection e2 with e2;injection e2 with e3 e4 e5;subst e3;subst e4;clear hb2 e5;rw [show ((1 :: t:List UInt8).getD 0 0).toNat=1 from rfl] at cl))
   all_goals go_ret3
   ·have ht0:t = []:=List.eq_nil_of_length_eq_zero (by have:=HK.out;omega)
    exact ⟨_,_,_,rfl,HK.out.symm,by rw [ht0];exact Rd.nil,fun a e=>(by cases e;exact G2.out),X2.out⟩
   ·exact ⟨_,_,_,rfl,HK.out.symm,O2.out.rd.1.drop 1,fun a e=>(by cases e;exact G2.out),X2.out⟩
  ·by_cases h2:b=0∧t = []
   ·obtain ⟨rfl,rfl⟩:=h2
    obtain rfl:k=0:=HK.out.symm
    rw [show valR [0]=([],true,0) from rfl]
    go_enter Tryz.func36,Tryz.ntmps36
    go_wp2_with (go_at_call 71;((with_reducible refine cc.mono ?_);clear cc;rintro e w2 ⟨A2,m2,c2,rfl,hm,hO,hB⟩;obtain rfl:m2=1:=hm;obtain ⟨g2,rfl⟩:=hO.block_ (by omega);have O2:=hidxc_ hO;have X2:=hidxc_ hB;have cl0:=hO.rd.1.at_ (k:=0) (by simp);clear hO hB;obtain ⟨b2,off,e2,hb2,cl⟩:=cl0;injection e2 with e2;injection e2 with e3 e4 e5;subst e3;subst e4;clear hb2 e5;rw [show (([0]:List UInt8).getD 0 0).toNat=0 from rfl] at cl))
    go_ret3
    exact ⟨none,0,0,rfl,rfl,Rd.nil,fun a e=>(by cases e),X2.out⟩
   ·rw [show valR (b :: t)=([],false,2) by show (if b=1 then (t,false,(0:Int)) else if b=0∧t = [] then ([],true,0) else ([],false,2))=_;rw [if_neg h1,if_neg h2]]
    have hz1:b.toNat≠1:=fun h=>h1 (UInt8.toNat_inj.1 h)
    obtain ⟨z,hz⟩:∃ z,b.toNat=z:=⟨_,rfl⟩
    rw [hz] at hz1 lb
    have hzz:z=0→k≠0:=fun h h'=>h2 ⟨UInt8.toNat_inj.1 (by rw [hz,h];rfl),List.eq_nil_of_length_eq_zero (HK.out.trans h')⟩
    have HZ:=hidxc_ hz
    have d1:((z:Int) == 1)=false:=beq_false_of_ne (by omega)
    by_cases h3:z=0
    ·have h5:=hzz h3
     subst h3
     have d3:(((k + 1:Nat):Int) == 1)=false:=beq_false_of_ne (by omega)
     have d4:((k:Int) + 1 == 1)=false:=beq_false_of_ne (by omega)
     clear hz h1 h2 hzz
     go_enter Tryz.func36,Tryz.ntmps36
     go_wp2_with (go_at_call 71;((with_reducible refine cc.mono ?_);clear cc;rintro e w2 ⟨A2,m2,c2,rfl,hm,hO,hB⟩;obtain rfl:m2=k + 1:=hm.trans hmm;obtain ⟨g2,rfl⟩:=hO.block_ (by omega);have X2:=hidxc_ hB;have cl0:=hO.rd.1.at_ (k:=0) (by simp);clear hO hB hm;obtain ⟨b2,off,e2,hb2,cl⟩:=cl0;injection e2 with e2;injection e2 with e3 e4 e5;subst e3;subst e4;clear hb2 e5;rw [show ((b :: t:List UInt8).getD 0 0).toNat=0 from HZ.out] at cl))
     go_ret3
     exact ⟨none,0,0,rfl,rfl,Rd.nil,fun a e=>(by cases e),X2.out⟩
    ·have d3:((z:Int) == 0)=false:=beq_false_of_ne (by omega)
     clear hz h1 h2 hzz
     go_enter Tryz.func36,Tryz.ntmps36
     go_wp2_with (go_at_call 71;((with_reducible refine cc.mono ?_);clear cc;rintro e w2 ⟨A2,m2,c2,rfl,hm,hO,hB⟩;obtain rfl:m2=k + 1:=hm.trans hmm;obtain ⟨g2,rfl⟩:=hO.block_ (by omega);have X2:=hidxc_ hB;have cl0:=hO.rd.1.at_ (k:=0) (by simp);clear hO hB hm;obtain ⟨b2,off,e2,hb2,cl⟩:=cl0;injection e2 with e2;injection e2 with e3 e4 e5;subst e3;subst e4;clear hb2 e5;rw [show ((b :: t:List UInt8).getD 0 0).toNat=z from HZ.out] at cl))
     go_ret3
     exact ⟨none,0,0,rfl,rfl,Rd.nil,fun a e=>(by cases e),X2.out⟩
section
variable {id : Bool} {v sp nm kn : Nat} {K : List UInt8} {N : List (List UInt8)} {L : List SealV} {w : World} {F : List Nat}
def SealC (id:Bool) (v sp nm kn:Nat) (K:List UInt8) (N:List (List UInt8)) (L:List SealV) (w:World) (F:List Nat) (e c n:Int) (x b:List UInt8) (r:Ending) (w':World):Prop :=
 ∃ A d F',r = .returned (.tuple #[.slice A (sB id K L e c n x b).length d,.int .i64 (sE L e c n)])∧Own8 w' w.heap.size (.slice A (sB id K L e c n x b).length d) (sB id K L e c n x b)∧VS id v sp nm kn K N (sL id K L e c n x b) w' F'∧Grew w F F'∧Untouched F w w'∧∀ a,A=some a→w.heap.size≤a.block∧a.block < w'.heap.size∧a.block∉F'
theorem vseal_c (h:VS id v sp nm kn K N L w F) (Aw B:Option Addr) (na ca nb cb:Nat) (x b:List UInt8) (hx:x.length=na) (hb:b.length=nb) (hrx:Rd w w.heap.size Aw x) (hrb:Rd w w.heap.size B b) (hna:na≤100000) (hnb:nb≤100000) (hcb:nb≤cb) (hcm:cb≤9223372036854775807)
  (e c n:Int) (hLl:L.length≤100000) (ht:Tab w) (hg1:2 < w.heap.size) :
  Calls Tryz.prog 26 #[.pointer (some ⟨v,0,none⟩),.int .i64 e,.int .i64 c,.int .i64 n,.slice Aw na ca,.slice B nb cb] w (SealC id v sp nm kn K N L w F e c n x b):=by
 obtain ⟨nmo,kno,hbk,hK,hs⟩:=h.blk
 have no:∀ (z:Int) (r:Ending) (w':World),sE L e c n=z→sB id K L e c n x b = []→sL id K L e c n x b=L→r = .returned (.tuple #[.slice none 0 0,.int .i64 z])→Below w.heap.size w w'→SealC id v sp nm kn K N L w F e c n x b r w':=by
  intro z r w' h1 h2 h3 h4 h5
  refine ⟨none,0,F,?_,?_,?_,Grew.refl _ _,.of_below h5,fun a e=>by cases e⟩
  ·rw [h4,h1,h2];rfl
  ·rw [h2];exact Own8.nil_ w' w.heap.size
  ·rw [h3];exact (VS.foot id v sp nm kn K N L).keep h (Untouched.of_below (F:=[]) h5) (fun _ _=>by simp)
 by_cases hok:slOk e c n
 ·have hok':=hok
  obtain ⟨⟨he1,he2⟩,hc1,hc2,hn1,hn2⟩:=hok'
  obtain ⟨e,rfl⟩:∃ k:Nat,e=(k:Int):=⟨e.toNat,by omega⟩
  obtain ⟨c,rfl⟩:∃ k:Nat,c=(k:Int):=⟨c.toNat,by omega⟩
  obtain ⟨n,rfl⟩:∃ k:Nat,n=(k:Int):=⟨n.toNat,by omega⟩
  have ck:=keysOf_yes hbk hK e c n (by omega) (by omega) (by omega) (by omega) (by omega) (by omega) ht hg1
  by_cases hin:(c,n)∈L.map cn
  ·refine (vseal_spent hbk hK hs Aw B na ca nb cb e c n (by omega) (by omega) hin ck).mono ?_
   rintro r w' ⟨hr,hB⟩
   refine no 13 r w' ?_ ?_ ?_ hr hB
   ·unfold sE;rw [if_pos hok,if_pos (show ((c:Int).toNat,(n:Int).toNat)∈L.map cn from hin)]
   ·unfold sB;rw [if_neg (fun hh=>hh.2 hin)]
   ·unfold sL;rw [if_neg (fun hh=>hh.2 hin)]
  ·have hyes:slOk (e:Int) (c:Int) (n:Int)∧((c:Int).toNat,(n:Int).toNat)∉L.map cn:=⟨hok,hin⟩
   have e1:sE L (e:Int) (c:Int) (n:Int)=0:=by unfold sE;rw [if_pos hok,if_neg (show ((c:Int).toNat,(n:Int).toNat)∉L.map cn from hin)]
   have e2:sB id K L (e:Int) (c:Int) (n:Int) x b=sO id K L e c n x b:=by unfold sB;rw [if_pos hyes];rfl
   have e3:sL id K L (e:Int) (c:Int) (n:Int) x b=L ++ [⟨e,c,n,x,sO id K L e c n x b,b⟩]:=by unfold sL;rw [if_pos hyes];rfl
   have e4:(L ++ [(⟨e,c,n,x,sO id K L e c n x b,b⟩:SealV)]).map cn=L.map cn ++ [(c,n)]:=by simp [cn]
   have e5:=sO_len id K L e c n x b
   unfold SealC
   rw [e1,e2,e3,e5,hb]
   cases id
   ·refine (vseal_real h Aw B na ca nb cb x b hx hb hrx hrb hna hnb hcb hcm e c n (by omega) (by omega) (by omega) hin (by simpa using hLl) ck).mono ?_
    rintro r w' ⟨A,d,hr,ho,hv,hu⟩
    refine ⟨A,d,F,hr,ho,?_,Grew.refl _ _,hu,fun a ea=>⟨(ownX ho a ea).1,(ownX ho a ea).2,fun hm=>?_⟩⟩
    ·show VltR w' v sp K _ F
     rw [e4]
     exact hv
    ·have h1:=(ownX ho a ea).1
     have h2:=VltR.hF h a.block hm
     omega
   ·refine (vseal_ideal h Aw B na ca nb cb x b hx hb hrx hrb hna hnb e c n (by omega) (by omega) (by omega) hin (by simpa using hLl) hLl ck).mono ?_
    rintro r w' ⟨A,d,F',hr,ho,hni,hl⟩
    have e6:drawB K 1 ((L.map cn).length + 1) (nb + 8)=sO true K L e c n x b:=by unfold sO;rw [if_pos rfl,List.length_map,hb]
    rw [e6] at ho hl
    refine ⟨A,d,F',hr,ho,?_,hl.2.1,hl.2.2,fun a ea=>⟨(ownX ho a ea).1,(ownX ho a ea).2,hni a ea⟩⟩
    show VltI w' v sp nm kn K N _ _ F'
    rw [e4]
    exact hl.1
 ·refine (vseal_no Aw B na ca nb cb e c n (keys_no hbk hK e c n ht hg1 hok)).mono ?_
  rintro r w' ⟨hr,hB⟩
  refine no 1 r w' ?_ ?_ ?_ hr hB
  ·unfold sE;rw [if_neg hok]
  ·unfold sB;rw [if_neg (fun hh=>hok hh.1)]
  ·unfold sL;rw [if_neg (fun hh=>hok hh.1)]
end
theorem hidxd_ {p:Prop} (h:p):Hid p:=h
def eRow (K:List UInt8) (h:HeadV) (sa:Option Addr) (sn sc:Nat):Array Value:=((K.map fun b=>Value.int .u8 (b.toNat:Int)) ++ ([.int .i64 h.e,.int .i64 h.n,.int .i64 h.c,.int .i64 h.d,.slice h.pa h.pl.length h.pc,.slice sa sn sc]:List Value)).toArray
theorem eRow_size (K:List UInt8) (hK:K.length=32) (h:HeadV) (sa:Option Addr) (sn sc:Nat):(eRow K h sa sn sc).size=38:=by simp [eRow,hK]
theorem eRow_one (K:List UInt8) (h:HeadV) (sa:Option Addr) (sn sc:Nat):(eRow K h sa sn sc).all (·.oneCell')=true:=by
 simp [eRow,Value.oneCell',List.all_append]
def hd0:HeadV:=⟨0,0,0,0,none,[],0⟩
def eRow0:Array Value:=eRow (zbytes 32) hd0 none 0 0
theorem infoE:(Tryz.prog.info? 41).map (·.size)=some 38:=by kernel_rfl
theorem iE (K:List UInt8) (hK:K.length=32) (h:HeadV) (sa:Option Addr) (sn sc:Nat):(Tryz.prog.info? 41).map (·.size)=some (eRow K h sa sn sc).size:=by rw [eRow_size K hK];exact infoE
theorem built_e32 (a0 a1 a2 a3 a4 a5 a6 a7 a8 a9 a10 a11 a12 a13 a14 a15 a16 a17 a18 a19 a20 a21 a22 a23 a24 a25 a26 a27 a28 a29 a30 a31:UInt8) (h:HeadV) (sa:Option Addr) (sn sc:Nat) :
  Tryz.prog.built 41 [(0,.agg (rowOf [a0,a1,a2,a3,a4,a5,a6,a7,a8,a9,a10,a11,a12,a13,a14,a15,a16,a17,a18,a19,a20,a21,a22,a23,a24,a25,a26,a27,a28,a29,a30,a31])),(1,.agg h.row),(2,.slice sa sn sc)]=some (eRow [a0,a1,a2,a3,a4,a5,a6,a7,a8,a9,a10,a11,a12,a13,a14,a15,a16,a17,a18,a19,a20,a21,a22,a23,a24,a25,a26,a27,a28,a29,a30,a31] h sa sn sc):=by kernel_rfl
theorem built_e (K:List UInt8) (hK:K.length=32) (h:HeadV) (sa:Option Addr) (sn sc:Nat):Tryz.prog.built 41 [(0,.agg (rowOf K)),(1,.agg h.row),(2,.slice sa sn sc)]=some (eRow K h sa sn sc):=by
 match K,hK with
 | [a0,a1,a2,a3,a4,a5,a6,a7,a8,a9,a10,a11,a12,a13,a14,a15,a16,a17,a18,a19,a20,a21,a22,a23,a24,a25,a26,a27,a28,a29,a30,a31],_=>exact built_e32 a0 a1 a2 a3 a4 a5 a6 a7 a8 a9 a10 a11 a12 a13 a14 a15 a16 a17 a18 a19 a20 a21 a22 a23 a24 a25 a26 a27 a28 a29 a30 a31 h sa sn sc
theorem zeroE (W:World):(zeroValue 41).run Tryz.prog W = .ok (.agg eRow0) W:=by kernel_rfl
theorem iBl (K:List UInt8) (hK:K.length=32):(Tryz.prog.info? 39).map (·.size)=some (rowOf K).size:=by
 rw [rowOf_size,hK]
 kernel_rfl
theorem results_cell_slotE {P:Program} {fn:Func} {p q:Tmp} {ty:TypeId} (h:fn.results = #[.cell p ty,.tmp q]) (tmps:Array Value) (w:World) (g:Nat) {v v':Value}
  (hp:tmps.getD p undef = .pointer (some ⟨g,0,none⟩)) (hq:tmps.getD q undef=v')
  (h1:(loadVar ty ⟨g,0,none⟩).run P w = .ok v w) :
  (results fn tmps).run P w = .ok (.tuple #[v,v']) w:=by
 have hp':tmps[p]?.getD undef = .pointer (some ⟨g,0,none⟩):=by simpa using hp
 have hq':tmps[q]?.getD undef=v':=by simpa using hq
 simp [results,h,hp',hq',asAddr,h1]
theorem HeadV.put (h:HeadV) (A:Option Addr) (c:Nat):h.row.setIfInBounds 4 (.slice A h.pl.length c)=({ h with pa:=A,pc:=c }:HeadV).row:=rfl
set_option maxHeartbeats 4000000 in
theorem seal_no1 (w:World) (v:Nat) (A:Option Addr) (n c:Nat) (h:HeadV) (V:Value) (del:Bool) (hbad:¬ (1≤n∧n≤64)) :
  Calls Tryz.prog 8 #[.pointer (some ⟨v,0,none⟩),.slice A n c,.agg h.row,V,.bool del] w fun r w'=>r = .returned (.tuple #[.agg eRow0,.int .i64 1])∧Below w.heap.size w w':=by
 obtain ⟨g,hg⟩:∃ g,w.heap.size=g:=⟨_,rfl⟩
 obtain ⟨w1,hw1⟩:∃ W,w.alloc (.cells h.row 34)=W:=⟨_,rfl⟩
 obtain ⟨w2,hw2⟩:∃ W,w1.alloc (.cells eRow0 41)=W:=⟨_,rfl⟩
 have hz:=zeroE w1
 have s1:w1.heap.size=g + 1:=by rw [← hw1,← hg];simp
 have S2:w2.heap.size=g + 2:=by rw [← hw2];simp [s1]
 have b1:Below w.heap.size w w1:=by rw [← hw1];exact (Below.refl _ _).alloc (Nat.le_refl _) _
 have b2:Below w1.heap.size w1 w2:=by rw [← hw2];exact (Below.refl _ _).alloc (Nat.le_refl _) _
 have X2:=hidxd_ (b1.trans (b2.mono b1.size))
 have H2:=hidxd_ (show Bk w2 g 34 h.row by have k:=Bk.new w 34 h.row;rw [hw1,hg] at k;exact k.below b2 k.lt)
 have E2:=hidxd_ (show Bk w2 (g + 1) 41 eRow0 by have k:=Bk.new w1 41 eRow0;rw [hw2,s1] at k;exact k)
 have HG:=hidxd_ hg
 have ci:=isName_any w2 A n c
 rw [show (decide (1≤n) && decide (n≤64))=false by rw [← Bool.decide_and];exact decide_eq_false hbad] at ci
 clear b1 b2
 go_enter Tryz.func8,Tryz.ntmps8
 go_wp2_with (first
  | (go_at_call 20;((with_reducible refine ci.mono ?_);clear ci;rintro e w' ⟨rfl,rfl⟩))
  | (refine wpList_built rfl 41 #[] rfl eRow0 built_e0 ?_)
  | (refine wpList_put_row rfl 41 (.tmp 10) (.tmp 29) rfl (g + 1) eRow0 rfl rfl 41 eRow0 E2.out (iE _ rfl _ _ _ _) rfl (eRow_one _ _ _ _ _) ?_;intro w9 k9 g9 s9;have K9:=hidxd_ k9;have X9:=hidxd_ (X2.out.grown g9 X2.out.size (fun k hk=>by injection hk with hk;have:=HG.out;omega));clear k9 g9 s9))
 exact bodyPost_ret (results_cell_slotE Tryz.results8 _ _ (g + 1) rfl rfl (run_loadVar_row _ _ _ _ _ (0,0) _ K9.out Tryz.underlying41 rfl (iE _ rfl _ _ _ _))) rfl ⟨rfl,X9.out⟩
set_option maxHeartbeats 4000000 in
theorem seal_no2 (w:World) (v:Nat) (A:Option Addr) (n c:Nat) (h:HeadV) (V:Value) (del:Bool) (h1:1≤n) (h2:n≤64) (hbad:¬ h.Ok) :
  Calls Tryz.prog 8 #[.pointer (some ⟨v,0,none⟩),.slice A n c,.agg h.row,V,.bool del] w fun r w'=>r = .returned (.tuple #[.agg eRow0,.int .i64 1])∧Below w.heap.size w w':=by
 obtain ⟨g,hg⟩:∃ g,w.heap.size=g:=⟨_,rfl⟩
 obtain ⟨w1,hw1⟩:∃ W,w.alloc (.cells h.row 34)=W:=⟨_,rfl⟩
 obtain ⟨w2,hw2⟩:∃ W,w1.alloc (.cells eRow0 41)=W:=⟨_,rfl⟩
 have hz:=zeroE w1
 have s1:w1.heap.size=g + 1:=by rw [← hw1,← hg];simp
 have S2:w2.heap.size=g + 2:=by rw [← hw2];simp [s1]
 have b1:Below w.heap.size w w1:=by rw [← hw1];exact (Below.refl _ _).alloc (Nat.le_refl _) _
 have b2:Below w1.heap.size w1 w2:=by rw [← hw2];exact (Below.refl _ _).alloc (Nat.le_refl _) _
 have X2:=hidxd_ (b1.trans (b2.mono b1.size))
 have H2:=hidxd_ (show Bk w2 g 34 h.row by have k:=Bk.new w 34 h.row;rw [hw1,hg] at k;exact k.below b2 k.lt)
 have E2:=hidxd_ (show Bk w2 (g + 1) 41 eRow0 by have k:=Bk.new w1 41 eRow0;rw [hw2,s1] at k;exact k)
 have HG:=hidxd_ hg
 have ci:=isName_any w2 A n c
 rw [show (decide (1≤n) && decide (n≤64))=true by rw [← Bool.decide_and];exact decide_eq_true ⟨h1,h2⟩] at ci
 have ci2:=isHead_any w2 h
 rw [decide_eq_false hbad] at ci2
 clear b1 b2
 go_enter Tryz.func8,Tryz.ntmps8
 go_wp2_with (first
  | (go_at_call 20;((with_reducible refine ci.mono ?_);clear ci;rintro e w' ⟨rfl,rfl⟩))
  | (refine wpList_load_rowW (by go_simp) 34 (.tmp 7) rfl g rfl 34 h.row H2.out _ Tryz.underlying34 rfl (iHead h) ?_)
  | (go_at_call 21;((with_reducible refine ci2.mono ?_);clear ci2;rintro e w3 ⟨rfl,hB⟩;have X3:=hidxd_ (X2.out.trans (hB.mono X2.out.size));have E3:=hidxd_ (E2.out.below hB E2.out.lt);clear hB))
  | (refine wpList_built rfl 41 #[] rfl eRow0 built_e0 ?_)
  | (refine wpList_put_row rfl 41 (.tmp 10) (.tmp 29) rfl (g + 1) eRow0 rfl rfl 41 eRow0 E3.out (iE _ rfl _ _ _ _) rfl (eRow_one _ _ _ _ _) ?_;intro w9 k9 g9 s9;have K9:=hidxd_ k9;have X9:=hidxd_ (X3.out.grown g9 X3.out.size (fun k hk=>by injection hk with hk;have:=HG.out;omega));clear k9 g9 s9))
 exact bodyPost_ret (results_cell_slotE Tryz.results8 _ _ (g + 1) rfl rfl (run_loadVar_row _ _ _ _ _ (0,0) _ K9.out Tryz.underlying41 rfl (iE _ rfl _ _ _ _))) rfl ⟨rfl,X9.out⟩
def esP (del:Bool) (u:List UInt8):List UInt8:=padB (packB del u)
def esX (id:Bool) (K:List UInt8) (N:List (List UInt8)) (name:List UInt8) (h:HeadV):List UInt8:=boundB (bV id K N name) h
def EsP (id:Bool) (v sp nm kn:Nat) (K:List UInt8) (N:List (List UInt8)) (L:List SealV) (w:World) (F:List Nat) (name:List UInt8) (h:HeadV) (x b:List UInt8) (r:Ending) (w':World):Prop :=
 ∃ pa pc sa sc F',r = .returned (.tuple #[.agg (eRow (bV id K N name) { h with pa:=pa,pc:=pc } sa (sB id K L h.e h.c h.n x b).length sc),.int .i64 0])∧((sB id K L h.e h.c h.n x b).length≤sc∧sc≤9223372036854775807)∧RdF w' F' pa h.pl∧RdF w' F' sa (sB id K L h.e h.c h.n x b) ∧
  VS id v sp nm kn K (bN id N name) (sL id K L h.e h.c h.n x b) w' F'∧Grew w F F'∧Untouched F w w'
def EsW (id:Bool) (v sp nm kn:Nat) (K:List UInt8) (N:List (List UInt8)) (L:List SealV) (w:World) (F:List Nat) (name:List UInt8) (h:HeadV) (x b:List UInt8) (r:Ending) (w':World):Prop :=
 ∃ pa pc sa sc F',r = .returned (.tuple #[.agg (eRow (bV id K N name) { h with pa:=pa,pc:=pc } sa (sB id K L h.e h.c h.n x b).length sc),.int .i64 0])∧Own8 w' w.heap.size (.slice pa h.pl.length pc) h.pl∧Own8 w' w.heap.size (.slice sa (sB id K L h.e h.c h.n x b).length sc) (sB id K L h.e h.c h.n x b) ∧
  (∀ a,pa=some a→a.block∉F')∧(∀ a,sa=some a→a.block∉F')∧(∀ a b,pa=some a→sa=some b→a.block≠b.block)∧VS id v sp nm kn K (bN id N name) (sL id K L h.e h.c h.n x b) w' F'∧Grew w F F'∧Untouched F w w'
theorem HeadV.slOk {h:HeadV} (hok:h.Ok):slOk h.e h.c h.n:=⟨hok.1,hok.2.2.1.1,hok.2.2.1.2,hok.2.1.1,hok.2.1.2⟩
theorem rdf_of {w':World} {F':List Nat} {A:Option Addr} {l:List UInt8} (h:Rd w' w'.heap.size A l) (hA:∀ a,A=some a→a.block∉F'):RdF w' F' A l:=fun hn=>by
 obtain ⟨b,off,e,hb,hc⟩:=h hn
 exact ⟨b,off,e,hA _ e,hb,hc⟩
theorem EsW.p {id:Bool} {v sp nm kn:Nat} {K:List UInt8} {N:List (List UInt8)} {L:List SealV} {w w':World} {F:List Nat} {name:List UInt8} {h:HeadV} {x b:List UInt8} {r:Ending}:EsW id v sp nm kn K N L w F name h x b r w'→EsP id v sp nm kn K N L w F name h x b r w'
 | ⟨pa,pc,sa,sc,F',hr,hp,hs,np,ns,_,hV,hG,hU⟩=>⟨pa,pc,sa,sc,F',hr,hs.cap,rdf_of hp.rd.1 np,rdf_of hs.rd.1 ns,hV,hG,hU⟩
theorem nf_ {F F5:List Nat} {w4:World} {b k:Nat} (hF:∀ k∈F,k < b) (hG:Grew w4 F F5) (h1:b≤k) (h2:k < w4.heap.size):k∉F5:=fun hm=>(hG k hm).elim (fun h=>by have:=hF k h;omega) (fun h=>by omega)
theorem tab_un {w w':World} {F:List Nat} (h:Tab w) (hu:Untouched F w w') (hg:2 < w.heap.size) (hF:2∉F):Tab w':=fun t ht=>by
 rw [← h t ht]
 exact World.cell?_of_block (hu.block _ hg hF)
theorem esP_len (del:Bool) (u:List UInt8) (hu:u.length≤3999):(esP del u).length=clsS (packB del u).length:=padB_len _ (by have:=packB_len del u;omega)
set_option maxHeartbeats 16000000 in
theorem seal_own {id:Bool} {v sp nm kn:Nat} {K:List UInt8} {N:List (List UInt8)} {L:List SealV} {w:World} {F:List Nat} (hv:VS id v sp nm kn K N L w F) (A:Option Addr) (n c:Nat) (name:List UInt8) (hn:name.length=n) (h1:1≤n) (h2:n≤64) (hc:n≤c) (hcm:c≤9223372036854775807) (hr:Rd w w.heap.size A name)
  (h:HeadV) (hok:h.Ok) (hp:RdF w F h.pa h.pl) (Au:Option Addr) (nu cu:Nat) (u:List UInt8) (hu:u.length=nu) (hu4:nu≤3999) (hru:Rd w w.heap.size Au u) (del:Bool) (hN5:N.length≤100000) (hL5:L.length≤100000)
  (ht:Tab w) (hg1:2 < w.heap.size) (hpt:PTab w) (hg2:0 < w.heap.size) (hgF:2∉F) (hin:(h.c.toNat,h.n.toNat)∉L.map cn) :
  Calls Tryz.prog 8 #[.pointer (some ⟨v,0,none⟩),.slice A n c,.agg h.row,.slice Au nu cu,.bool del] w (EsW id v sp nm kn K N L w F name h (esX id K N name h) (esP del u)):=by
 obtain ⟨g,hg⟩:∃ g,w.heap.size=g:=⟨_,rfl⟩
 obtain ⟨w1,hw1⟩:∃ W,w.alloc (.cells h.row 34)=W:=⟨_,rfl⟩
 obtain ⟨w2,hw2⟩:∃ W,w1.alloc (.cells eRow0 41)=W:=⟨_,rfl⟩
 have hz:=zeroE w1
 have s1:w1.heap.size=g + 1:=by rw [← hw1,← hg];simp
 have S2:w2.heap.size=g + 2:=by rw [← hw2];simp [s1]
 have b1:Below w.heap.size w w1:=by rw [← hw1];exact (Below.refl _ _).alloc (Nat.le_refl _) _
 have b2:Below w1.heap.size w1 w2:=by rw [← hw2];exact (Below.refl _ _).alloc (Nat.le_refl _) _
 have X2:=hidxd_ (b1.trans (b2.mono b1.size))
 have H2:=hidxd_ (show Bk w2 g 34 h.row by have k:=Bk.new w 34 h.row;rw [hw1,hg] at k;exact k.below b2 k.lt)
 have E2:=hidxd_ (show Bk w2 (g + 1) 41 eRow0 by have k:=Bk.new w1 41 eRow0;rw [hw2,s1] at k;exact k)
 have HG:=hidxd_ hg
 have ci:=isName_any w2 A n c
 rw [show (decide (1≤n) && decide (n≤64))=true by rw [← Bool.decide_and];exact decide_eq_true ⟨h1,h2⟩] at ci
 have ci2:=isHead_any w2 h
 rw [decide_eq_true hok] at ci2
 have hbz:=zB
 have HN:=hidxd_ hn
 have RN:=hidxd_ hr
 have OK:=hidxd_ hok
 have RP:=hidxd_ hp
 have HU:=hidxd_ hu
 have RU:=hidxd_ hru
 have TB:=hidxd_ ht
 have PT:=hidxd_ hpt
 have VV:=hidxd_ hv
 have HF:=hidxd_ (fun k hk=>(VS.foot id v sp nm kn K N L).lt hv k hk)
 have BE:=hidxd_ (show bE name=0 by unfold bE;rw [if_neg (show ¬ nmBad name by unfold nmBad;omega)])
 obtain ⟨Kb,hKb⟩:∃ x,bV id K N name=x:=⟨_,rfl⟩
 have HKB:=hidxd_ hKb
 have KL:=hidxd_ (show Kb.length=32 by rw [← hKb];exact bV_len _ _ _ _)
 have IB:=hidxd_ (iBl Kb KL.out)
 have SB:=hidxd_ (show (rowOf (zbytes 32)).size=(rowOf Kb).size by rw [rowOf_size,rowOf_size,KL.out,zbytes_len])
 obtain ⟨X,hX⟩:∃ x,esX id K N name h=x:=⟨_,rfl⟩
 have HX:=hidxd_ (show boundB Kb h=X by rw [← hX,← hKb];rfl)
 obtain ⟨q,hq⟩:∃ q,X.length=q:=⟨_,rfl⟩
 have HXL:=hidxd_ hq
 have q4:q≤4164:=by rw [← hq,← HX.out,boundB_len Kb KL.out];have:=hok.2.2.2.2;omega
 obtain ⟨P,hP⟩:∃ x,esP del u=x:=⟨_,rfl⟩
 obtain ⟨m,hm⟩:∃ m,P.length=m:=⟨_,rfl⟩
 have HPL:=hidxd_ hm
 have m4:m≤4096:=by rw [← hm,← hP,esP_len del u (by omega)];exact clsS_le _
 have hmm:clsS (packB del u).length=m:=by rw [← hm,← hP,esP_len del u (by omega)]
 have HC1:=hidxd_ hmm
 have HC2:=hidxd_ (show padB (packB del u)=P from hP)
 rw [hX,hP]
 have SE:=hidxd_ (show sE L h.e h.c h.n=0 by unfold sE;rw [if_pos (HeadV.slOk OK.out),if_neg hin])
 obtain ⟨ns,hns⟩:∃ ns,(sB id K L h.e h.c h.n X P).length=ns:=⟨_,rfl⟩
 have HNS:=hidxd_ hns
 clear hns
 clear b1 b2 hn hr hok hp hu hru ht hpt hv hKb hX hq hP hm hmm hin h1 h2
 go_enter Tryz.func8,Tryz.ntmps8
 go_wp2_with (first
  | (go_at_call 20;((with_reducible refine ci.mono ?_);clear ci;rintro e w' ⟨rfl,rfl⟩))
  | (refine wpList_load_rowW (by go_simp) 34 (.tmp 7) rfl g rfl 34 h.row H2.out _ Tryz.underlying34 rfl (iHead h) ?_)
  | (go_at_call 21;((with_reducible refine ci2.mono ?_);clear ci2;rintro e w3 ⟨rfl,hB⟩;have X3:=hidxd_ (X2.out.trans (hB.mono X2.out.size));have E3:=hidxd_ (E2.out.below hB E2.out.lt);have H3:=hidxd_ (H2.out.below hB H2.out.lt);clear hB))
  | (go_at_call 22;have cp:=packed_any w3 Au nu cu u del HU.out hu4 ((RU.out.below X3.out).more X3.out.size) (PT.out.below X3.out hg2) (Nat.lt_of_lt_of_le hg2 X3.out.size);rw [HC1.out,HC2.out] at cp;((with_reducible refine cp.mono ?_);clear cp;rintro e w4 ⟨A4,c4,rfl,hO,hB⟩;have X4:=hidxd_ (X3.out.trans (hB.mono X3.out.size));have E4:=hidxd_ (E3.out.below hB E3.out.lt);have H4:=hidxd_ (H3.out.below hB H3.out.lt);obtain ⟨hc4,hc4m⟩:=hO.cap;have P4:=hidxd_ (rdf_of (F':=F) hO.rd.1 (fun a e hm=>by have h1:=(ownX hO a e).1;have h2:=HF.out _ hm;have h3:=X3.out.size;omega));clear hB hO;have V4:=hidxd_ ((VS.foot id v sp nm kn K N L).keep VV.out (Untouched.of_below (F:=[]) X4.out) (fun _ _=>by simp));have cb:=vblind_x V4.out A n c name HN.out hc hcm ((RN.out.below X4.out).more X4.out.size) hN5 (tab_un (F:=[]) TB.out (Untouched.of_below X4.out) hg1 (fun hm=>by cases hm)) (Nat.lt_of_lt_of_le hg1 X4.out.size);rw [BE.out,HKB.out] at cb))
  | (go_at_call 23;((with_reducible refine cb.mono ?_);clear cb;rintro e w5 ⟨rfl,F5,hV,hGr,hUn⟩;have V5:=hidxd_ hV;have G5:=hidxd_ ((Grew.refl w F).trans X4.out.size hGr);have U5:=hidxd_ ((Untouched.of_below (F:=F) X4.out).trans (Grew.refl w F) hUn);have n0:=hidxd_ (nf_ HF.out hGr (Nat.le_of_eq HG.out) H4.out.lt);have n1:=hidxd_ (nf_ HF.out hGr (by have:=HG.out;omega) E4.out.lt);have E5:=hidxd_ (E4.out.untouched hUn (fun hm=>by have:=HF.out _ hm;have:=HG.out;omega));have H5:=hidxd_ (H4.out.untouched hUn (fun hm=>by have:=HF.out _ hm;have:=HG.out;omega));have P5:=hidxd_ (P4.out.keep hUn hGr);have Q5:=hidxd_ (RP.out.keep U5.out G5.out);have L5:=hidxd_ (fun k hk=>(VS.foot id v sp nm kn K (bN id N name) L).lt hV k hk);clear hV hGr hUn))
  | (refine wpList_put_row rfl 39 (.tmp 14) (.tmp 44) rfl w5.heap.size (rowOf Kb) rfl rfl 39 (rowOf (zbytes 32)) (Bk.new w5 _ _) IB.out SB.out (bytes_one _) ?_;intro w6 k6 g6 s6;have X6:=hidxd_ (((Below.refl w5.heap.size w5).alloc (Nat.le_refl _) _).grown g6 (by simp) (fun k hk=>by injection hk with hk;omega));have K6:=hidxd_ k6;have H6:=hidxd_ (H5.out.below X6.out H5.out.lt);have Q6:=hidxd_ (Q5.out.keep (Untouched.of_below (F:=F5) X6.out) (Grew.refl w5 F5));have cu6:=bound_any w6 Kb KL.out h OK.out Q6.out.rd;rw [HX.out] at cu6;clear k6 g6 s6)
  | (refine wpList_load_rowW (by go_simp) 39 (.tmp 14) rfl w5.heap.size rfl 39 (rowOf Kb) K6.out _ Tryz.underlying39 rfl IB.out ?_)
  | (refine wpList_load_rowW (by go_simp) 34 (.tmp 7) rfl g rfl 34 h.row H6.out _ Tryz.underlying34 rfl (iHead h) ?_)
  | (go_at_call 24;((with_reducible refine cu6.mono ?_);clear cu6;rintro e w7 ⟨g8,F8,rfl,hO,hF8,hB⟩;have X7:=hidxd_ (X6.out.trans (hB.mono X6.out.size));have K7:=hidxd_ (K6.out.below hB K6.out.lt);have cd:Calls Tryz.prog 25 #[.pointer (some ⟨g8,0,none⟩)] w7 (fun e w'=>∃ A c,e = .returned (.tuple #[.slice A q c,.int .i64 0])∧Own8 w' w7.heap.size (.slice A q c) X∧Below w7.heap.size w7 w'):=done_any w7 g8 q X false F8 hO HXL.out (by omega);clear hO hF8 hB))
  | (go_at_call 25;((with_reducible refine cd.mono ?_);clear cd;rintro e w8 ⟨A9,c9,rfl,hO,hB⟩;have X8:=hidxd_ (X7.out.trans (hB.mono X7.out.size));have K8:=hidxd_ (K7.out.below hB K7.out.lt);have H8:=hidxd_ (H5.out.below X8.out H5.out.lt);have E8:=hidxd_ (E5.out.below X8.out E5.out.lt);have V8:=hidxd_ ((VS.foot id v sp nm kn K (bN id N name) L).keep V5.out (Untouched.of_below (F:=[]) X8.out) (fun _ _=>by simp));have P8:=hidxd_ (P5.out.keep (Untouched.of_below (F:=F5) X8.out) (Grew.refl w5 F5));have Q8:=hidxd_ (Q5.out.keep (Untouched.of_below (F:=F5) X8.out) (Grew.refl w5 F5));have U8:=hidxd_ (U5.out.trans G5.out (Untouched.of_below (F:=F5) X8.out));obtain ⟨k0,k1,k2,k3,k4⟩:=head_cells H8.out;have cs:=vseal_c V8.out A9 A4 q c9 m c4 X P HXL.out HPL.out hO.rd.1 P8.out.rd (by omega) (by omega) hc4 hc4m h.e h.c h.n hL5 (tab_un TB.out U8.out hg1 hgF) (Nat.lt_of_lt_of_le hg1 U8.out.size);unfold SealC at cs;rw [SE.out,HNS.out] at cs;clear hO hB))
  | (go_at_call 26;((with_reducible refine cs.mono ?_);clear cs k0 k1 k2 k3 k4;rintro e w9 ⟨A10,c10,F9,rfl,hO9,hV,hGr,hUn,hAp⟩;have O9:=hidxd_ hO9;have A9l:=hidxd_ (fun a e=>(hAp a e).2.1);have V9:=hidxd_ hV;have G9:=hidxd_ (G5.out.trans U8.out.size hGr);have U9:=hidxd_ (U8.out.trans G5.out hUn);have E9:=hidxd_ (E8.out.untouched hUn n1.out);have H9:=hidxd_ (H8.out.untouched hUn n0.out);have K9:=hidxd_ (K8.out.untouched hUn (fun hm=>by have:=L5.out _ hm;omega));have m0:=hidxd_ (fun hm=>(hGr g hm).elim n0.out (fun h=>by have:=H8.out.lt;omega));have m1:=hidxd_ (fun hm=>(hGr (g + 1) hm).elim n1.out (fun h=>by have:=E8.out.lt;omega));have Q9:=hidxd_ (Q8.out.keep hUn hGr);have A9p:=hidxd_ (fun a e=>(hAp a e).2.2);have L9:=hidxd_ (fun k hk=>(VS.foot id v sp nm kn K (bN id N name) (sL id K L h.e h.c h.n X P)).lt hV k hk);have k4:=(head_cells H9.out).2.2.2.2;have h8g:=E8.out.lt;have HS89:=hidxd_ hUn.size;clear hV hGr hUn hAp hO9))
  | (go_at_call 27;have cl:=clone_any h.pa h.pl.length h.pc h.pl w9 rfl Q9.out.rd (by have:=OK.out.2.2.2.2;omega);((with_reducible refine cl.mono ?_);clear cl;rintro e w10 ⟨A11,c11,rfl,hO,hB⟩;obtain ⟨w11,hw11⟩:∃ W,w10.setCell ⟨g,4,none⟩ (.slice A11 h.pl.length c11)=W:=⟨_,rfl⟩;have H10:=H9.out.below hB H9.out.lt;have U11:=hidxd_ (show Untouched [g,g + 1] w9 w11 from (Untouched.of_below (F:=[g,g + 1]) hB).trans (Grew.refl w9 _) (by rw [← hw11];exact Untouched.set g 4 (by simp) _));have H11:=hidxd_ (show Bk w11 g 34 ({ h with pa:=A11,pc:=c11 }:HeadV).row by rw [← hw11,← HeadV.put];exact H10.set_ 4 _);have E11:=hidxd_ (show Bk w11 (g + 1) 41 eRow0 by rw [← hw11];exact (E9.out.below hB E9.out.lt).untouched (Untouched.set (w:=w10) (F:=[g]) g 4 (by simp) _) (by simp));have K11:=hidxd_ (show Bk w11 w5.heap.size 39 (rowOf Kb) by rw [← hw11];exact (K9.out.below hB K9.out.lt).untouched (Untouched.set (w:=w10) (F:=[g]) g 4 (by simp) _) (fun hm=>by have:=List.mem_singleton.1 hm;have:=E5.out.lt;omega));have T11:=hidxd_ (show Untouched [g,g + 1] w10 w11 by rw [← hw11];exact Untouched.set g 4 (by simp) _);have O10:=hidxd_ hO;have B11:=hidxd_ (fun a e=>(ownX hO a e).1);have k4':=(head_cells H10).2.2.2.2;have kf:=H10.frozen 4;clear hO hB H10))
  | (refine wpList_load_rowW (by go_simp) 39 (.tmp 14) rfl w5.heap.size rfl 39 (rowOf Kb) K11.out _ Tryz.underlying39 rfl IB.out ?_)
  | (refine wpList_load_rowW (by go_simp) 34 (.tmp 7) rfl g rfl 34 ({ h with pa:=A11,pc:=c11 }:HeadV).row H11.out _ Tryz.underlying34 rfl (iHead _) ?_)
  | (refine wpList_built rfl 41 #[(0,.tmp 83),(1,.tmp 84),(2,.tmp 85)] rfl (eRow Kb { h with pa:=A11,pc:=c11 } A10 ns c10) (by simp only [List.map_toArray,List.map_cons,List.map_nil];exact built_e Kb KL.out _ _ _ _) ?_)
  | (refine wpList_put_row rfl 41 (.tmp 10) (.tmp 86) rfl (g + 1) (eRow Kb { h with pa:=A11,pc:=c11 } A10 ns c10) rfl rfl 41 eRow0 E11.out (iE _ KL.out _ _ _ _) (by rw [eRow_size _ KL.out];rfl) (eRow_one _ _ _ _ _) ?_;intro w12 k12 g12 s12;have K12:=hidxd_ k12;have V12:=hidxd_ (Untouched.of_grown (F:=[g,g + 1]) g12 (fun k hk=>by injection hk with hk;simp [hk]));have U12:=hidxd_ (U11.out.trans (Grew.refl w9 _) V12.out);clear k12 g12 s12))
 have hlt:∀ k∈[g,g + 1],k < w8.heap.size:=fun k hm=>by
  rcases List.mem_cons.1 hm with e | hm
  ·omega
  ·have:=List.mem_singleton.1 hm;omega
 have hs9:w8.heap.size≤w9.heap.size:=HS89.out
 have OP:=O10.out.untouched (T11.out.trans (Grew.refl w10 _) V12.out) (fun k hm=>Nat.lt_of_lt_of_le (hlt k hm) hs9)
 have OS:=O9.out.untouched U12.out hlt
 exact bodyPost_ret (results_cell_slotE Tryz.results8 _ _ (g + 1) rfl rfl (run_loadVar_row _ _ _ _ _ (0,0) _ K12.out Tryz.underlying41 rfl (iE _ KL.out _ _ _ _))) rfl ⟨A11,c11,A10,c10,F9,by rw [HKB.out,HNS.out];rfl,OP.lower (Nat.le_trans U8.out.size hs9),by rw [HNS.out];exact OS.lower U8.out.size,fun a e hm=>by have h1:=B11.out a e;have h2:=L9.out _ hm;omega,A9p.out,fun a b ea eb e=>by have h1:=B11.out a ea;have h2:=A9l.out b eb;omega,
  (VS.foot id v sp nm kn K (bN id N name) (sL id K L h.e h.c h.n X P)).keep V9.out U12.out (fun k hk hm=>by
   rcases List.mem_cons.1 hm with e | hm
   ·rw [e] at hk;exact m0.out hk
   ·rw [List.mem_singleton.1 hm] at hk;exact m1.out hk),G9.out,U9.out.trans (F':=[g,g + 1]) (fun k hk=>.inr (by
   rcases List.mem_cons.1 hk with e | hk
   ·rw [e];exact Nat.le_of_eq HG.out
   ·rw [List.mem_singleton.1 hk];have:=HG.out;omega)) U12.out⟩
theorem seal_yes {id:Bool} {v sp nm kn:Nat} {K:List UInt8} {N:List (List UInt8)} {L:List SealV} {w:World} {F:List Nat} (hv:VS id v sp nm kn K N L w F) (A:Option Addr) (n c:Nat) (name:List UInt8) (hn:name.length=n) (h1:1≤n) (h2:n≤64) (hc:n≤c) (hcm:c≤9223372036854775807) (hr:Rd w w.heap.size A name)
  (h:HeadV) (hok:h.Ok) (hp:RdF w F h.pa h.pl) (Au:Option Addr) (nu cu:Nat) (u:List UInt8) (hu:u.length=nu) (hu4:nu≤3999) (hru:Rd w w.heap.size Au u) (del:Bool) (hN5:N.length≤100000) (hL5:L.length≤100000)
  (ht:Tab w) (hg1:2 < w.heap.size) (hpt:PTab w) (hg2:0 < w.heap.size) (hgF:2∉F) (hin:(h.c.toNat,h.n.toNat)∉L.map cn) :
  Calls Tryz.prog 8 #[.pointer (some ⟨v,0,none⟩),.slice A n c,.agg h.row,.slice Au nu cu,.bool del] w (EsP id v sp nm kn K N L w F name h (esX id K N name h) (esP del u)) :=
 (seal_own hv A n c name hn h1 h2 hc hcm hr h hok hp Au nu cu u hu hu4 hru del hN5 hL5 ht hg1 hpt hg2 hgF hin).mono fun _ _ h=>h.p
theorem hidxe_ {p:Prop} (h:p):Hid p:=h
theorem eRow_hi (K:List UInt8) (hK:K.length=32) (h:HeadV) (sa:Option Addr) (sn sc j:Nat):(eRow K h sa sn sc)[32 + j]? = ([.int .i64 h.e,.int .i64 h.n,.int .i64 h.c,.int .i64 h.d,.slice h.pa h.pl.length h.pc,.slice sa sn sc]:List Value)[j]?:=by
 simp only [eRow,List.getElem?_toArray]
 rw [List.getElem?_append_right (by simp [hK])]
 simp [hK]
theorem eRow_lo (K:List UInt8) (hK:K.length=32) (h:HeadV) (sa:Option Addr) (sn sc j:Nat) (hj:j < 32):(eRow K h sa sn sc)[j]? = (rowOf K)[j]?:=by
 simp only [eRow,rowOf,List.getElem?_toArray]
 rw [List.getElem?_append_left (by simp [hK,hj])]
theorem env_cells {w:World} {g:Nat} {K:List UInt8} (hK:K.length=32) {h:HeadV} {sa:Option Addr} {sn sc:Nat} (k:Bk w g 41 (eRow K h sa sn sc)) :
  w.cell? ⟨g,32,none⟩=some (.int .i64 h.e)∧w.cell? ⟨g,33,none⟩=some (.int .i64 h.n)∧w.cell? ⟨g,34,none⟩=some (.int .i64 h.c)∧w.cell? ⟨g,36,none⟩=some (.slice h.pa h.pl.length h.pc)∧w.cell? ⟨g,37,none⟩=some (.slice sa sn sc) :=
 ⟨(k.cell 32).trans (eRow_hi K hK h sa sn sc 0),(k.cell 33).trans (eRow_hi K hK h sa sn sc 1),(k.cell 34).trans (eRow_hi K hK h sa sn sc 2),(k.cell 36).trans (eRow_hi K hK h sa sn sc 4),(k.cell 37).trans (eRow_hi K hK h sa sn sc 5)⟩
theorem env_head {w:World} {g:Nat} {K:List UInt8} (hK:K.length=32) {h:HeadV} {sa:Option Addr} {sn sc:Nat} (k:Bk w g 41 (eRow K h sa sn sc)):∀ j,j < h.row.size→w.cell? ⟨g,32 + j,none⟩=h.row[j]?:=fun j hj=>by
 rw [k.cell,eRow_hi K hK]
 have:j < 5:=hj
 rcases j with _ | _ | _ | _ | _ | j
 all_goals first
  | rfl
  | omega
theorem env_key {w:World} {g:Nat} {K:List UInt8} (hK:K.length=32) {h:HeadV} {sa:Option Addr} {sn sc:Nat} (k:Bk w g 41 (eRow K h sa sn sc)):∀ j,j < (rowOf K).size→w.cell? ⟨g,0 + j,none⟩=(rowOf K)[j]?:=fun j hj=>by
 rw [rowOf_size,hK] at hj
 rw [Nat.zero_add,k.cell,eRow_lo K hK _ _ _ _ j hj]
theorem neqB32 (l m:List UInt8) (hl:l.length=32) (hm:m.length=32) (b:Bool) (hb:(l == m) = !b) (W:World) :
  (binOp .neq 39 (.agg (rowOf l)) (.agg (rowOf m))).run Tryz.prog W = .ok (.bool b) W:=by
 rw [run_neq_struct,eqIB32 l m hl hm,hb]
 simp
theorem ptab_un {w w':World} {F:List Nat} (h:PTab w) (hu:Untouched F w w') (hg:0 < w.heap.size) (hF:0∉F):PTab w':=fun t ht=>by
 rw [← h t ht]
 exact World.cell?_of_block (hu.block _ hg hF)
theorem oT_len {id:Bool} {K:List UInt8} {L:List SealV} {e c n:Nat} {x s p:List UInt8} (h:oT id K L e c n x s=some p) (hLb:∀ t∈L,t.b.length≤100000) (hs:s.length≤100000):p.length≤100000:=by
 unfold oT at h
 split at h
 ·cases hf:L.find? (hitS e c n x s) with
  | none=>rw [hf] at h;cases h
  | some t =>
   rw [hf] at h
   obtain rfl:t.b=p:=by injection h
   exact hLb t (List.mem_of_find?_eq_some hf)
 ·split at h
  ·injection h with h
   rw [← h,streamB_len,List.length_take]
   omega
  ·cases h
set_option maxHeartbeats 4000000 in
theorem isEnv_no (w:World) (K:List UInt8) (hK:K.length=32) (h:HeadV) (sa:Option Addr) (sn sc:Nat) (hbad:¬ h.Ok) :
  Calls Tryz.prog 34 #[.agg (eRow K h sa sn sc)] w fun e w'=>e = .returned (.bool false)∧Below w.heap.size w w':=by
 obtain ⟨g,hg⟩:∃ g,w.heap.size=g:=⟨_,rfl⟩
 obtain ⟨w1,hw1⟩:∃ W,w.alloc (.cells (eRow K h sa sn sc) 41)=W:=⟨_,rfl⟩
 have X1:=hidxe_ (show Below w.heap.size w w1 by rw [← hw1];exact (Below.refl _ _).alloc (Nat.le_refl _) _)
 have K1:=hidxe_ (show Bk w1 g 41 (eRow K h sa sn sc) by rw [← hw1,← hg];exact Bk.new w _ _)
 have KH:=hidxe_ (env_head hK K1.out)
 have KL:=hidxe_ hK
 have ci:=isHead_any w1 h
 rw [decide_eq_false hbad] at ci
 clear hK
 go_enter Tryz.func34,Tryz.ntmps34
 go_wp2_with (first
  | (refine wpList_load_sub rfl 34 (.tmp 3) rfl g 32 rfl h.row KH.out _ Tryz.underlying34 rfl (iHead h) ?_)
  | (go_at_call 21;((with_reducible refine ci.mono ?_);clear ci;rintro e w2 ⟨rfl,hB⟩;have X2:=hidxe_ (X1.out.trans (hB.mono X1.out.size));clear hB)))
 go_ret
 exact ⟨rfl,X2.out⟩
set_option maxHeartbeats 4000000 in
theorem isEnv_ok (w:World) (K:List UInt8) (hK:K.length=32) (h:HeadV) (sa:Option Addr) (sn sc:Nat) (hok:h.Ok) :
  Calls Tryz.prog 34 #[.agg (eRow K h sa sn sc)] w fun e w'=>e = .returned (.bool (decide (16≤sn∧sn≤8192)))∧Below w.heap.size w w':=by
 obtain ⟨g,hg⟩:∃ g,w.heap.size=g:=⟨_,rfl⟩
 obtain ⟨w1,hw1⟩:∃ W,w.alloc (.cells (eRow K h sa sn sc) 41)=W:=⟨_,rfl⟩
 have X1:=hidxe_ (show Below w.heap.size w w1 by rw [← hw1];exact (Below.refl _ _).alloc (Nat.le_refl _) _)
 have K1:=hidxe_ (show Bk w1 g 41 (eRow K h sa sn sc) by rw [← hw1,← hg];exact Bk.new w _ _)
 have KH:=hidxe_ (env_head hK K1.out)
 have KL:=hidxe_ hK
 have ci:=isHead_any w1 h
 rw [decide_eq_true hok] at ci
 obtain ⟨b,hb⟩:∃ b,decide (16≤sn∧sn≤8192)=b:=⟨_,rfl⟩
 have DW:=hidxe_ (show decide ((16:Int)≤(sn:Int)∧(sn:Int)≤8192)=b by rw [← hb,decide_eq_decide];omega)
 rw [hb]
 clear hb
 clear hK
 go_enter Tryz.func34,Tryz.ntmps34
 go_wp2_with (first
  | (refine wpList_load_sub rfl 34 (.tmp 3) rfl g 32 rfl h.row KH.out _ Tryz.underlying34 rfl (iHead h) ?_)
  | (go_at_call 21;((with_reducible refine ci.mono ?_);clear ci;rintro e w2 ⟨rfl,hB⟩;have X2:=hidxe_ (X1.out.trans (hB.mono X1.out.size));have k5:=(env_cells KL.out (K1.out.below hB K1.out.lt)).2.2.2.2;have cw:=within_any w2 (sn:Int) 16 8192;rw [DW.out] at cw;clear hB))
  | (go_at_call 47;((with_reducible refine cw.mono ?_);clear cw;rintro e w3 ⟨rfl,rfl⟩)))
 go_ret
 exact ⟨rfl,X2.out⟩
def EnvOk (h:HeadV) (sn:Nat):Prop:=h.Ok∧16≤sn∧sn≤8192
instance (h:HeadV) (sn:Nat):Decidable (EnvOk h sn):=by unfold EnvOk;infer_instance
theorem isEnv_any (w:World) (K:List UInt8) (hK:K.length=32) (h:HeadV) (sa:Option Addr) (sn sc:Nat) :
  Calls Tryz.prog 34 #[.agg (eRow K h sa sn sc)] w fun e w'=>e = .returned (.bool (decide (EnvOk h sn)))∧Below w.heap.size w w':=by
 by_cases hok:h.Ok
 ·rw [show decide (EnvOk h sn)=decide (16≤sn∧sn≤8192) by rw [decide_eq_decide];exact ⟨fun x=>x.2,fun x=>⟨hok,x⟩⟩]
  exact isEnv_ok w K hK h sa sn sc hok
 ·rw [decide_eq_false (fun x:EnvOk h sn=>hok x.1)]
  exact isEnv_no w K hK h sa sn sc hok
set_option maxHeartbeats 4000000 in
theorem open_no1 (w:World) (v:Nat) (A:Option Addr) (n c:Nat) (Ke:List UInt8) (hKe:Ke.length=32) (h:HeadV) (sa:Option Addr) (sn sc:Nat) (hbad:¬ (1≤n∧n≤64)) :
  Calls Tryz.prog 11 #[.pointer (some ⟨v,0,none⟩),.slice A n c,.agg (eRow Ke h sa sn sc)] w fun r w'=>r = .returned (.tuple #[.slice none 0 0,.bool false,.int .i64 1])∧Below w.heap.size w w':=by
 obtain ⟨g,hg⟩:∃ g,w.heap.size=g:=⟨_,rfl⟩
 obtain ⟨w1,hw1⟩:∃ W,w.alloc (.cells (eRow Ke h sa sn sc) 41)=W:=⟨_,rfl⟩
 have X1:=hidxe_ (show Below w.heap.size w w1 by rw [← hw1];exact (Below.refl _ _).alloc (Nat.le_refl _) _)
 have K1:=hidxe_ (show Bk w1 g 41 (eRow Ke h sa sn sc) by rw [← hw1,← hg];exact Bk.new w _ _)
 have KE:=hidxe_ hKe
 have IE:=hidxe_ (iE Ke hKe h sa sn sc)
 have HG:=hidxe_ hg
 have ci:=isName_any w1 A n c
 rw [show (decide (1≤n) && decide (n≤64))=false by rw [← Bool.decide_and];exact decide_eq_false hbad] at ci
 go_enter Tryz.func11,Tryz.ntmps11
 go_wp2_with (first
  | (go_at_call 20;((with_reducible refine ci.mono ?_);clear ci;rintro e w' ⟨rfl,rfl⟩)))
 go_ret3
 exact ⟨rfl,X1.out⟩
set_option maxHeartbeats 4000000 in
theorem open_no2 (w:World) (v:Nat) (A:Option Addr) (n c:Nat) (Ke:List UInt8) (hKe:Ke.length=32) (h:HeadV) (sa:Option Addr) (sn sc:Nat) (h1:1≤n) (h2:n≤64) (hbad:¬ EnvOk h sn) :
  Calls Tryz.prog 11 #[.pointer (some ⟨v,0,none⟩),.slice A n c,.agg (eRow Ke h sa sn sc)] w fun r w'=>r = .returned (.tuple #[.slice none 0 0,.bool false,.int .i64 2])∧Below w.heap.size w w':=by
 obtain ⟨g,hg⟩:∃ g,w.heap.size=g:=⟨_,rfl⟩
 obtain ⟨w1,hw1⟩:∃ W,w.alloc (.cells (eRow Ke h sa sn sc) 41)=W:=⟨_,rfl⟩
 have X1:=hidxe_ (show Below w.heap.size w w1 by rw [← hw1];exact (Below.refl _ _).alloc (Nat.le_refl _) _)
 have K1:=hidxe_ (show Bk w1 g 41 (eRow Ke h sa sn sc) by rw [← hw1,← hg];exact Bk.new w _ _)
 have KE:=hidxe_ hKe
 have IE:=hidxe_ (iE Ke hKe h sa sn sc)
 have HG:=hidxe_ hg
 have ci:=isName_any w1 A n c
 rw [show (decide (1≤n) && decide (n≤64))=true by rw [← Bool.decide_and];exact decide_eq_true ⟨h1,h2⟩] at ci
 have ci2:=isEnv_any w1 Ke hKe h sa sn sc
 rw [decide_eq_false hbad] at ci2
 go_enter Tryz.func11,Tryz.ntmps11
 go_wp2_with (first
  | (go_at_call 20;((with_reducible refine ci.mono ?_);clear ci;rintro e w' ⟨rfl,rfl⟩))
  | (refine wpList_load_row rfl 41 (.tmp 5) rfl g rfl 41 (eRow Ke h sa sn sc) (0,0) _ K1.out Tryz.underlying41 rfl IE.out ?_)
  | (go_at_call 34;((with_reducible refine ci2.mono ?_);clear ci2;rintro e w2 ⟨rfl,hB⟩;have X2:=hidxe_ (X1.out.trans (hB.mono X1.out.size));clear hB)))
 go_ret3
 exact ⟨rfl,X2.out⟩
set_option maxHeartbeats 16000000 in
theorem open_key {id:Bool} {v sp nm kn:Nat} {K:List UInt8} {N:List (List UInt8)} {L:List SealV} {w:World} {F:List Nat} (hv:VS id v sp nm kn K N L w F) (A:Option Addr) (n c:Nat) (name:List UInt8) (hn:name.length=n) (h1:1≤n) (h2:n≤64) (hc:n≤c) (hcm:c≤9223372036854775807) (hr:Rd w w.heap.size A name)
  (Ke:List UInt8) (hKe:Ke.length=32) (h:HeadV) (sa:Option Addr) (sn sc:Nat) (s:List UInt8) (hs:s.length=sn) (hok:EnvOk h sn) (hp:RdF w F h.pa h.pl) (hsr:RdF w F sa s) (hsc:sn≤sc) (hscm:sc≤9223372036854775807) (hN5:N.length≤100000) (hLb:∀ t∈L,t.b.length≤100000)
  (ht:Tab w) (hg1:2 < w.heap.size) (hgF:2∉F) (hpt:PTab w) (hg2:0 < w.heap.size) (hgF2:0∉F) (hne:Ke≠bV id K N name) :
  Calls Tryz.prog 11 #[.pointer (some ⟨v,0,none⟩),.slice A n c,.agg (eRow Ke h sa sn sc)] w fun r w'=>r = .returned (.tuple #[.slice none 0 0,.bool false,.int .i64 6])∧Leaves (VS id v sp nm kn K (bN id N name) L) w F w':=by
 obtain ⟨g,hg⟩:∃ g,w.heap.size=g:=⟨_,rfl⟩
 obtain ⟨w1,hw1⟩:∃ W,w.alloc (.cells (eRow Ke h sa sn sc) 41)=W:=⟨_,rfl⟩
 have X1:=hidxe_ (show Below w.heap.size w w1 by rw [← hw1];exact (Below.refl _ _).alloc (Nat.le_refl _) _)
 have K1:=hidxe_ (show Bk w1 g 41 (eRow Ke h sa sn sc) by rw [← hw1,← hg];exact Bk.new w _ _)
 have KE:=hidxe_ hKe
 have IE:=hidxe_ (iE Ke hKe h sa sn sc)
 have HG:=hidxe_ hg
 have ci:=isName_any w1 A n c
 rw [show (decide (1≤n) && decide (n≤64))=true by rw [← Bool.decide_and];exact decide_eq_true ⟨h1,h2⟩] at ci
 have ci2:=isEnv_any w1 Ke hKe h sa sn sc
 rw [decide_eq_true hok] at ci2
 have hbz:=zB
 have HN:=hidxe_ hn
 have RN:=hidxe_ hr
 have OK:=hidxe_ hok
 have RP:=hidxe_ hp
 have RS_:=hidxe_ hsr
 have HSL:=hidxe_ hs
 have TB:=hidxe_ ht
 have PT:=hidxe_ hpt
 have VV:=hidxe_ hv
 have hLb:=hidxe_ hLb
 have HF:=hidxe_ (fun k hk=>(VS.foot id v sp nm kn K N L).lt hv k hk)
 have BE:=hidxe_ (show bE name=0 by unfold bE;rw [if_neg (show ¬ nmBad name by unfold nmBad;omega)])
 obtain ⟨Kb,hKb⟩:∃ x,bV id K N name=x:=⟨_,rfl⟩
 have HKB:=hidxe_ hKb
 have KL:=hidxe_ (show Kb.length=32 by rw [← hKb];exact bV_len _ _ _ _)
 have IB:=hidxe_ (iBl Kb KL.out)
 have IK:=hidxe_ (iBl Ke hKe)
 have SB:=hidxe_ (show (rowOf (zbytes 32)).size=(rowOf Kb).size by rw [rowOf_size,rowOf_size,KL.out,zbytes_len])
 have hnq:=neqB32 Ke Kb KE.out KL.out true (by rw [beq_false_of_ne (by rw [← hKb] ;exact hne)];rfl)
 clear hn hr hok hp hsr hs ht hpt hv hKb hKe h1 h2 hne
 go_enter Tryz.func11,Tryz.ntmps11
 go_wp2_with (first
  | (go_at_call 20;((with_reducible refine ci.mono ?_);clear ci;rintro e w' ⟨rfl,rfl⟩))
  | (refine wpList_load_row rfl 41 (.tmp 5) rfl g rfl 41 (eRow Ke h sa sn sc) (0,0) _ K1.out Tryz.underlying41 rfl IE.out ?_)
  | (go_at_call 34;((with_reducible refine ci2.mono ?_);clear ci2;rintro e w2 ⟨rfl,hB⟩;have X2:=hidxe_ (X1.out.trans (hB.mono X1.out.size));have K2:=hidxe_ (K1.out.below hB K1.out.lt);clear hB;have V2:=hidxe_ ((VS.foot id v sp nm kn K N L).keep VV.out (Untouched.of_below (F:=[]) X2.out) (fun _ _=>by simp));have cb:=vblind_x V2.out A n c name HN.out hc hcm ((RN.out.below X2.out).more X2.out.size) hN5 (tab_un (F:=[]) TB.out (Untouched.of_below X2.out) hg1 (fun hm=>by cases hm)) (Nat.lt_of_lt_of_le hg1 X2.out.size);rw [BE.out,HKB.out] at cb))
  | (go_at_call 23;((with_reducible refine cb.mono ?_);clear cb;rintro e w3 ⟨rfl,F3,hV,hGr,hUn⟩;have V3:=hidxe_ hV;have G3:=hidxe_ ((Grew.refl w F).trans X2.out.size hGr);have U3:=hidxe_ ((Untouched.of_below (F:=F) X2.out).trans (Grew.refl w F) hUn);have K3:=hidxe_ (K2.out.untouched hUn (fun hm=>by have:=HF.out _ hm;have:=HG.out;omega));clear hV hGr hUn))
  | (refine wpList_put_row rfl 39 (.tmp 9) (.tmp 27) rfl w3.heap.size (rowOf Kb) rfl rfl 39 (rowOf (zbytes 32)) (Bk.new w3 _ _) IB.out SB.out (bytes_one _) ?_;intro w4 k4 g4 s4;have X4:=hidxe_ (((Below.refl w3.heap.size w3).alloc (Nat.le_refl _) _).grown g4 (by simp) (fun k hk=>by injection hk with hk;omega));have B4:=hidxe_ k4;have K4:=hidxe_ (K3.out.below X4.out K3.out.lt);have C4:=hidxe_ (env_key KE.out K4.out);have D4:=hidxe_ (env_head KE.out K4.out);clear k4 g4 s4)
  | (refine wpList_load_sub rfl 39 (.tmp 32) rfl g 0 rfl (rowOf Ke) C4.out _ Tryz.underlying39 rfl IK.out ?_)
  | (refine wpList_load_row rfl 39 (.tmp 9) rfl w3.heap.size rfl 39 (rowOf Kb) (0,0) _ B4.out Tryz.underlying39 rfl IB.out ?_))
 go_ret3
 exact ⟨rfl,F3,(VS.foot id v sp nm kn K (bN id N name) L).keep V3.out (Untouched.of_below (F:=[]) X4.out) (fun _ _=>by simp),G3.out,U3.out.trans G3.out (Untouched.of_below (F:=F3) X4.out)⟩
set_option maxHeartbeats 16000000 in
theorem open_vno {id:Bool} {v sp nm kn:Nat} {K:List UInt8} {N:List (List UInt8)} {L:List SealV} {w:World} {F:List Nat} (hv:VS id v sp nm kn K N L w F) (A:Option Addr) (n c:Nat) (name:List UInt8) (hn:name.length=n) (h1:1≤n) (h2:n≤64) (hc:n≤c) (hcm:c≤9223372036854775807) (hr:Rd w w.heap.size A name)
  (Ke:List UInt8) (hKe:Ke.length=32) (h:HeadV) (sa:Option Addr) (sn sc:Nat) (s:List UInt8) (hs:s.length=sn) (hok:EnvOk h sn) (hp:RdF w F h.pa h.pl) (hsr:RdF w F sa s) (hsc:sn≤sc) (hscm:sc≤9223372036854775807) (hN5:N.length≤100000) (hLb:∀ t∈L,t.b.length≤100000)
  (ht:Tab w) (hg1:2 < w.heap.size) (hgF:2∉F) (hpt:PTab w) (hg2:0 < w.heap.size) (hgF2:0∉F) (hke:Ke=bV id K N name) (hot:oT id K L h.e.toNat h.c.toNat h.n.toNat (boundB Ke h) s=none) :
  Calls Tryz.prog 11 #[.pointer (some ⟨v,0,none⟩),.slice A n c,.agg (eRow Ke h sa sn sc)] w fun r w'=>r = .returned (.tuple #[.slice none 0 0,.bool false,.int .i64 6])∧Leaves (VS id v sp nm kn K (bN id N name) L) w F w':=by
 obtain ⟨g,hg⟩:∃ g,w.heap.size=g:=⟨_,rfl⟩
 obtain ⟨w1,hw1⟩:∃ W,w.alloc (.cells (eRow Ke h sa sn sc) 41)=W:=⟨_,rfl⟩
 have X1:=hidxe_ (show Below w.heap.size w w1 by rw [← hw1];exact (Below.refl _ _).alloc (Nat.le_refl _) _)
 have K1:=hidxe_ (show Bk w1 g 41 (eRow Ke h sa sn sc) by rw [← hw1,← hg];exact Bk.new w _ _)
 have KE:=hidxe_ hKe
 have IE:=hidxe_ (iE Ke hKe h sa sn sc)
 have HG:=hidxe_ hg
 have ci:=isName_any w1 A n c
 rw [show (decide (1≤n) && decide (n≤64))=true by rw [← Bool.decide_and];exact decide_eq_true ⟨h1,h2⟩] at ci
 have ci2:=isEnv_any w1 Ke hKe h sa sn sc
 rw [decide_eq_true hok] at ci2
 have hbz:=zB
 have HN:=hidxe_ hn
 have RN:=hidxe_ hr
 have OK:=hidxe_ hok
 have RP:=hidxe_ hp
 have RS_:=hidxe_ hsr
 have HSL:=hidxe_ hs
 have TB:=hidxe_ ht
 have PT:=hidxe_ hpt
 have VV:=hidxe_ hv
 have hLb:=hidxe_ hLb
 have HF:=hidxe_ (fun k hk=>(VS.foot id v sp nm kn K N L).lt hv k hk)
 have BE:=hidxe_ (show bE name=0 by unfold bE;rw [if_neg (show ¬ nmBad name by unfold nmBad;omega)])
 obtain ⟨Kb,hKb⟩:∃ x,bV id K N name=x:=⟨_,rfl⟩
 have HKB:=hidxe_ hKb
 have KL:=hidxe_ (show Kb.length=32 by rw [← hKb];exact bV_len _ _ _ _)
 have IB:=hidxe_ (iBl Kb KL.out)
 have IK:=hidxe_ (iBl Ke hKe)
 have SB:=hidxe_ (show (rowOf (zbytes 32)).size=(rowOf Kb).size by rw [rowOf_size,rowOf_size,KL.out,zbytes_len])
 have hnq:=neqB32 Ke Kb KE.out KL.out false (by rw [hke,hKb];exact beq_self_eq_true _)
 obtain ⟨X,hX⟩:∃ x,boundB Ke h=x:=⟨_,rfl⟩
 have HX:=hidxe_ (show boundB Kb h=X by rw [← hX,hke,hKb])
 obtain ⟨q,hq⟩:∃ q,X.length=q:=⟨_,rfl⟩
 have HXL:=hidxe_ hq
 have q4:q≤4164:=by rw [← hq,← HX.out,boundB_len Kb KL.out];have:=OK.out.1.2.2.2.2;omega
 rw [hX] at hot
 have h16:¬ s.length < 16:=by have:=OK.out.2.1;omega
 have OE:=hidxe_ (show oE id K L h.e h.c h.n X s=6 by unfold oE;rw [if_pos (HeadV.slOk OK.out.1),if_neg h16,hot];rfl)
 have OB:=hidxe_ (show oB id K L h.e h.c h.n X s = [] by unfold oB;rw [if_pos (HeadV.slOk OK.out.1),if_neg h16,hot];rfl)
 clear hn hr hok hp hsr hs ht hpt hv hKb hKe h1 h2 hke hX hq hot h16
 go_enter Tryz.func11,Tryz.ntmps11
 go_wp2_with (first
  | (go_at_call 20;((with_reducible refine ci.mono ?_);clear ci;rintro e w' ⟨rfl,rfl⟩))
  | (refine wpList_load_row rfl 41 (.tmp 5) rfl g rfl 41 (eRow Ke h sa sn sc) (0,0) _ K1.out Tryz.underlying41 rfl IE.out ?_)
  | (go_at_call 34;((with_reducible refine ci2.mono ?_);clear ci2;rintro e w2 ⟨rfl,hB⟩;have X2:=hidxe_ (X1.out.trans (hB.mono X1.out.size));have K2:=hidxe_ (K1.out.below hB K1.out.lt);clear hB;have V2:=hidxe_ ((VS.foot id v sp nm kn K N L).keep VV.out (Untouched.of_below (F:=[]) X2.out) (fun _ _=>by simp));have cb:=vblind_x V2.out A n c name HN.out hc hcm ((RN.out.below X2.out).more X2.out.size) hN5 (tab_un (F:=[]) TB.out (Untouched.of_below X2.out) hg1 (fun hm=>by cases hm)) (Nat.lt_of_lt_of_le hg1 X2.out.size);rw [BE.out,HKB.out] at cb))
  | (go_at_call 23;((with_reducible refine cb.mono ?_);clear cb;rintro e w3 ⟨rfl,F3,hV,hGr,hUn⟩;have V3:=hidxe_ hV;have G3:=hidxe_ ((Grew.refl w F).trans X2.out.size hGr);have U3:=hidxe_ ((Untouched.of_below (F:=F) X2.out).trans (Grew.refl w F) hUn);have K3:=hidxe_ (K2.out.untouched hUn (fun hm=>by have:=HF.out _ hm;have:=HG.out;omega));clear hV hGr hUn))
  | (refine wpList_put_row rfl 39 (.tmp 9) (.tmp 27) rfl w3.heap.size (rowOf Kb) rfl rfl 39 (rowOf (zbytes 32)) (Bk.new w3 _ _) IB.out SB.out (bytes_one _) ?_;intro w4 k4 g4 s4;have X4:=hidxe_ (((Below.refl w3.heap.size w3).alloc (Nat.le_refl _) _).grown g4 (by simp) (fun k hk=>by injection hk with hk;omega));have B4:=hidxe_ k4;have K4:=hidxe_ (K3.out.below X4.out K3.out.lt);have C4:=hidxe_ (env_key KE.out K4.out);have D4:=hidxe_ (env_head KE.out K4.out);clear k4 g4 s4;have Q4:=hidxe_ ((RP.out.keep U3.out G3.out).keep (Untouched.of_below (F:=F3) X4.out) (Grew.refl w3 F3));have cu4:=bound_any w4 Kb KL.out h OK.out.1 Q4.out.rd;rw [HX.out] at cu4)
  | (refine wpList_load_sub rfl 39 (.tmp 32) rfl g 0 rfl (rowOf Ke) C4.out _ Tryz.underlying39 rfl IK.out ?_)
  | (refine wpList_load_row rfl 39 (.tmp 9) rfl w3.heap.size rfl 39 (rowOf Kb) (0,0) _ B4.out Tryz.underlying39 rfl IB.out ?_)
  | (refine wpList_load_sub rfl 34 (.tmp 38) rfl g 32 rfl h.row D4.out _ Tryz.underlying34 rfl (iHead h) ?_)
  | (go_at_call 24;((with_reducible refine cu4.mono ?_);clear cu4;rintro e w5 ⟨g8,F8,rfl,hO,hF8,hB⟩;have X5:=hidxe_ (X4.out.trans (hB.mono X4.out.size));have cd:Calls Tryz.prog 25 #[.pointer (some ⟨g8,0,none⟩)] w5 (fun e w'=>∃ A c,e = .returned (.tuple #[.slice A q c,.int .i64 0])∧Own8 w' w5.heap.size (.slice A q c) X∧Below w5.heap.size w5 w'):=done_any w5 g8 q X false F8 hO HXL.out (by omega);clear hO hF8 hB))
  | (go_at_call 25;((with_reducible refine cd.mono ?_);clear cd;rintro e w6 ⟨A9,c9,rfl,hO,hB⟩;have X6:=hidxe_ (X5.out.trans (hB.mono X5.out.size));have K6:=hidxe_ (K3.out.below X6.out K3.out.lt);have V6:=hidxe_ ((VS.foot id v sp nm kn K (bN id N name) L).keep V3.out (Untouched.of_below (F:=[]) X6.out) (fun _ _=>by simp));have U6:=hidxe_ (U3.out.trans G3.out (Untouched.of_below (F:=F3) X6.out));have S6:=hidxe_ ((RS_.out.keep U3.out G3.out).keep (Untouched.of_below (F:=F3) X6.out) (Grew.refl w3 F3));obtain ⟨k0,k1,k2,k3,k5⟩:=env_cells KE.out K6.out;have cs:=vopen_x V6.out A9 sa q c9 sn sc X s HXL.out HSL.out hO.rd.1 S6.out.rd (by omega) (by have:=OK.out.2.2;omega) hsc hscm hLb.out h.e h.c h.n (tab_un TB.out U6.out hg1 hgF) (Nat.lt_of_lt_of_le hg1 U6.out.size);rw [OE.out,OB.out] at cs;clear hO hB))
  | (go_at_call 35;((with_reducible refine cs.mono ?_);clear cs k0 k1 k2 k3 k5;rintro e w7 ⟨A7,d7,rfl,hR,hB⟩;have V7:=hidxe_ ((VS.foot id v sp nm kn K (bN id N name) L).keep V6.out (Untouched.of_below (F:=[]) hB) (fun _ _=>by simp));have U7:=hidxe_ (U6.out.trans G3.out (Untouched.of_below (F:=F3) hB));clear hR hB)))
 go_ret3
 exact ⟨rfl,F3,V7.out,G3.out,U7.out⟩
set_option maxHeartbeats 16000000 in
theorem open_yesF {id:Bool} {v sp nm kn:Nat} {K:List UInt8} {N:List (List UInt8)} {L:List SealV} {w:World} {F:List Nat} (hv:VS id v sp nm kn K N L w F) (A:Option Addr) (n c:Nat) (name:List UInt8) (hn:name.length=n) (h1:1≤n) (h2:n≤64) (hc:n≤c) (hcm:c≤9223372036854775807) (hr:Rd w w.heap.size A name)
  (Ke:List UInt8) (hKe:Ke.length=32) (h:HeadV) (sa:Option Addr) (sn sc:Nat) (s:List UInt8) (hs:s.length=sn) (hok:EnvOk h sn) (hp:RdF w F h.pa h.pl) (hsr:RdF w F sa s) (hsc:sn≤sc) (hscm:sc≤9223372036854775807) (hN5:N.length≤100000) (hLb:∀ t∈L,t.b.length≤100000)
  (ht:Tab w) (hg1:2 < w.heap.size) (hgF:2∉F) (hpt:PTab w) (hg2:0 < w.heap.size) (hgF2:0∉F) (hke:Ke=bV id K N name) (p:List UInt8) (hot:oT id K L h.e.toNat h.c.toNat h.n.toNat (boundB Ke h) s=some p) :
  Calls Tryz.prog 11 #[.pointer (some ⟨v,0,none⟩),.slice A n c,.agg (eRow Ke h sa sn sc)] w fun r w'=>∃ A m c F',r = .returned (.tuple #[.slice A m c,.bool (valR (cutB p)).2.1,.int .i64 (valR (cutB p)).2.2])∧m=(valR (cutB p)).1.length∧(∀ a,A=some a→w.heap.size≤a.block)∧RdF w' F' A (valR (cutB p)).1∧VS id v sp nm kn K (bN id N name) L w' F'∧Grew w F F'∧Untouched F w w':=by
 obtain ⟨g,hg⟩:∃ g,w.heap.size=g:=⟨_,rfl⟩
 obtain ⟨w1,hw1⟩:∃ W,w.alloc (.cells (eRow Ke h sa sn sc) 41)=W:=⟨_,rfl⟩
 have X1:=hidxe_ (show Below w.heap.size w w1 by rw [← hw1];exact (Below.refl _ _).alloc (Nat.le_refl _) _)
 have K1:=hidxe_ (show Bk w1 g 41 (eRow Ke h sa sn sc) by rw [← hw1,← hg];exact Bk.new w _ _)
 have KE:=hidxe_ hKe
 have IE:=hidxe_ (iE Ke hKe h sa sn sc)
 have HG:=hidxe_ hg
 have ci:=isName_any w1 A n c
 rw [show (decide (1≤n) && decide (n≤64))=true by rw [← Bool.decide_and];exact decide_eq_true ⟨h1,h2⟩] at ci
 have ci2:=isEnv_any w1 Ke hKe h sa sn sc
 rw [decide_eq_true hok] at ci2
 have hbz:=zB
 have HN:=hidxe_ hn
 have RN:=hidxe_ hr
 have OK:=hidxe_ hok
 have RP:=hidxe_ hp
 have RS_:=hidxe_ hsr
 have HSL:=hidxe_ hs
 have TB:=hidxe_ ht
 have PT:=hidxe_ hpt
 have VV:=hidxe_ hv
 have hLb:=hidxe_ hLb
 have HF:=hidxe_ (fun k hk=>(VS.foot id v sp nm kn K N L).lt hv k hk)
 have BE:=hidxe_ (show bE name=0 by unfold bE;rw [if_neg (show ¬ nmBad name by unfold nmBad;omega)])
 obtain ⟨Kb,hKb⟩:∃ x,bV id K N name=x:=⟨_,rfl⟩
 have HKB:=hidxe_ hKb
 have KL:=hidxe_ (show Kb.length=32 by rw [← hKb];exact bV_len _ _ _ _)
 have IB:=hidxe_ (iBl Kb KL.out)
 have IK:=hidxe_ (iBl Ke hKe)
 have SB:=hidxe_ (show (rowOf (zbytes 32)).size=(rowOf Kb).size by rw [rowOf_size,rowOf_size,KL.out,zbytes_len])
 have hnq:=neqB32 Ke Kb KE.out KL.out false (by rw [hke,hKb];exact beq_self_eq_true _)
 obtain ⟨X,hX⟩:∃ x,boundB Ke h=x:=⟨_,rfl⟩
 have HX:=hidxe_ (show boundB Kb h=X by rw [← hX,hke,hKb])
 obtain ⟨q,hq⟩:∃ q,X.length=q:=⟨_,rfl⟩
 have HXL:=hidxe_ hq
 have q4:q≤4164:=by rw [← hq,← HX.out,boundB_len Kb KL.out];have:=OK.out.1.2.2.2.2;omega
 rw [hX] at hot
 have h16:¬ s.length < 16:=by have:=OK.out.2.1;omega
 have OE:=hidxe_ (show oE id K L h.e h.c h.n X s=0 by unfold oE;rw [if_pos (HeadV.slOk OK.out.1),if_neg h16,hot];rfl)
 obtain ⟨pn,hpn0⟩:∃ k,p.length=k:=⟨_,rfl⟩
 have HPN:=hidxe_ hpn0
 have hpn:pn≤1000000:=by rw [← hpn0];have:=oT_len hot hLb.out (by have:=OK.out.2.2;omega);omega
 have OB:=hidxe_ (show oB id K L h.e h.c h.n X s=p by unfold oB;rw [if_pos (HeadV.slOk OK.out.1),if_neg h16,hot];rfl)
 obtain ⟨vr,hvr⟩:∃ r,valR (cutB p)=r:=⟨_,rfl⟩
 have HVR:=hidxe_ hvr
 rw [hvr]
 obtain ⟨vl,vb,ve⟩:=vr
 clear hn hr hok hp hsr hs ht hpt hv hKb hKe h1 h2 hke hX hq hot h16 hpn0 hvr
 go_enter Tryz.func11,Tryz.ntmps11
 go_wp2_with (first
  | (go_at_call 20;((with_reducible refine ci.mono ?_);clear ci;rintro e w' ⟨rfl,rfl⟩))
  | (refine wpList_load_row rfl 41 (.tmp 5) rfl g rfl 41 (eRow Ke h sa sn sc) (0,0) _ K1.out Tryz.underlying41 rfl IE.out ?_)
  | (go_at_call 34;((with_reducible refine ci2.mono ?_);clear ci2;rintro e w2 ⟨rfl,hB⟩;have X2:=hidxe_ (X1.out.trans (hB.mono X1.out.size));have K2:=hidxe_ (K1.out.below hB K1.out.lt);clear hB;have V2:=hidxe_ ((VS.foot id v sp nm kn K N L).keep VV.out (Untouched.of_below (F:=[]) X2.out) (fun _ _=>by simp));have cb:=vblind_x V2.out A n c name HN.out hc hcm ((RN.out.below X2.out).more X2.out.size) hN5 (tab_un (F:=[]) TB.out (Untouched.of_below X2.out) hg1 (fun hm=>by cases hm)) (Nat.lt_of_lt_of_le hg1 X2.out.size);rw [BE.out,HKB.out] at cb))
  | (go_at_call 23;((with_reducible refine cb.mono ?_);clear cb;rintro e w3 ⟨rfl,F3,hV,hGr,hUn⟩;have V3:=hidxe_ hV;have G3:=hidxe_ ((Grew.refl w F).trans X2.out.size hGr);have U3:=hidxe_ ((Untouched.of_below (F:=F) X2.out).trans (Grew.refl w F) hUn);have K3:=hidxe_ (K2.out.untouched hUn (fun hm=>by have:=HF.out _ hm;have:=HG.out;omega));clear hV hGr hUn))
  | (refine wpList_put_row rfl 39 (.tmp 9) (.tmp 27) rfl w3.heap.size (rowOf Kb) rfl rfl 39 (rowOf (zbytes 32)) (Bk.new w3 _ _) IB.out SB.out (bytes_one _) ?_;intro w4 k4 g4 s4;have X4:=hidxe_ (((Below.refl w3.heap.size w3).alloc (Nat.le_refl _) _).grown g4 (by simp) (fun k hk=>by injection hk with hk;omega));have B4:=hidxe_ k4;have K4:=hidxe_ (K3.out.below X4.out K3.out.lt);have C4:=hidxe_ (env_key KE.out K4.out);have D4:=hidxe_ (env_head KE.out K4.out);clear k4 g4 s4;have Q4:=hidxe_ ((RP.out.keep U3.out G3.out).keep (Untouched.of_below (F:=F3) X4.out) (Grew.refl w3 F3));have cu4:=bound_any w4 Kb KL.out h OK.out.1 Q4.out.rd;rw [HX.out] at cu4)
  | (refine wpList_load_sub rfl 39 (.tmp 32) rfl g 0 rfl (rowOf Ke) C4.out _ Tryz.underlying39 rfl IK.out ?_)
  | (refine wpList_load_row rfl 39 (.tmp 9) rfl w3.heap.size rfl 39 (rowOf Kb) (0,0) _ B4.out Tryz.underlying39 rfl IB.out ?_)
  | (refine wpList_load_sub rfl 34 (.tmp 38) rfl g 32 rfl h.row D4.out _ Tryz.underlying34 rfl (iHead h) ?_)
  | (go_at_call 24;((with_reducible refine cu4.mono ?_);clear cu4;rintro e w5 ⟨g8,F8,rfl,hO,hF8,hB⟩;have X5:=hidxe_ (X4.out.trans (hB.mono X4.out.size));have cd:Calls Tryz.prog 25 #[.pointer (some ⟨g8,0,none⟩)] w5 (fun e w'=>∃ A c,e = .returned (.tuple #[.slice A q c,.int .i64 0])∧Own8 w' w5.heap.size (.slice A q c) X∧Below w5.heap.size w5 w'):=done_any w5 g8 q X false F8 hO HXL.out (by omega);clear hO hF8 hB))
  | (go_at_call 25;((with_reducible refine cd.mono ?_);clear cd;rintro e w6 ⟨A9,c9,rfl,hO,hB⟩;have X6:=hidxe_ (X5.out.trans (hB.mono X5.out.size));have K6:=hidxe_ (K3.out.below X6.out K3.out.lt);have V6:=hidxe_ ((VS.foot id v sp nm kn K (bN id N name) L).keep V3.out (Untouched.of_below (F:=[]) X6.out) (fun _ _=>by simp));have U6:=hidxe_ (U3.out.trans G3.out (Untouched.of_below (F:=F3) X6.out));have S6:=hidxe_ ((RS_.out.keep U3.out G3.out).keep (Untouched.of_below (F:=F3) X6.out) (Grew.refl w3 F3));obtain ⟨k0,k1,k2,k3,k5⟩:=env_cells KE.out K6.out;have cs:=vopen_x V6.out A9 sa q c9 sn sc X s HXL.out HSL.out hO.rd.1 S6.out.rd (by omega) (by have:=OK.out.2.2;omega) hsc hscm hLb.out h.e h.c h.n (tab_un TB.out U6.out hg1 hgF) (Nat.lt_of_lt_of_le hg1 U6.out.size);rw [OE.out,OB.out,HPN.out] at cs;clear hO hB))
  | (go_at_call 35;((with_reducible refine cs.mono ?_);clear cs k0 k1 k2 k3 k5;rintro e w7 ⟨A7,d7,rfl,hR,hB⟩;have V7:=hidxe_ ((VS.foot id v sp nm kn K (bN id N name) L).keep V6.out (Untouched.of_below (F:=[]) hB) (fun _ _=>by simp));have U7:=hidxe_ (U6.out.trans G3.out (Untouched.of_below (F:=F3) hB));have cv:=value_any w7 A7 pn d7 p HPN.out hpn hR (ptab_un PT.out U7.out hg2 hgF2) (Nat.lt_of_lt_of_le hg2 U7.out.size);rw [HVR.out] at cv;clear hR hB))
  | (go_at_call 36;((with_reducible refine cv.mono ?_);clear cv;rintro e w8 ⟨A8,m8,c8,rfl,hm8,hR,hA8,hB⟩;have V8:=hidxe_ ((VS.foot id v sp nm kn K (bN id N name) L).keep V7.out (Untouched.of_below (F:=[]) hB) (fun _ _=>by simp));have U8:=hidxe_ (U7.out.trans G3.out (Untouched.of_below (F:=F3) hB));have R8:=hidxe_ (rdf_of (F':=F3) hR (fun a e hm=>by have h1:=hA8 a e;have h2:=(VS.foot id v sp nm kn K (bN id N name) L).lt V7.out _ hm;omega));have M8:=hidxe_ hm8;have FR8:=hidxe_ (show ∀ a,A8=some a→w.heap.size≤a.block from fun a e=>Nat.le_trans U7.out.size (hA8 a e));clear hR hB hm8 hA8)))
 go_ret3
 exact ⟨A8,m8,c8,F3,rfl,M8.out,FR8.out,R8.out,V8.out,G3.out,U8.out⟩
theorem open_yes {id:Bool} {v sp nm kn:Nat} {K:List UInt8} {N:List (List UInt8)} {L:List SealV} {w:World} {F:List Nat} (hv:VS id v sp nm kn K N L w F) (A:Option Addr) (n c:Nat) (name:List UInt8) (hn:name.length=n) (h1:1≤n) (h2:n≤64) (hc:n≤c) (hcm:c≤9223372036854775807) (hr:Rd w w.heap.size A name)
  (Ke:List UInt8) (hKe:Ke.length=32) (h:HeadV) (sa:Option Addr) (sn sc:Nat) (s:List UInt8) (hs:s.length=sn) (hok:EnvOk h sn) (hp:RdF w F h.pa h.pl) (hsr:RdF w F sa s) (hsc:sn≤sc) (hscm:sc≤9223372036854775807) (hN5:N.length≤100000) (hLb:∀ t∈L,t.b.length≤100000)
  (ht:Tab w) (hg1:2 < w.heap.size) (hgF:2∉F) (hpt:PTab w) (hg2:0 < w.heap.size) (hgF2:0∉F) (hke:Ke=bV id K N name) (p:List UInt8) (hot:oT id K L h.e.toNat h.c.toNat h.n.toNat (boundB Ke h) s=some p) :
  Calls Tryz.prog 11 #[.pointer (some ⟨v,0,none⟩),.slice A n c,.agg (eRow Ke h sa sn sc)] w fun r w'=>∃ A m c F',r = .returned (.tuple #[.slice A m c,.bool (valR (cutB p)).2.1,.int .i64 (valR (cutB p)).2.2])∧m=(valR (cutB p)).1.length∧RdF w' F' A (valR (cutB p)).1∧VS id v sp nm kn K (bN id N name) L w' F'∧Grew w F F'∧Untouched F w w' :=
 (open_yesF hv A n c name hn h1 h2 hc hcm hr Ke hKe h sa sn sc s hs hok hp hsr hsc hscm hN5 hLb ht hg1 hgF hpt hg2 hgF2 hke p hot).mono fun r w' ⟨A',m,c',F',e,hm,_,rest⟩=>⟨A',m,c',F',e,hm,rest⟩
theorem hidxf_ {p:Prop} (h:p):Hid p:=h
structure MineX (w:World) (id:Bool) (v sp nm kn:Nat) (K:List UInt8) (N:List (List UInt8)) (L:List SealV) (F:List Nat) (W:World):Prop where
 vs:VS id v sp nm kn K N L W F
 own:∀ k∈F,w.heap.size≤k
 below:Below w.heap.size w W
section
variable {w W W' : World} {id : Bool} {v sp nm kn : Nat} {K : List UInt8} {N N' : List (List UInt8)} {L L' : List SealV} {F F' : List Nat}
theorem MineX.next (h:MineX w id v sp nm kn K N L F W) (hV:VS id v sp nm kn K N' L' W' F') (hG:Grew W F F') (hU:Untouched F W W'):MineX w id v sp nm kn K N' L' F' W' :=
 ⟨hV,fun k hk=>(hG k hk).elim (h.own k) (fun e=>Nat.le_trans h.below.size e),h.below.trans (hU.below h.own h.below.size)⟩
theorem MineX.then_ (h:MineX w id v sp nm kn K N L F W) (hB:Below W.heap.size W W'):MineX w id v sp nm kn K N L F W' :=
 ⟨(VS.foot id v sp nm kn K N L).keep h.vs (Untouched.of_below (F:=[]) hB) (fun _ _=>by simp),h.own,h.below.trans (hB.mono h.below.size)⟩
theorem MineX.lt (h:MineX w id v sp nm kn K N L F W):∀ k∈F,k < W.heap.size:=fun k hk=>(VS.foot id v sp nm kn K N L).lt h.vs k hk
theorem MineX.tab (h:MineX w id v sp nm kn K N L F W) (ht:Tab w) (hg:2 < w.heap.size):Tab W:=tab_un (F:=[]) ht (Untouched.of_below h.below) hg (fun hm=>by cases hm)
theorem MineX.ptab (h:MineX w id v sp nm kn K N L F W) (ht:PTab w) (hg:0 < w.heap.size):PTab W:=ptab_un (F:=[]) ht (Untouched.of_below h.below) hg (fun hm=>by cases hm)
theorem MineX.glt (h:MineX w id v sp nm kn K N L F W) {g:Nat} (hg:g < w.heap.size):g < W.heap.size:=Nat.lt_of_lt_of_le hg h.below.size
theorem MineX.gF (h:MineX w id v sp nm kn K N L F W) {g:Nat} (hg:g < w.heap.size):g∉F:=fun hm=>by have:=h.own g hm;omega
theorem bk_out {b:Nat} {t:TypeId} {cs:Array Value} (k:Bk W b t cs) (hb:b∉F) (hG:Grew W F F') (hU:Untouched F W W'):Bk W' b t cs∧b∉F':=⟨k.untouched hU hb,fun hm=>(hG b hm).elim hb (fun e=>by have:=k.lt;omega)⟩
end
def hA:HeadV:=⟨1,1,1,1,none,[],0⟩
theorem zeroH (W:World):(zeroValue 34).run Tryz.prog W = .ok (.agg hd0.row) W:=by kernel_rfl
theorem bV_yes (K:List UInt8) (N:List (List UInt8)) (s:List UInt8) (h:¬ nmBad s):bV true K N s=drawB K 0 (ordN N s) 24:=by
 unfold bV
 rw [if_neg h]
 rfl
theorem eRow_z:eRow0.size=38:=by kernel_rfl
theorem mark_put (w w':World) (g:Nat) (t:TypeId) (cs:Array Value) (o:Obj) (hg:(w.alloc o).grownBy w' (some w.heap.size)):Below w.heap.size w w' :=
 ((Below.refl w.heap.size w).alloc (Nat.le_refl _) o).grown hg (by simp) (fun k hk=>by injection hk with hk;omega)
theorem sealed_one (K:List UInt8) (x b:List UInt8):sL true K [] 1 1 1 x b = [⟨1,1,1,x,drawB K 1 1 (b.length + 8),b⟩]∧sB true K [] 1 1 1 x b=drawB K 1 1 (b.length + 8):=⟨rfl,rfl⟩
set_option maxHeartbeats 16000000 in
theorem seals_env (w:World) (ht:Tab w) (hg1:2 < w.heap.size) (hpt:PTab w) (hg2:0 < w.heap.size):Calls Tryz.prog 10 #[] w fun e w'=>e = .returned (.bool true)∧Below w.heap.size w w':=by
 have hzH:=zeroH
 have hzE:=zeroE
 have KL:K1.length=32:=rfl
 have ci:=ideal_new w K1 KL
 have HT:=hidxf_ ht
 have HP:=hidxf_ hpt
 have HKB:=hidxf_ (show K1=1 :: zbytes 31 from rfl)
 generalize K1=K at *
 clear ht hpt KL
 go_enter Tryz.func10,Tryz.ntmps10
 go_upto_region 3 with (first
  | (refine wpList_built rfl 22 _ rfl (rowOf K) (by rw [HKB.out];kernel_rfl) ?_)
  | (go_at_call 18;((with_reducible refine ci.mono ?_);clear ci;rintro e w1 ⟨v,sp,nm,kn,F,rfl,hv,hF,hb⟩;have M1:=hidxf_ (show MineX w true v sp nm kn K [] [] F w1 from ⟨hv,hF,hb⟩);clear hv hF hb))
  | (refine wpList_put_row rfl 34 (.tmp 2) (.tmp 14) rfl w1.heap.size hA.row rfl rfl 34 hd0.row (Bk.new w1 _ _) (iHead _) rfl (head_one _) ?_;intro w2 k2 g2 s2;have H2:=hidxf_ k2;have M2:=hidxf_ (M1.out.then_ (mark_put w1 w2 w1.heap.size 34 hd0.row _ g2));have n2:=hidxf_ (show w1.heap.size∉F from fun hm=>absurd (M1.out.lt _ hm) (Nat.lt_irrefl w1.heap.size));clear k2 g2 s2))
 clear hzH M1
 generalize w1.heap.size=b0 at *
 -- what is sealed
 have k1:=Lib.run_convert_bytes_const (P:=Tryz.prog) w2 23 5 #[.int .u8 107] 1 1 Tryz.underlying23 Tryz.underlying5
 obtain ⟨g1,w3,hg1',hw3,b3,R3,S3⟩:=mark_world w2 [107] (1,2)
 rw [show rowOf [107] = #[.int .u8 107] from rfl] at hw3
 rw [hg1'] at k1
 have k2:=Lib.run_convert_bytes_const (P:=Tryz.prog) w3 23 5 #[.int .u8 118,.int .u8 97,.int .u8 108,.int .u8 117,.int .u8 101] 5 5 Tryz.underlying23 Tryz.underlying5
 obtain ⟨g2,w4,hg2',hw4,b4,R4,S4⟩:=mark_world w3 [118,97,108,117,101] (5,6)
 rw [show rowOf [118,97,108,117,101] = #[.int .u8 118,.int .u8 97,.int .u8 108,.int .u8 117,.int .u8 101] from rfl] at hw4
 rw [hg2'] at k2
 have M3:=M2.out.then_ (hg1' ▸ b3)
 have M4:=hidxf_ (M3.then_ (hg2' ▸ b4))
 have H3:=hidxf_ (H2.out.below (hg1' ▸ b3) H2.out.lt)
 have R34:=(R3.below (B:=w3.heap.size) (hg2' ▸ b4)).more (by have:=b4.size;omega)
 obtain ⟨Kk,hKk⟩:∃ x,bV true K [] [107]=x:=⟨_,rfl⟩
 have KKL:=hidxf_ (show Kk.length=32 by rw [← hKk];exact bV_len _ _ _ _)
 have HKK:=hidxf_ hKk
 obtain ⟨X,hX⟩:∃ x,esX true K [] [107] hA=x:=⟨_,rfl⟩
 obtain ⟨P,hP⟩:∃ x,esP false [118,97,108,117,101]=x:=⟨_,rfl⟩
 have PL:P.length=64:=by rw [← hP,esP_len false _ (by decide)];rfl
 obtain ⟨S,hS⟩:∃ x,drawB K 1 1 (P.length + 8)=x:=⟨_,rfl⟩
 have SL:=hidxf_ (show S.length=80 by rw [← hS,drawB_len,PL])
 have hsl:sL true K [] hA.e hA.c hA.n X P = [⟨1,1,1,X,S,P⟩]:=by rw [← hS];exact (sealed_one K X P).1
 have hsb:sB true K [] hA.e hA.c hA.n X P=S:=by rw [← hS];exact (sealed_one K X P).2
 have hbn:bN true [] [107] = [[107]]:=by unfold bN;rw [if_neg (by unfold nmBad;simp),if_pos rfl];rfl
 have cs:=seal_yes M4.out.vs (some ⟨g1,0,none⟩) 1 1 [107] rfl (by omega) (by omega) (Nat.le_refl _) (by omega) R34 hA (by decide) (fun h=>absurd h (by decide)) (some ⟨g2,0,none⟩) 5 5 [118,97,108,117,101] rfl (by omega) R4 false (by simp) (by simp) (M4.out.tab HT.out hg1) (M4.out.glt hg1) (M4.out.ptab HP.out hg2) (M4.out.glt hg2) (M4.out.gF hg1) (by simp)
 unfold EsP at cs
 rw [hX,hP,hKk,hsl,hsb,SL.out,hbn] at cs
 have HXX:=hidxf_ (show boundB Kk hA=X by rw [← hX,← hKk];rfl)
 have HPP:=hidxf_ hP
 clear hX hP hS hsl hsb b3 b4 R3 R4 S3 S4 M3 R34 PL hbn hKk
 go_upto_region 4 with (first
  | (refine wpList_load_row rfl 34 (.tmp 2) rfl b0 rfl 34 hA.row (0,0) _ H3.out Tryz.underlying34 rfl (iHead _) ?_)
  | (go_at_call 8;((with_reducible refine cs.mono ?_);clear cs;rintro e w5 ⟨pa,pc,sa,sc,F5,rfl,hcap,hpr,hsr,hV,hG,hU⟩;have M5:=hidxf_ (M4.out.next hV hG hU);have P5:=hidxf_ hpr;have R5:=hidxf_ hsr;have CP:=hidxf_ hcap;clear hV hG hU hpr hsr hcap))
  | (refine wpList_put_row rfl 41 (.tmp 3) (.tmp 23) rfl w5.heap.size (eRow Kk { hA with pa:=pa,pc:=pc } sa 80 sc) rfl rfl 41 eRow0 (Bk.new w5 _ _) (iE _ KKL.out _ _ _ _) (by rw [eRow_size _ KKL.out];exact eRow_z) (eRow_one _ _ _ _ _) ?_;intro w6 k6 g6 s6;have E6:=hidxf_ k6;have B6:=mark_put w5 w6 w5.heap.size 41 eRow0 _ g6;have M6:=hidxf_ (M5.out.then_ B6);have P6:=hidxf_ (P5.out.keep (Untouched.of_below (F:=F5) B6) (Grew.refl w5 F5));have R6:=hidxf_ (R5.out.keep (Untouched.of_below (F:=F5) B6) (Grew.refl w5 F5));have n6:=hidxf_ (show w5.heap.size∉F5 from fun hm=>absurd (M5.out.lt _ hm) (Nat.lt_irrefl w5.heap.size));clear k6 g6 s6 B6))
 clear k1 k2 hw3 hw4 hg1' hg2' M4 M2 H2 H3 M5 P5 R5 hzE n2
 generalize w5.heap.size=b5 at *
 -- opened by its own name
 have hbz:=hidxf_ trivial
 have k1:=Lib.run_convert_bytes_const (P:=Tryz.prog) w6 23 5 #[.int .u8 107] 1 1 Tryz.underlying23 Tryz.underlying5
 obtain ⟨g7,w7,hg7,hw7,b7,R7,S7⟩:=mark_world w6 [107] (1,2)
 rw [show rowOf [107] = #[.int .u8 107] from rfl] at hw7
 rw [hg7] at k1
 have M7:=hidxf_ (M6.out.then_ (hg7 ▸ b7))
 have E7:=hidxf_ (E6.out.below (hg7 ▸ b7) E6.out.lt)
 have R7S:=R6.out.keep (Untouched.of_below (F:=F5) (hg7 ▸ b7)) (Grew.refl w6 F5)
 have hok:EnvOk { hA with pa:=pa,pc:=pc } 80:=⟨by unfold HeadV.Ok;simp [hA],by omega,by omega⟩
 have hpN:∀ (W:World) (G:List Nat),RdF W G ({ hA with pa:=pa,pc:=pc }:HeadV).pa ({ hA with pa:=pa,pc:=pc }:HeadV).pl:=fun W G h=>absurd h (Nat.lt_irrefl 0)
 have hLb:∀ t∈[(⟨1,1,1,X,S,P⟩:SealV)],t.b.length≤100000:=fun t ht=>by
  rw [List.mem_singleton.1 ht,← HPP.out,esP_len false _ (by decide)]
  exact Nat.le_trans (clsS_le _) (by omega)
 have hke:Kk=bV true K [[107]] [107]:=by
  rw [← HKK.out]
  unfold bV bB
  rw [show ordN [[107]] [107]=ordN [] [107] from rfl]
 have hot:oT true K [(⟨1,1,1,X,S,P⟩:SealV)] 1 1 1 (boundB Kk { hA with pa:=pa,pc:=pc }) S=some P:=by
  rw [show boundB Kk { hA with pa:=pa,pc:=pc } = X from HXX.out]
  unfold oT
  simp [hitS]
 have hvr:valR (cutB P)=([118,97,108,117,101],false,0):=by
  rw [← HPP.out]
  unfold esP packB
  rw [(cutB_pad _ (by decide)).1]
  rfl
 have hbn:bN true [[107]] [107] = [[107]]:=by unfold bN;rw [if_neg (by unfold nmBad;simp),if_pos rfl];rfl
 have co:=open_yes M7.out.vs (some ⟨g7,0,none⟩) 1 1 [107] rfl (by omega) (by omega) (Nat.le_refl _) (by omega) R7 Kk KKL.out { hA with pa:=pa,pc:=pc } sa 80 sc S SL.out hok (hpN _ _) R7S CP.out.1 CP.out.2 (by simp) hLb (M7.out.tab HT.out hg1) (M7.out.glt hg1) (M7.out.gF hg1) (M7.out.ptab HP.out hg2) (M7.out.glt hg2) (M7.out.gF hg2) hke P hot
 rw [hvr,hbn] at co
 have HOKE:=hidxf_ hok
 have HPN:=hidxf_ hpN
 have HLB:=hidxf_ hLb
 have R7H:=hidxf_ R7S
 clear hvr hbn hot hke hLb hpN hok R7S b7 R7 S7 hbz
 go_upto_region 5 with (first
  | (refine wpList_load_row rfl 41 (.tmp 3) rfl b5 rfl 41 (eRow Kk { hA with pa:=pa,pc:=pc } sa 80 sc) (0,0) _ E7.out Tryz.underlying41 rfl (iE _ KKL.out _ _ _ _) ?_)
  | (go_at_call 11;((with_reducible refine co.mono ?_);clear co;rintro e w8 ⟨A8,m8,c8,F8,rfl,hm8,hR,hV,hG,hU⟩;obtain rfl:m8=5:=hm8;have M8:=hidxf_ (M7.out.next hV hG hU);have R8:=hidxf_ hR;have S8:=hidxf_ (R7H.out.keep hU hG);have E8:=hidxf_ (bk_out E7.out n6.out hG hU);clear hR hV hG hU)))
 clear k1 hw7 hg7 M7 M6 E6 E7 R6 P6 R7H n6
 -- by another name
 have k1:=Lib.run_convert_bytes_const (P:=Tryz.prog) w8 23 5 #[.int .u8 108] 1 1 Tryz.underlying23 Tryz.underlying5
 obtain ⟨g9,w9,hg9,hw9,b9,R9,S9⟩:=mark_world w8 [108] (1,2)
 rw [show rowOf [108] = #[.int .u8 108] from rfl] at hw9
 rw [hg9] at k1
 have M9:=hidxf_ (M8.out.then_ (hg9 ▸ b9))
 have E9:=hidxf_ (E8.out.1.below (hg9 ▸ b9) E8.out.1.lt)
 have S9S:=S8.out.keep (Untouched.of_below (F:=F8) (hg9 ▸ b9)) (Grew.refl w8 F8)
 have V9:=hidxf_ (R8.out.keep (Untouched.of_below (F:=F8) (hg9 ▸ b9)) (Grew.refl w8 F8))
 have hne:Kk≠bV true K [[107]] [108]:=by
  rw [← HKK.out,bV_yes K [] [107] (by unfold nmBad;simp),bV_yes K [[107]] [108] (by unfold nmBad;simp),show ordN [[107]] [108]=2 from rfl,show ordN [] [107]=1 from rfl]
  intro e
  have:=drawB_inj (by omega) (by omega) e
  omega
 have co:=open_key M9.out.vs (some ⟨g9,0,none⟩) 1 1 [108] rfl (by omega) (by omega) (Nat.le_refl _) (by omega) R9 Kk KKL.out { hA with pa:=pa,pc:=pc } sa 80 sc S SL.out HOKE.out (HPN.out _ _) S9S CP.out.1 CP.out.2 (by simp) HLB.out (M9.out.tab HT.out hg1) (M9.out.glt hg1) (M9.out.gF hg1) (M9.out.ptab HP.out hg2) (M9.out.glt hg2) (M9.out.gF hg2) hne
 clear hne S9S b9 R9 S9
 go_upto_region 6 with (first
  | (refine wpList_load_row rfl 41 (.tmp 3) rfl b5 rfl 41 (eRow Kk { hA with pa:=pa,pc:=pc } sa 80 sc) (0,0) _ E9.out Tryz.underlying41 rfl (iE _ KKL.out _ _ _ _) ?_)
  | (go_at_call 11;((with_reducible refine co.mono ?_);clear co;rintro e w10 ⟨rfl,F10,hV,hG,hU⟩;have M10:=hidxf_ (M9.out.next hV hG hU);have R10:=hidxf_ (V9.out.keep hU hG);have E10:=hidxf_ (bk_out E9.out E8.out.2 hG hU);clear hV hG hU)))
 clear k1 hw9 hg9
 have cv:(convert 23 9 (.slice A8 5 c8)).run Tryz.prog w10 = .ok (.string ⟨#[118,97,108,117,101]⟩) w10:=conv_strn R10.out.rd 5 c8 rfl
 have k5:=(env_cells KKL.out E10.out.1).2.2.2.2
 go_wp2
 go_ret
 exact ⟨rfl,M10.out.below⟩
theorem hidxg_ {p:Prop} (h:p):Hid p:=h
set_option maxHeartbeats 2000000 in
theorem ecut_any (w:World) (A9:Option Addr) (l9:List UInt8) (p9 c9 N m9:Nat) (hp:l9.length=p9) (hm9:m9=min p9 N) (hN:N≤1000) (hr9:Rd w w.heap.size A9 l9) (hlc9:p9≤c9) (hcm9:c9≤9223372036854775807) :
  Calls Tryz.prog 6 #[.slice A9 p9 c9,.int .i64 (N:Int)] w (NewP w m9 (l9.take N)):=by
 have hmn9:=fun W=>run_min2 p9 N m9 hm9 W
 have hs9:=fun W=>slice_to A9 p9 c9 (m9:Int) m9 rfl (by omega) W
 have M9:=hidxg_ (show (l9.take N).length=m9 by rw [List.length_take,hm9,hp,Nat.min_comm])
 obtain ⟨w1,hw1⟩:∃ w1,w.alloc (.cells #[] 5)=w1:=⟨_,rfl⟩
 have b1:Below w.heap.size w w1:=by rw [← hw1];exact (Below.refl _ _).alloc (Nat.le_refl _) _
 have hown:Own8 w1 w.heap.size (.slice (some ⟨w.heap.size,0,none⟩) 0 0) []:=by
  have h:=Own8.lit w w.heap.size [] (Nat.le_refl _) (Nat.zero_le _)
  rw [show rowOf [] = #[] from rfl,hw1] at h
  exact h
 have hwal:=hidxg_ b1
 have s1:w1.heap.size=w.heap.size + 1:=by rw [← hw1];simp
 have hrt:Rd w1 w.heap.size A9 (l9.take N):=(hr9.take N).below b1
 have hle0:([]:List UInt8).length + m9≤140737488355328:=by simp;omega
 have hsz0:w.heap.size≤w1.heap.size:=by omega
 clear hr9 b1 hm9 hp
 generalize l9.take N=t at *
 go_enter Tryz.func6,Tryz.ntmps6
 go_wp2_with (at_builtin;refine wpList_app rfl (.tmp 5) (.tmp 11) rfl hown rfl m9 c9 rfl hrt M9.out hle0 hsz0 ?_;(intro A0 c0 w2 k1 k2 k3;have O2:=hidxg_ (show Own8 w2 w.heap.size (.slice A0 m9 c0) t by simpa using k1);have X2:=hidxg_ (hwal.out.grown k2 hsz0 (fun k hk=>by simp [Value.ownBlock] at hk;omega));clear k1 k2 k3 hrt hown))
 go_ret
 exact ⟨A0,c0,by simp,O2.out,X2.out⟩
def LvR (id:Bool) (g:Nat) (K:List UInt8):Nat→Value→World→Prop
 | 0,u,_=>u = .agg (rowOf K)
 | 2,u,_=>u = .slice (some ⟨g,0,none⟩) 32 32
 | 3,u,_=>u = .string (strOf K)
 | 4,u,_=>u = .agg (rfRow id K)
 | _,_,_=>True
theorem LvR.any {id:Bool} {g:Nat} {K:List UInt8} {j:Nat} {v:Value} {W W':World} (h:LvR id g K j v W):LvR id g K j v W':=by
 unfold LvR at h ⊢
 split at h <;> first | exact h | trivial
def TwoV13 (id:Bool) (K:List UInt8) (w:World) (e:Ending) (w':World):Prop:=∃ v sp nm kn rg F,e = .returned (.tuple #[.pointer (some ⟨v,0,none⟩),.pointer (some ⟨rg,0,none⟩)])∧VS id v sp nm kn K [] [] w' F∧(∀ k∈F,w.heap.size≤k)∧Bk w' rg 64 (rfRow id K)∧w.heap.size≤rg∧rg∉F∧Below w.heap.size w w'
set_option maxHeartbeats 16000000 in
theorem two13_true (w:World) (K0:List UInt8) (hK:K0.length=32):Calls Tryz.prog 5 #[.bool true,.agg (rowOf K0)] w (TwoV13 true K0 w):=by
 obtain ⟨g,hg⟩:∃ g,w.heap.size=g:=⟨_,rfl⟩
 obtain ⟨w0,hw0⟩:∃ w0,w.alloc (.cells (rowOf K0) 22)=w0:=⟨_,rfl⟩
 have B0:=hidxg_ (show Below w.heap.size w w0 by rw [← hw0];exact (Below.refl w.heap.size w).alloc (Nat.le_refl _) _)
 have KG1:=hidxg_ (show Bk w0 g 22 (rowOf K0) by rw [← hw0,← hg];exact Bk.new w _ _)
 have KL:=hidxg_ hK
 have I32:=hidxg_ (ib32 K0 hK)
 have HBB:=hidxg_ (show Tryz.prog.built 64 [(0,.bool true),(1,.string (strOf K0))]=some (rfRow true K0) by kernel_rfl)
 clear hK
 go_enter Tryz.func5,Tryz.ntmps5
 go_upto_region 2 with fail
 rename_i K9 hK9
 clear hw0 hg
 refine region_byJF [7,8,9,10,11,12,4,5] (fun W=>Below w0.heap.size w0 W) (fun _ _=>True) (LvR true g K0) (fun D a W=>JW 1 5 6 7 8 12 4 5 (WV true K0 w0.heap.size) (WR true K0 w0.heap.size) (WVR true K0 w0.heap.size) D a W) (by kernel_rfl) (by kernel_rfl) (by kernel_rfl) (by kernel_rfl) (fun j v w w' hT hr=>hr.any) (fun j v w hlt hj _=>?_) ((Below.refl _ _).drew) ?_ JW.start ?_
 ·rcases j with _ | _ | _ | _ | _ | _ | _ | _ | j
  all_goals first
   | (exfalso;simp [dstOf] at hj;done)
   | trivial
 ·refine ⟨?_,?_,?_,?_,?_,?_,?_,?_,trivial⟩
  all_goals intro D a W hC hd hsz hf hv hJ hL hW K hK
  ·have HSZ:=hidxg_ hsz
   clear hsz
   have e1:a.tmps.getD 3 undef = .pointer (some ⟨g,0,none⟩):=hf 3 (by kernel_rfl)
   exact step_load_rowW (wanted_none rfl) 22 (.tmp 3) rfl g (eval_of e1) 22 (rowOf K0) (KG1.out.below hC KG1.out.lt) _ Tryz.underlying22 rfl I32.out (hK _ _ hC trivial rfl (hJ.other 0 7 _ (by decide) (by decide)))
  ·have HSZ:=hidxg_ hsz
   clear hsz
   have e1:=slot_of (a:=a) (s:=7) (v:=.agg (rowOf K0)) (hv 0 (by kernel_rfl))
   have cn:Calls Tryz.prog 18 #[.agg (rowOf K0)] W _:=vault_new true W K0 KL.out
   refine step_callx 18 #[.agg (rowOf K0)] (wanted_none rfl) (w':=W) ?_ (cn.mono fun e W2 hh=>?_)
   ·go_simp
   ·obtain ⟨v,sp,nm,kn,F,rfl,hV,hF,hb⟩:=hh
    exact ⟨_,rfl,hK _ _ (hC.trans (hb.mono hC.size)) trivial trivial (hJ.first _ hL (by decide) (by decide) (by rw [HSZ.out];exact of_decide_eq_true (by kernel_rfl)) ⟨v,sp,nm,kn,F,rfl,hV,fun k hk=>Nat.le_trans hC.size (hF k hk)⟩ (WVR.one hV hF hb hC.size))⟩
  ·have HSZ:=hidxg_ hsz
   clear hsz
   have e1:=slot_of (a:=a) (s:=3) (v:=.pointer (some ⟨g,0,none⟩)) (hf 3 (by kernel_rfl))
   have sl:=slice_all32j g
   refine step_run (wanted_none rfl) (v:=.slice (some ⟨g,0,none⟩) 32 32) (w':=W) ?_ (hK _ _ hC trivial rfl (hJ.other 2 9 _ (by decide) (by decide)))
   go_simp
  ·have HSZ:=hidxg_ hsz
   clear hsz
   have e1:=slot_of (a:=a) (s:=9) (v:=.slice (some ⟨g,0,none⟩) 32 32) (hv 2 (by kernel_rfl))
   have cv:=conv_strn (rd_bk (KG1.out.below hC KG1.out.lt)) 32 32 KL.out
   refine step_run (wanted_none rfl) (v:=.string (strOf K0)) (w':=W) ?_ (hK _ _ hC trivial rfl (hJ.other 3 10 _ (by decide) (by decide)))
   go_simp
  ·have HSZ:=hidxg_ hsz
   clear hsz
   have e1:=eval_of (a:=a) (s:=10) (v:=.string (strOf K0)) (hv 3 (by kernel_rfl))
   have hb:=HBB.out
   have hq:(Tryz.prog.built 64 ((#[(0,.const (.bool true)),(1,.tmp 10)]:Array (Nat × Operand)).map fun x=>(x.1,a.eval x.2)).toList)=some (rfRow true K0):=by simp only [List.map_toArray,List.map_cons,List.map_nil,e1];exact hb
   rw [if_pos (wanted_none rfl)]
   refine wp_build 64 #[(0,.const (.bool true)),(1,.tmp 10)] rfl ?_ ?_
   ·rw [show ((#[(0,.const (.bool true)),(1,.tmp 10)]:Array (Nat × Operand)).map fun (i,x)=>(i,a.eval x))=((#[(0,.const (.bool true)),(1,.tmp 10)]:Array (Nat × Operand)).map fun x=>(x.1,a.eval x.2)) from rfl,hq];rfl
   ·rw [show ((#[(0,.const (.bool true)),(1,.tmp 10)]:Array (Nat × Operand)).map fun (i,x)=>(i,a.eval x))=((#[(0,.const (.bool true)),(1,.tmp 10)]:Array (Nat × Operand)).map fun x=>(x.1,a.eval x.2)) from rfl,hq,Option.getD_some]
    exact hK _ _ hC trivial rfl (hJ.other 4 11 _ (by decide) (by decide))
  ·have HSZ:=hidxg_ hsz
   clear hsz
   have e1:=slot_of (a:=a) (s:=11) (v:=.agg (rfRow true K0)) (hv 4 (by kernel_rfl))
   have hb:Below W.heap.size W (W.alloc (.cells (rfRow true K0) 64)):=(Below.refl _ _).alloc (Nat.le_refl _) _
   refine step_run (wanted_none rfl) (v:=.pointer (some ⟨W.heap.size,0,none⟩)) (w':=W.alloc (.cells (rfRow true K0) 64)) ?_ (hK _ _ (hC.trans (hb.mono hC.size)) trivial trivial (hJ.second _ hL (by decide) (by decide) (by rw [HSZ.out];exact of_decide_eq_true (by kernel_rfl)) ⟨W.heap.size,rfl,Bk.new W _ _,hC.size⟩ (WVR.two (Bk.new W _ _) (Nat.le_refl _) hb hC.size)))
   go_simp
  ·have HSZ:=hidxg_ hsz
   clear hsz
   obtain ⟨uu,hu⟩:∃ u,a.tmps.getD 8 undef=u:=⟨_,rfl⟩
   have e1:=slot_of (a:=a) (s:=8) (v:=uu) hu
   refine step_run (wanted_none rfl) (v:=uu) (w':=W) ?_ (hK _ _ hC trivial trivial (by rw [← hu];exact hJ.third (hW 1 (by kernel_rfl)) (by decide) (by decide) (by rw [HSZ.out];exact of_decide_eq_true (by kernel_rfl))))
   clear hu
   go_simp
  ·have HSZ:=hidxg_ hsz
   clear hsz
   obtain ⟨uu,hu⟩:∃ u,a.tmps.getD 12 undef=u:=⟨_,rfl⟩
   have e1:=slot_of (a:=a) (s:=12) (v:=uu) hu
   refine step_run (wanted_none rfl) (v:=uu) (w':=W) ?_ (hK _ _ hC trivial trivial (by rw [← hu];exact hJ.fourth (hW 5 (by kernel_rfl)) (by decide) (by decide) (by rw [HSZ.out];exact of_decide_eq_true (by kernel_rfl))))
   clear hu
   go_simp
 ·intro f w2 hC2 hv2 D7 hD7 hJ7
  obtain ⟨a7,hJ,hs⟩:=hJ7
  have h2:=hJ.both (hD7 1 (by decide)) (hD7 5 (by decide))
  have e7:=(hJ.e1 (hD7 6 (by decide))).2
  have e8:=(hJ.e2 (hD7 7 (by decide))).2
  rw [hs,hs] at h2 e7 e8
  obtain ⟨v,sp,nm,kn,rg,F,h34,h37,hV,hF,hR,hrg,hni⟩:=h2
  have f7:=e7.trans h34
  have f8:=e8.trans h37
  simp only [framed,List.foldl_cons,List.foldl_nil,List.setIfInBounds_toArray,List.set_cons_succ,List.set_cons_zero]
  rw [f7,f8]
  have HV:=hidxg_ hV
  have HF:=hidxg_ hF
  have HR:=hidxg_ hR
  have HRG:=hidxg_ hrg
  have HNI:=hidxg_ hni
  have HC:=hidxg_ hC2
  clear hv2 hD7 hJ hs e7 e8 h34 h37 hV hF hR hrg hni f7 f8 hC2 KG1 HBB
  refine hK9 _ _ ?_
  clear hK9 K9
  go_wp2
  go_ret2
  exact ⟨v,sp,nm,kn,rg,F,rfl,HV.out,fun k hk=>Nat.le_trans B0.out.size (HF.out k hk),HR.out,Nat.le_trans B0.out.size HRG.out,HNI.out,B0.out.trans (HC.out.mono B0.out.size)⟩
set_option maxHeartbeats 16000000 in
theorem two13_false (w:World) (K0:List UInt8) (hK:K0.length=32):Calls Tryz.prog 5 #[.bool false,.agg (rowOf K0)] w (TwoV13 false K0 w):=by
 obtain ⟨g,hg⟩:∃ g,w.heap.size=g:=⟨_,rfl⟩
 obtain ⟨w0,hw0⟩:∃ w0,w.alloc (.cells (rowOf K0) 22)=w0:=⟨_,rfl⟩
 have B0:=hidxg_ (show Below w.heap.size w w0 by rw [← hw0];exact (Below.refl w.heap.size w).alloc (Nat.le_refl _) _)
 have KG1:=hidxg_ (show Bk w0 g 22 (rowOf K0) by rw [← hw0,← hg];exact Bk.new w _ _)
 have KL:=hidxg_ hK
 have I32:=hidxg_ (ib32 K0 hK)
 have HBB:=hidxg_ (show Tryz.prog.built 64 [(1,.string (strOf K0))]=some (rfRow false K0) by kernel_rfl)
 clear hK
 go_enter Tryz.func5,Tryz.ntmps5
 go_upto_region 3 with fail
 rename_i K9 hK9
 clear hw0 hg
 refine region_byJF [13,14,15,16,17,18,4,5] (fun W=>Below w0.heap.size w0 W) (fun _ _=>True) (LvR false g K0) (fun D a W=>JW 1 5 6 7 14 18 4 5 (WV false K0 w0.heap.size) (WR false K0 w0.heap.size) (WVR false K0 w0.heap.size) D a W) (by kernel_rfl) (by kernel_rfl) (by kernel_rfl) (by kernel_rfl) (fun j v w w' hT hr=>hr.any) (fun j v w hlt hj _=>?_) ((Below.refl _ _).drew) ?_ JW.start ?_
 ·rcases j with _ | _ | _ | _ | _ | _ | _ | _ | j
  all_goals first
   | (exfalso;simp [dstOf] at hj;done)
   | trivial
 ·refine ⟨?_,?_,?_,?_,?_,?_,?_,?_,trivial⟩
  all_goals intro D a W hC hd hsz hf hv hJ hL hW K hK
  ·have HSZ:=hidxg_ hsz
   clear hsz
   have e1:a.tmps.getD 3 undef = .pointer (some ⟨g,0,none⟩):=hf 3 (by kernel_rfl)
   exact step_load_rowW (wanted_none rfl) 22 (.tmp 3) rfl g (eval_of e1) 22 (rowOf K0) (KG1.out.below hC KG1.out.lt) _ Tryz.underlying22 rfl I32.out (hK _ _ hC trivial rfl (hJ.other 0 13 _ (by decide) (by decide)))
  ·have HSZ:=hidxg_ hsz
   clear hsz
   have e1:=slot_of (a:=a) (s:=13) (v:=.agg (rowOf K0)) (hv 0 (by kernel_rfl))
   have cn:Calls Tryz.prog 19 #[.agg (rowOf K0)] W _:=vault_new false W K0 KL.out
   refine step_callx 19 #[.agg (rowOf K0)] (wanted_none rfl) (w':=W) ?_ (cn.mono fun e W2 hh=>?_)
   ·go_simp
   ·obtain ⟨v,sp,nm,kn,F,rfl,hV,hF,hb⟩:=hh
    exact ⟨_,rfl,hK _ _ (hC.trans (hb.mono hC.size)) trivial trivial (hJ.first _ hL (by decide) (by decide) (by rw [HSZ.out];exact of_decide_eq_true (by kernel_rfl)) ⟨v,sp,nm,kn,F,rfl,hV,fun k hk=>Nat.le_trans hC.size (hF k hk)⟩ (WVR.one hV hF hb hC.size))⟩
  ·have HSZ:=hidxg_ hsz
   clear hsz
   have e1:=slot_of (a:=a) (s:=3) (v:=.pointer (some ⟨g,0,none⟩)) (hf 3 (by kernel_rfl))
   have sl:=slice_all32j g
   refine step_run (wanted_none rfl) (v:=.slice (some ⟨g,0,none⟩) 32 32) (w':=W) ?_ (hK _ _ hC trivial rfl (hJ.other 2 15 _ (by decide) (by decide)))
   go_simp
  ·have HSZ:=hidxg_ hsz
   clear hsz
   have e1:=slot_of (a:=a) (s:=15) (v:=.slice (some ⟨g,0,none⟩) 32 32) (hv 2 (by kernel_rfl))
   have cv:=conv_strn (rd_bk (KG1.out.below hC KG1.out.lt)) 32 32 KL.out
   refine step_run (wanted_none rfl) (v:=.string (strOf K0)) (w':=W) ?_ (hK _ _ hC trivial rfl (hJ.other 3 16 _ (by decide) (by decide)))
   go_simp
  ·have HSZ:=hidxg_ hsz
   clear hsz
   have e1:=eval_of (a:=a) (s:=16) (v:=.string (strOf K0)) (hv 3 (by kernel_rfl))
   have hb:=HBB.out
   have hq:(Tryz.prog.built 64 ((#[(1,.tmp 16)]:Array (Nat × Operand)).map fun x=>(x.1,a.eval x.2)).toList)=some (rfRow false K0):=by simp only [List.map_toArray,List.map_cons,List.map_nil,e1];exact hb
   rw [if_pos (wanted_none rfl)]
   refine wp_build 64 #[(1,.tmp 16)] rfl ?_ ?_
   ·rw [show ((#[(1,.tmp 16)]:Array (Nat × Operand)).map fun (i,x)=>(i,a.eval x))=((#[(1,.tmp 16)]:Array (Nat × Operand)).map fun x=>(x.1,a.eval x.2)) from rfl,hq];rfl
   ·rw [show ((#[(1,.tmp 16)]:Array (Nat × Operand)).map fun (i,x)=>(i,a.eval x))=((#[(1,.tmp 16)]:Array (Nat × Operand)).map fun x=>(x.1,a.eval x.2)) from rfl,hq,Option.getD_some]
    exact hK _ _ hC trivial rfl (hJ.other 4 17 _ (by decide) (by decide))
  ·have HSZ:=hidxg_ hsz
   clear hsz
   have e1:=slot_of (a:=a) (s:=17) (v:=.agg (rfRow false K0)) (hv 4 (by kernel_rfl))
   have hb:Below W.heap.size W (W.alloc (.cells (rfRow false K0) 64)):=(Below.refl _ _).alloc (Nat.le_refl _) _
   refine step_run (wanted_none rfl) (v:=.pointer (some ⟨W.heap.size,0,none⟩)) (w':=W.alloc (.cells (rfRow false K0) 64)) ?_ (hK _ _ (hC.trans (hb.mono hC.size)) trivial trivial (hJ.second _ hL (by decide) (by decide) (by rw [HSZ.out];exact of_decide_eq_true (by kernel_rfl)) ⟨W.heap.size,rfl,Bk.new W _ _,hC.size⟩ (WVR.two (Bk.new W _ _) (Nat.le_refl _) hb hC.size)))
   go_simp
  ·have HSZ:=hidxg_ hsz
   clear hsz
   obtain ⟨uu,hu⟩:∃ u,a.tmps.getD 14 undef=u:=⟨_,rfl⟩
   have e1:=slot_of (a:=a) (s:=14) (v:=uu) hu
   refine step_run (wanted_none rfl) (v:=uu) (w':=W) ?_ (hK _ _ hC trivial trivial (by rw [← hu];exact hJ.third (hW 1 (by kernel_rfl)) (by decide) (by decide) (by rw [HSZ.out];exact of_decide_eq_true (by kernel_rfl))))
   clear hu
   go_simp
  ·have HSZ:=hidxg_ hsz
   clear hsz
   obtain ⟨uu,hu⟩:∃ u,a.tmps.getD 18 undef=u:=⟨_,rfl⟩
   have e1:=slot_of (a:=a) (s:=18) (v:=uu) hu
   refine step_run (wanted_none rfl) (v:=uu) (w':=W) ?_ (hK _ _ hC trivial trivial (by rw [← hu];exact hJ.fourth (hW 5 (by kernel_rfl)) (by decide) (by decide) (by rw [HSZ.out];exact of_decide_eq_true (by kernel_rfl))))
   clear hu
   go_simp
 ·intro f w2 hC2 hv2 D7 hD7 hJ7
  obtain ⟨a7,hJ,hs⟩:=hJ7
  have h2:=hJ.both (hD7 1 (by decide)) (hD7 5 (by decide))
  have e7:=(hJ.e1 (hD7 6 (by decide))).2
  have e8:=(hJ.e2 (hD7 7 (by decide))).2
  rw [hs,hs] at h2 e7 e8
  obtain ⟨v,sp,nm,kn,rg,F,h34,h37,hV,hF,hR,hrg,hni⟩:=h2
  have f7:=e7.trans h34
  have f8:=e8.trans h37
  simp only [framed,List.foldl_cons,List.foldl_nil,List.setIfInBounds_toArray,List.set_cons_succ,List.set_cons_zero]
  rw [f7,f8]
  have HV:=hidxg_ hV
  have HF:=hidxg_ hF
  have HR:=hidxg_ hR
  have HRG:=hidxg_ hrg
  have HNI:=hidxg_ hni
  have HC:=hidxg_ hC2
  clear hv2 hD7 hJ hs e7 e8 h34 h37 hV hF hR hrg hni f7 f8 hC2 KG1 HBB
  refine hK9 _ _ ?_
  clear hK9 K9
  go_wp2
  go_ret2
  exact ⟨v,sp,nm,kn,rg,F,rfl,HV.out,fun k hk=>Nat.le_trans B0.out.size (HF.out k hk),HR.out,Nat.le_trans B0.out.size HRG.out,HNI.out,B0.out.trans (HC.out.mono B0.out.size)⟩
theorem two13_any (id:Bool) (w:World) (K0:List UInt8) (hK:K0.length=32):Calls Tryz.prog 5 #[.bool id,.agg (rowOf K0)] w (TwoV13 id K0 w):=by
 cases id
 ·exact two13_false w K0 hK
 ·exact two13_true w K0 hK
theorem two_parts {P:Program} {W:World} {a b:String} {x y:DataW Unit} (hab:a≠b) (h:laidMetH P [(a,x),(b,y)] W):laidMetH P [(a,x)] W∧laidMetH P [(b,y)] W:=by
 have h1:=h.filter (fun z=>z.1 == a)
 have h2:=h.filter (fun z=>z.1 == b)
 simp only [List.filter_cons,List.filter_nil,beq_self_eq_true,if_true,beq_false_of_ne hab,beq_false_of_ne (Ne.symm hab),Bool.false_eq_true,if_false] at h1 h2
 exact ⟨h1,h2⟩
set_option maxHeartbeats 4000000 in
theorem two_of {W : World} (h : laidMetH Tryz.prog [("casket/pad.sizes", Rows.laid_casket_pad_sizes), ("casket/sha2.roundWords", Rows.laid_casket_sha2_roundWords)] W) :
  (PTab W∧0 < W.heap.size)∧Tab W∧2 < W.heap.size :=
 ⟨sizes_of (two_parts (by decide) h).1,tab_of (two_parts (by decide) h).2⟩
noncomputable def laidWorldE (os:Os):World :=
 { laidWorld os with heap:=(laidWorld os).heap.modify 0 fun
   | .cells _ t frozen=>.cells #[.int .i64 64,.int .i64 256,.int .i64 1024,.int .i64 4096] t frozen
   | o=>o }
structure AskV where
 na:Option Addr
 nl:List UInt8
 nc:Nat
 e:Int
 n:Int
 c:Int
 d:Int
 pa:Option Addr
 pl:List UInt8
 pc:Nat
 va:Option Addr
 vl:List UInt8
 vc:Nat
 del:Bool
def AskV.row (q:AskV):Array Value:=#[.slice q.na q.nl.length q.nc,.int .i64 q.e,.int .i64 q.n,.int .i64 q.c,.int .i64 q.d,.slice q.pa q.pl.length q.pc,.slice q.va q.vl.length q.vc,.bool q.del]
structure AskV.Ok (w:World) (B:Nat) (q:AskV):Prop where
 rn:Rd w B q.na q.nl
 hn:q.nl.length≤q.nc∧q.nc≤9223372036854775807
 he:okI q.e
 hm:okI q.n
 hc:okI q.c
 hd:okI q.d
 rp:Rd w B q.pa q.pl
 hp:q.pl.length≤q.pc∧q.pc≤9223372036854775807
 rv:Rd w B q.va q.vl
 hv:q.vl.length≤q.vc∧q.vc≤9223372036854775807
theorem AskV.Ok.below {w w':World} {B:Nat} {q:AskV} (h:q.Ok w B) (hb:Below B w w'):q.Ok w' B:=⟨h.rn.below hb,h.hn,h.he,h.hm,h.hc,h.hd,h.rp.below hb,h.hp,h.rv.below hb,h.hv⟩
theorem iAsk (q:AskV):(Tryz.prog.info? 27).map (·.size)=some q.row.size:=by kernel_rfl
theorem cellsDt_:Tryz.prog.cellsOf 25=2:=by kernel_rfl
theorem cellsBo_:Tryz.prog.cellsOf 4=1:=by kernel_rfl
theorem cellsAsk_:Tryz.prog.cellsOf 27=8:=by kernel_rfl
theorem cells_boolX {H:Type} {enc:TypeId × Value→H} {P:Program} {t:TypeId} {w:World} {fuel:Nat} {sp:Nat→Bool} {held:Bool} {cs:List Value} {d:DataW H × List MemPlace}
  (ht:P.underlying t=some .bool) (hf:DataW.trod enc P w 0 sp held fuel t cs=some d):∃ b,cs = [.bool b]:=by
 obtain ⟨b,e,_⟩:=DataW.trod_bool ht hf
 exact ⟨b,e⟩
theorem cells_dotX {H:Type} {enc:TypeId × Value→H} {w:World} {fuel:Nat} {sp:Nat→Bool} {held:Bool} {cs:List Value} {d:DataW H × List MemPlace} (hlc:cs.length=2)
  (hf:DataW.trod enc Tryz.prog w 0 sp held fuel 25 cs=some d):∃ x y,cs = [.int .i64 x,.int .i64 y]∧okI x∧okI y:=by
 obtain ⟨xs,n,_,_,hl,hlen,hg⟩:=DataW.trod_struct Tryz.underlying25 hf
 match cs,hlc with
 | [k0,k1],_ =>
 match xs,hlen with
 | [y0,y1],_ =>
  have g0:=hg 0 _ rfl
  have g1:=hg 1 _ rfl
  simp only [cellsI_,List.drop_succ_cons,List.drop_zero,List.take_succ_cons,List.take_zero,List.getElem?_cons_succ,List.getElem?_cons_zero] at g0 g1
  obtain ⟨z0,e0,o0⟩:=cells_intV Tryz.underlying3 g0
  obtain ⟨z1,e1,o1⟩:=cells_intV Tryz.underlying3 g1
  simp [cellsI_] at e0 e1
  exact ⟨z0,z1,by rw [e0,e1],o0,o1⟩
theorem cells_ask {H:Type} {enc:TypeId × Value→H} {w:World} {fuel:Nat} {sp:Nat→Bool} {held:Bool} {cs:List Value} {d:DataW H × List MemPlace} (hlc:cs.length=8)
  (hf:DataW.trod enc Tryz.prog w 0 sp held fuel 27 cs=some d):∃ q:AskV,cs=q.row.toList∧q.Ok w w.heap.size:=by
 obtain ⟨xs,n,_,_,hl,hlen,hg⟩:=DataW.trod_struct Tryz.underlying27 hf
 match cs,hlc with
 | [k0,k1,k2,k3,k4,k5,k6,k7],_ =>
 match xs,hlen with
 | [y0,y1,y2,y3,y4,y5,y6],_ =>
  have g0:=hg 0 _ rfl
  have g1:=hg 1 _ rfl
  have g2:=hg 2 _ rfl
  have g3:=hg 3 _ rfl
  have g4:=hg 4 _ rfl
  have g5:=hg 5 _ rfl
  have g6:=hg 6 _ rfl
  simp only [cellsI_,cellsU_,cellsSl_,cellsDt_,cellsBo_,List.drop_succ_cons,List.drop_zero,List.take_succ_cons,List.take_zero,List.getElem?_cons_succ,List.getElem?_cons_zero] at g0 g1 g2 g3 g4 g5 g6
  obtain ⟨A0,l0,c0,e0,r0,h0,m0⟩:=cells_bytesV Tryz.underlying23 Tryz.underlying5 cellsU_ g0
  obtain ⟨z1,e1,o1⟩:=cells_intV Tryz.underlying3 g1
  obtain ⟨z2,e2,o2⟩:=cells_intV Tryz.underlying3 g2
  obtain ⟨z3,z4,e3,o3,o4⟩:=cells_dotX rfl g3
  obtain ⟨A5,l5,c5,e5,r5,h5,m5⟩:=cells_bytesV Tryz.underlying23 Tryz.underlying5 cellsU_ g4
  obtain ⟨A6,l6,c6,e6,r6,h6,m6⟩:=cells_bytesV Tryz.underlying23 Tryz.underlying5 cellsU_ g5
  obtain ⟨b7,e7⟩:=cells_boolX Tryz.underlying4 g6
  simp [cellsI_,cellsU_,cellsSl_,cellsDt_,cellsBo_] at e0 e1 e2 e3 e5 e6 e7
  unfold maxLen at m0 m5 m6
  refine ⟨⟨A0,l0,c0,z1,z2,z3,z4,A5,l5,c5,A6,l6,c6,b7⟩,?_,⟨r0,⟨h0,by show c0≤_;omega⟩,o1,o2,o3,o4,r5,⟨h5,by show c5≤_;omega⟩,r6,⟨h6,by show c6≤_;omega⟩⟩⟩
  rw [e0,e1,e2,e3.1,e3.2,e5,e6,e7]
  rfl
theorem open_ask {H:Type} {enc:TypeId × Value→H} {w:World} {b0:Nat} {sp:Nat→Bool} {held:Bool} {r:Reach} {v:Value} {d:DataW H} {p:List MemPlace}
  (hv:Value.okWide Tryz.prog w r b0 27 v) (h:DataW.Trod enc Tryz.prog w 0 sp held 27 v d p):∃ q:AskV,v = .agg q.row∧q.Ok w w.heap.size:=by
 obtain ⟨cs,rfl,hsz⟩:=okWide_struct Tryz.underlying27 hv
 obtain ⟨fuel,hf⟩:=h
 obtain ⟨q,e,ho⟩:=cells_ask (cs:=(Value.agg cs).cells.toList) (by rw [cellsAsk_] at hsz;simpa [Value.cells] using hsz) hf
 refine ⟨q,?_,ho⟩
 congr 1
 apply Array.ext'
 simpa [Value.cells] using e
theorem hidxk_ {p:Prop} (h:p):Hid p:=h
def rRow (K:List UInt8) (h:HeadV) (s:List UInt8):Array Value:=#[.string (strOf K),.int .i64 h.e,.int .i64 h.n,.int .i64 h.c,.int .i64 h.d,.string (strOf h.pl),.string (strOf s)]
theorem rRow_size (K:List UInt8) (h:HeadV) (s:List UInt8):(rRow K h s).size=7:=rfl
theorem iRr (K:List UInt8) (h:HeadV) (s:List UInt8):(Tryz.prog.info? 36).map (·.size)=some (rRow K h s).size:=by rw [rRow_size];kernel_rfl
theorem rRow_one (K:List UInt8) (h:HeadV) (s:List UInt8):(rRow K h s).all (·.oneCell')=true:=by simp [rRow,Value.oneCell']
theorem rr_cells {w:World} {B:Nat} {K:List UInt8} {h:HeadV} {s:List UInt8} (k:Bk w B 36 (rRow K h s)):w.cell? ⟨B,0,none⟩=some (.string (strOf K))∧w.cell? ⟨B,1,none⟩=some (.int .i64 h.e)∧w.cell? ⟨B,2,none⟩=some (.int .i64 h.n)∧w.cell? ⟨B,3,none⟩=some (.int .i64 h.c)∧w.cell? ⟨B,4,none⟩=some (.int .i64 h.d)∧w.cell? ⟨B,5,none⟩=some (.string (strOf h.pl))∧w.cell? ⟨B,6,none⟩=some (.string (strOf s)):=⟨k.cell 0,k.cell 1,k.cell 2,k.cell 3,k.cell 4,k.cell 5,k.cell 6⟩
set_option maxHeartbeats 8000000 in
theorem refhead_any (w:World) (K:List UInt8) (h:HeadV) (s:List UInt8):Calls Tryz.prog 29 #[.agg (rRow K h s)] w fun e w'=>e = .returned (.bool (decide h.Ok))∧Below w.heap.size w w':=by
 refine (show ∀ b,(b=true↔h.Ok)→Calls Tryz.prog 29 #[.agg (rRow K h s)] w (fun e w'=>e = .returned (.bool b)∧Below w.heap.size w w') from fun b hb=>?_) _ (by simp)
 obtain ⟨g,hg⟩:∃ g,w.heap.size=g:=⟨_,rfl⟩
 obtain ⟨w1,hw1⟩:∃ W,w.alloc (.cells (rRow K h s) 36)=W:=⟨_,rfl⟩
 have B1:=hidxk_ (show Below w.heap.size w w1 by rw [← hw1];exact (Below.refl _ _).alloc (Nat.le_refl _) _)
 obtain ⟨k0,k1,k2,k3,k4,k5,k6⟩:=rr_cells (show Bk w1 g 36 (rRow K h s) by rw [← hw1,← hg];exact Bk.new w _ _)
 clear k0 k6
 obtain ⟨he,hn,hc,hd,pa,pl,pc⟩:=h
 obtain ⟨z,hz⟩:∃ z,pl.length=z:=⟨_,rfl⟩
 have hsz:(strOf pl).size=z:=by rw [strOf_size,hz]
 unfold HeadV.Ok at hb
 simp only at k1 k2 k3 k4 k5 hb
 rw [hz] at hb
 clear hz
 by_cases t0:1≤he∧he≤1048576
 case neg =>
  have c0:=refEpoch_any w1 he false (by rw [decide_eq_false t0])
  obtain rfl:b=false:=Bool.eq_false_iff.2 (fun e=>by have x:=hb.1 e;exact t0 (by omega))
  clear hb t0
  go_enter Tryz.func29,Tryz.ntmps29
  go_wp2_with (first
   | (go_at_call 59;((with_reducible refine c0.mono ?_);clear c0;rintro e w' ⟨rfl,rfl⟩))
   | (go_at_call 60;((with_reducible refine c1.mono ?_);clear c1;rintro e w' ⟨rfl,rfl⟩))
   | (go_at_call 61;((with_reducible refine c2.mono ?_);clear c2;rintro e w' ⟨rfl,rfl⟩)))
  go_ret
  exact ⟨rfl,B1.out⟩
 by_cases t1:1≤hn∧hn≤4611686018427387904
 case neg =>
  have c0:=refEpoch_any w1 he true (by rw [decide_eq_true t0])
  have c1:=refCounter_any w1 hn
  rw [show counterB hn=false by unfold counterB;rw [← Bool.decide_and];exact decide_eq_false t1] at c1
  obtain rfl:b=false:=Bool.eq_false_iff.2 (fun e=>by have x:=hb.1 e;exact t1 (by omega))
  clear hb t0 t1
  go_enter Tryz.func29,Tryz.ntmps29
  go_wp2_with (first
   | (go_at_call 59;((with_reducible refine c0.mono ?_);clear c0;rintro e w' ⟨rfl,rfl⟩))
   | (go_at_call 60;((with_reducible refine c1.mono ?_);clear c1;rintro e w' ⟨rfl,rfl⟩))
   | (go_at_call 61;((with_reducible refine c2.mono ?_);clear c2;rintro e w' ⟨rfl,rfl⟩)))
  go_ret
  exact ⟨rfl,B1.out⟩
 by_cases t2:1≤hc∧hc≤16
 case neg =>
  have c0:=refEpoch_any w1 he true (by rw [decide_eq_true t0])
  have c1:=refCounter_any w1 hn
  rw [show counterB hn=true by unfold counterB;rw [← Bool.decide_and];exact decide_eq_true t1] at c1
  have c2:=refClient_any w1 hc
  rw [show clientB hc=false by unfold clientB;rw [← Bool.decide_and];exact decide_eq_false t2] at c2
  obtain rfl:b=false:=Bool.eq_false_iff.2 (fun e=>by have x:=hb.1 e;exact t2 (by omega))
  clear hb t0 t1 t2
  go_enter Tryz.func29,Tryz.ntmps29
  go_wp2_with (first
   | (go_at_call 59;((with_reducible refine c0.mono ?_);clear c0;rintro e w' ⟨rfl,rfl⟩))
   | (go_at_call 60;((with_reducible refine c1.mono ?_);clear c1;rintro e w' ⟨rfl,rfl⟩))
   | (go_at_call 61;((with_reducible refine c2.mono ?_);clear c2;rintro e w' ⟨rfl,rfl⟩)))
  go_ret
  exact ⟨rfl,B1.out⟩
 by_cases t3:1≤hd
 case neg =>
  have c0:=refEpoch_any w1 he true (by rw [decide_eq_true t0])
  have c1:=refCounter_any w1 hn
  rw [show counterB hn=true by unfold counterB;rw [← Bool.decide_and];exact decide_eq_true t1] at c1
  have c2:=refClient_any w1 hc
  rw [show clientB hc=true by unfold clientB;rw [← Bool.decide_and];exact decide_eq_true t2] at c2
  have d3:decide (1≤hd)=false:=decide_eq_false t3
  obtain rfl:b=false:=Bool.eq_false_iff.2 (fun e=>by have x:=hb.1 e;exact t3 (by omega))
  clear hb t0 t1 t2 t3
  go_enter Tryz.func29,Tryz.ntmps29
  go_wp2_with (first
   | (go_at_call 59;((with_reducible refine c0.mono ?_);clear c0;rintro e w' ⟨rfl,rfl⟩))
   | (go_at_call 60;((with_reducible refine c1.mono ?_);clear c1;rintro e w' ⟨rfl,rfl⟩))
   | (go_at_call 61;((with_reducible refine c2.mono ?_);clear c2;rintro e w' ⟨rfl,rfl⟩)))
  go_ret
  exact ⟨rfl,B1.out⟩
 by_cases t4:hd≤1099511627776
 case neg =>
  have c0:=refEpoch_any w1 he true (by rw [decide_eq_true t0])
  have c1:=refCounter_any w1 hn
  rw [show counterB hn=true by unfold counterB;rw [← Bool.decide_and];exact decide_eq_true t1] at c1
  have c2:=refClient_any w1 hc
  rw [show clientB hc=true by unfold clientB;rw [← Bool.decide_and];exact decide_eq_true t2] at c2
  have d3:decide (1≤hd)=true:=decide_eq_true t3
  have d4:decide (hd≤1099511627776)=false:=decide_eq_false t4
  obtain rfl:b=false:=Bool.eq_false_iff.2 (fun e=>by have x:=hb.1 e;exact t4 (by omega))
  clear hb t0 t1 t2 t3 t4
  go_enter Tryz.func29,Tryz.ntmps29
  go_wp2_with (first
   | (go_at_call 59;((with_reducible refine c0.mono ?_);clear c0;rintro e w' ⟨rfl,rfl⟩))
   | (go_at_call 60;((with_reducible refine c1.mono ?_);clear c1;rintro e w' ⟨rfl,rfl⟩))
   | (go_at_call 61;((with_reducible refine c2.mono ?_);clear c2;rintro e w' ⟨rfl,rfl⟩)))
  go_ret
  exact ⟨rfl,B1.out⟩
 by_cases t5:z≤4096
 case neg =>
  have c0:=refEpoch_any w1 he true (by rw [decide_eq_true t0])
  have c1:=refCounter_any w1 hn
  rw [show counterB hn=true by unfold counterB;rw [← Bool.decide_and];exact decide_eq_true t1] at c1
  have c2:=refClient_any w1 hc
  rw [show clientB hc=true by unfold clientB;rw [← Bool.decide_and];exact decide_eq_true t2] at c2
  have d3:decide (1≤hd)=true:=decide_eq_true t3
  have d4:decide (hd≤1099511627776)=true:=decide_eq_true t4
  have d5:decide ((z:Int)≤4096)=false:=decide_eq_false (by omega)
  have d6:decide (z≤4096)=false:=decide_eq_false t5
  obtain rfl:b=false:=Bool.eq_false_iff.2 (fun e=>by have x:=hb.1 e;exact t5 (by omega))
  clear hb t0 t1 t2 t3 t4 t5
  go_enter Tryz.func29,Tryz.ntmps29
  go_wp2_with (first
   | (go_at_call 59;((with_reducible refine c0.mono ?_);clear c0;rintro e w' ⟨rfl,rfl⟩))
   | (go_at_call 60;((with_reducible refine c1.mono ?_);clear c1;rintro e w' ⟨rfl,rfl⟩))
   | (go_at_call 61;((with_reducible refine c2.mono ?_);clear c2;rintro e w' ⟨rfl,rfl⟩)))
  go_ret
  exact ⟨rfl,B1.out⟩
 have c0:=refEpoch_any w1 he true (by rw [decide_eq_true t0])
 have c1:=refCounter_any w1 hn
 rw [show counterB hn=true by unfold counterB;rw [← Bool.decide_and];exact decide_eq_true t1] at c1
 have c2:=refClient_any w1 hc
 rw [show clientB hc=true by unfold clientB;rw [← Bool.decide_and];exact decide_eq_true t2] at c2
 have d3:decide (1≤hd)=true:=decide_eq_true t3
 have d4:decide (hd≤1099511627776)=true:=decide_eq_true t4
 have d5:decide ((z:Int)≤4096)=true:=decide_eq_true (by omega)
 have d6:decide (z≤4096)=true:=decide_eq_true t5
 obtain rfl:b=true:=hb.2 ⟨t0,t1,t2,⟨t3,t4⟩,t5⟩
 clear hb t0 t1 t2 t3 t4 t5
 go_enter Tryz.func29,Tryz.ntmps29
 go_wp2_with (first
  | (go_at_call 59;((with_reducible refine c0.mono ?_);clear c0;rintro e w' ⟨rfl,rfl⟩))
  | (go_at_call 60;((with_reducible refine c1.mono ?_);clear c1;rintro e w' ⟨rfl,rfl⟩))
  | (go_at_call 61;((with_reducible refine c2.mono ?_);clear c2;rintro e w' ⟨rfl,rfl⟩)))
 go_ret
 exact ⟨rfl,B1.out⟩
set_option maxHeartbeats 8000000 in
theorem refRight_any (w:World) (K:List UInt8) (h:HeadV) (s:List UInt8):Calls Tryz.prog 44 #[.agg (rRow K h s)] w fun e w'=>e = .returned (.bool (decide (K.length=32∧EnvOk h s.length)))∧Below w.heap.size w w':=by
 obtain ⟨g,hg⟩:∃ g,w.heap.size=g:=⟨_,rfl⟩
 obtain ⟨w1,hw1⟩:∃ W,w.alloc (.cells (rRow K h s) 36)=W:=⟨_,rfl⟩
 have B1:=hidxk_ (show Below w.heap.size w w1 by rw [← hw1];exact (Below.refl _ _).alloc (Nat.le_refl _) _)
 have K1:=hidxk_ (show Bk w1 g 36 (rRow K h s) by rw [← hw1,← hg];exact Bk.new w _ _)
 refine (show ∀ b,(b=true↔(K.length=32∧EnvOk h s.length))→Calls Tryz.prog 44 #[.agg (rRow K h s)] w (fun e w'=>e = .returned (.bool b)∧Below w.heap.size w w') from fun b hb=>?_) _ (by simp)
 obtain ⟨kz,hkz⟩:∃ z,K.length=z:=⟨_,rfl⟩
 obtain ⟨sz,hsz⟩:∃ z,s.length=z:=⟨_,rfl⟩
 have z1:(strOf K).size=kz:=by rw [strOf_size,hkz]
 have z2:(strOf s).size=sz:=by rw [strOf_size,hsz]
 have c1:=refhead_any w1 K h s
 rw [hkz,hsz] at hb
 clear hkz hsz
 by_cases t0:h.Ok
 case neg =>
  rw [decide_eq_false t0] at c1
  obtain rfl:b=false:=Bool.eq_false_iff.2 (fun e=>by have x:=hb.1 e;exact t0 x.2.1)
  clear hb t0
  go_enter Tryz.func44,Tryz.ntmps44
  go_wp2_with (first
   | (refine wpList_load_row rfl 36 (.tmp 1) rfl g rfl 36 (rRow K h s) (0,0) _ K1.out Tryz.underlying36 rfl (iRr _ _ _) ?_)
   | (go_at_call 29;((with_reducible refine c1.mono ?_);clear c1;rintro e w2 ⟨rfl,hB⟩;have X2:=hidxk_ (B1.out.trans (hB.mono B1.out.size));obtain ⟨k0,k1,k2,k3,k4,k5,k6⟩:=rr_cells (K1.out.below hB K1.out.lt);clear k1 k2 k3 k4 k5 hB)))
  go_ret
  exact ⟨rfl,X2.out⟩
 by_cases t1:kz=32
 case neg =>
  rw [decide_eq_true t0] at c1
  have d1:((kz:Int) == 32)=false:=by exact beq_false_of_ne (by omega)
  obtain rfl:b=false:=Bool.eq_false_iff.2 (fun e=>by have x:=hb.1 e;exact t1 x.1)
  clear hb t0 t1
  go_enter Tryz.func44,Tryz.ntmps44
  go_wp2_with (first
   | (refine wpList_load_row rfl 36 (.tmp 1) rfl g rfl 36 (rRow K h s) (0,0) _ K1.out Tryz.underlying36 rfl (iRr _ _ _) ?_)
   | (go_at_call 29;((with_reducible refine c1.mono ?_);clear c1;rintro e w2 ⟨rfl,hB⟩;have X2:=hidxk_ (B1.out.trans (hB.mono B1.out.size));obtain ⟨k0,k1,k2,k3,k4,k5,k6⟩:=rr_cells (K1.out.below hB K1.out.lt);clear k1 k2 k3 k4 k5 hB)))
  go_ret
  exact ⟨rfl,X2.out⟩
 by_cases t2:16≤sz
 case neg =>
  rw [decide_eq_true t0] at c1
  have d1:((kz:Int) == 32)=true:=by rw [t1];rfl
  have d2:decide ((16:Int)≤(sz:Int))=false:=decide_eq_false (by omega)
  have d2n:decide (16≤sz)=false:=decide_eq_false t2
  obtain rfl:b=false:=Bool.eq_false_iff.2 (fun e=>by have x:=hb.1 e;exact t2 x.2.2.1)
  clear hb t0 t1 t2
  go_enter Tryz.func44,Tryz.ntmps44
  go_wp2_with (first
   | (refine wpList_load_row rfl 36 (.tmp 1) rfl g rfl 36 (rRow K h s) (0,0) _ K1.out Tryz.underlying36 rfl (iRr _ _ _) ?_)
   | (go_at_call 29;((with_reducible refine c1.mono ?_);clear c1;rintro e w2 ⟨rfl,hB⟩;have X2:=hidxk_ (B1.out.trans (hB.mono B1.out.size));obtain ⟨k0,k1,k2,k3,k4,k5,k6⟩:=rr_cells (K1.out.below hB K1.out.lt);clear k1 k2 k3 k4 k5 hB)))
  go_ret
  exact ⟨rfl,X2.out⟩
 by_cases t3:sz≤8192
 case neg =>
  rw [decide_eq_true t0] at c1
  have d1:((kz:Int) == 32)=true:=by rw [t1];rfl
  have d2:decide ((16:Int)≤(sz:Int))=true:=decide_eq_true (by omega)
  have d2n:decide (16≤sz)=true:=decide_eq_true t2
  have d3:decide ((sz:Int)≤8192)=false:=decide_eq_false (by omega)
  have d3n:decide (sz≤8192)=false:=decide_eq_false t3
  obtain rfl:b=false:=Bool.eq_false_iff.2 (fun e=>by have x:=hb.1 e;exact t3 x.2.2.2)
  clear hb t0 t1 t2 t3
  go_enter Tryz.func44,Tryz.ntmps44
  go_wp2_with (first
   | (refine wpList_load_row rfl 36 (.tmp 1) rfl g rfl 36 (rRow K h s) (0,0) _ K1.out Tryz.underlying36 rfl (iRr _ _ _) ?_)
   | (go_at_call 29;((with_reducible refine c1.mono ?_);clear c1;rintro e w2 ⟨rfl,hB⟩;have X2:=hidxk_ (B1.out.trans (hB.mono B1.out.size));obtain ⟨k0,k1,k2,k3,k4,k5,k6⟩:=rr_cells (K1.out.below hB K1.out.lt);clear k1 k2 k3 k4 k5 hB)))
  go_ret
  exact ⟨rfl,X2.out⟩
 rw [decide_eq_true t0] at c1
 have d1:((kz:Int) == 32)=true:=by rw [t1];rfl
 have d2:decide ((16:Int)≤(sz:Int))=true:=decide_eq_true (by omega)
 have d2n:decide (16≤sz)=true:=decide_eq_true t2
 have d3:decide ((sz:Int)≤8192)=true:=decide_eq_true (by omega)
 have d3n:decide (sz≤8192)=true:=decide_eq_true t3
 obtain rfl:b=true:=hb.2 ⟨t1,t0,t2,t3⟩
 clear hb t0 t1 t2 t3
 go_enter Tryz.func44,Tryz.ntmps44
 go_wp2_with (first
  | (refine wpList_load_row rfl 36 (.tmp 1) rfl g rfl 36 (rRow K h s) (0,0) _ K1.out Tryz.underlying36 rfl (iRr _ _ _) ?_)
  | (go_at_call 29;((with_reducible refine c1.mono ?_);clear c1;rintro e w2 ⟨rfl,hB⟩;have X2:=hidxk_ (B1.out.trans (hB.mono B1.out.size));obtain ⟨k0,k1,k2,k3,k4,k5,k6⟩:=rr_cells (K1.out.below hB K1.out.lt);clear k1 k2 k3 k4 k5 hB)))
 go_ret
 exact ⟨rfl,X2.out⟩
theorem zeroR (W:World):(zeroValue 36).run Tryz.prog W = .ok (.agg (rRow [] hd0 [])) W:=by kernel_rfl
theorem mark_putx (w w':World) (g:Nat) (t:TypeId) (cs:Array Value) (o:Obj) (hg:(w.alloc o).grownBy w' (some w.heap.size)):Below w.heap.size w w' :=
 ((Below.refl w.heap.size w).alloc (Nat.le_refl _) o).grown hg (by simp) (fun k hk=>by injection hk with hk;omega)
theorem put_otherX {a:Act} {s t:Nat} {v:Value} (h:s≠t):(a.put (some t) v).tmps.getD s undef=a.tmps.getD s undef:=by
 simp only [Act.put]
 simp [Array.getD_eq_getD_getElem?,Array.getElem?_setIfInBounds,Ne.symm h]
theorem put_selfX {a:Act} {t:Nat} {v:Value} (h:t < a.tmps.size):(a.put (some t) v).tmps.getD t undef=v:=by
 simp [Act.put,h]
structure XeJ {α:Type} (VX:α→Value) (RW:α→Array Value) (z:Value) (ty:TypeId) (base:Nat) (P0:World→Prop) (P1:α→World→Prop) (Bs:α→List Nat) (n0:Nat) (x mv s0 s1 al st ae:Bool) (vx vm v0 v1 va vr:Value) (W:World):Prop where
 hs:(mv=true→x=true)∧(s0=true→mv=true)∧(s1=true→mv=true)∧(st=true→s0=true∧al=true)∧(ae=true→s1=true)
 no:x=false→P0 W
 ex:∃ a q X,(x=true→vx=VX a∧P1 a W)∧(mv=true→vm=VX a)∧(s0=true→v0 = .agg (RW a))∧(s1=true→v1=z)∧(ae=true→vr=z) ∧
  (al=true→va = .pointer (some ⟨q,0,none⟩)∧base≤q∧Bk W q ty X∧X.size=n0)∧(st=true→X=RW a)∧(x=true→al=true→q∉Bs a)
section
variable {α : Type} {VX : α → Value} {RW : α → Array Value} {z : Value} {ty : TypeId} {base : Nat} {P0 : World → Prop} {P1 : α → World → Prop} {Bs : α → List Nat} {n0 : Nat} {x mv s0 s1 al st ae : Bool} {vx vm v0 v1 va vr : Value} {W W' : World}
theorem XeJ.start [Inhabited α] (h:P0 W):XeJ VX RW z ty base P0 P1 Bs n0 false false false false false false false vx vm v0 v1 va vr W :=
 ⟨⟨fun e=>Bool.noConfusion e,fun e=>Bool.noConfusion e,fun e=>Bool.noConfusion e,fun e=>Bool.noConfusion e,fun e=>Bool.noConfusion e⟩,fun _=>h,default,0,#[],fun e=>Bool.noConfusion e,fun e=>Bool.noConfusion e,fun e=>Bool.noConfusion e,fun e=>Bool.noConfusion e,fun e=>Bool.noConfusion e,fun e=>Bool.noConfusion e,fun e=>Bool.noConfusion e,fun e=>Bool.noConfusion e⟩
theorem XeJ.to_x (h:XeJ VX RW z ty base P0 P1 Bs n0 x mv s0 s1 al st ae vx vm v0 v1 va vr W) (hx:x=false) (a:α) (h1:P1 a W') (hk:∀ k,base≤k→k < W.heap.size→W'.heap[k]? = W.heap[k]?) (hb:∀ k∈Bs a,k < base∨W.heap.size≤k) :
  XeJ VX RW z ty base P0 P1 Bs n0 true mv s0 s1 al st ae (VX a) vm v0 v1 va vr W':=by
 obtain ⟨⟨b1,b2,b3,b4,b5⟩,c0,a0,q,X,k1,k2,k3,k4,k5,k6,k7,k8⟩:=h
 have f1:mv=true→False:=fun e=>by have:=b1 e;rw [hx] at this;cases this
 refine ⟨⟨fun _=>rfl,b2,b3,b4,b5⟩,fun e=>Bool.noConfusion e,a,q,X,fun _=>⟨rfl,h1⟩,fun e=>(f1 e).elim,fun e=>(f1 (b2 e)).elim,fun e=>(f1 (b3 e)).elim,fun e=>(f1 (b3 (b5 e))).elim,fun e=>?_,fun e=>(f1 (b2 (b4 e).1)).elim,fun _ e hm=>?_⟩
 ·obtain ⟨a1,a2,a3,a4⟩:=k6 e
  exact ⟨a1,a2,(hk q a2 a3.lt).trans a3,a4⟩
 ·obtain ⟨a1,a2,a3,a4⟩:=k6 e
  have:=a3.lt
  rcases hb q hm with h | h <;> omega
theorem XeJ.to_mv (h:XeJ VX RW z ty base P0 P1 Bs n0 x mv s0 s1 al st ae vx vm v0 v1 va vr W) (hx:x=true):XeJ VX RW z ty base P0 P1 Bs n0 x true s0 s1 al st ae vx vx v0 v1 va vr W:=by
 obtain ⟨⟨b1,b2,b3,b4,b5⟩,c0,a0,q,X,k1,k2,k3,k4,k5,k6,k7,k8⟩:=h
 exact ⟨⟨fun _=>hx,fun _=>rfl,fun _=>rfl,b4,b5⟩,c0,a0,q,X,k1,fun _=>(k1 hx).1,k3,k4,k5,k6,k7,k8⟩
theorem XeJ.to_s0 (h:XeJ VX RW z ty base P0 P1 Bs n0 x mv s0 s1 al st ae vx vm v0 v1 va vr W) (hx:mv=true) (a:α) (hv:vm=VX a) (hi:∀ a a',VX a=VX a'→RW a=RW a'):XeJ VX RW z ty base P0 P1 Bs n0 x mv true s1 al st ae vx vm (.agg (RW a)) v1 va vr W:=by
 obtain ⟨⟨b1,b2,b3,b4,b5⟩,c0,a0,q,X,k1,k2,k3,k4,k5,k6,k7,k8⟩:=h
 exact ⟨⟨b1,fun _=>hx,b3,fun e=>⟨rfl,(b4 e).2⟩,b5⟩,c0,a0,q,X,k1,k2,fun _=>by rw [hi a a0 (hv.symm.trans (k2 hx))],k4,k5,k6,k7,k8⟩
theorem XeJ.to_s1 (h:XeJ VX RW z ty base P0 P1 Bs n0 x mv s0 s1 al st ae vx vm v0 v1 va vr W) (hx:mv=true):XeJ VX RW z ty base P0 P1 Bs n0 x mv s0 true al st ae vx vm v0 z va vr W:=by
 obtain ⟨⟨b1,b2,b3,b4,b5⟩,c0,a0,q,X,k1,k2,k3,k4,k5,k6,k7,k8⟩:=h
 exact ⟨⟨b1,b2,fun _=>hx,b4,fun _=>rfl⟩,c0,a0,q,X,k1,k2,k3,fun _=>rfl,k5,k6,k7,k8⟩
theorem XeJ.to_ae (h:XeJ VX RW z ty base P0 P1 Bs n0 x mv s0 s1 al st ae vx vm v0 v1 va vr W) (hx:s1=true):XeJ VX RW z ty base P0 P1 Bs n0 x mv s0 s1 al st true vx vm v0 v1 va z W:=by
 obtain ⟨⟨b1,b2,b3,b4,b5⟩,c0,a0,q,X,k1,k2,k3,k4,k5,k6,k7,k8⟩:=h
 exact ⟨⟨b1,b2,b3,b4,fun _=>hx⟩,c0,a0,q,X,k1,k2,k3,k4,fun _=>rfl,k6,k7,k8⟩
theorem XeJ.to_al (h:XeJ VX RW z ty base P0 P1 Bs n0 x mv s0 s1 al st ae vx vm v0 v1 va vr W) (hx:al=false) (hB:base≤W.heap.size) {X:Array Value} (hX:X.size=n0) (hp0:P0 W→P0 (W.alloc (.cells X ty))) (hp1:∀ a,P1 a W→P1 a (W.alloc (.cells X ty))∧∀ k∈Bs a,k < W.heap.size) :
  XeJ VX RW z ty base P0 P1 Bs n0 x mv s0 s1 true st ae vx vm v0 v1 (.pointer (some ⟨W.heap.size,0,none⟩)) vr (W.alloc (.cells X ty)):=by
 obtain ⟨⟨b1,b2,b3,b4,b5⟩,c0,a0,q,Y,k1,k2,k3,k4,k5,k6,k7,k8⟩:=h
 refine ⟨⟨b1,b2,b3,fun e=>⟨(b4 e).1,rfl⟩,b5⟩,fun e=>hp0 (c0 e),a0,W.heap.size,X,fun e=>⟨(k1 e).1,(hp1 a0 (k1 e).2).1⟩,k2,k3,k4,k5,fun _=>⟨rfl,hB,Bk.new _ _ _,hX⟩,fun e=>?_,fun e _ hm=>?_⟩
 ·have:=(b4 e).2;rw [hx] at this;cases this
 ·have:=(hp1 a0 (k1 e).2).2 _ hm
  omega
theorem XeJ.to_st (h:XeJ VX RW z ty base P0 P1 Bs n0 x mv s0 s1 al st ae vx vm v0 v1 va vr W) (h0:s0=true) (ha:al=true) {q:Nat} {R:Array Value} (hq:va = .pointer (some ⟨q,0,none⟩)) (hv:v0 = .agg R) (hR:R.size=n0) (hb:Bk W' q ty R) (hp1:∀ a,P1 a W→q∉Bs a→P1 a W') :
  XeJ VX RW z ty base P0 P1 Bs n0 x mv s0 s1 al true ae vx vm v0 v1 va vr W':=by
 obtain ⟨⟨b1,b2,b3,b4,b5⟩,c0,a0,q',Y,k1,k2,k3,k4,k5,k6,k7,k8⟩:=h
 obtain ⟨a1,a2,a3,a4⟩:=k6 ha
 obtain rfl:q=q':=by
  rw [hq] at a1
  injection a1 with a1
  injection a1 with a1
  injection a1
 have hRR:R=RW a0:=by
  have:=hv.symm.trans (k3 h0)
  injection this
 have hxt:x=true:=b1 (b2 h0)
 refine ⟨⟨b1,b2,b3,fun _=>⟨h0,ha⟩,b5⟩,fun e=>?_,a0,q,R,fun e=>⟨(k1 e).1,hp1 a0 (k1 e).2 (k8 e ha)⟩,k2,k3,k4,k5,fun _=>⟨a1,a2,hb,hR⟩,fun _=>hRR,k8⟩
 rw [hxt] at e
 cases e
end
end Go.Proofs.YtpcbmnmgefhaaaaGreatDoor
