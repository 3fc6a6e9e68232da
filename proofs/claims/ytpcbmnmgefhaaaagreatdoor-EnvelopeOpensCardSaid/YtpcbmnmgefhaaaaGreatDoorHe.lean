import Derived.Test.YtpcbmnmgefhaaaaGreatDoorHa
import Derived.Test.YtpcbmnmgefhaaaaGreatDoorUn
namespace Go.Proofs.YtpcbmnmgefhaaaaGreatDoor
set_option maxRecDepth 100000
open Go.RowKit
set_option linter.unusedVariables false
set_option linter.unusedSimpArgs false
def keyB (key:List UInt8):List UInt8:=if 64 < key.length then sha key else key
def padK (key:List UInt8):List UInt8:=keyB key ++ zbytes (64 - (keyB key).length)
theorem keyB_len (key:List UInt8):(keyB key).length≤64:=by
 unfold keyB
 split
 ·rw [sha_len];omega
 ·omega
theorem padK_len (key:List UInt8):(padK key).length=64:=by
 have:=keyB_len key
 rw [padK,List.length_append,zbytes_len]
 omega
def maskB (key:List UInt8) (x:UInt8):List UInt8:=mixB (padK key) (List.replicate 64 x)
theorem maskB_len (key:List UInt8) (x:UInt8):(maskB key x).length=64:=by rw [maskB,mixB_len,padK_len,List.length_replicate];rfl
def hmacB (key text:List UInt8):List UInt8:=sha (maskB key 92 ++ sha (maskB key 54 ++ text))
theorem hmacB_len (key text:List UInt8):(hmacB key text).length=32:=sha_len _
def MskP (w:World) (L:List UInt8) (e:Ending) (w':World):Prop:=∃ g,e = .returned (.slice (some ⟨g,0,none⟩) 64 64)∧w.heap.size≤g∧Blk8 w' g L∧Below w.heap.size w w'
set_option maxHeartbeats 1000000 in
theorem masked_any (w:World) (g:Nat) (l:List UInt8) (x:UInt8) (hl:l.length=64) (hb:Blk8 w g l) :
  Calls Tryz.prog 101 #[.slice (some ⟨g,0,none⟩) 64 64,.int .u8 ((x.toNat:Nat):Int)] w (MskP w (mixB l (List.replicate 64 x))):=by
 have c1:=repeat_any (w.alloc (.cells (rowOf [x]) 5)) (some ⟨w.heap.size,0,none⟩) x 1 ((Blk8.new w [x]).rd (Blk8.new w [x]).lt)
 have c2:=fun (W:World) (g2:Nat) (h1:Blk8 W g l) (h2:Rd W W.heap.size (some ⟨g2,0,none⟩) (List.replicate 64 x))=>mix8_any (some ⟨g,0,none⟩) (some ⟨g2,0,none⟩) 64 64 l (List.replicate 64 x) 64 64 64 W hl (by simp) rfl (h1.rd h1.lt) h2 (by omega) (by omega) (by omega)
 have e1:(w.alloc (.cells (rowOf [x]) 5)).heap.size=w.heap.size + 1:=by simp
 have hrow:(#[Value.int .u8 ((x.toNat:Nat):Int)]:Array Value)=rowOf [x]:=by simp [rowOf]
 have B0:=hidh_ ((Below.refl w.heap.size w).alloc (Nat.le_refl _) (.cells (rowOf [x]) 5))
 have K0:=hidh_ (hb.alloc (.cells (rowOf [x]) 5))
 rw [e1] at c1
 rw [← hrow] at c1 B0 K0 e1
 clear hrow hb
 go_enter Tryz.func101,Tryz.ntmps101
 go_wp2_with (first
  | (go_at_call 116;((with_reducible refine c1.mono ?_);rintro e w2 ⟨rfl,hr2,hb2⟩;have K2:=K0.out.below hb2 (by rw [← e1];exact K0.out.lt);have B2:=hidh_ (B0.out.trans (hb2.mono (by omega)));have c3:=c2 w2 (w.heap.size + 1) K2 hr2;clear hr2 hb2 K2))
  | (go_at_call 104;((with_reducible refine c3.mono ?_);rintro e w3 ⟨rfl,hb3,hk3⟩;have K3:=hidh_ hk3;have B3:=hidh_ (B2.out.trans (hb3.mono B2.out.size));clear hb3 hk3)))
 go_ret
 exact ⟨_,rfl,B2.out.size,K3.out,B3.out⟩
theorem Blk8.rdn0 {w:World} {g h:Nat} {ty:TypeId} {l:List UInt8} (hb:Bk w g ty (rowOf l)) (hne:g≠h):RdN w h (some ⟨g,0,none⟩) l:=fun hn=>by
 obtain ⟨b,off,e,hlt,hc⟩:=hb.rd hb.lt hn
 exact ⟨b,off,e,by injection e with e;injection e with e1;omega,hlt,hc⟩
theorem mk64 (w:World):(Instr.makeSlice 23 (.int .i64 64) (.int .i64 64)).run Tryz.prog w = .ok (.slice (some ⟨w.heap.size,0,none⟩) 64 64) (w.alloc (.cells (rowOf (zbytes 64)) 5)):=mk8 64 (by omega) w
theorem laid0 (l:List UInt8) (n:Nat):laid (zbytes n) 0 l=l ++ zbytes (n - l.length):=by
 simp [laid,zbytes]
set_option maxHeartbeats 1000000 in
theorem block_empty (w:World) (A:Option Addr) (c:Nat) :
  Calls Tryz.prog 100 #[.slice A 0 c] w fun e w'=>e = .returned (.slice (some ⟨w.heap.size,0,none⟩) 64 64)∧Blk8 w' w.heap.size (padK [])∧Below w.heap.size w w':=by
 have hmk:=mk64
 have K0:=hidh_ (Blk8.new w (zbytes 64))
 have B0:=hidh_ ((Below.refl w.heap.size w).alloc (Nat.le_refl _) (.cells (rowOf (zbytes 64)) 5))
 have hcp:∀ W ty,(Builtin.copy_ #[23,23] ty #[.slice (some ⟨w.heap.size,0,none⟩) 64 64,.slice A 0 c]).run Tryz.prog W = .ok (.int .i64 0) W:=fun W ty=>run_copy_none (P:=Tryz.prog) W 23 23 ty 5 _ A 64 64 0 c Tryz.underlying23 (by kernel_rfl) (by simp)
 go_enter Tryz.func100,Tryz.ntmps100
 go_wp2
 go_ret
 exact ⟨rfl,K0.out,B0.out⟩
set_option maxHeartbeats 1000000 in
theorem block_short (w:World) (A:Option Addr) (n c:Nat) (key:List UInt8) (hn:key.length=n) (h0:0 < n) (h64:n≤64) (hr:Rd w w.heap.size A key) :
  Calls Tryz.prog 100 #[.slice A n c] w fun e w'=>e = .returned (.slice (some ⟨w.heap.size,0,none⟩) 64 64)∧Blk8 w' w.heap.size (padK key)∧Below w.heap.size w w':=by
 have hmk:=mk64
 have K0:Hid (Bk (w.alloc (.cells (rowOf (zbytes 64)) 5)) w.heap.size 5 (rowOf (zbytes 64))):=hidh_ (Bk.new w _ _)
 have B0:=hidh_ ((Below.refl w.heap.size w).alloc (Nat.le_refl _) (.cells (rowOf (zbytes 64)) 5))
 have R0:=hidh_ ((hr.alloc (Nat.le_refl _) (.cells (rowOf (zbytes 64)) 5)).rdn (Nat.le_refl _) (by simp))
 have hd:decide (64 < (n:Int))=false:=decide_eq_false (by omega)
 have hd2:decide (64 < n)=false:=decide_eq_false (by omega)
 have hmin:n=Nat.min n 64:=(Nat.min_eq_left h64).symm
 have HMIN:=hidh_ hmin
 have HN:=hidh_ hn
 have hpk:((rowOf (zbytes 64)).toList.take 0 ++ (rowOf key).toList ++ (rowOf (zbytes 64)).toList.drop (0 + (rowOf key).toList.length)).toArray=rowOf (padK key):=by
  rw [row_laid,laid0,padK,keyB,if_neg (by omega)]
 have HPK:=hidh_ hpk
 have hfit:0 + n≤(rowOf (zbytes 64)).size:=by rw [rowOf_size,zbytes_len];omega
 clear hmin hpk hr hn
 go_enter Tryz.func100,Tryz.ntmps100
 go_wp2_with (refine wpList_copy8 rfl (.tmp 15) (.tmp 16) rfl w.heap.size 0 64 64 rfl A n c rfl key n HN.out h0 HMIN.out w.heap.size R0.out 5 _ K0.out hfit ?_;intro W1 k1 g1 s1;rw [HPK.out] at k1;have K1:=hidh_ k1;have B1:=hidh_ (B0.out.grown g1 B0.out.size (fun k hk=>by injection hk with hk;omega));clear k1 g1 s1)
 go_ret
 exact ⟨rfl,K1.out,B1.out⟩
set_option maxHeartbeats 1000000 in
theorem block_long (w:World) (A:Option Addr) (n c:Nat) (key:List UInt8) (hn:key.length=n) (h64:64 < n) (hmx:n≤1152921504606846976) (hnc:n≤c) (hcm:c≤9223372036854775807) (hr:Rd w w.heap.size A key) (ht:Tab w) (hg1:2 < w.heap.size) :
  Calls Tryz.prog 100 #[.slice A n c] w fun e w'=>e = .returned (.slice (some ⟨w.heap.size,0,none⟩) 64 64)∧Blk8 w' w.heap.size (padK key)∧Below w.heap.size w w':=by
 have hmk:=mk64
 have hz:=z32
 have K0:Bk (w.alloc (.cells (rowOf (zbytes 64)) 5)) w.heap.size 5 (rowOf (zbytes 64)):=Bk.new w _ _
 have e1:(w.alloc (.cells (rowOf (zbytes 64)) 5)).heap.size=w.heap.size + 1:=by simp
 have B0:=(Below.refl w.heap.size w).alloc (Nat.le_refl _) (.cells (rowOf (zbytes 64)) 5)
 have hr1:=hr.below B0
 have hsum:=sum_any (some ⟨w.heap.size + 1,0,none⟩) 1 1 [key] ((w.alloc (.cells (rowOf (zbytes 64)) 5)).alloc (.cells #[.slice A n c] 23)) rfl
  (by have h:=parts_one (w.alloc (.cells (rowOf (zbytes 64)) 5)) A n c key w.heap.size hn hr1 (by omega) hnc (by unfold maxLen;omega);rw [e1] at h;simpa using h) (by omega) (by simp [hn];exact hmx) (fun t h=>((B0.alloc (by omega) _).cell (p:=⟨_,t,none⟩) hg1).trans (ht t h)) (Nat.lt_of_lt_of_le hg1 (B0.alloc (by omega) _).size)
 rw [show ([key]:List (List UInt8)).flatten=key by simp] at hsum
 have hdl:Hid ((sha key).length=32):=hidh_ (sha_len key)
 have hpk:((rowOf (zbytes 64)).toList.take 0 ++ (rowOf (sha key)).toList ++ (rowOf (zbytes 64)).toList.drop (0 + (rowOf (sha key)).toList.length)).toArray=rowOf (padK key):=by
  rw [row_laid,laid0,padK,keyB,if_pos (by omega)]
 obtain ⟨dg,hdg⟩:∃ dg,sha key=dg:=⟨_,rfl⟩
 rw [hdg] at hsum hdl hpk
 have HPK:=hidh_ hpk
 have I:=hidh_ (show (Tryz.prog.info? 22).map (·.size)=some (rowOf dg).size by rw [rowOf_size,hdl.out];exact i32_)
 have Q:=hidh_ (show (rowOf (zbytes 32)).size=(rowOf dg).size by rw [rowOf_size,rowOf_size,hdl.out,zbytes_len])
 have KA:=hidh_ (K0.alloc (.cells #[.slice A n c] 23))
 have BA:=hidh_ (B0.alloc (by omega) (.cells #[.slice A n c] 23))
 have hd:decide (64 < (n:Int))=true:=decide_eq_true (by omega)
 have hd2:decide (64 < n)=true:=decide_eq_true (by omega)
 have hall:=dig_all
 have hfit:0 + 32≤(rowOf (zbytes 64)).size:=by rw [rowOf_size,zbytes_len];omega
 clear hpk hr hr1 K0 B0 hdg ht
 go_enter Tryz.func100,Tryz.ntmps100
 go_wp2_with (first
  | (go_at_call 102;((with_reducible refine hsum.mono ?_);rintro e w2 ⟨rfl,hb⟩;have K2:=hidh_ (KA.out.below hb KA.out.lt);have B2:=hidh_ (BA.out.trans (hb.mono BA.out.size));clear hb))
  | (refine wpList_put_row rfl 22 _ _ rfl w2.heap.size (rowOf dg) rfl rfl 22 (rowOf (zbytes 32)) (Bk.new w2 _ _) I.out Q.out (bytes_one _) ?_;intro w3 k3 g3 s3;have D3:=hidh_ k3;have K3:=hidh_ ((K2.out.alloc _).grown g3 (fun e=>by injection e with e;have:=K2.out.lt;omega));have B3:=hidh_ ((B2.out.alloc B2.out.size (.cells (rowOf (zbytes 32)) 22)).grown g3 (by have:=B2.out.size;simp;omega) (fun k hk=>by injection hk with hk;have:=B2.out.size;omega));have hne:w2.heap.size≠w.heap.size:=(by have:=K2.out.lt;omega);have R3:=hidh_ (show RdN w3 w.heap.size (some ⟨w2.heap.size,0,none⟩) dg from Blk8.rdn0 D3.out hne);clear k3 g3 s3)
  | (refine wpList_copy8 rfl (.tmp 12) (.tmp 13) rfl w.heap.size 0 64 64 rfl (some ⟨w2.heap.size,0,none⟩) 32 32 rfl dg 32 hdl.out (by omega) rfl w.heap.size R3.out 5 _ K3.out hfit ?_;intro W4 k4 g4 s4;rw [HPK.out] at k4;have K4:=hidh_ k4;have B4:=hidh_ (B3.out.grown g4 B3.out.size (fun k hk=>by injection hk with hk;omega));clear k4 g4 s4))
 go_ret
 exact ⟨rfl,K4.out,B4.out⟩
theorem block_any (w:World) (A:Option Addr) (n c:Nat) (key:List UInt8) (hn:key.length=n) (hmx:n≤1152921504606846976) (hnc:n≤c) (hcm:c≤9223372036854775807) (hr:Rd w w.heap.size A key) (ht:Tab w) (hg1:2 < w.heap.size) :
  Calls Tryz.prog 100 #[.slice A n c] w fun e w'=>e = .returned (.slice (some ⟨w.heap.size,0,none⟩) 64 64)∧Blk8 w' w.heap.size (padK key)∧Below w.heap.size w w':=by
 by_cases h0:n=0
 ·have hk:key = []:=List.eq_nil_of_length_eq_zero (by omega)
  rw [hk,h0]
  exact block_empty w A c
 ·by_cases h64:n≤64
  ·exact block_short w A n c key hn (by omega) h64 hr
  ·exact block_long w A n c key hn (by omega) hmx hnc hcm hr ht hg1
end Go.Proofs.YtpcbmnmgefhaaaaGreatDoor
