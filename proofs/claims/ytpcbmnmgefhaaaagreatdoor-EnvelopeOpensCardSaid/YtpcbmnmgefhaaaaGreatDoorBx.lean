import Derived.Test.YtpcbmnmgefhaaaaGreatDoorBB
import Derived.Test.YtpcbmnmgefhaaaaGreatDoorQt
namespace Go.Proofs.YtpcbmnmgefhaaaaGreatDoor
set_option maxRecDepth 100000
open Go.RowKit
set_option linter.unusedVariables false
theorem hidx_ {p:Prop} (h:p):Hid p:=h
theorem xor8 (a b:UInt8):bits .xor .u8 (a.toNat:Int) (b.toNat:Int)=(((a ^^^ b).toNat:Nat):Int):=by
 have ha:=a.toNat_lt
 have hb:=b.toNat_lt
 have hx:a.toNat ^^^ b.toNat < 2 ^ 8:=Nat.xor_lt_two_pow (by omega) (by omega)
 have h1:(BitVec.ofInt 8 (a.toNat:Int)).toNat=a.toNat:=by
  rw [BitVec.ofInt_natCast,BitVec.toNat_ofNat];exact Nat.mod_eq_of_lt (by omega)
 have h2:(BitVec.ofInt 8 (b.toNat:Int)).toNat=b.toNat:=by
  rw [BitVec.ofInt_natCast,BitVec.toNat_ofNat];exact Nat.mod_eq_of_lt (by omega)
 show IntKind.u8.wrap ((BitVec.ofInt 8 (a.toNat:Int) ^^^ BitVec.ofInt 8 (b.toNat:Int)).toNat:Int)=_
 rw [BitVec.toNat_xor,h1,h2,UInt8.toNat_xor]
 simp [IntKind.wrap,IntKind.signed,IntKind.bits]
 omega
def mixB (l m:List UInt8):List UInt8:=List.zipWith (· ^^^ ·) l m
theorem mixB_len (l m:List UInt8):(mixB l m).length=min l.length m.length:=by simp [mixB]
theorem mixB_get (l m:List UInt8) (k:Nat) (h1:k < l.length) (h2:k < m.length):(mixB l m).getD k 0=l.getD k 0 ^^^ m.getD k 0:=by
 have h:k < (List.zipWith (fun x y:UInt8=>x ^^^ y) l m).length:=by simp;omega
 simp [mixB,List.getD,h1,h2,List.getElem?_eq_getElem h]
def mixRow (l m:List UInt8) (n k:Nat):List UInt8:=(mixB l m).take k ++ List.replicate (n - k) 0
theorem mixRow_len (l m:List UInt8) (n k:Nat) (hn:n=min l.length m.length) (hk:k≤n):(mixRow l m n k).length=n:=by
 simp [mixRow,mixB_len];omega
theorem mixRow_set (l m:List UInt8) (n k:Nat) (hn:n=min l.length m.length) (hk:k < n):(mixRow l m n k).set k (l.getD k 0 ^^^ m.getD k 0)=mixRow l m n (k + 1):=by
 have hl:(mixB l m).length=n:=by rw [mixB_len,hn]
 have e:n - k=(n - (k + 1)) + 1:=by omega
 have h:=set_mid ((mixB l m).take k) (List.replicate (n - (k + 1)) 0) (l.getD k 0 ^^^ m.getD k 0)
 rw [List.length_take,hl,Nat.min_eq_left (by omega)] at h
 unfold mixRow
 rw [e,List.replicate_succ,h,List.take_succ_eq_append_getElem (by omega)]
 have hg:=mixB_get l m k (by omega) (by omega)
 have hd:(mixB l m).getD k 0=(mixB l m)[k]'(by omega):=by simp [List.getD,List.getElem?_eq_getElem (show k < (mixB l m).length by omega)]
 rw [hd] at hg
 rw [hg]
set_option maxHeartbeats 1000000 in
theorem mix8_any (A B:Option Addr) (c d:Nat) (l m:List UInt8) (n a b:Nat) (w:World) (hla:l.length=a) (hmb:m.length=b) (hn:n=min a b) (hr:Rd w w.heap.size A l) (hs:Rd w w.heap.size B m) (hmx:n≤281474976710656) (ha:a≤9223372036854775807) (hb:b≤9223372036854775807) :
  Calls Tryz.prog 104 #[.slice A a c,.slice B b d] w fun e w'=>e = .returned (.slice (some ⟨w.heap.size,0,none⟩) n n)∧Below w.heap.size w w'∧Blk8 w' w.heap.size (mixB l m):=by
 have hmk0:=fun W=>mk8 n hmx W
 have HR:Hid (Rd w w.heap.size A l):=hr
 have HS:Hid (Rd w w.heap.size B m):=hs
 have HLA:Hid (l.length=a):=hla
 have HMB:Hid (m.length=b):=hmb
 have HN:Hid (n=min l.length m.length):=by rw [HLA.out,HMB.out];exact hn
 have hna:n≤a:=by omega
 have hnb:n≤b:=by omega
 clear hr hs hla hmb
 rcases Nat.lt_or_ge b a with hba | hba
 case' inl=>obtain rfl:n=b:=by omega
 case' inr=>obtain rfl:n=a:=by omega
 all_goals
  clear hn
  go_enter Tryz.func104,Tryz.ntmps104
  go_wp2
  go_loopw [6,15] (fun _ i wr=>∃ k:Nat,k≤n∧i = .int .i64 k∧Blk8 wr w.heap.size (mixRow l m n k)∧Below w.heap.size w wr) (fun _ i _=>n - (intOf i).toNat)
  case atStart=>exact ⟨0,Nat.zero_le _,rfl,by simpa [mixRow] using Blk8.new w (List.replicate n 0),(Below.refl _ _).alloc (Nat.le_refl _) _⟩
  case round =>
   obtain ⟨k,hk,rfl,hblk,hb⟩:=hrel
   have HK:=hidx_ hblk
   have HB:=hidx_ hb
   clear hblk hb
   by_cases hlt:k < n
   ·obtain ⟨b1,o1,z1,rfl,hb1,hc1,hz1,hx1⟩:=(HR.out.below HB.out).atz (k:=k) (by rw [HLA.out];omega)
    obtain ⟨b2,o2,z2,rfl,hb2,hc2,hz2,hx2⟩:=(HS.out.below HB.out).atz (k:=k) (by rw [HMB.out];omega)
    have HX:Hid (bits .xor .u8 (z1:Int) (z2:Int)=(((l.getD k 0 ^^^ m.getD k 0).toNat:Nat):Int)):=by rw [← hx1.out,← hx2.out];exact xor8 _ _
    have hlen:=mixRow_len l m n k HN.out hk
    have hc:=HK.out.cell k (by rw [hlen];exact hlt)
    have hf:=HK.out.frozen k
    have t0:(0:Int)≤(k:Int):=by omega
    first | have ta:(k:Int) < (a:Int):=by omega | skip
    first | have tb:(k:Int) < (b:Int):=by omega | skip
    have tn:(k:Int) < (n:Int):=by omega
    clear hlen
    go_wp2
    refine region_quiet_tail_lit 12 (by kernel_rfl) (by kernel_rfl) ?_
    simp only [List.take_succ_cons,List.take_zero]
    repeat (go_big_quiet_step (fail))
    refine wpQuiet_nil ?_
    intro w' hw'
    obtain ⟨nq,rfl⟩:=hw'
    simp only [List.drop_succ_cons,List.drop_zero]
    have hset:=(HK.out.drewN nq).set_ k (l.getD k 0 ^^^ m.getD k 0)
    rw [← HX.out,mixRow_set l m n k HN.out hlt] at hset
    have HSet:=hidx_ hset
    clear hset hc1 hc2 t0 tn
    go_wp2
    go_roundw
    case rel=>exact ⟨k + 1,by omega,by go_num,HSet.out,(below_drewN HB.out nq).setCell (by simp <;> omega) _⟩
    case measure=>simp [intOf];omega
   ·obtain rfl:k=n:=by omega
    go_wp2
    have hfin:mixRow l m k k=mixB l m:=by
     unfold mixRow
     rw [Nat.sub_self,List.take_of_length_le (by rw [mixB_len,← HN.out];exact Nat.le_refl _)]
     simp
    have hk:=HK.out
    rw [hfin] at hk
    go_ret
    exact ⟨rfl,HB.out,hk⟩
end Go.Proofs.YtpcbmnmgefhaaaaGreatDoor
