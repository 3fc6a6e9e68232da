import Derived.Test.YtpcbmnmgefhaaaaGreatDoorBx
import Derived.Test.YtpcbmnmgefhaaaaGreatDoorBr
import Derived.Test.YtpcbmnmgefhaaaaGreatDoorAp
import Derived.Deep.RegionLaw
namespace Go.Proofs.YtpcbmnmgefhaaaaGreatDoor
set_option maxRecDepth 100000
open Go.RowKit
set_option linter.unusedVariables false
theorem mixB_take (l m:List UInt8) (k:Nat) (h1:k < l.length) (h2:k < m.length):(mixB l m).take (k + 1)=(mixB l m).take k ++ [l.getD k 0 ^^^ m.getD k 0]:=by
 have hl:k < (mixB l m).length:=by rw [mixB_len];omega
 rw [List.take_succ_eq_append_getElem hl]
 have hg:=mixB_get l m k h1 h2
 have hd:(mixB l m).getD k 0=(mixB l m)[k]'hl:=by simp [List.getD,List.getElem?_eq_getElem hl]
 rw [hd] at hg
 rw [hg]
theorem rd_one (W:World) (V:Int) (z:UInt8) (h:V=((z.toNat:Nat):Int)):Rd (W.alloc (.cells #[.int .u8 V] 5)) (W.heap.size + 1) (some ⟨W.heap.size,0,none⟩) [z]:=by
 subst h
 exact (Blk8.new W [z]).rd (Nat.lt_succ_self _)
set_option maxHeartbeats 1000000 in
theorem refMix_any (l m:List UInt8) (a b n:Nat) (w:World) (hla:l.length=a) (hmb:m.length=b) (hn:n=min a b) (ha:a≤1000000) (hb:b≤1000000) :
  Calls Tryz.prog 111 #[.string (strOf l),.string (strOf m)] w fun e w'=>e = .returned (.string (strOf (mixB l m)))∧Below w.heap.size w w':=by
 have HLA:Hid (l.length=a):=hla
 have HMB:Hid (m.length=b):=hmb
 have hsa:(strOf l).size=a:=by rw [strOf_size,hla]
 have hsb:(strOf m).size=b:=by rw [strOf_size,hmb]
 clear hla hmb
 go_enter Tryz.func111,Tryz.ntmps111
 go_wp2
 go_loopw [5,6] (fun v i wr=>∃ (k:Nat) (A:Option Addr) (c:Nat),k≤n∧i = .int .i64 k∧v = .slice A k c∧Hid (Own8 wr w.heap.size (.slice A k c) ((mixB l m).take k))∧Below w.heap.size w wr) (fun _ i _=>n - (intOf i).toNat)
 case atStart=>exact ⟨0,none,0,Nat.zero_le _,rfl,rfl,by show Own8 _ _ _ _;simpa using Own8.nil_ w w.heap.size,Below.refl _ _⟩
 case round =>
  obtain ⟨k,A,c,hk,rfl,rfl,HO,hb'⟩:=hrel
  have HB:=hidx_ hb'
  clear hb'
  by_cases h1:k < a
  ·by_cases h2:k < b
   ·have hlt:k < n:=by omega
    have d1:decide ((k:Int) < (a:Int))=true:=decide_eq_true (by omega)
    have d2:decide ((k:Int) < (b:Int))=true:=decide_eq_true (by omega)
    have t0:(0:Int)≤(k:Int):=by omega
    have ta:(k:Int) < (a:Int):=by omega
    have tb:(k:Int) < (b:Int):=by omega
    have HTL:Hid (((mixB l m).take k).length=k):=by show _=_;rw [List.length_take,mixB_len,HLA.out,HMB.out];omega
    have HX:Hid (∀ (h1:k < (strOf l).size) (h2:k < (strOf m).size),bits .xor .u8 (((strOf l)[k]'h1).toNat:Int) (((strOf m)[k]'h2).toNat:Int)=(((l.getD k 0 ^^^ m.getD k 0).toNat:Nat):Int)):=by
     intro h1 h2
     rw [strOf_get,strOf_get]
     exact xor8 _ _
    have HT:=hidx_ (mixB_take l m k (by rw [HLA.out];exact h1) (by rw [HMB.out];exact h2))
    go_wp2
    go_region_law (refine step_app rfl (.tmp 19) (.tmp 27) rfl ((HO.out.drew).alloc _) rfl 1 1 rfl (rd_one _ _ _ (HX.out _ _)) rfl (by rw [HTL.out];omega) (by have:=HB.out.size;simp;omega) ?_;intro A' c' w6 h5 h6 h7;rw [HTL.out] at *)
    all_goals
     go_wp2
     go_roundw
     case rel=>exact ⟨k + 1,A',c',by omega,by go_num,rfl,(by show Own8 _ _ _ _;rw [HT.out];exact h5),((below_drewN HB.out 1).alloc HB.out.size _).grown h6 (by have:=HB.out.size;simp;omega) (fun g hg=>(World.ownsRow.lt HO.out g hg).1)⟩
     case measure=>simp [intOf];omega
   ·have d1:decide ((k:Int) < (a:Int))=true:=decide_eq_true (by omega)
    have d2:decide ((k:Int) < (b:Int))=false:=decide_eq_false (by omega)
    have hfull:(mixB l m).take k=mixB l m:=List.take_of_length_le (by rw [mixB_len,HLA.out,HMB.out];omega)
    have hrd:=HO.out.rd
    rw [hfull] at hrd
    have hcv:=conv_strn hrd.1 k c hrd.2.symm
    have hbb:=HB.out
    clear hrd hfull
    go_wp2
    go_ret
    exact ⟨rfl,hbb⟩
  ·have d1:decide ((k:Int) < (a:Int))=false:=decide_eq_false (by omega)
   have hfull:(mixB l m).take k=mixB l m:=List.take_of_length_le (by rw [mixB_len,HLA.out,HMB.out];omega)
   have hrd:=HO.out.rd
   rw [hfull] at hrd
   have hcv:=conv_strn hrd.1 k c hrd.2.symm
   have hbb:=HB.out
   clear hrd hfull
   go_wp2
   go_ret
   exact ⟨rfl,hbb⟩
end Go.Proofs.YtpcbmnmgefhaaaaGreatDoor
