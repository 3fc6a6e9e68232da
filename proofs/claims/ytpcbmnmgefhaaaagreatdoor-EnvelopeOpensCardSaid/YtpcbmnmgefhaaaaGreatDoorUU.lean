import Derived.WalkKit
import Derived.Test.YtpcbmnmgefhaaaaGreatDoorPP
import Derived.Test.YtpcbmnmgefhaaaaGreatDoorR3
import Derived.Deep.QuietTactic
import Derived.BigQuiet
import Derived.Test.YtpcbmnmgefhaaaaGreatDoorQt
import Derived.IntWalk
namespace Go.Proofs.YtpcbmnmgefhaaaaGreatDoor
set_option maxRecDepth 100000
def vI:List Int→Int
 | []=>0
 | d :: l=>d + 256 * vI l
def digI:Nat→Int→List Int
 | 0,_=>[]
 | n + 1,x=>x % 256 :: digI n (x / 256)
theorem digI_len:∀ (n:Nat) (x:Int),(digI n x).length=n
 | 0,_=>rfl
 | n + 1,x=>by simp [digI,digI_len n]
theorem vI_append:∀ (l m:List Int),vI (l ++ m)=vI l + 256 ^ l.length * vI m
 | [],m=>by simp [vI]
 | d :: l,m=>by
  have h:=vI_append l m
  simp only [List.cons_append,vI,List.length_cons,h,Int.pow_succ]
  grind
theorem vI_zeros:∀ n:Nat,vI (List.replicate n 0)=0
 | 0=>rfl
 | n + 1=>by simp [List.replicate_succ,vI,vI_zeros n]
theorem vI_set:∀ (l:List Int) (i:Nat) (x:Int),i < l.length→vI (l.set i x)=vI l + 256 ^ i * (x - l.getD i 0)
 | [],_,_,h=>by simp at h
 | d :: l,0,x,_=>by simp [vI];omega
 | d :: l,i + 1,x,h=>by
  have h2:=vI_set l i x (by simpa using h)
  simp only [List.set_cons_succ,vI,h2,List.getD_cons_succ,Int.pow_succ]
  grind
theorem vI_take_succ (l:List Int) (i:Nat) (h:i < l.length):vI (l.take (i + 1))=vI (l.take i) + 256 ^ i * l.getD i 0:=by
 rw [List.take_succ_eq_append_getElem h,vI_append]
 simp [vI,List.getD,h,Nat.min_eq_left (Nat.le_of_lt h)]
theorem vI_dig:∀ (n:Nat) (x:Int),vI (digI n x)=x % 256 ^ n
 | 0,x=>by simp [vI,digI]
 | n + 1,x=>by
  have h:=vI_dig n (x / 256)
  simp only [digI,vI,h]
  have h3:x % (256 * 256 ^ n)=x % 256 + 256 * (x / 256 % 256 ^ n):=by
   have e1:=Int.emod_add_mul_ediv x 256
   have e2:=Int.emod_add_mul_ediv (x / 256) (256 ^ n)
   have hp:(0:Int) < 256 ^ n:=Int.pow_pos (by omega)
   have b1:=Int.emod_nonneg (x / 256) (Int.ne_of_gt hp)
   have b2:=Int.emod_lt_of_pos (x / 256) hp
   have:x=(x % 256 + 256 * (x / 256 % 256 ^ n)) + (256 * 256 ^ n) * (x / 256 / 256 ^ n):=by grind
   conv=>lhs;rw [this]
   rw [Int.add_mul_emod_self_left]
   exact Int.emod_eq_of_lt (by omega) (by omega)
  rw [Int.pow_succ,Int.mul_comm (256 ^ n) 256,h3]
theorem dig_vI:∀ l:List Int,(∀ d∈l,0≤d∧d < 256)→digI l.length (vI l)=l
 | [],_=>rfl
 | d :: l,h=>by
  have h0:=h d (by simp)
  have h2:=dig_vI l fun x hx=>h x (by simp [hx])
  simp only [List.length_cons,digI,vI]
  rw [show (d + 256 * vI l) % 256=d by omega,show (d + 256 * vI l) / 256=vI l by omega,h2]
theorem dig_range:∀ (n:Nat) (x:Int),∀ d∈digI n x,0≤d∧d < 256
 | 0,_,_,h=>by simp [digI] at h
 | n + 1,x,d,h=>by
  simp only [digI,List.mem_cons] at h
  rcases h with rfl | h
  ·omega
  ·exact dig_range n _ d h
theorem dig_snoc:∀ (n:Nat) (x:Int),digI (n + 1) x=digI n x ++ [x / 256 ^ n % 256]
 | 0,x=>by simp [digI]
 | n + 1,x=>by
  have h:=dig_snoc n (x / 256)
  rw [digI,h]
  simp only [digI,List.cons_append]
  rw [Int.ediv_ediv_of_nonneg (by omega),Int.pow_succ,Int.mul_comm (256 ^ n) 256]
theorem dig_getD:∀ (n i:Nat) (x:Int),i < n→(digI n x).getD i 0=x / 256 ^ i % 256
 | 0,_,_,h=>by omega
 | n + 1,0,x,_=>by simp [digI]
 | n + 1,i + 1,x,h=>by
  have h2:=dig_getD n i (x / 256) (by omega)
  simp only [digI,List.getD_cons_succ,h2]
  rw [Int.ediv_ediv_of_nonneg (by omega),Int.pow_succ,Int.mul_comm (256 ^ i) 256]
theorem dig_take:∀ (n i:Nat) (x:Int),i≤n→(digI n x).take i=digI i x
 | _,0,_,_=>by simp [digI]
 | 0,_ + 1,_,h=>by omega
 | n + 1,i + 1,x,h=>by simp [digI,dig_take n i (x / 256) (by omega)]
theorem dig_drop:∀ (n i:Nat) (x:Int),i≤n→(digI n x).drop i=digI (n - i) (x / 256 ^ i)
 | n,0,x,_=>by simp
 | 0,_ + 1,_,h=>by omega
 | n + 1,i + 1,x,h=>by
  have h2:=dig_drop n i (x / 256) (by omega)
  simp only [digI,List.drop_succ_cons,h2]
  rw [show n + 1 - (i + 1)=n - i by omega,Int.ediv_ediv_of_nonneg (by omega),Int.pow_succ,Int.mul_comm (256 ^ i) 256]
theorem dig_zero:∀ n:Nat,digI n 0=List.replicate n 0
 | 0=>rfl
 | n + 1=>by simp [digI,dig_zero n,List.replicate_succ]
theorem dig_more (n m:Nat) (x:Int) (h0:0≤x) (h:x < 256 ^ n):digI (n + m) x=digI n x ++ List.replicate m 0:=by
 have h1:=dig_take (n + m) n x (by omega)
 have h2:=dig_drop (n + m) n x (by omega)
 rw [Int.ediv_eq_zero_of_lt h0 h,dig_zero,show n + m - n=m by omega] at h2
 rw [← List.take_append_drop n (digI (n + m) x),h1,h2]
theorem dig_mod (n:Nat) (x y:Int) (h:x % 256 ^ n=y % 256 ^ n):digI n x=digI n y:=by
 have h1:=dig_vI (digI n x) (dig_range n x)
 have h2:=dig_vI (digI n y) (dig_range n y)
 rw [digI_len,vI_dig] at h1 h2
 rw [← h1,← h2,h]
def carI (d:List Int) (i:Nat):List Int:=digI i (vI (d.take i)) ++ d.drop i
def ovI (d:List Int) (i:Nat):Int:=vI (d.take i) / 256 ^ i
theorem carI_len (d:List Int) (i:Nat) (h:i≤d.length):(carI d i).length=d.length:=by simp [carI,digI_len];omega
theorem carI_zero (d:List Int):carI d 0=d:=by simp [carI,digI]
theorem ovI_zero (d:List Int):ovI d 0=0:=by simp [ovI,vI]
theorem carI_end (d:List Int) (i:Nat) (h:d.length=i):carI d i=digI i (vI d):=by
 subst h;simp [carI]
theorem carI_get (d:List Int) (i:Nat) (h:i < d.length):(carI d i).getD i 0=d.getD i 0:=by
 unfold carI
 simp [List.getD,List.getElem?_append,digI_len,h]
theorem sum_div (d:List Int) (i:Nat) (h:i < d.length):vI (d.take (i + 1)) / 256 ^ i=d.getD i 0 + ovI d i:=by
 have hp:(0:Int) < 256 ^ i:=Int.pow_pos (by omega)
 rw [vI_take_succ d i h,Int.add_mul_ediv_left _ _ (Int.ne_of_gt hp),ovI,Int.add_comm]
theorem carI_step (d:List Int) (i:Nat) (h:i < d.length):(carI d i).set i ((d.getD i 0 + ovI d i) % 256)=carI d (i + 1):=by
 have e:digI i (vI (d.take (i + 1)))=digI i (vI (d.take i)):=dig_mod i _ _ (by
  rw [vI_take_succ d i h,Int.add_mul_emod_self_left])
 have e2:d.drop i=d.getD i 0 :: d.drop (i + 1):=by
  rw [List.drop_eq_getElem_cons h];simp [List.getD,h]
 unfold carI
 rw [dig_snoc,e,← sum_div d i h,e2,List.set_append_right _ _ (by rw [digI_len];omega),digI_len,Nat.sub_self]
 simp
theorem ovI_step (d:List Int) (i:Nat) (h:i < d.length):ovI d (i + 1)=(d.getD i 0 + ovI d i) / 256:=by
 have e:=sum_div d i h
 rw [← e,Int.ediv_ediv_of_nonneg (Int.pow_nonneg (by omega)),ovI,Int.pow_succ]
def rngI (B:Int) (d:List Int):Prop:=∀ x∈d,0≤x∧x≤B
theorem rngI.get {B:Int} {d:List Int} (h:rngI B d) (hB:0≤B) (i:Nat):0≤d.getD i 0∧d.getD i 0≤B:=by
 unfold List.getD
 cases hq:d[i]? with
 | none=>simp;exact hB
 | some x=>exact h x (List.mem_of_getElem? hq)
theorem rngI.mono {B C:Int} {d:List Int} (h:rngI B d) (hB:B≤C):rngI C d:=fun x hx=>⟨(h x hx).1,by have:=(h x hx).2;omega⟩
theorem rngI.set {B:Int} {d:List Int} (h:rngI B d) (i:Nat) {x:Int} (h0:0≤x) (h1:x≤B):rngI B (d.set i x):=fun y hy=>by
 rcases List.mem_or_eq_of_mem_set hy with h2 | h2
 ·exact h y h2
 ·subst h2;exact ⟨h0,h1⟩
theorem rngI_dig (n:Nat) (x:Int):rngI 255 (digI n x):=fun d hd=>by
 have:=dig_range n x d hd;omega
theorem rngI_zeros (n:Nat) {B:Int} (hB:0≤B):rngI B (List.replicate n 0):=fun x hx=>by
 rw [List.eq_of_mem_replicate hx];exact ⟨Int.le_refl _,hB⟩
theorem ovI_bd (d:List Int) {B:Int} (h:rngI B d) (hB:0≤B):∀ i,i≤d.length→0≤ovI d i∧ovI d i≤B
 | 0,_=>by rw [ovI_zero];exact ⟨Int.le_refl _,hB⟩
 | i + 1,hi=>by
  have h1:=ovI_bd d h hB i (by omega)
  have h2:=h.get hB i
  rw [ovI_step d i (by omega)]
  omega
def foldV (x:Int):Int:=x % 1361129467683753853853498429727072845824 + 5 * (x / 1361129467683753853853498429727072845824)
def hiV (x:Int):Int:=x / 1361129467683753853853498429727072845824
theorem hi_digit (x:Int) (i:Nat):x / 256 ^ (16 + i) % 256 / 4 + x / 256 ^ (17 + i) % 256 % 4 * 64=hiV x / 256 ^ i % 256:=by
 have hp:(0:Int) < 256 ^ i:=Int.pow_pos (by omega)
 have e1:x / 256 ^ (17 + i)=x / 256 ^ (16 + i) / 256:=by
  rw [Int.ediv_ediv_of_nonneg (Int.pow_nonneg (by omega)),← Int.pow_succ];congr 2;omega
 have e2:hiV x / 256 ^ i=x / 256 ^ (16 + i) / 4:=by
  unfold hiV
  rw [Int.ediv_ediv_of_nonneg (by omega),Int.ediv_ediv_of_nonneg (Int.pow_nonneg (by omega)),Int.pow_add]
  congr 1
  have:(256:Int) ^ 16 * 4=1361129467683753853853498429727072845824:=by decide
  grind
 rw [e1,e2]
 omega
theorem hi_top (x:Int) (h0:0≤x) (h:x < 256 ^ 34):x / 256 ^ 33 % 256 / 4=hiV x / 256 ^ 17 % 256:=by
 have h1:=hi_digit x 17
 have h2:x / 256 ^ (17 + 17)=0:=Int.ediv_eq_zero_of_lt h0 h
 rw [h2] at h1
 simpa using h1
theorem hi_lt (x:Int) (h:x < 256 ^ 34):hiV x < 256 ^ 18:=by
 have:(256:Int) ^ 34=7588550360256754183279148073529370729071901715047420004889892225542594864082845696:=by decide
 have h2:(256:Int) ^ 18=22300745198530623141535718272648361505980416:=by decide
 unfold hiV
 omega
theorem hi_nonneg (x:Int) (h:0≤x):0≤hiV x:=by unfold hiV;omega
theorem low_val (x:Int):vI (digI 16 x ++ [x / 256 ^ 16 % 256 % 4])=x % 1361129467683753853853498429727072845824:=by
 rw [vI_append,vI_dig,digI_len]
 have:(256:Int) ^ 16=340282366920938463463374607431768211456:=by decide
 rw [this]
 simp only [vI]
 omega
def foldsV:Nat→Int→Int
 | 0,x=>x
 | k + 1,x=>foldV (foldsV k x)
theorem foldV_mod (x:Int):foldV x % 1361129467683753853853498429727072845819=x % 1361129467683753853853498429727072845819:=by
 have:x=foldV x + 1361129467683753853853498429727072845819 * (x / 1361129467683753853853498429727072845824):=by unfold foldV;omega
 conv=>rhs;rw [this]
 rw [Int.add_mul_emod_self_left]
theorem foldsV_mod:∀ (k:Nat) (x:Int),foldsV k x % 1361129467683753853853498429727072845819=x % 1361129467683753853853498429727072845819
 | 0,_=>rfl
 | k + 1,x=>by rw [foldsV,foldV_mod,foldsV_mod k]
theorem foldV_bd (x:Int) (h0:0≤x) (h:x < 256 ^ 34):0≤foldV x∧foldV x < 256 ^ 34:=by
 have:(256:Int) ^ 34=7588550360256754183279148073529370729071901715047420004889892225542594864082845696:=by decide
 unfold foldV
 omega
theorem foldsV_bd (x:Int) (h0:0≤x) (h:x < 256 ^ 34):∀ k,0≤foldsV k x∧foldsV k x < 256 ^ 34
 | 0=>⟨h0,h⟩
 | k + 1=>foldV_bd _ (foldsV_bd x h0 h k).1 (foldsV_bd x h0 h k).2
theorem foldsV_four (x:Int) (h0:0≤x) (h:x < 256 ^ 34):0≤foldsV 4 x∧foldsV 4 x < 1361129467683753853853498429727072845824:=by
 have:(256:Int) ^ 34=7588550360256754183279148073529370729071901715047420004889892225542594864082845696:=by decide
 rw [this] at h
 have f1:0≤foldV x∧foldV x < 27876000000000000000000000000000000000000000 + 1361129467683753853853498429727072845824:=by unfold foldV;omega
 generalize hy:foldV x=y at f1
 have f2:0≤foldV y∧foldV y < 200000 + 1361129467683753853853498429727072845824:=by unfold foldV;omega
 generalize hz:foldV y=z at f2
 have f3:0≤foldV z∧foldV z < 1361129467683753853853498429727072845824:=by unfold foldV;omega
 generalize hu:foldV z=u at f3
 have e:foldsV 4 x=foldV u:=by show foldV (foldV (foldV (foldV x)))=_;rw [hy,hz,hu]
 rw [e]
 unfold foldV;omega
theorem less_prime (y:Int) (h0:0≤y) (h:y < 1361129467683753853853498429727072845824):(y < 1361129467683753853853498429727072845819∧y % 1361129467683753853853498429727072845819=y) ∨
  ∃ e:Fin 5,y=1361129467683753853853498429727072845819 + (e.val:Int)∧y % 1361129467683753853853498429727072845819=(e.val:Int):=by
 by_cases hp:y < 1361129467683753853853498429727072845819
 ·exact .inl ⟨hp,by omega⟩
 ·exact .inr ⟨⟨(y - 1361129467683753853853498429727072845819).toNat,by omega⟩,by simp only;omega,by simp only;omega⟩
theorem sub_all:∀ e:Fin 5,∀ i:Fin 34,(digI 34 (1361129467683753853853498429727072845819 + (e.val:Int))).getD i.val 0 - (digI 34 1361129467683753853853498429727072845819).getD i.val 0=(digI 34 (e.val:Int)).getD i.val 0:=by decide +kernel
def andB (l m:List UInt8):List UInt8:=List.zipWith (· &&& ·) l m
theorem and_256 (r s a b:Nat) (hr:r < 256) (hs:s < 256):(r + 256 * a) &&& (s + 256 * b)=(r &&& s) + 256 * (a &&& b):=by
 have h1:((r + 256 * a) &&& (s + 256 * b)) % 2 ^ 8=(r &&& s):=by
  rw [Nat.and_mod_two_pow]
  congr 1 <;> omega
 have h2:((r + 256 * a) &&& (s + 256 * b)) / 2 ^ 8=(a &&& b):=by
  rw [Nat.and_div_two_pow]
  congr 1 <;> omega
 omega
theorem leN_and:∀ l m:List UInt8,l.length=m.length→leN l &&& leN m=leN (andB l m)
 | [],[],_=>rfl
 | [],_ :: _,h=>by simp at h
 | _ :: _,[],h=>by simp at h
 | a :: l,b :: m,h=>by
  have h2:=leN_and l m (by simpa using h)
  have e:andB (a :: l) (b :: m)=(a &&& b) :: andB l m:=rfl
  rw [e,leN_cons,leN_cons,leN_cons,and_256 _ _ _ _ a.toNat_lt b.toNat_lt,h2,UInt8.toNat_and]
def maskL:List UInt8:=[255,255,255,15,252,255,255,15]
def maskH:List UInt8:=[252,255,255,15,252,255,255,15]
theorem maskL_val:leN maskL=1152921487695413247:=by decide
theorem maskH_val:leN maskH=1152921487695413244:=by decide
theorem and255 (b:UInt8):(b &&& 255).toNat=b.toNat:=by
 rw [UInt8.toNat_and];have:=b.toNat_lt;show b.toNat &&& (2 ^ 8 - 1)=_;rw [Nat.and_two_pow_sub_one_eq_mod];omega
theorem and15 (b:UInt8):(b &&& 15).toNat=b.toNat % 16:=by
 rw [UInt8.toNat_and];show b.toNat &&& (2 ^ 4 - 1)=_;rw [Nat.and_two_pow_sub_one_eq_mod]
theorem and252 (b:UInt8):(b &&& 252).toNat=b.toNat - b.toNat % 4:=by
 have h:∀ x:Fin 256,(x.val &&& 252)=x.val - x.val % 4:=by decide +kernel
 rw [UInt8.toNat_and];exact h ⟨b.toNat,b.toNat_lt⟩
def clampB (key:List UInt8):List UInt8:=andB (key.take 16) (maskL ++ maskH)
theorem clampB_len (key:List UInt8) (h:key.length=32):(clampB key).length=16:=by
 simp [clampB,andB,h,maskL,maskH]
def clI (key:List UInt8) (i:Nat):Nat :=
 let c:=(key.getD i 0).toNat
 let c:=if i % 4=3 then c % 16 else c
 if 0 < i∧i % 4=0 then c - c % 4 else c
theorem clampB_get (key:List UInt8) (h:key.length=32) (i:Nat) (hi:i < 16):((clampB key).getD i 0).toNat=clI key i:=by
 have e:(clampB key).getD i 0=(key.getD i 0) &&& ((maskL ++ maskH).getD i 0):=by
  unfold clampB andB
  have h1:i < key.length:=by omega
  have h2:i < (maskL ++ maskH).length:=hi
  simp [List.getD,List.getElem?_zipWith,hi,h1,List.getElem?_eq_getElem h2]
 rw [e]
 rcases i with _ | _ | _ | _ | _ | _ | _ | _ | _ | _ | _ | _ | _ | _ | _ | _ | i
 all_goals first
  | exact and255 _
  | exact and15 _
  | exact and252 _
  | omega
theorem and_u64 (x m:Nat) (hx:x < 18446744073709551616) (hm:m < 18446744073709551616):bits .and .u64 (x:Int) (m:Int)=((x &&& m:Nat):Int):=by
 show IntKind.u64.wrap ((BitVec.ofInt 64 (x:Int) &&& BitVec.ofInt 64 (m:Int)).toNat:Int)=_
 have hl:x &&& m≤m:=Nat.and_le_right
 rw [BitVec.toNat_and,BitVec.ofInt_natCast,BitVec.ofInt_natCast,BitVec.toNat_ofNat,BitVec.toNat_ofNat,Nat.mod_eq_of_lt (by omega:x < 2 ^ 64),Nat.mod_eq_of_lt (by omega:m < 2 ^ 64),IntKind.wrap_u64]
 omega
theorem clampL_val (l:List UInt8) (h:l.length=8):clampL (leN l)=leN (andB l maskL):=by
 have h8:=leN8_le l (by omega)
 have e:=leN_and l maskL h
 rw [maskL_val] at e
 unfold clampL
 have h:=and_u64 (leN l) 1152921487695413247 (by omega) (by omega)
 rw [show ((1152921487695413247:Nat):Int)=1152921487695413247 from rfl] at h
 rw [← e,h]
 rfl
theorem clampH_val (l:List UInt8) (h:l.length=8):clampH (leN l)=leN (andB l maskH):=by
 have h8:=leN8_le l (by omega)
 have e:=leN_and l maskH h
 rw [maskH_val] at e
 unfold clampH
 have h:=and_u64 (leN l) 1152921487695413244 (by omega) (by omega)
 rw [show ((1152921487695413244:Nat):Int)=1152921487695413244 from rfl] at h
 rw [← e,h]
 rfl
theorem factN_val (key:List UInt8) (h:key.length=32):(factN key).val=((leN (clampB key):Nat):Int):=by
 have l1:((key.take 16).take 8).length=8:=by simp [h]
 have l2:((key.take 16).drop 8).length=8:=by simp [h]
 have e:clampB key=andB ((key.take 16).take 8) maskL ++ andB ((key.take 16).drop 8) maskH:=by
  unfold clampB andB
  rw [← List.zipWith_append (by rw [l1];rfl),List.take_append_drop]
 have l3:(andB ((key.take 16).take 8) maskL).length=8:=by simp [andB,h,maskL]
 unfold factN
 rw [numN_val,clampL_val _ l1,clampH_val _ l2,e,leN_append,l3,show (256:Nat) ^ 8=18446744073709551616 by decide]
 omega
def intsB (l:List UInt8):List Int:=l.map fun b=>(b.toNat:Int)
theorem intsB_len (l:List UInt8):(intsB l).length=l.length:=by simp [intsB]
theorem vI_ints:∀ l:List UInt8,vI (intsB l)=((leN l:Nat):Int)
 | []=>rfl
 | b :: l=>by
  have h:=vI_ints l
  have e:intsB (b :: l)=(b.toNat:Int) :: intsB l:=rfl
  rw [e,vI,h,leN_cons]
  omega
theorem intsB_range (l:List UInt8):rngI 255 (intsB l):=fun x hx=>by
 simp [intsB] at hx
 obtain ⟨b,_,rfl⟩:=hx
 have:=b.toNat_lt
 omega
theorem intsB_get (l:List UInt8) (i:Nat):(intsB l).getD i 0=((l.getD i 0).toNat:Int):=by
 unfold intsB
 cases h:l[i]? with
 | none=>simp [List.getD,h]
 | some x=>simp [List.getD,h]
open Go.RowKit
set_option linter.unusedVariables false
theorem hidu_ {p:Prop} (h:p):Hid p:=h
def rowI (l:List Int):Array Value:=(l.map (Value.int .i64)).toArray
theorem rowI_size (l:List Int):(rowI l).size=l.length:=by simp [rowI]
theorem rowI_at (l:List Int) (i:Nat) (h:i < l.length):(rowI l)[i]? = some (.int .i64 (l.getD i 0)):=by
 simp [rowI,List.getD,h]
theorem rowI_set (l:List Int) (i:Nat) (x:Int):(rowI l).setIfInBounds i (.int .i64 x)=rowI (l.set i x):=by
 simp [rowI,List.map_set]
theorem rowI_one (l:List Int):(rowI l).all (·.oneCell')=true:=by
 rw [Array.all_eq_true_iff_forall_mem]
 intro v hv
 simp [rowI] at hv
 obtain ⟨x,_,rfl⟩:=hv
 rfl
def zerosI:List Int:=List.replicate 34 0
theorem zerosI_len:zerosI.length=34:=by decide
theorem z34 (W:World):(zeroValue 194).run Tryz.prog W = .ok (.agg (rowI zerosI)) W:=by kernel_rfl
theorem i34_:(Tryz.prog.info? 194).map (·.size)=some 34:=by kernel_rfl
theorem i34 (l:List Int) (h:l.length=34):(Tryz.prog.info? 194).map (·.size)=some (rowI l).size:=by rw [rowI_size,h];exact i34_
def pI:Int:=1361129467683753853853498429727072845819
def onesI (k:Nat):List Int:=(List.range 34).map fun i=>if i < k then 255 else 0
theorem onesI_len (k:Nat):(onesI k).length=34:=by simp [onesI]
theorem onesI_zero:onesI 0=zerosI:=by decide
theorem onesI_set (k:Nat) (h:k < 16):(onesI k).set k 255=onesI (k + 1):=by
 have h2:∀ k:Fin 16,(onesI k.val).set k.val 255=onesI (k.val + 1):=by decide +kernel
 exact h2 ⟨k,h⟩
theorem prime_row:((onesI 16).set 0 251).set 16 3=digI 34 pI:=by decide +kernel
set_option maxHeartbeats 2000000 in
theorem prime_any (w:World):Calls Tryz.prog 144 #[] w fun e w'=>e = .returned (.agg (rowI (digI 34 pI)))∧Below w.heap.size w w':=by
 have hz:=z34
 obtain ⟨g,hg⟩:∃ g,Hid (w.heap.size=g):=⟨_,rfl⟩
 obtain ⟨w0,hw0⟩:∃ W,Hid ((w.alloc (.cells (rowI zerosI) 194)).alloc (.cells (rowI zerosI) 194)=W):=⟨_,rfl⟩
 have HG:Hid (Bk w0 g 194 (rowI zerosI)):=hidu_ (by rw [← hw0.out,← hg.out];exact (Bk.new w _ _).alloc _)
 have HZ:Hid (Bk w0 (g + 1) 194 (rowI zerosI)):=hidu_ (by
  have h:=Bk.new (w.alloc (.cells (rowI zerosI) 194)) 194 (rowI zerosI)
  rw [← hw0.out,← hg.out]
  simpa using h)
 have HR:Hid (Below g w w0):=hidu_ (by rw [← hw0.out,← hg.out];exact ((Below.refl _ _).alloc (Nat.le_refl _) _).alloc (by simp) _)
 have hI:∀ l:List Int,l.length=34→(Tryz.prog.info? 194).map (·.size)=some (rowI l).size:=i34
 have HI:=hidu_ hI
 clear hI
 go_enter Tryz.func144,Tryz.ntmps144
 go_upto_region 2 with fail
 rw [hg.out]
 have hs1:(w.alloc (.cells (rowI zerosI) 194)).heap.size=g + 1:=by rw [← hg.out];simp
 first | rw [hs1] | skip
 clear hs1
 rw [hw0.out]
 clear hz
 go_wp2
 go_loopw [2] (fun i wr=>∃ k:Nat,k≤16∧i = .int .i64 k∧Bk wr g 194 (rowI zerosI)∧Bk wr (g + 1) 194 (rowI (onesI k))∧Below g w wr) (fun i _=>16 - (intOf i).toNat)
 case atStart=>exact ⟨0,by omega,rfl,HG.out,by rw [onesI_zero];exact HZ.out,HR.out⟩
 case round =>
  obtain ⟨k,hk,rfl,b0,b1,bb⟩:=hrel
  have B0:=hidu_ b0
  have B1:=hidu_ b1
  have BB:=hidu_ bb
  clear b0 b1 bb HG HZ HR
  by_cases hlt:k < 16
  ·have hc:=B1.out.cell k
   rw [rowI_at _ _ (by rw [onesI_len];omega)] at hc
   have hf:=B1.out.frozen k
   have hset:=B1.out.set_ k (.int .i64 255)
   rw [rowI_set,onesI_set k hlt] at hset
   have HS:=hidu_ hset
   have HF:=hidu_ (B0.out.far (p:=⟨g + 1,k,none⟩) (by simp) (.int .i64 255))
   have t0:(0:Int)≤(k:Int):=by omega
   have t1:(k:Int) < 34:=by omega
   clear hset
   go_wp2
   go_roundw
   case rel=>exact ⟨k + 1,by omega,by go_num,HF.out,HS.out,BB.out.setCell (by simp) _⟩
   case measure=>simp [intOf];omega
  ·obtain rfl:k=16:=by omega
   have hc:=B1.out.cell 0
   rw [rowI_at _ _ (by rw [onesI_len];omega)] at hc
   have hf:=B1.out.frozen 0
   have h1:=B1.out.set_ 0 (.int .i64 251)
   rw [rowI_set] at h1
   have hc2:=h1.cell 16
   rw [rowI_at _ _ (by rw [List.length_set,onesI_len];omega)] at hc2
   have hf2:=h1.frozen 16
   have h2:=h1.set_ 16 (.int .i64 3)
   rw [rowI_set,prime_row] at h2
   have H2:=hidu_ h2
   have H3:=hidu_ ((B0.out.far (p:=⟨g + 1,0,none⟩) (by simp) (.int .i64 251)).far (p:=⟨g + 1,16,none⟩) (by simp) (.int .i64 3))
   have H4:=hidu_ ((BB.out.setCell (p:=⟨g + 1,0,none⟩) (by simp) (.int .i64 251)).setCell (p:=⟨g + 1,16,none⟩) (by simp) (.int .i64 3))
   clear h1 h2
   go_upto_region 7 with fail
   clear hc hf hc2 hf2
   obtain ⟨w2,hw2⟩:∃ W,Hid (((wr.setCell ⟨g + 1,0,none⟩ (.int .i64 251)).setCell ⟨g + 1,16,none⟩ (.int .i64 3))=W):=⟨_,rfl⟩
   rw [hw2.out] at H2 H3 H4 ⊢
   have K2:=H2.out
   have K3:=H3.out
   go_wp2_with (first
    | (refine wpList_load_row rfl 194 (.tmp 1) rfl (g + 1) rfl 194 (rowI (digI 34 pI)) (0,0) _ K2 Tryz.underlying194 rfl (HI.out _ (digI_len _ _)) ?_)
    | (refine wpList_put_row rfl 194 (.tmp 0) (.tmp 11) rfl g (rowI (digI 34 pI)) rfl rfl 194 (rowI zerosI) K3 (HI.out _ (digI_len _ _)) (by rw [rowI_size,rowI_size,digI_len,zerosI_len]) (rowI_one _) ?_;intro w12 k12 g12 s12))
   exact bodyPost_ret (results_cell_row Tryz.results144 _ _ g 194 _ (0,0) _ rfl k12 Tryz.underlying194 rfl (HI.out _ (digI_len _ _))) rfl ⟨rfl,by rw [hg.out];exact H4.out.grown g12 (by have:=H4.out.size;rw [hg.out] at this;exact this) (fun i hi=>by injection hi with hi;omega)⟩
set_option maxHeartbeats 2000000 in
theorem carry_any (d:List Int) (w:World) (hd:d.length=34) (hr:rngI 1000000000 d) :
  Calls Tryz.prog 133 #[.agg (rowI d)] w fun e w'=>e = .returned (.agg (rowI (digI 34 (vI d))))∧Below w.heap.size w w':=by
 have hz:=z34
 obtain ⟨g,hg⟩:∃ g,Hid (w.heap.size=g):=⟨_,rfl⟩
 obtain ⟨w0,hw0⟩:∃ W,Hid ((w.alloc (.cells (rowI d) 194)).alloc (.cells (rowI zerosI) 194)=W):=⟨_,rfl⟩
 have HG:Hid (Bk w0 g 194 (rowI d)):=hidu_ (by rw [← hw0.out,← hg.out];exact (Bk.new w _ _).alloc _)
 have HZ:Hid (Bk w0 (g + 1) 194 (rowI zerosI)):=hidu_ (by
  have h:=Bk.new (w.alloc (.cells (rowI d) 194)) 194 (rowI zerosI)
  rw [← hw0.out,← hg.out]
  simpa using h)
 have HB:Hid (Below g w w0):=hidu_ (by rw [← hw0.out,← hg.out];exact ((Below.refl _ _).alloc (Nat.le_refl _) _).alloc (by simp) _)
 have hI:∀ l:List Int,l.length=34→(Tryz.prog.info? 194).map (·.size)=some (rowI l).size:=i34
 have HI:=hidu_ hI
 have HD:=hidu_ hd
 have HR:=hidu_ hr
 clear hI hd hr
 go_enter Tryz.func133,Tryz.ntmps133
 go_upto_region 1 with fail
 rw [hg.out,hw0.out]
 clear hz
 go_wp2
 go_loopw [3,4] (fun o i wr=>∃ k:Nat,k≤34∧i = .int .i64 k∧o = .int .i64 (ovI d k)∧Bk wr g 194 (rowI (carI d k))∧Bk wr (g + 1) 194 (rowI zerosI)∧Below g w wr) (fun _ i _=>34 - (intOf i).toNat)
 case atStart=>exact ⟨0,by omega,rfl,by rw [ovI_zero],by rw [carI_zero];exact HG.out,HZ.out,HB.out⟩
 case round =>
  obtain ⟨k,hk,rfl,rfl,b0,b1,bb⟩:=hrel
  have B0:=hidu_ b0
  have B1:=hidu_ b1
  have BB:=hidu_ bb
  clear b0 b1 bb HG HZ HB
  by_cases hlt:k < 34
  ·have hkd:k < d.length:=by rw [HD.out];exact hlt
   have hc:=B0.out.cell k
   rw [rowI_at _ _ (by rw [carI_len _ _ (by omega)];exact hkd),carI_get d k hkd] at hc
   have hf:=B0.out.frozen k
   have hset:=B0.out.set_ k (.int .i64 ((d.getD k 0 + ovI d k) % 256))
   rw [rowI_set,carI_step d k hkd] at hset
   have b1:=HR.out.get (by omega) k
   have b2:=ovI_bd d HR.out (by omega) k (by omega)
   have e2:=hidu_ (ovI_step d k hkd)
   obtain ⟨x,hx⟩:∃ x,Hid (d.getD k 0=x):=⟨_,rfl⟩
   obtain ⟨o,ho⟩:∃ x,Hid (ovI d k=x):=⟨_,rfl⟩
   rw [hx.out] at hc b1 hset
   rw [ho.out] at b2 hset ⊢
   obtain ⟨b10,b11⟩:=b1
   obtain ⟨b20,b21⟩:=b2
   have HS:=hidu_ hset
   have HF:=hidu_ (B1.out.far (p:=⟨g,k,none⟩) (by simp) (.int .i64 ((x + o) % 256)))
   have t0:(0:Int)≤(k:Int):=by omega
   have t1:(k:Int) < 34:=by omega
   clear hset hkd
   go_wp2
   go_roundw
   case rel=>exact ⟨k + 1,by omega,by go_num,by rw [e2.out,hx.out,ho.out],HS.out,HF.out,BB.out.setCell (by simp) _⟩
   case measure=>simp [intOf];omega
  ·obtain rfl:k=34:=by omega
   have K2:=B0.out
   have K3:=B1.out
   rw [carI_end d 34 HD.out] at K2
   generalize ovI d 34=o
   obtain ⟨D,hD⟩:∃ x,Hid (digI 34 (vI d)=x):=⟨_,rfl⟩
   have hDl:D.length=34:=by rw [← hD.out];exact digI_len _ _
   rw [hD.out] at K2
   have HDl:=hidu_ hDl
   clear hDl
   go_wp2_with (first
    | (refine wpList_load_row rfl 194 (.tmp 1) rfl g rfl 194 (rowI D) (0,0) _ K2 Tryz.underlying194 rfl (HI.out _ HDl.out) ?_)
    | (refine wpList_put_row rfl 194 (.tmp 2) (.tmp 21) rfl (g + 1) (rowI D) rfl rfl 194 (rowI zerosI) K3 (HI.out _ HDl.out) (by rw [rowI_size,rowI_size,HDl.out,zerosI_len]) (rowI_one _) ?_;intro w12 k12 g12 s12))
   exact bodyPost_ret (results_cell_row Tryz.results133 _ _ (g + 1) 194 _ (0,0) _ rfl k12 Tryz.underlying194 rfl (HI.out _ HDl.out)) rfl ⟨by rw [hD.out],by rw [hg.out];exact BB.out.grown g12 (by have:=BB.out.size;rw [hg.out] at this;exact this) (fun i hi=>by injection hi with hi;omega)⟩
theorem ret_bool {a b:Bool} (h:a=b):Ending.returned (.bool a) = .returned (.bool b):=by rw [h]
theorem digit_of (y:Int) (j:Nat):y / 256 ^ j=y / 256 ^ j % 256 + 256 * (y / 256 ^ (j + 1)):=by
 rw [Int.pow_succ,← Int.ediv_ediv_of_nonneg (Int.pow_nonneg (by omega))]
 omega
theorem lt_of_digit (y z:Int) (j:Nat) (h:y / 256 ^ (j + 1)=z / 256 ^ (j + 1)) (hne:y / 256 ^ j % 256≠z / 256 ^ j % 256):decide (y / 256 ^ j % 256 < z / 256 ^ j % 256)=decide (y < z):=by
 have e1:=digit_of y j
 have e2:=digit_of z j
 rw [h] at e1
 have hp:(0:Int) < 256 ^ j:=Int.pow_pos (by omega)
 have m:∀ {a b:Int},a≤b→a / 256 ^ j≤b / 256 ^ j:=fun h=>Int.ediv_le_ediv hp h
 have q:(y / 256 ^ j % 256 < z / 256 ^ j % 256)↔y < z:=by
  constructor
  ·intro hlt
   rcases Int.lt_or_le y z with h1 | h1
   ·exact h1
   ·have:=m h1;omega
  ·intro hlt
   have:=m (Int.le_of_lt hlt)
   omega
 exact decide_eq_decide.2 q
theorem eq_of_digit (y z:Int) (j:Nat) (h:y / 256 ^ (j + 1)=z / 256 ^ (j + 1)) (he:y / 256 ^ j % 256=z / 256 ^ j % 256):y / 256 ^ j=z / 256 ^ j:=by
 have e1:=digit_of y j
 have e2:=digit_of z j
 omega
set_option maxHeartbeats 2000000 in
theorem less_any (y z:Int) (w:World) (hy:0≤y∧y < 256 ^ 34) (hz:0≤z∧z < 256 ^ 34) :
  Calls Tryz.prog 145 #[.agg (rowI (digI 34 y)),.agg (rowI (digI 34 z))] w fun e w'=>e = .returned (.bool (decide (y < z)))∧Below w.heap.size w w':=by
 obtain ⟨g,hg⟩:∃ g,Hid (w.heap.size=g):=⟨_,rfl⟩
 obtain ⟨w0,hw0⟩:∃ W,Hid ((w.alloc (.cells (rowI (digI 34 y)) 194)).alloc (.cells (rowI (digI 34 z)) 194)=W):=⟨_,rfl⟩
 have HG:Hid (Bk w0 g 194 (rowI (digI 34 y))):=hidu_ (by rw [← hw0.out,← hg.out];exact (Bk.new w _ _).alloc _)
 have HZ:Hid (Bk w0 (g + 1) 194 (rowI (digI 34 z))):=hidu_ (by
  have h:=Bk.new (w.alloc (.cells (rowI (digI 34 y)) 194)) 194 (rowI (digI 34 z))
  rw [← hw0.out,← hg.out]
  simpa using h)
 have HB:Hid (Below g w w0):=hidu_ (by rw [← hw0.out,← hg.out];exact ((Below.refl _ _).alloc (Nat.le_refl _) _).alloc (by simp) _)
 have HY:Hid (y / 256 ^ 34=z / 256 ^ 34):=hidu_ (by rw [Int.ediv_eq_zero_of_lt hy.1 hy.2,Int.ediv_eq_zero_of_lt hz.1 hz.2])
 clear hy hz
 have hs1:(w.alloc (.cells (rowI (digI 34 y)) 194)).heap.size=w.heap.size + 1:=by simp
 obtain ⟨r,hrr⟩:∃ r,Hid (decide (y < z)=r):=⟨_,rfl⟩
 rw [hrr.out]
 go_enter Tryz.func145,Tryz.ntmps145
 go_upto_region 1 with fail
 first | rw [hs1] | skip
 rw [hg.out,hw0.out]
 clear hs1
 go_wp2
 go_loopw [5] (fun i wr=>∃ (k:Nat) (zi:Int),i = .int .i64 zi∧zi + 1=(k:Int)∧k≤34∧Hid (y / 256 ^ k=z / 256 ^ k)∧Bk wr g 194 (rowI (digI 34 y))∧Bk wr (g + 1) 194 (rowI (digI 34 z))∧Below g w wr) (fun i _=>(intOf i + 1).toNat)
 case atStart=>exact ⟨34,33,rfl,by omega,by omega,HY,HG.out,HZ.out,HB.out⟩
 case round =>
  obtain ⟨k,zi,rfl,hzi,hk,HE,b0,b1,bb⟩:=hrel
  have B0:=hidu_ b0
  have B1:=hidu_ b1
  have BB:=hidu_ bb
  clear b0 b1 bb HG HZ HB HY
  rcases k with _ | j
  ·obtain rfl:zi = -1:=by omega
   have hyz:r=false:=by
    have h:=HE.out
    rw [Int.pow_zero,Int.ediv_one,Int.ediv_one] at h
    rw [← hrr.out,h];simp
   subst hyz
   clear hzi
   go_wp2
   go_ret
   exact ⟨rfl,by rw [hg.out];exact BB.out⟩
  ·obtain rfl:zi=(j:Int):=by omega
   clear hzi
   have hc:=B0.out.cell j
   rw [rowI_at _ _ (by rw [digI_len];omega),dig_getD _ _ _ (by omega)] at hc
   have hc2:=B1.out.cell j
   rw [rowI_at _ _ (by rw [digI_len];omega),dig_getD _ _ _ (by omega)] at hc2
   have HL:=lt_of_digit y z j HE.out
   have HQ:=eq_of_digit y z j HE.out
   have t0:(0:Int)≤(j:Int):=by omega
   have t1:(j:Int) < 34:=by omega
   obtain ⟨a,ha⟩:∃ x,Hid (y / 256 ^ j % 256=x):=⟨_,rfl⟩
   obtain ⟨b,hb⟩:∃ x,Hid (z / 256 ^ j % 256=x):=⟨_,rfl⟩
   rw [ha.out] at hc HL HQ
   rw [hb.out] at hc2 HL HQ
   by_cases hab:a=b
   ·have HQ2:=hidu_ (HQ hab)
    clear HL HQ ha
    obtain rfl:a=b:=hab
    have e1:(a == a)=true:=by simp
    have e2:(a != a)=false:=by simp
    go_upto_region 4 with fail
    go_quiet (fail)
    obtain ⟨wd,hwd⟩:∃ wd,wr.drewN nq=wd:=⟨_,rfl⟩
    have D0:Hid (Bk wd g 194 (rowI (digI 34 y))):=hidu_ (by rw [← hwd];exact B0.out.drewN nq)
    have D1:Hid (Bk wd (g + 1) 194 (rowI (digI 34 z))):=hidu_ (by rw [← hwd];exact B1.out.drewN nq)
    have DB:Hid (Below g w wd):=hidu_ (by rw [← hwd];exact below_drewN BB.out nq)
    rw [hwd]
    clear hwd hc hc2 B0 B1 BB
    go_wp2
    go_roundw
    case rel=>exact ⟨j,(j:Int) - 1,rfl,by omega,by omega,HQ2,D0.out,D1.out,DB.out⟩
    case measure=>simp [intOf]
   ·have HL2:=hidu_ (HL hab)
    have e1:(a == b)=false:=by simpa using hab
    have e2:(a != b)=true:=by simpa using hab
    clear HL HQ hab ha hb
    go_upto_region 4 with fail
    go_quiet (fail)
    obtain ⟨wd,hwd⟩:∃ wd,wr.drewN nq=wd:=⟨_,rfl⟩
    replace hc:wd.cell? ⟨g,j,none⟩=some (.int .i64 a):=by rw [← hwd];exact hc
    replace hc2:wd.cell? ⟨g + 1,j,none⟩=some (.int .i64 b):=by rw [← hwd];exact hc2
    have DB:Hid (Below g w wd):=hidu_ (by rw [← hwd];exact below_drewN BB.out nq)
    rw [hwd]
    clear hwd B0 B1 BB
    go_upto_region 5 with fail
    go_quiet (fail)
    go_wp2
    go_ret
    exact ⟨ret_bool (HL2.out.trans hrr.out),by rw [hg.out];exact below_drewN DB.out _⟩
def lowI (y:Int) (i:Nat):List Int:=digI i y ++ List.replicate (34 - i) 0
theorem lowI_len (y:Int) (i:Nat) (h:i≤34):(lowI y i).length=34:=by simp [lowI,digI_len];omega
theorem lowI_zero (y:Int):lowI y 0=zerosI:=by simp [lowI,digI,zerosI]
theorem lowI_set (y:Int) (i:Nat) (h:i < 34) (v:Int):(lowI y i).set i v=digI i y ++ v :: List.replicate (34 - (i + 1)) 0:=by
 obtain ⟨m,hm⟩:∃ m,34 - i=m + 1:=⟨34 - i - 1,by omega⟩
 unfold lowI
 rw [List.set_append_right _ _ (by rw [digI_len];omega),digI_len,Nat.sub_self,hm,List.replicate_succ,List.set_cons_zero,show 34 - (i + 1)=m by omega]
theorem lowI_step (y:Int) (i:Nat) (h:i < 34):(lowI y i).set i (y / 256 ^ i % 256)=lowI y (i + 1):=by
 rw [lowI_set y i h,lowI,dig_snoc,List.append_assoc,List.singleton_append]
theorem lowI_step2 (y:Int) (i:Nat) (h:i < 34) (v:Int):((lowI y i).set i v).set i (y / 256 ^ i % 256)=lowI y (i + 1):=by
 rw [List.set_set,lowI_step y i h]
theorem low16_val (y:Int):vI ((lowI y 16).set 16 (y / 256 ^ 16 % 256 % 4))=y % 1361129467683753853853498429727072845824:=by
 rw [lowI_set y 16 (by omega),← low_val,vI_append,vI_append]
 simp only [vI,vI_zeros]
theorem low16_rng (y:Int):rngI 255 ((lowI y 16).set 16 (y / 256 ^ 16 % 256 % 4)):=by
 refine rngI.set ?_ 16 (by omega) (by omega)
 intro x hx
 rcases List.mem_append.1 hx with h | h
 ·exact rngI_dig _ _ x h
 ·rw [List.eq_of_mem_replicate h];omega
theorem hi_row (y:Int) (h0:0≤y) (h:y < 256 ^ 34):lowI (hiV y) 18=digI 34 (hiV y):=by
 rw [lowI,dig_more 18 16 _ (hi_nonneg y h0) (hi_lt y h)]
theorem vI_dig_succ (z:Int) (i:Nat):vI (digI (i + 1) z)=vI (digI i z) + 256 ^ i * (z / 256 ^ i % 256):=by
 rw [dig_snoc,vI_append,digI_len]
 simp [vI]
theorem fold_end (y:Int) (h0:0≤y) (h:y < 256 ^ 34):y % 1361129467683753853853498429727072845824 + 5 * vI (digI 34 (hiV y))=foldV y:=by
 have h1:=hi_nonneg y h0
 have h2:=hi_lt y h
 have e:(256:Int) ^ 18=22300745198530623141535718272648361505980416:=by decide
 have e2:(256:Int) ^ 34=7588550360256754183279148073529370729071901715047420004889892225542594864082845696:=by decide
 rw [e] at h2
 rw [vI_dig,e2,Int.emod_eq_of_lt h1 (by omega)]
 rfl
theorem fold_start {v r:Int} (h:v=r) (q:Int):Hid (v=r + 5 * vI (digI 0 q)):=by
 subst h
 show v=v + 5 * 0
 omega
theorem sub_get (E Y:List Int) (j:Nat) (he:E.length=34) (hy:Y.length=34) (h:j < 34):(E.take j ++ Y.drop j).getD j 0=Y.getD j 0:=by
 have h1:(E.take j).length=j:=by rw [List.length_take];omega
 unfold List.getD
 rw [List.getElem?_append_right (by omega),h1,Nat.sub_self,List.getElem?_drop,Nat.add_zero]
theorem sub_set (E Y:List Int) (j:Nat) (he:E.length=34) (hy:Y.length=34) (h:j < 34):(E.take j ++ Y.drop j).set j (E.getD j 0)=E.take (j + 1) ++ Y.drop (j + 1):=by
 have h1:(E.take j).length=j:=by rw [List.length_take];omega
 have h2:E.getD j 0=E[j]'(by omega):=by simp [List.getD,show j < E.length by omega]
 rw [List.set_append_right _ _ (by omega),h1,Nat.sub_self,List.drop_eq_getElem_cons (by omega),List.set_cons_zero,List.take_succ_eq_append_getElem (by omega),h2,List.append_assoc]
 rfl
theorem sub_len (E Y:List Int) (j:Nat) (he:E.length=34) (hy:Y.length=34) (h:j≤34):(E.take j ++ Y.drop j).length=34:=by
 rw [List.length_append,List.length_take,List.length_drop];omega
def FoldC (g L:Nat) (y:Int) (w W:World):Prop:=Bk W g 194 (rowI (digI 34 y))∧Bk W (g + 1) 194 (rowI zerosI)∧Below g w W∧g + 1 < L
theorem FoldC.set {g L:Nat} {y:Int} {w W:World} (h:FoldC g L y w W) {p:Addr} (hp:L≤p.block) (u:Value):FoldC g L y w (W.setCell p u) :=
 ⟨h.1.far (by have:=h.2.2.2;omega) u,h.2.1.far (by have:=h.2.2.2;omega) u,h.2.2.1.setCell (by have:=h.2.2.2;omega) u,h.2.2.2⟩
theorem FoldC.drewN {g L:Nat} {y:Int} {w W:World} (h:FoldC g L y w W) (n:Nat):FoldC g L y w (W.drewN n) :=
 ⟨h.1.drewN n,h.2.1.drewN n,below_drewN h.2.2.1 n,h.2.2.2⟩
set_option maxHeartbeats 4000000 in
theorem fold_any (x:Int) (w:World) (hx:0≤x∧x < 256 ^ 34) :
  Calls Tryz.prog 134 #[.agg (rowI (digI 34 x))] w fun e w'=>e = .returned (.agg (rowI (digI 34 (x % pI))))∧Below w.heap.size w w':=by
 have hz:=z34
 obtain ⟨g,hg⟩:∃ g,Hid (w.heap.size=g):=⟨_,rfl⟩
 obtain ⟨w0,hw0⟩:∃ W,Hid ((w.alloc (.cells (rowI (digI 34 x)) 194)).alloc (.cells (rowI zerosI) 194)=W):=⟨_,rfl⟩
 have HG:Hid (Bk w0 g 194 (rowI (digI 34 x))):=hidu_ (by rw [← hw0.out,← hg.out];exact (Bk.new w _ _).alloc _)
 have HZ:Hid (Bk w0 (g + 1) 194 (rowI zerosI)):=hidu_ (by
  have h:=Bk.new (w.alloc (.cells (rowI (digI 34 x)) 194)) 194 (rowI zerosI)
  rw [← hw0.out,← hg.out]
  simpa using h)
 have HB:Hid (Below g w w0):=hidu_ (by rw [← hw0.out,← hg.out];exact ((Below.refl _ _).alloc (Nat.le_refl _) _).alloc (by simp) _)
 have hI:∀ l:List Int,l.length=34→(Tryz.prog.info? 194).map (·.size)=some (rowI l).size:=i34
 have HI:=hidu_ hI
 have HX:=hidu_ hx
 clear hI hx
 go_enter Tryz.func134,Tryz.ntmps134
 go_upto_region 1 with fail
 rw [hg.out,hw0.out]
 go_wp2
 go_loopw [3] (fun i wr=>∃ k:Nat,k≤4∧i = .int .i64 k∧Bk wr g 194 (rowI (digI 34 (foldsV k x)))∧Bk wr (g + 1) 194 (rowI zerosI)∧Below g w wr) (fun i _=>4 - (intOf i).toNat)
 case atStart=>exact ⟨0,by omega,rfl,HG.out,HZ.out,HB.out⟩
 case round =>
  obtain ⟨k,hk,rfl,b0,b1,bb⟩:=hrel
  have B0:=hidu_ b0
  have B1:=hidu_ b1
  have BB:=hidu_ bb
  have hyb:=hidu_ (foldsV_bd x HX.out.1 HX.out.2 k)
  clear b0 b1 bb HG HZ HB
  by_cases hlt:k < 4
  ·have hd4:decide ((k:Int) < 4)=true:=decide_eq_true (by omega)
   have hfs:Hid (foldsV (k + 1) x=foldV (foldsV k x)):=hidu_ rfl
   generalize foldsV k x=y at *
   obtain ⟨L,hL⟩:∃ L,Hid (wr.heap.size=L):=⟨_,rfl⟩
   obtain ⟨w1,hw1⟩:∃ W,Hid ((wr.alloc (.cells (rowI zerosI) 194)).alloc (.cells (rowI zerosI) 194)=W):=⟨_,rfl⟩
   have hgL:g + 1 < L:=by rw [← hL.out];exact B1.out.lt
   have F1:Hid (FoldC g L y w w1):=hidu_ (by
    rw [← hw1.out]
    exact ⟨(B0.out.alloc _).alloc _,(B1.out.alloc _).alloc _,(BB.out.alloc (by rw [hL.out];omega) _).alloc (by simp;rw [hL.out];omega) _,hgL⟩)
   have L1:Hid (Bk w1 L 194 (rowI zerosI)):=hidu_ (by rw [← hw1.out,← hL.out];exact (Bk.new wr _ _).alloc _)
   have H1:Hid (Bk w1 (L + 1) 194 (rowI zerosI)):=hidu_ (by
    have h:=Bk.new (wr.alloc (.cells (rowI zerosI) 194)) 194 (rowI zerosI)
    rw [← hw1.out,← hL.out]
    simpa using h)
   have hs1:(wr.alloc (.cells (rowI zerosI) 194)).heap.size=L + 1:=by rw [← hL.out];simp
   clear B0 B1 BB
   go_upto_region 5 with fail
   first | rw [hs1] | skip
   rw [hL.out,hw1.out]
   clear hs1
   go_wp2
   go_loopw [6] (fun i wr=>∃ k:Nat,k≤16∧i = .int .i64 k∧Hid (FoldC g L y w wr)∧Hid (Bk wr L 194 (rowI (lowI y k)))∧Hid (Bk wr (L + 1) 194 (rowI zerosI))) (fun i _=>16 - (intOf i).toNat)
   case atStart=>exact ⟨0,by omega,rfl,F1,by rw [lowI_zero];exact L1,H1⟩
   case round =>
    obtain ⟨i,hi,rfl,FC,BL,BH⟩:=hrel
    clear F1 L1 H1 hw1 hL
    by_cases hlt2:i < 16
    ·have hc:=FC.out.1.cell i
     rw [rowI_at _ _ (by rw [digI_len];omega),dig_getD _ _ _ (by omega)] at hc
     have hf:=BL.out.frozen i
     have hc2:=BL.out.cell i
     rw [rowI_at _ _ (by rw [lowI_len _ _ (by omega)];omega)] at hc2
     have hset:=BL.out.set_ i (.int .i64 (y / 256 ^ i % 256))
     rw [rowI_set,lowI_step y i (by omega)] at hset
     have HS:=hidu_ hset
     have HF:=hidu_ (FC.out.set (p:=⟨L,i,none⟩) (Nat.le_refl _) (.int .i64 (y / 256 ^ i % 256)))
     have HH:=hidu_ (BH.out.far (p:=⟨L,i,none⟩) (by simp) (.int .i64 (y / 256 ^ i % 256)))
     have t0:(0:Int)≤(i:Int):=by omega
     have t1:(i:Int) < 34:=by omega
     clear hset
     generalize y / 256 ^ i % 256=v at *
     generalize (lowI y i).getD i 0=v0 at *
     go_wp2
     go_roundw
     case rel=>exact ⟨i + 1,by omega,by go_num,HF,HS,HH⟩
     case measure=>simp [intOf];omega
    ·have e16:i=16:=by omega
     rw [e16] at BL
     have hd16:decide ((i:Int) < 16)=false:=decide_eq_false (by omega)
     clear e16
     have hc:=FC.out.1.cell 16
     rw [rowI_at _ _ (by rw [digI_len];omega),dig_getD _ _ _ (by omega)] at hc
     have hf:=BL.out.frozen 16
     have hc2:=BL.out.cell 16
     rw [rowI_at _ _ (by rw [lowI_len _ _ (by omega)];omega)] at hc2
     have hset:=BL.out.set_ 16 (.int .i64 (y / 256 ^ 16 % 256 % 4))
     rw [rowI_set] at hset
     have LV:=hidu_ (low16_val y)
     have LR:=hidu_ (low16_rng y)
     have LL:=hidu_ (show ((lowI y 16).set 16 (y / 256 ^ 16 % 256 % 4)).length=34 by rw [List.length_set,lowI_len _ _ (by omega)])
     have HS:=hidu_ hset
     have HF:=hidu_ (FC.out.set (p:=⟨L,16,none⟩) (Nat.le_refl _) (.int .i64 (y / 256 ^ 16 % 256 % 4)))
     have HH:=hidu_ (BH.out.far (p:=⟨L,16,none⟩) (by simp) (.int .i64 (y / 256 ^ 16 % 256 % 4)))
     have hv0:0≤y / 256 ^ 16 % 256:=by omega
     have hv1:y / 256 ^ 16 % 256≤255:=by omega
     clear hset FC BL BH
     generalize (lowI y 16).set 16 (y / 256 ^ 16 % 256 % 4)=l0 at *
     generalize y / 256 ^ 16 % 256=v at *
     generalize (lowI y 16).getD 16 0=v0 at *
     go_upto_region 10 with fail
     obtain ⟨w2,hw2⟩:∃ W,Hid (wr.setCell ⟨L,16,none⟩ (.int .i64 (v % 4))=W):=⟨_,rfl⟩
     rw [hw2.out] at HS HF HH ⊢
     clear hc hf hc2 hv0 hv1 hw2
     go_wp2
     go_loopw [7] (fun i wr=>∃ k:Nat,k≤18∧i = .int .i64 k∧Hid (FoldC g L y w wr)∧Hid (Bk wr L 194 (rowI l0))∧Hid (Bk wr (L + 1) 194 (rowI (lowI (hiV y) k)))) (fun i _=>18 - (intOf i).toNat)
     case atStart=>exact ⟨0,by omega,rfl,HF,HS,by rw [lowI_zero];exact HH⟩
     case round =>
      obtain ⟨i,hi,rfl,FC,BL,BH⟩:=hrel
      clear HF HS HH
      by_cases hlt3:i < 18
      ·have hd18:decide ((i:Int) < 18)=true:=decide_eq_true (by omega)
       have hc:=FC.out.1.cell (16 + i)
       rw [rowI_at _ _ (by rw [digI_len];omega),dig_getD _ _ _ (by omega)] at hc
       have hf:=BH.out.frozen i
       have hc2:=BH.out.cell i
       rw [rowI_at _ _ (by rw [lowI_len _ _ (by omega)];omega)] at hc2
       have hset:=BH.out.set_ i (.int .i64 (y / 256 ^ (16 + i) % 256 / 4))
       rw [rowI_set] at hset
       have HF:=hidu_ (FC.out.set (p:=⟨L + 1,i,none⟩) (by simp) (.int .i64 (y / 256 ^ (16 + i) % 256 / 4)))
       have HL:=hidu_ (BL.out.far (p:=⟨L + 1,i,none⟩) (by simp) (.int .i64 (y / 256 ^ (16 + i) % 256 / 4)))
       have hv0:0≤y / 256 ^ (16 + i) % 256:=by omega
       have hv1:y / 256 ^ (16 + i) % 256≤255:=by omega
       have t0:(0:Int)≤(i:Int):=by omega
       have t1:(i:Int) < 34:=by omega
       have t2:(16:Int) + (i:Int) < 34:=by omega
       have t3:((16:Int) + (i:Int)).toNat=16 + i:=by omega
       have HD:=hidu_ (hi_digit y i)
       have HT:=hidu_ (lowI_step2 (hiV y) i (by omega) (y / 256 ^ (16 + i) % 256 / 4))
       have HL2:=hidu_ (lowI_len (hiV y) i (by omega))
       by_cases h17:i < 17
       ·have HS:=hidu_ hset
        have hc3:=HF.out.1.cell (17 + i)
        rw [rowI_at _ _ (by rw [digI_len];omega),dig_getD _ _ _ (by omega)] at hc3
        have hu0:0≤y / 256 ^ (17 + i) % 256:=by omega
        have hu1:y / 256 ^ (17 + i) % 256≤255:=by omega
        obtain ⟨z,hz⟩:∃ z,Hid (hiV y / 256 ^ i % 256=z):=⟨_,rfl⟩
        rw [hz.out] at HT HD
        have hd0:=HD.out
        clear hset
        generalize y / 256 ^ (16 + i) % 256=v at *
        generalize y / 256 ^ (17 + i) % 256=u at *
        have t4:(17:Int) + (i:Int) < 34:=by omega
        have t5:((17:Int) + (i:Int)).toNat=17 + i:=by omega
        have hset2:=HS.out.set_ i (.int .i64 z)
        rw [rowI_set,HT.out] at hset2
        have HS2:=hidu_ hset2
        have HF2:=hidu_ (HF.out.set (p:=⟨L + 1,i,none⟩) (by simp) (.int .i64 z))
        have HL3:=hidu_ (HL.out.far (p:=⟨L + 1,i,none⟩) (by simp) (.int .i64 z))
        have hc4:=HS.out.cell i
        rw [rowI_at _ _ (by rw [List.length_set,HL2.out];omega)] at hc4
        have hg4:((lowI (hiV y) i).set i (v / 4)).getD i 0=v / 4:=by
         have:=HL2.out
         simp [List.getD,show i < (lowI (hiV y) i).length by omega]
        rw [hg4] at hc4
        have hf4:=HS.out.frozen i
        have hzz:Hid (v / 4 + u % 4 * 64=z):=hidu_ hd0
        have HG4:=hidu_ hg4
        have HB4:=HS
        have HF3:=HF
        clear hset2 hg4 hd0
        generalize (lowI (hiV y) i).getD i 0=v0 at *
        go_upto_region 15 with fail
        obtain ⟨w2,hw2⟩:∃ W,Hid (wr.setCell ⟨L + 1,i,none⟩ (.int .i64 (v / 4))=W):=⟨_,rfl⟩
        rw [hw2.out] at HS2 HF2 HL3 hc3 hc4 hf4 HB4 HF3 ⊢
        clear hc hf hc2 HS HF HL hw2 HD HT
        have q1:IntKind.i64.wrap (17 + (i:Int))=17 + (i:Int):=IntWalk.i64_in _ (by omega)
        refine region_quiet_tail_lit 12 (by kernel_rfl) (by kernel_rfl) ?_
        simp only [List.take_succ_cons,List.take_zero]
        repeat (go_big_quiet_step (fail))
        refine wpQuiet_nil ?_
        intro w' hw'
        obtain ⟨nq,rfl⟩:=hw'
        simp only [List.drop_succ_cons,List.drop_zero]
        rw [hzz.out]
        have A1:=hidu_ (HF3.out.drewN nq)
        have hf5:=(HB4.out.drewN nq).frozen i
        have hc5:=(HB4.out.drewN nq).cell i
        rw [rowI_at _ _ (by rw [List.length_set,HL2.out];omega),HG4.out] at hc5
        have HS5:=hidu_ (show Bk ((w2.drewN nq).setCell ⟨L + 1,i,none⟩ (.int .i64 z)) (L + 1) 194 (rowI (lowI (hiV y) (i + 1))) from HS2.out)
        have HF5:=hidu_ (A1.out.set (p:=⟨L + 1,i,none⟩) (by simp) (.int .i64 z))
        have HL5:=hidu_ (show Bk ((w2.drewN nq).setCell ⟨L + 1,i,none⟩ (.int .i64 z)) L 194 (rowI l0) from HL3.out)
        clear HS2 HF2 HL3 hc3 hc4 hf4 A1 HF3 HB4
        generalize w2.drewN nq=w3 at *
        refine wpList_plain rfl fun K hK=>?_
        go_simp
        refine hK _ _ ?_
        clear hK K
        rename_i K hK
        refine hK _ _ ?_
        clear hf5 hc5
        go_wp2
        go_roundw
        case rel=>exact ⟨i + 1,by omega,by go_num,HF5,HL5,HS5⟩
        case measure=>simp [intOf];omega
       ·have e17:i=17:=by omega
        have hdd:Hid (hiV y / 256 ^ i % 256=y / 256 ^ (16 + i) % 256 / 4):=hidu_ (by rw [e17];exact (hi_top y hyb.out.1 hyb.out.2).symm)
        have hst:(lowI (hiV y) i).set i (y / 256 ^ (16 + i) % 256 / 4)=lowI (hiV y) (i + 1):=by rw [← hdd.out];exact lowI_step _ _ (by omega)
        rw [hst] at hset
        have HS:=hidu_ hset
        have hd17:decide ((17:Int) + (i:Int) < 34)=false:=decide_eq_false (by omega)
        clear hset hst e17 HD HT
        generalize y / 256 ^ (16 + i) % 256=v at *
        generalize (lowI (hiV y) i).getD i 0=v0 at *
        go_wp2
        go_roundw
        case rel=>exact ⟨i + 1,by omega,by go_num,HF,HL,HS⟩
        case measure=>simp [intOf];omega
      ·have e18:i=18:=by omega
       rw [e18] at BH
       have hd18:decide ((i:Int) < 18)=false:=decide_eq_false (by omega)
       have hrow:=hi_row y hyb.out.1 hyb.out.2
       rw [hrow] at BH
       clear e18 hrow
       have HE:=hidu_ (fold_end y hyb.out.1 hyb.out.2)
       obtain ⟨q,hq⟩:∃ q,Hid (hiV y=q):=⟨_,rfl⟩
       rw [hq.out] at BH HE
       go_wp2
       go_loopw [8] (fun i wr=>∃ (k:Nat) (l:List Int),k≤34∧i = .int .i64 k∧Hid (FoldC g L y w wr)∧Hid (Bk wr L 194 (rowI l))∧Hid (Bk wr (L + 1) 194 (rowI (digI 34 q)))∧Hid (l.length=34)∧Hid (rngI (255 + 1275 * (k:Int)) l)∧Hid (vI l=y % 1361129467683753853853498429727072845824 + 5 * vI (digI k q))) (fun i _=>34 - (intOf i).toNat)
       case atStart=>exact ⟨0,l0,by omega,rfl,FC,BL,BH,LL,by simpa using LR,fold_start LV.out q⟩
       case round =>
        obtain ⟨j,l,hj,rfl,FC,BL,BH,JL,JR,JV⟩:=hrel
        clear LL LR LV
        by_cases hlt4:j < 34
        ·have hd34:decide ((j:Int) < 34)=true:=decide_eq_true (by omega)
         have t0:(0:Int)≤(j:Int):=by omega
         have t1:(j:Int) < 34:=by omega
         have hc:=BL.out.cell j
         rw [rowI_at _ _ (by rw [JL.out];omega)] at hc
         have hc2:=BH.out.cell j
         rw [rowI_at _ _ (by rw [digI_len];omega),dig_getD _ _ _ (by omega)] at hc2
         have hb:=JR.out.get (by omega) j
         have hs:=vI_dig_succ q j
         have hvs:=vI_set l j (l.getD j 0 + 5 * (q / 256 ^ j % 256)) (by rw [JL.out];omega)
         have hu0:0≤q / 256 ^ j % 256:=by omega
         have hu1:q / 256 ^ j % 256≤255:=by omega
         have JV2:Hid (vI (l.set j (l.getD j 0 + 5 * (q / 256 ^ j % 256)))=y % 1361129467683753853853498429727072845824 + 5 * vI (digI (j + 1) q)):=hidu_ (by
          rw [hvs,hs,JV.out];grind)
         clear hs hvs
         obtain ⟨a,ha⟩:∃ a,Hid (l.getD j 0=a):=⟨_,rfl⟩
         obtain ⟨u,hu⟩:∃ a,Hid (q / 256 ^ j % 256=a):=⟨_,rfl⟩
         rw [ha.out] at hc hb JV2
         rw [hu.out] at hc2 hu0 hu1 JV2
         obtain ⟨hb0,hb1⟩:=hb
         have JR2:Hid (rngI (255 + 1275 * ((j + 1:Nat):Int)) (l.set j (a + 5 * u))):=hidu_ ((JR.out.mono (by omega)).set j (by omega) (by omega))
         have JL2:Hid ((l.set j (a + 5 * u)).length=34):=hidu_ (by rw [List.length_set,JL.out])
         go_upto_region 19 with fail
         refine region_quiet_tail_lit 10 (by kernel_rfl) (by kernel_rfl) ?_
         simp only [List.take_succ_cons,List.take_zero]
         repeat (go_big_quiet_step (fail))
         refine wpQuiet_nil ?_
         intro w' hw'
         obtain ⟨nq,rfl⟩:=hw'
         simp only [List.drop_succ_cons,List.drop_zero]
         have hf5:=(BL.out.drewN nq).frozen j
         have hc5:=(BL.out.drewN nq).cell j
         rw [rowI_at _ _ (by rw [JL.out];omega),ha.out] at hc5
         have hset:=(BL.out.drewN nq).set_ j (.int .i64 (a + 5 * u))
         rw [rowI_set] at hset
         have HS5:=hidu_ hset
         have HF5:=hidu_ ((FC.out.drewN nq).set (p:=⟨L,j,none⟩) (by simp) (.int .i64 (a + 5 * u)))
         have HH5:=hidu_ ((BH.out.drewN nq).far (p:=⟨L,j,none⟩) (by simp) (.int .i64 (a + 5 * u)))
         clear hset hc hc2 FC BL BH
         generalize wr.drewN nq=w3 at *
         refine wpList_plain rfl fun K hK=>?_
         go_simp
         refine hK _ _ ?_
         clear hK K
         rename_i K hK
         refine hK _ _ ?_
         clear hf5 hc5
         go_wp2
         go_roundw
         case rel=>exact ⟨j + 1,_,by omega,by go_num,HF5,HS5,HH5,JL2,JR2,JV2⟩
         case measure=>simp [intOf];omega
        ·have e34:j=34:=by omega
         have hd34:decide ((j:Int) < 34)=false:=decide_eq_false (by omega)
         rw [e34] at JV JR
         have hv:=JV.out
         rw [HE.out] at hv
         have cc:=fun W=>carry_any l W JL.out (JR.out.mono (by omega))
         rw [hv,← hfs.out] at cc
         clear e34 hv
         have K2:=BL.out
         obtain ⟨D,hD⟩:∃ D,Hid (digI 34 (foldsV (k + 1) x)=D):=⟨_,rfl⟩
         have HDl:Hid (D.length=34):=hidu_ (by rw [← hD.out];exact digI_len _ _)
         rw [hD.out] at cc
         go_upto_region 20 with fail
         go_wp2_with (first
          | (refine wpList_load_row rfl 194 (.tmp 4) rfl L rfl 194 (rowI l) (0,0) _ K2 Tryz.underlying194 rfl (HI.out _ JL.out) ?_)
          | (go_at_call 133;((with_reducible refine (cc _).mono ?_);rintro e w4 ⟨rfl,hb4⟩);have A4:=hidu_ (FC.out.1.below hb4 FC.out.1.lt);have A5:=hidu_ (FC.out.2.1.below hb4 FC.out.2.1.lt);have A6:=hidu_ (FC.out.2.2.1.trans (hb4.mono (Nat.le_of_lt FC.out.1.lt)));have A7:=A4.out;clear hb4)
          | (refine wpList_put_row rfl 194 (.tmp 1) (.tmp 69) rfl g (rowI D) rfl rfl 194 (rowI (digI 34 y)) A7 (HI.out _ HDl.out) (by rw [rowI_size,rowI_size,digI_len,HDl.out]) (rowI_one _) ?_;intro w5 k5 g5 s5;have B5:=hidu_ (A5.out.grown g5 (fun e=>by injection e with e;omega));have B6:=hidu_ (A6.out.grown g5 (by have:=A4.out.lt;omega) (fun i hi=>by injection hi with hi;omega));have B7:=hidu_ k5;clear k5 g5 s5))
         go_roundw
         case rel=>exact ⟨k + 1,by omega,by go_num,by rw [hD.out];exact B7.out,B5.out,B6.out⟩
         case measure=>simp [intOf];omega
  ·have e4:k=4:=by omega
   have hd4:decide ((k:Int) < 4)=false:=decide_eq_false (by omega)
   have h4:=foldsV_four x HX.out.1 HX.out.2
   have hm:=foldsV_mod 4 x
   rw [e4] at B0
   clear e4 hyb
   have hlp:=less_prime _ h4.1 h4.2
   obtain ⟨y,hy⟩:∃ y,Hid (foldsV 4 x=y):=⟨_,rfl⟩
   rw [hy.out] at B0 hlp hm h4
   have hyb:0≤y∧y < 256 ^ 34:=by
    have e2:(256:Int) ^ 34=7588550360256754183279148073529370729071901715047420004889892225542594864082845696:=by decide
    rw [e2];omega
   have hpb:0≤pI∧pI < 256 ^ 34:=by decide
   have cl:=fun W=>less_any y pI W hyb hpb
   have hm2:Hid (y % pI=x % pI):=hidu_ hm
   clear hm hyb hpb h4 hy
   have cp:=fun W=>prime_any W
   obtain ⟨Y,hY⟩:∃ Y,Hid (digI 34 y=Y):=⟨_,rfl⟩
   obtain ⟨PI,hPI⟩:∃ Y,Hid (digI 34 pI=Y):=⟨_,rfl⟩
   have YL:Hid (Y.length=34):=hidu_ (by rw [← hY.out];exact digI_len _ _)
   have PL:Hid (PI.length=34):=hidu_ (by rw [← hPI.out];exact digI_len _ _)
   rw [hY.out] at cl B0
   rw [hPI.out] at cl cp
   go_upto_region 22 with (first
    | (go_at_call 144;((with_reducible refine (cp _).mono ?_);rintro e w4 ⟨rfl,hb4⟩);have A4:=hidu_ (B0.out.below hb4 B0.out.lt);have A5:=hidu_ (B1.out.below hb4 B1.out.lt);have A6:=hidu_ (BB.out.trans (hb4.mono (Nat.le_of_lt B0.out.lt)));have A7:=hidu_ (Bk.new w4 194 (rowI zerosI));have hsz:=hb4.size;have hlt0:=B1.out.lt;clear hb4)
    | (refine wpList_put_row rfl 194 (.tmp 9) (.tmp 70) rfl w4.heap.size (rowI PI) rfl rfl 194 (rowI zerosI) A7.out (HI.out _ PL.out) (by rw [rowI_size,rowI_size,PL.out,zerosI_len]) (rowI_one _) ?_;intro w5 k5 g5 s5;have C0:=hidu_ ((A4.out.alloc (.cells (rowI zerosI) 194)).grown g5 (fun e=>by injection e with e;omega));have C1:=hidu_ ((A5.out.alloc (.cells (rowI zerosI) 194)).grown g5 (fun e=>by injection e with e;omega));have C2:=hidu_ ((A6.out.alloc (by omega) (.cells (rowI zerosI) 194)).grown g5 (by simp;omega) (fun i hi=>by injection hi with hi;omega));have C3:=hidu_ k5;clear k5 g5 s5))
   obtain ⟨P,hP⟩:∃ P,Hid (w4.heap.size=P):=⟨_,rfl⟩
   have hgP:g + 1 < P:=by rw [← hP.out];omega
   rw [hP.out] at C3 ⊢
   rw [put_none]
   clear A4 A5 A6 A7 hsz hlt0 cp B0 B1 BB hP
   have D0:=C0.out
   have D3:=C3.out
   rcases hlp with ⟨hp,hmod⟩ | ⟨e,hye,hmod⟩
   ·have hdp:decide (y < pI)=true:=decide_eq_true hp
    rw [hdp] at cl
    have hxy:Hid (Y=digI 34 (x % pI)):=hidu_ (by rw [← hm2.out,← hY.out];show digI 34 y=digI 34 (y % 1361129467683753853853498429727072845819);rw [hmod])
    clear hdp hp hmod
    go_upto_region 30 with (first
     | (refine wpList_load_row rfl 194 (.tmp 1) rfl g rfl 194 (rowI Y) (0,0) _ D0 Tryz.underlying194 rfl (HI.out _ YL.out) ?_)
     | (refine wpList_load_row rfl 194 (.tmp 9) rfl P rfl 194 (rowI PI) (0,0) _ D3 Tryz.underlying194 rfl (HI.out _ PL.out) ?_)
     | (go_at_call 145;((with_reducible refine (cl _).mono ?_);rintro e w6 ⟨rfl,hb6⟩);have E0:=hidu_ (C0.out.below hb6 C0.out.lt);have E1:=hidu_ (C1.out.below hb6 C1.out.lt);have E2:=hidu_ (C2.out.trans (hb6.mono (Nat.le_of_lt C0.out.lt)));have F0:=E0.out;have F1:=E1.out;clear hb6))
    go_wp2_with (first
     | (refine wpList_load_row rfl 194 (.tmp 1) rfl g rfl 194 (rowI Y) (0,0) _ F0 Tryz.underlying194 rfl (HI.out _ YL.out) ?_)
     | (refine wpList_put_row rfl 194 (.tmp 2) (.tmp 106) rfl (g + 1) (rowI Y) rfl rfl 194 (rowI zerosI) F1 (HI.out _ YL.out) (by rw [rowI_size,rowI_size,YL.out,zerosI_len]) (rowI_one _) ?_;intro w12 k12 g12 s12))
    exact bodyPost_ret (results_cell_row Tryz.results134 _ _ (g + 1) 194 _ (0,0) _ rfl k12 Tryz.underlying194 rfl (HI.out _ YL.out)) rfl ⟨by rw [hxy.out],by rw [hg.out];exact E2.out.grown g12 (by have:=F1.lt;omega) (fun i hi=>by injection hi with hi;omega)⟩
   ·have hdp:decide (y < pI)=false:=decide_eq_false (by rw [hye];show ¬ _ < (1361129467683753853853498429727072845819:Int);omega)
    rw [hdp] at cl
    have hxy:Hid (digI 34 (e.val:Int)=digI 34 (x % pI)):=hidu_ (by rw [← hm2.out];show _=digI 34 (y % 1361129467683753853853498429727072845819);rw [hmod])
    have hYe:Y=digI 34 (1361129467683753853853498429727072845819 + (e.val:Int)):=by rw [← hY.out,hye]
    have HYd:=hidu_ (fun i (h:i < 34)=>show Y.getD i 0 - PI.getD i 0=(digI 34 (e.val:Int)).getD i 0 by rw [hYe,← hPI.out];exact sub_all e ⟨i,h⟩)
    have HYb:=hidu_ (fun i=>show 0≤Y.getD i 0∧Y.getD i 0≤255 by rw [hYe];exact (rngI_dig 34 _).get (by omega) i)
    have HPb:=hidu_ (fun i=>show 0≤PI.getD i 0∧PI.getD i 0≤255 by rw [← hPI.out];exact (rngI_dig 34 _).get (by omega) i)
    obtain ⟨E,hE⟩:∃ E,Hid (digI 34 (e.val:Int)=E):=⟨_,rfl⟩
    have HEb:=hidu_ (fun i=>show 0≤E.getD i 0∧E.getD i 0≤255 by rw [← hE.out];exact (rngI_dig 34 _).get (by omega) i)
    have EL:Hid (E.length=34):=hidu_ (by rw [← hE.out];exact digI_len _ _)
    rw [hE.out] at hxy HYd
    clear hdp hmod hYe hye hE hm2
    go_upto_region 23 with (first
     | (refine wpList_load_row rfl 194 (.tmp 1) rfl g rfl 194 (rowI Y) (0,0) _ D0 Tryz.underlying194 rfl (HI.out _ YL.out) ?_)
     | (refine wpList_load_row rfl 194 (.tmp 9) rfl P rfl 194 (rowI PI) (0,0) _ D3 Tryz.underlying194 rfl (HI.out _ PL.out) ?_)
     | (go_at_call 145;((with_reducible refine (cl _).mono ?_);rintro e w6 ⟨rfl,hb6⟩);have E0:=hidu_ (C0.out.below hb6 C0.out.lt);have E1:=hidu_ (C1.out.below hb6 C1.out.lt);have E2:=hidu_ (C2.out.trans (hb6.mono (Nat.le_of_lt C0.out.lt)));have E3:=hidu_ (C3.out.below hb6 C3.out.lt);clear hb6))
    clear D0 D3 C0 C1 C2 C3 cl
    go_wp2
    go_loopw [10] (fun i wr=>∃ k:Nat,k≤34∧i = .int .i64 k∧Hid (Bk wr g 194 (rowI (E.take k ++ Y.drop k)))∧Hid (Bk wr (g + 1) 194 (rowI zerosI))∧Hid (Bk wr P 194 (rowI PI))∧Hid (Below g w wr)) (fun i _=>34 - (intOf i).toNat)
    case atStart=>exact ⟨0,by omega,rfl,by rw [List.take_zero,List.nil_append,List.drop_zero];exact E0,E1,E3,E2⟩
    case round =>
     obtain ⟨j,hj,rfl,B0,B1,B3,BB⟩:=hrel
     clear E0 E1 E2 E3
     by_cases hlt5:j < 34
     ·have hd34:decide ((j:Int) < 34)=true:=decide_eq_true (by omega)
      have t0:(0:Int)≤(j:Int):=by omega
      have t1:(j:Int) < 34:=by omega
      have hc:=B0.out.cell j
      rw [rowI_at _ _ (by rw [sub_len _ _ _ EL.out YL.out (by omega)];omega),sub_get _ _ _ EL.out YL.out hlt5] at hc
      have hc2:=B3.out.cell j
      rw [rowI_at _ _ (by rw [PL.out];omega)] at hc2
      have hd:=hidu_ (HYd.out j hlt5)
      obtain ⟨hb0,hb1⟩:=HYb.out j
      obtain ⟨hp0,hp1⟩:=HPb.out j
      obtain ⟨he0,he1⟩:=HEb.out j
      have hss:=hidu_ (sub_set E Y j EL.out YL.out hlt5)
      obtain ⟨a,ha⟩:∃ a,Hid (Y.getD j 0=a):=⟨_,rfl⟩
      obtain ⟨u,hu⟩:∃ a,Hid (PI.getD j 0=a):=⟨_,rfl⟩
      obtain ⟨v,hv⟩:∃ a,Hid (E.getD j 0=a):=⟨_,rfl⟩
      rw [ha.out] at hc hb0 hb1 hd
      rw [hu.out] at hc2 hp0 hp1 hd
      rw [hv.out] at he0 he1 hd hss
      go_upto_region 26 with fail
      refine region_quiet_tail_lit 9 (by kernel_rfl) (by kernel_rfl) ?_
      simp only [List.take_succ_cons,List.take_zero]
      repeat (go_big_quiet_step (fail))
      refine wpQuiet_nil ?_
      intro w' hw'
      obtain ⟨nq,rfl⟩:=hw'
      simp only [List.drop_succ_cons,List.drop_zero]
      rw [hd.out]
      have hf5:=(B0.out.drewN nq).frozen j
      have hc5:=(B0.out.drewN nq).cell j
      rw [rowI_at _ _ (by rw [sub_len _ _ _ EL.out YL.out (by omega)];omega),sub_get _ _ _ EL.out YL.out hlt5,ha.out] at hc5
      have hset:=(B0.out.drewN nq).set_ j (.int .i64 v)
      rw [rowI_set,hss.out] at hset
      have HS5:=hidu_ hset
      have HZ5:=hidu_ ((B1.out.drewN nq).far (p:=⟨g,j,none⟩) (by simp) (.int .i64 v))
      have HP5:=hidu_ ((B3.out.drewN nq).far (p:=⟨g,j,none⟩) (by simp;omega) (.int .i64 v))
      have HB5:=hidu_ ((below_drewN BB.out nq).setCell (p:=⟨g,j,none⟩) (by simp) (.int .i64 v))
      clear hset hc hc2 B0 B1 B3 BB
      generalize wr.drewN nq=w3 at *
      refine wpList_plain rfl fun K hK=>?_
      go_simp
      refine hK _ _ ?_
      clear hK K
      rename_i K hK
      refine hK _ _ ?_
      clear hf5 hc5
      have hc6:=HS5.out.cell j
      rw [← hss.out,rowI_at _ _ (by rw [List.length_set,sub_len _ _ _ EL.out YL.out (by omega)];omega)] at hc6
      have hg6:((E.take j ++ Y.drop j).set j v).getD j 0=v:=by
       have:=sub_len E Y j EL.out YL.out (by omega)
       simp only [List.getD,List.getElem?_set]
       rw [if_pos trivial,if_pos (by omega)]
       rfl
      rw [hg6] at hc6
      clear hg6
      have hd0:decide (v < 0)=false:=decide_eq_false (by omega)
      go_wp2
      go_roundw
      case rel=>exact ⟨j + 1,by omega,by go_num,HS5,HZ5,HP5,HB5⟩
      case measure=>simp [intOf];omega
     ·have e34:j=34:=by omega
      have hd34:decide ((j:Int) < 34)=false:=decide_eq_false (by omega)
      rw [e34,List.take_of_length_le (by rw [EL.out];omega),List.drop_eq_nil_of_le (by rw [YL.out];omega),List.append_nil] at B0
      clear e34
      have F0:=B0.out
      have F1:=B1.out
      go_wp2_with (first
       | (refine wpList_load_row rfl 194 (.tmp 1) rfl g rfl 194 (rowI E) (0,0) _ F0 Tryz.underlying194 rfl (HI.out _ EL.out) ?_)
       | (refine wpList_put_row rfl 194 (.tmp 2) (.tmp 106) rfl (g + 1) (rowI E) rfl rfl 194 (rowI zerosI) F1 (HI.out _ EL.out) (by rw [rowI_size,rowI_size,EL.out,zerosI_len]) (rowI_one _) ?_;intro w12 k12 g12 s12))
      exact bodyPost_ret (results_cell_row Tryz.results134 _ _ (g + 1) 194 _ (0,0) _ rfl k12 Tryz.underlying194 rfl (HI.out _ EL.out)) rfl ⟨by rw [hxy.out],by rw [hg.out];exact BB.out.grown g12 (by have:=F1.lt;omega) (fun i hi=>by injection hi with hi;omega)⟩
def sizeV:Value→Nat | .string c=>c.size | _=>0
def preI (l:List Int) (i:Nat):List Int:=l.take i ++ List.replicate (34 - i) 0
theorem preI_len (l:List Int) (i:Nat) (h:i≤34) (hl:i≤l.length):(preI l i).length=34:=by simp [preI];omega
theorem preI_zero (l:List Int):preI l 0=zerosI:=by simp [preI,zerosI]
theorem preI_step (l:List Int) (i:Nat) (h:i < 34) (hl:i < l.length):(preI l i).set i (l.getD i 0)=preI l (i + 1):=by
 obtain ⟨m,hm⟩:∃ m,34 - i=m + 1:=⟨34 - i - 1,by omega⟩
 have h1:(l.take i).length=i:=by rw [List.length_take];omega
 have h2:l.getD i 0=l[i]:=by simp [List.getD,hl]
 unfold preI
 rw [List.set_append_right _ _ (by omega),h1,Nat.sub_self,hm,List.replicate_succ,List.set_cons_zero,show 34 - (i + 1)=m by omega,List.take_succ_eq_append_getElem hl,h2,List.append_assoc]
 rfl
def facI (key:List UInt8):List Int:=preI (intsB (clampB key)) 16
theorem facI_val (key:List UInt8) (h:key.length=32):vI (facI key)=(factN key).val:=by
 have hl:(intsB (clampB key)).length=16:=by rw [intsB_len,clampB_len key h]
 unfold facI preI
 rw [vI_append,vI_zeros,Int.mul_zero,Int.add_zero,List.take_of_length_le (by omega),vI_ints,factN_val key h]
theorem facI_len (key:List UInt8) (h:key.length=32):(facI key).length=34:=by
 unfold facI
 rw [preI_len _ _ (by omega) (by rw [intsB_len,clampB_len key h];omega)]
theorem facI_rng (key:List UInt8):rngI 255 (facI key):=fun x hx=>by
 rcases List.mem_append.1 hx with h | h
 ·exact intsB_range _ x (List.mem_of_mem_take h)
 ·rw [List.eq_of_mem_replicate h];omega
theorem facI_take (key:List UInt8) (h:key.length=32):vI ((facI key).take 17)=vI (facI key):=by
 have hl:(intsB (clampB key)).length=16:=by rw [intsB_len,clampB_len key h]
 have e:(facI key).take 17=intsB (clampB key) ++ List.replicate 1 0:=by
  unfold facI preI
  rw [List.take_of_length_le (show (intsB (clampB key)).length≤16 by omega),List.take_append,List.take_of_length_le (show (intsB (clampB key)).length≤17 by omega),hl,List.take_replicate]
  rfl
 rw [e,facI,preI,vI_append,vI_append,vI_zeros,vI_zeros,List.take_of_length_le (show (intsB (clampB key)).length≤16 by omega)]
theorem fac_lt (key:List UInt8) (h:key.length=32):0≤(factN key).val∧(factN key).val < 340282366920938463463374607431768211456:=by
 rw [factN_val key h]
 have h1:=leN_lt (clampB key)
 rw [clampB_len key h] at h1
 have:(256:Nat) ^ 16=340282366920938463463374607431768211456:=by decide
 omega
theorem clI_a (key:List UInt8) (k:Nat) (h:k % 4=3):((clI key k:Nat):Int)=((key.getD k 0).toNat:Int) % 16:=by
 unfold clI
 simp only [h,if_true]
 rw [if_neg (by omega)]
 omega
theorem clI_b (key:List UInt8) (k:Nat) (h:k % 4=0) (h0:0 < k):((clI key k:Nat):Int)=((key.getD k 0).toNat:Int) - ((key.getD k 0).toNat:Int) % 4:=by
 unfold clI
 simp only
 rw [if_pos ⟨h0,h⟩,if_neg (by omega)]
 omega
theorem clI_c (key:List UInt8) (k:Nat) (h:k % 4≠3) (h0:¬ (0 < k∧k % 4=0)):((clI key k:Nat):Int)=((key.getD k 0).toNat:Int):=by
 unfold clI
 simp only
 rw [if_neg h0,if_neg h]
theorem accP_lt (f:Int) (b:List UInt8):∀ k,0≤accP f b k∧accP f b k < 1361129467683753853853498429727072845819
 | 0=>⟨Int.le_refl _,by show (0:Int) < _;decide⟩
 | k + 1=>by
  have h:primeP=1361129467683753853853498429727072845819:=rfl
  unfold accP
  rw [h]
  exact ⟨Int.emod_nonneg _ (by decide),Int.emod_lt_of_pos _ (by decide)⟩
theorem part_lt (l:List UInt8) (h:l.length≤16):leN l + 256 ^ l.length < 2 * 340282366920938463463374607431768211456:=by
 have h1:=leN_lt l
 have h2:256 ^ l.length≤256 ^ 16:=Nat.pow_le_pow_right (by omega) h
 have:(256:Nat) ^ 16=340282366920938463463374607431768211456:=by decide
 omega
theorem dig_lowpart (A:Int) (h0:0≤A) (h:A < 87112285931760246646623899502532662132736):vI ((digI 34 A).take 17)=A:=by
 rw [dig_take 34 17 A (by omega),vI_dig]
 exact Int.emod_eq_of_lt h0 h
theorem dig_whole (A:Int) (h0:0≤A) (h:A < 1361129467683753853853498429727072845819):vI (digI 34 A)=A:=by
 rw [vI_dig]
 have e:(256:Int) ^ 34=7588550360256754183279148073529370729071901715047420004889892225542594864082845696:=by decide
 rw [e]
 exact Int.emod_eq_of_lt h0 (by omega)
theorem tag_start {v acc:Int} (h:v=acc) (c:List UInt8):Hid (v=acc + ((leN (c.take 0):Nat):Int)):=by
 subst h
 show v=v + 0
 omega
theorem one_step (l:List Int) (c:List UInt8) (r:Nat) (acc:Int) (hl:r < l.length) (hv:vI l=acc + ((leN (c.take r):Nat):Int)) :
  vI (l.set r (l.getD r 0 + 1))=acc + ((leN (c.take r) + 256 ^ r:Nat):Int):=by
 rw [vI_set l r _ hl,hv,Int.natCast_add,Int.natCast_pow]
 grind
theorem mul_step (xs D rl:List Int) (i j:Nat) (T:Int) (hx:i + j < xs.length) (hr:j < rl.length) (hv:vI xs=T + 256 ^ i * D.getD i 0 * vI (rl.take j)) :
  vI (xs.set (i + j) (xs.getD (i + j) 0 + D.getD i 0 * rl.getD j 0))=T + 256 ^ i * D.getD i 0 * vI (rl.take (j + 1)):=by
 rw [vI_set xs (i + j) _ hx,hv,vI_take_succ rl j hr,Int.pow_add]
 grind
theorem mul_row (D:List Int) (i:Nat) (v F:Int) (hd:i < D.length) (hv:v=vI (D.take i) * F + 256 ^ i * D.getD i 0 * F):v=vI (D.take (i + 1)) * F:=by
 rw [hv,vI_take_succ D i hd]
 grind
theorem prod_bd {a u B C:Int} (h1:0≤a∧a≤B) (h2:0≤u∧u≤C):0≤a * u∧a * u≤B * C :=
 ⟨Int.mul_nonneg h1.1 h2.1,Int.mul_le_mul h1.2 h2.2 h2.1 (by omega)⟩
theorem add_step (l:List Int) (c:List UInt8) (j:Nat) (acc:Int) (hl:j < l.length) (hc:j < c.length) (hv:vI l=acc + ((leN (c.take j):Nat):Int)) :
  vI (l.set j (l.getD j 0 + ((c.getD j 0).toNat:Int)))=acc + ((leN (c.take (j + 1)):Nat):Int):=by
 have h1:(c.take j).length=j:=by rw [List.length_take];omega
 rw [vI_set l j _ hl,hv,take_snoc8 c j hc,leN_snoc,h1,Int.natCast_add,Int.natCast_mul,Int.natCast_pow]
 grind
theorem mul_lt (a f:Int) (h0:0≤a) (h1:a < 2041694201525630780780247644590609268731) (h2:0≤f) (h3:f < 340282366920938463463374607431768211456):0≤a * f∧a * f < 256 ^ 34:=by
 have e:(256:Int) ^ 34=7588550360256754183279148073529370729071901715047420004889892225542594864082845696:=by decide
 refine ⟨Int.mul_nonneg h0 h2,?_⟩
 have:a * f≤2041694201525630780780247644590609268731 * 340282366920938463463374607431768211456:=Int.mul_le_mul (by omega) (by omega) h2 (by omega)
 rw [e]
 have e2:(2041694201525630780780247644590609268731:Int) * 340282366920938463463374607431768211456 < 7588550360256754183279148073529370729071901715047420004889892225542594864082845696:=by decide
 omega
set_option maxHeartbeats 8000000 in
theorem refTag_any (key b:List UInt8) (n:Nat) (w:World) (hk:key.length=32) (hn:b.length=n) (hm:n≤70368744177664) :
  Calls Tryz.prog 112 #[.string (strOf key),.string (strOf b)] w fun e w'=>e = .returned (.string (strOf (polyTag key b)))∧Below w.heap.size w w':=by
 have hz:=z34
 have hsk:(strOf key).size=32:=by rw [strOf_size,hk]
 have hsb:(strOf b).size=n:=by rw [strOf_size,hn]
 have HK:=hidu_ hk
 have HN:=hidu_ hn
 obtain ⟨g,hg⟩:∃ g,Hid (w.heap.size=g):=⟨_,rfl⟩
 obtain ⟨w0,hw0⟩:∃ W,Hid ((w.alloc (.cells (rowI zerosI) 194)).alloc (.cells (rowI zerosI) 194)=W):=⟨_,rfl⟩
 have HG:Hid (Bk w0 g 194 (rowI zerosI)):=hidu_ (by rw [← hw0.out,← hg.out];exact (Bk.new w _ _).alloc _)
 have HZ:Hid (Bk w0 (g + 1) 194 (rowI zerosI)):=hidu_ (by
  have h:=Bk.new (w.alloc (.cells (rowI zerosI) 194)) 194 (rowI zerosI)
  rw [← hw0.out,← hg.out]
  simpa using h)
 have HB:Hid (Below g w w0):=hidu_ (by rw [← hw0.out,← hg.out];exact ((Below.refl _ _).alloc (Nat.le_refl _) _).alloc (by simp) _)
 have hI:∀ l:List Int,l.length=34→(Tryz.prog.info? 194).map (·.size)=some (rowI l).size:=i34
 have HI:=hidu_ hI
 have hs1:(w.alloc (.cells (rowI zerosI) 194)).heap.size=g + 1:=by rw [← hg.out];simp
 have FV:=hidu_ (facI_val key hk)
 have FL:=hidu_ (facI_len key hk)
 have FR:=hidu_ (facI_rng key)
 have FT:=hidu_ (facI_take key hk)
 have FB:=hidu_ (fac_lt key hk)
 have CL:Hid ((intsB (clampB key)).length=16):=hidu_ (by rw [intsB_len,clampB_len key hk])
 have CG:=hidu_ (fun i (h:i < 16)=>show (intsB (clampB key)).getD i 0=((clI key i:Nat):Int) by rw [intsB_get,clampB_get key hk i h])
 clear hI hk hn
 go_enter Tryz.func112,Tryz.ntmps112
 go_upto_region 2 with fail
 first | rw [hs1] | skip
 rw [hg.out,hw0.out]
 clear hs1
 go_wp2
 go_loopw [7] (fun i wr=>∃ k:Nat,k≤16∧i = .int .i64 k∧Hid (Bk wr g 194 (rowI (preI (intsB (clampB key)) k)))∧Hid (Bk wr (g + 1) 194 (rowI zerosI))∧Hid (Below g w wr)) (fun i _=>16 - (intOf i).toNat)
 case atStart=>exact ⟨0,by omega,rfl,by rw [preI_zero];exact HG,HZ,HB⟩
 case round =>
  obtain ⟨k,hk,rfl,B0,B1,BB⟩:=hrel
  clear HG HZ HB
  by_cases hlt:k < 16
  ·have hd16:decide ((k:Int) < 16)=true:=decide_eq_true (by omega)
   have hgk:∀ h:k < (strOf key).size,((strOf key)[k]'h).toNat=(key.getD k 0).toNat:=fun h=>strOf_get key k h
   have hb0:=(key.getD k 0).toNat_lt
   have hc:=B0.out.cell k
   rw [rowI_at _ _ (by rw [preI_len _ _ (by omega) (by rw [CL.out];omega)];omega)] at hc
   have hf:=B0.out.frozen k
   have hcl:=CG.out k hlt
   have hset:=B0.out.set_ k (.int .i64 (clI key k))
   rw [rowI_set,← hcl,preI_step _ _ (by omega) (by rw [CL.out];omega),hcl] at hset
   have HS:=hidu_ hset
   have HF:=hidu_ (B1.out.far (p:=⟨g,k,none⟩) (by simp) (.int .i64 (clI key k)))
   have HX:=hidu_ (BB.out.setCell (p:=⟨g,k,none⟩) (by simp) (.int .i64 (clI key k)))
   have t0:(0:Int)≤(k:Int):=by omega
   have t1:(k:Int) < 34:=by omega
   clear hset hcl
   generalize (preI (intsB (clampB key)) k).getD k 0=v0 at *
   by_cases h3:k % 4=3
   ·have hcv:=clI_a key k h3
    rw [hcv] at HS HF HX
    have e3:((k:Int) % 4 == 3)=true:=by
     have:(k:Int) % 4=3:=by omega
     rw [this];rfl
    have e0:((k:Int) % 4 == 0)=false:=by
     have:(k:Int) % 4=3:=by omega
     rw [this];rfl
    have e1:decide ((0:Int) < (k:Int))=true:=decide_eq_true (by omega)
    have e2:decide (0 < k)=true:=decide_eq_true (by omega)
    have e4:0 < k:=by omega
    clear hcv h3
    generalize (key.getD k 0).toNat=c at *
    go_wp2
    go_roundw
    case rel=>exact ⟨k + 1,by omega,by go_num,HS,HF,HX⟩
    case measure=>simp [intOf];omega
   ·by_cases h0:k=0
    ·have hcv:=clI_c key k h3 (by omega)
     rw [hcv] at HS HF HX
     have e3:((k:Int) % 4 == 3)=false:=by
      have:(k:Int) % 4=0:=by omega
      rw [this];rfl
     have e1:decide ((0:Int) < (k:Int))=false:=decide_eq_false (by omega)
     have e2:decide (0 < k)=false:=decide_eq_false (by omega)
     have e4:¬ 0 < k:=by omega
     clear hcv h3 h0
     generalize (key.getD k 0).toNat=c at *
     go_wp2
     go_roundw
     case rel=>exact ⟨k + 1,by omega,by go_num,HS,HF,HX⟩
     case measure=>simp [intOf];omega
    ·by_cases h4:k % 4=0
     ·have hcv:=clI_b key k h4 (by omega)
      rw [hcv] at HS HF HX
      have e3:((k:Int) % 4 == 3)=false:=by
       have:(k:Int) % 4=0:=by omega
       rw [this];rfl
      have e0:((k:Int) % 4 == 0)=true:=by
       have:(k:Int) % 4=0:=by omega
       rw [this];rfl
      have e1:decide ((0:Int) < (k:Int))=true:=decide_eq_true (by omega)
      have e2:decide (0 < k)=true:=decide_eq_true (by omega)
      have e4:0 < k:=by omega
      clear hcv h3 h0 h4
      generalize (key.getD k 0).toNat=c at *
      go_wp2
      go_roundw
      case rel=>exact ⟨k + 1,by omega,by go_num,HS,HF,HX⟩
      case measure=>simp [intOf];omega
     ·have hcv:=clI_c key k h3 (by omega)
      rw [hcv] at HS HF HX
      have e3:((k:Int) % 4 == 3)=false:=by
       have:(k:Int) % 4≠3:=by omega
       simpa using this
      have e0:((k:Int) % 4 == 0)=false:=by
       have:(k:Int) % 4≠0:=by omega
       simpa using this
      have e1:decide ((0:Int) < (k:Int))=true:=decide_eq_true (by omega)
      have e2:decide (0 < k)=true:=decide_eq_true (by omega)
      have e4:0 < k:=by omega
      clear hcv h3 h0 h4
      generalize (key.getD k 0).toNat=c at *
      go_wp2
      go_roundw
      case rel=>exact ⟨k + 1,by omega,by go_num,HS,HF,HX⟩
      case measure=>simp [intOf];omega
  ·have e16:k=16:=by omega
   have hd16:decide ((k:Int) < 16)=false:=decide_eq_false (by omega)
   rw [e16] at B0
   clear e16
   have R0:Hid (Bk wr g 194 (rowI (facI key))):=B0
   have HF0:=hidu_ (dig_zero 34)
   have Z0:Hid (Bk wr (g + 1) 194 (rowI (digI 34 (accP (factN key).val b 0)))):=hidu_ (by
    show Bk wr (g + 1) _ (rowI (digI 34 0));rw [HF0.out];exact B1.out)
   clear B0 B1 HF0 CG CL
   obtain ⟨rl,hrl⟩:∃ rl,Hid (facI key=rl):=⟨_,rfl⟩
   obtain ⟨F,hF⟩:∃ F,Hid ((factN key).val=F):=⟨_,rfl⟩
   rw [hrl.out] at R0 FV FL FR FT
   rw [hF.out] at FV FB Z0
   go_wp2
   go_loopw [1] (fun s wr=>∃ k m:Nat,s = .string (strOf (b.drop (16 * k)))∧16 * k≤n + 15∧m≤n∧Hid ((b.drop (16 * k)).length=m)∧Hid (Bk wr g 194 (rowI rl))∧Hid (Bk wr (g + 1) 194 (rowI (digI 34 (accP F b k))))∧Hid (Below g w wr)) (fun s _=>sizeV s)
   case atStart=>exact ⟨0,n,rfl,by omega,Nat.le_refl _,HN,R0,Z0,BB⟩
   case round =>
    obtain ⟨q,m,rfl,hq,hmn,HM,B0,B1,BB⟩:=hrel
    clear R0 Z0
    have hsm:(strOf (b.drop (16 * q))).size=m:=by rw [strOf_size,HM.out]
    by_cases h0:m=0
    ·have hqn:(b.length + 15) / 16=q:=by
      have h:=HM.out
      rw [List.length_drop,HN.out] at h
      rw [HN.out]
      omega
     subst h0
     have HAb:=hidu_ (accP_lt F b q)
     have HT:Hid (polyTag key b=lowB 16 (accP F b q + ((leN (key.drop 16):Nat):Int)).toNat):=hidu_ (by
      have h1:=(accP_lt F b q).1
      unfold polyTag
      rw [hF.out,hqn]
      have e:(256:Nat) ^ 16=340282366920938463463374607431768211456:=by decide
      rw [← lowB_mod 16 (accP F b q + ((leN (key.drop 16):Nat):Int)).toNat,e]
      congr 1
      omega)
     have hkd:((key.drop 16)).length=16:=by rw [List.length_drop,HK.out]
     have HKD:=hidu_ hkd
     have HKb:=hidu_ (leN_lt (key.drop 16))
     clear hqn hkd
     obtain ⟨acc,hacc⟩:∃ acc,Hid (accP F b q=acc):=⟨_,rfl⟩
     rw [hacc.out] at HAb B1 HT
     obtain ⟨ke,hke⟩:∃ ke,Hid (key.drop 16=ke):=⟨_,rfl⟩
     rw [hke.out] at HT HKD HKb
     go_wp2
     go_loopw [14] (fun i wr=>∃ (j:Nat) (l:List Int),j≤16∧i = .int .i64 j∧Hid (Bk wr (g + 1) 194 (rowI l))∧Hid (Below g w wr)∧Hid (l.length=34)∧Hid (rngI (255 + 255 * (j:Int)) l)∧Hid (vI l=acc + ((leN (ke.take j):Nat):Int))) (fun i _=>16 - (intOf i).toNat)
     case atStart=>exact ⟨0,_,Nat.zero_le _,rfl,B1,BB,digI_len _ _,(rngI_dig 34 acc).mono (by omega),tag_start (dig_whole acc HAb.out.1 HAb.out.2) ke⟩
     case round =>
      obtain ⟨j,l,hj,rfl,B1,BB,JL,JR,JV⟩:=hrel
      by_cases hltj:j < 16
      ·have hdj:decide ((j:Int) < 16)=true:=decide_eq_true (by omega)
       have hkg:(key.getD (16 + j) 0).toNat=(ke.getD j 0).toNat:=by rw [← hke.out];simp [List.getD]
       have hgj:∀ h:16 + j < (strOf key).size,((strOf key)[16 + j]'h).toNat=(ke.getD j 0).toNat:=fun h=>by rw [strOf_get,hkg]
       have hu0:=(ke.getD j 0).toNat_lt
       have hcl:=B1.out.cell j
       rw [rowI_at _ _ (by rw [JL.out];omega)] at hcl
       have hb:=JR.out.get (by omega) j
       have JV2:=hidu_ (add_step l ke j acc (by rw [JL.out];omega) (by rw [HKD.out];omega) JV.out)
       obtain ⟨a,ha⟩:∃ a,Hid (l.getD j 0=a):=⟨_,rfl⟩
       rw [ha.out] at hcl hb JV2
       obtain ⟨u,hu⟩:∃ a,Hid ((ke.getD j 0).toNat=a):=⟨_,rfl⟩
       rw [hu.out] at JV2 hu0 hgj
       obtain ⟨hb0,hb1⟩:=hb
       have JR2:Hid (rngI (255 + 255 * ((j + 1:Nat):Int)) (l.set j (a + (u:Int)))):=hidu_ ((JR.out.mono (by omega)).set j (by omega) (by omega))
       have JL2:Hid ((l.set j (a + (u:Int))).length=34):=hidu_ (by rw [List.length_set,JL.out])
       have t0:(0:Int)≤(j:Int):=by omega
       have t1:(j:Int) < 34:=by omega
       have t2:(0:Int)≤16 + (j:Int):=by omega
       have t3:16 + (j:Int) < 32:=by omega
       have t4:(16 + (j:Int)).toNat=16 + j:=by omega
       have q1:IntKind.i64.wrap (16 + (j:Int))=16 + (j:Int):=IntWalk.i64_in _ (by omega)
       clear hkg
       go_upto_region 32 with fail
       refine region_quiet_tail_lit 11 (by kernel_rfl) (by kernel_rfl) ?_
       simp only [List.take_succ_cons,List.take_zero]
       repeat (go_big_quiet_step (fail))
       refine wpQuiet_nil ?_
       intro w' hw'
       obtain ⟨nq,rfl⟩:=hw'
       simp only [List.drop_succ_cons,List.drop_zero]
       have hset:=(B1.out.drewN nq).set_ j (.int .i64 (a + (u:Int)))
       rw [rowI_set] at hset
       have hf5:=(B1.out.drewN nq).frozen j
       have hc5:=(B1.out.drewN nq).cell j
       rw [rowI_at _ _ (by rw [JL.out];omega),ha.out] at hc5
       have HS5:=hidu_ hset
       have HX5:=hidu_ ((below_drewN BB.out nq).setCell (p:=⟨g + 1,j,none⟩) (by simp) (.int .i64 (a + (u:Int))))
       clear hset hcl B1 BB q1
       generalize wr.drewN nq=w3 at *
       refine wpList_plain rfl fun K hK=>?_
       go_simp
       refine hK _ _ ?_
       clear hK K
       rename_i K hK
       refine hK _ _ ?_
       clear hf5 hc5 hgj
       go_wp2
       go_roundw
       case rel=>exact ⟨j + 1,_,by omega,by go_num,HS5,HX5,JL2,JR2,JV2⟩
       case measure=>simp [intOf];omega
      ·have ej:j=16:=by omega
       have hdj:decide ((j:Int) < 16)=false:=decide_eq_false (by omega)
       rw [ej] at JV JR
       clear ej
       have hv:=JV.out
       rw [List.take_of_length_le (by rw [HKD.out];omega)] at hv
       have cc:=fun W=>carry_any l W JL.out (JR.out.mono (by omega))
       rw [hv] at cc
       have hzz:Hid ((((acc + ((leN ke:Nat):Int)).toNat:Nat):Int)=acc + ((leN ke:Nat):Int)):=hidu_ (by have:=HAb.out.1;omega)
       clear hv
       obtain ⟨z,hz⟩:∃ z,Hid ((acc + ((leN ke:Nat):Int)).toNat=z):=⟨_,rfl⟩
       rw [hz.out] at HT hzz
       rw [← hzz.out] at cc
       obtain ⟨E,hE⟩:∃ E,Hid (digI 34 (z:Int)=E):=⟨_,rfl⟩
       have EL:Hid (E.length=34):=hidu_ (by rw [← hE.out];exact digI_len _ _)
       have EG:Hid (∀ i,i < 16→E.getD i 0=(((UInt8.ofNat (z / 256 ^ i % 256)).toNat:Nat):Int)):=hidu_ (fun i hi=>by
        rw [← hE.out,dig_getD 34 i _ (by omega)]
        have e:(UInt8.ofNat (z / 256 ^ i % 256)).toNat=z / 256 ^ i % 256:=by simp
        rw [e,Int.natCast_emod,Int.natCast_ediv,Int.natCast_pow]
        rfl)
       rw [hE.out] at cc
       have K2:=B1.out
       go_upto_region 34 with (first
        | (refine wpList_load_row rfl 194 (.tmp 6) rfl (g + 1) rfl 194 (rowI l) (0,0) _ K2 Tryz.underlying194 rfl (HI.out _ JL.out) ?_)
        | (go_at_call 133;((with_reducible refine (cc _).mono ?_);rintro e w4 ⟨rfl,hb4⟩);have A5:=hidu_ (B1.out.below hb4 B1.out.lt);have A6:=hidu_ (BB.out.trans (hb4.mono (by have:=B1.out.lt;omega)));have A7:=A5.out;clear hb4)
        | (refine wpList_put_row rfl 194 (.tmp 6) (.tmp 120) rfl (g + 1) (rowI E) rfl rfl 194 (rowI l) A7 (HI.out _ EL.out) (by rw [rowI_size,rowI_size,JL.out,EL.out]) (rowI_one _) ?_;intro w5 k5 g5 s5;have D6:=hidu_ (A6.out.grown g5 (by have:=A5.out.lt;omega) (fun i hi=>by injection hi with hi;omega));have D7:=hidu_ k5;clear k5 g5 s5 A5 A6 A7))
       rw [put_none]
       clear K2 cc B1 BB
       have hgw:g + 1 < w5.heap.size:=D7.out.lt
       have O0:Hid (Own8 w5 (g + 2) (.slice none 0 0) []):=hidu_ (Own8.nil_ _ _)
       go_wp2
       go_loopw [15,16] (fun o i wr=>∃ j:Nat,j≤16∧i = .int .i64 j∧Hid (Own8 wr (g + 2) o (lowB j z))∧Hid (Bk wr (g + 1) 194 (rowI E))∧Hid (Below g w wr)) (fun _ i _=>16 - (intOf i).toNat)
       case atStart=>exact ⟨0,Nat.zero_le _,rfl,O0,D7,D6⟩
       case round =>
        obtain ⟨i,hi,rfl,OO,B1,BB⟩:=hrel
        clear O0 D7 D6
        obtain ⟨A2,c2,rfl,_⟩:=OO.out.form
        rw [lowB_len] at OO
        rw [lowB_len]
        by_cases hlti:i < 16
        ·have hdi:decide ((i:Int) < 16)=true:=decide_eq_true (by omega)
         have hcl:=B1.out.cell i
         rw [rowI_at _ _ (by rw [EL.out];omega),EG.out i hlti] at hcl
         have HLs:=hidu_ (lowB_succ i z)
         have HLl:=hidu_ (lowB_len i z)
         have t0:(0:Int)≤(i:Int):=by omega
         have t1:(i:Int) < 34:=by omega
         have hub:=(UInt8.ofNat (z / 256 ^ i % 256)).toNat_lt
         obtain ⟨u,hu⟩:∃ u,Hid (UInt8.ofNat (z / 256 ^ i % 256)=u):=⟨_,rfl⟩
         rw [hu.out] at hcl hub HLs
         have hw8:IntKind.u8.wrap ((u.toNat:Nat):Int)=((u.toNat:Nat):Int):=by simp [IntKind.wrap,IntKind.signed,IntKind.bits];omega
         have hro:Hid (rowOf [u] = #[.int .u8 ((u.toNat:Nat):Int)]):=hidu_ rfl
         have H2:=OO.out
         have hlt2:=OO.out.lt
         have HL2:=hidu_ hlt2
         clear OO
         obtain ⟨fl,hfl⟩:∃ fl,Hid (lowB i z=fl):=⟨_,rfl⟩
         rw [hfl.out] at H2 HLs HLl
         have hr8:Rd (wr.alloc (.cells (rowOf [u]) 5)) (wr.heap.size + 1) (some ⟨wr.heap.size,0,none⟩) [u]:=rd_mark wr [u] (0,0)
         rw [hro.out] at hr8
         have H3:=H2.alloc (.cells #[.int .u8 ((u.toNat:Nat):Int)] 5)
         have hb3:Below g w (wr.alloc (.cells #[.int .u8 ((u.toNat:Nat):Int)] 5)):=BB.out.alloc (by have:=B1.out.lt;omega) _
         have HB3:=hidu_ hb3
         have B3:=hidu_ (B1.out.alloc (.cells #[.int .u8 ((u.toNat:Nat):Int)] 5))
         have hsz:g + 2≤wr.heap.size + 1:=by have:=B1.out.lt;omega
         have hown2:∀ t,some t=(Value.slice A2 i c2).ownBlock→g + 2≤t:=fun t ht=>(HL2.out t ht.symm).1
         have HO2:=hidu_ hown2
         clear hlt2 hb3 H2 hown2
         go_wp2_with (at_builtin;refine wpList_app rfl (.tmp 125) (.tmp 130) rfl H3 rfl 1 1 rfl hr8 rfl ?_ ?_ ?_;(rw [HLl.out];omega);(simp;omega);(intro A' c' w2 k1 k2 k3;rw [HLl.out] at k1 ⊢))
         have E1:=hidu_ k1
         have E2:=hidu_ (HB3.out.grown k2 (by simp;omega) (fun t ht=>by have h:=HO2.out t ht.symm;omega))
         have E3:=hidu_ (B3.out.grown k2 (fun e=>by have:=HO2.out _ e;omega))
         clear k1 k2 k3 H3 hr8 hcl
         go_wp2
         go_roundw
         case rel=>exact ⟨i + 1,by omega,by go_num,by rw [HLs.out];exact E1,E3,E2⟩
         case measure=>simp [intOf];omega
        ·have ei:i=16:=by omega
         have hdi:decide ((i:Int) < 16)=false:=decide_eq_false (by omega)
         have hrd:=OO.out.rd.1
         rw [ei] at hrd
         have hcv:=conv_strn hrd 16 c2 (lowB_len 16 z)
         rw [← HT.out] at hcv
         rw [← ei] at hcv
         clear ei hrd
         go_wp2
         go_ret
         exact ⟨rfl,by rw [hg.out];exact BB.out⟩
    ·have hmq:16 * q + m=n:=by have:=HM.out;rw [List.length_drop,HN.out] at this;omega
     obtain ⟨r,hr⟩:∃ r,r=min 16 m:=⟨_,rfl⟩
     have hmin:(if (16:Int) < (m:Int) then (16:Int) else (m:Int))=(r:Int):=by split <;> omega
     have hr1:0 < r:=by omega
     have hr2:r≤16:=by omega
     have hr3:r≤m:=by omega
     have hpl:((b.drop (16 * q)).take 16).length=r:=by rw [List.length_take,HM.out,hr]
     have hpt:(b.drop (16 * q)).take r=(b.drop (16 * q)).take 16:=by
      rw [hr]
      rcases Nat.le_total 16 m with h | h
      ·rw [Nat.min_eq_left h]
      ·rw [Nat.min_eq_right h,List.take_of_length_le (by rw [HM.out];omega),List.take_of_length_le (by rw [HM.out];exact h)]
     have hdrop:Hid ((b.drop (16 * q)).drop r=b.drop (16 * (q + 1))):=hidu_ (by
      rw [List.drop_drop]
      rcases Nat.lt_or_ge m 16 with h | h
      ·rw [List.drop_eq_nil_of_le (by rw [HN.out];omega),List.drop_eq_nil_of_le (by rw [HN.out];omega)]
      ·rw [show 16 * q + r=16 * (q + 1) by omega])
     have HAcc:Hid (accP F b (q + 1)=(accP F b q + ((leN ((b.drop (16 * q)).take 16) + 256 ^ ((b.drop (16 * q)).take 16).length:Nat):Int)) * F % pI):=hidu_ rfl
     have HPL:=hidu_ (part_lt ((b.drop (16 * q)).take 16) (by rw [hpl];omega))
     rw [hpl,← hpt] at HAcc HPL
     have HAb:=hidu_ (accP_lt F b q)
     obtain ⟨acc,hacc⟩:∃ acc,Hid (accP F b q=acc):=⟨_,rfl⟩
     rw [hacc.out] at HAcc HAb B1
     obtain ⟨c,hc⟩:∃ c,Hid (b.drop (16 * q)=c):=⟨_,rfl⟩
     have HMn:Hid ((b.drop (16 * (q + 1))).length=m - r):=hidu_ (by rw [← hdrop.out,List.length_drop,HM.out])
     rw [hc.out] at HAcc HPL hdrop HM hsm ⊢
     have hex:(strOf c).extract r m=strOf (c.drop r):=by
      rw [strOf_mid,List.take_of_length_le (by rw [List.length_drop,HM.out];omega)]
     rw [hdrop.out] at hex
     clear hpl hpt hr
     have hm1:0 < m:=by omega
     have hm2:decide ((0:Int) < (m:Int))=true:=decide_eq_true (by omega)
     have hm3:decide (0 < m)=true:=decide_eq_true (by omega)
     go_wp2
     go_loopw [10] (fun i wr=>∃ (j:Nat) (l:List Int),j≤r∧i = .int .i64 j∧Hid (Bk wr g 194 (rowI rl))∧Hid (Bk wr (g + 1) 194 (rowI l))∧Hid (Below g w wr)∧Hid (l.length=34)∧Hid (rngI (255 + 255 * (j:Int)) l)∧Hid (vI l=acc + ((leN (c.take j):Nat):Int))) (fun i _=>r - (intOf i).toNat)
     case atStart=>exact ⟨0,_,Nat.zero_le _,rfl,B0,B1,BB,digI_len _ _,(rngI_dig 34 acc).mono (by omega),tag_start (dig_whole acc HAb.out.1 HAb.out.2) c⟩
     case round =>
      obtain ⟨j,l,hj,rfl,B0,B1,BB,JL,JR,JV⟩:=hrel
      by_cases hltj:j < r
      ·have hdj:decide ((j:Int) < (r:Int))=true:=decide_eq_true (by omega)
       have hdj2:decide (j < r)=true:=decide_eq_true hltj
       have hgj:∀ h:j < (strOf c).size,((strOf c)[j]'h).toNat=(c.getD j 0).toNat:=fun h=>strOf_get c j h
       have hu0:=(c.getD j 0).toNat_lt
       have hcl:=B1.out.cell j
       rw [rowI_at _ _ (by rw [JL.out];omega)] at hcl
       have hb:=JR.out.get (by omega) j
       have JV2:=hidu_ (add_step l c j acc (by rw [JL.out];omega) (by rw [HM.out];omega) JV.out)
       obtain ⟨a,ha⟩:∃ a,Hid (l.getD j 0=a):=⟨_,rfl⟩
       rw [ha.out] at hcl hb JV2
       obtain ⟨u,hu⟩:∃ a,Hid ((c.getD j 0).toNat=a):=⟨_,rfl⟩
       rw [hu.out] at JV2 hu0 hgj
       obtain ⟨hb0,hb1⟩:=hb
       have JR2:Hid (rngI (255 + 255 * ((j + 1:Nat):Int)) (l.set j (a + (u:Int)))):=hidu_ ((JR.out.mono (by omega)).set j (by omega) (by omega))
       have JL2:Hid ((l.set j (a + (u:Int))).length=34):=hidu_ (by rw [List.length_set,JL.out])
       have t0:(0:Int)≤(j:Int):=by omega
       have t1:(j:Int) < 34:=by omega
       have t2:(j:Int) < (m:Int):=by omega
       go_upto_region 16 with fail
       refine region_quiet_tail_lit 10 (by kernel_rfl) (by kernel_rfl) ?_
       simp only [List.take_succ_cons,List.take_zero]
       repeat (go_big_quiet_step (fail))
       refine wpQuiet_nil ?_
       intro w' hw'
       obtain ⟨nq,rfl⟩:=hw'
       simp only [List.drop_succ_cons,List.drop_zero]
       have hset:=(B1.out.drewN nq).set_ j (.int .i64 (a + (u:Int)))
       rw [rowI_set] at hset
       have hf5:=(B1.out.drewN nq).frozen j
       have hc5:=(B1.out.drewN nq).cell j
       rw [rowI_at _ _ (by rw [JL.out];omega),ha.out] at hc5
       have HS5:=hidu_ hset
       have HF5:=hidu_ ((B0.out.drewN nq).far (p:=⟨g + 1,j,none⟩) (by simp) (.int .i64 (a + (u:Int))))
       have HX5:=hidu_ ((below_drewN BB.out nq).setCell (p:=⟨g + 1,j,none⟩) (by simp) (.int .i64 (a + (u:Int))))
       clear hset hcl B0 B1 BB
       generalize wr.drewN nq=w3 at *
       refine wpList_plain rfl fun K hK=>?_
       go_simp
       refine hK _ _ ?_
       clear hK K
       rename_i K hK
       refine hK _ _ ?_
       clear hf5 hc5 hgj
       go_wp2
       go_roundw
       case rel=>exact ⟨j + 1,_,by omega,by go_num,HF5,HS5,HX5,JL2,JR2,JV2⟩
       case measure=>simp [intOf];omega
      ·have ejr:j=r:=by omega
       have hdj:decide ((j:Int) < (r:Int))=false:=decide_eq_false (by omega)
       have hdj2:decide (j < r)=false:=decide_eq_false hltj
       rw [ejr] at JV JR
       clear ejr
       have hcl:=B1.out.cell r
       rw [rowI_at _ _ (by rw [JL.out];omega)] at hcl
       have hb:=JR.out.get (by omega) r
       have JV2:=hidu_ (one_step l c r acc (by rw [JL.out];omega) JV.out)
       obtain ⟨a,ha⟩:∃ a,Hid (l.getD r 0=a):=⟨_,rfl⟩
       rw [ha.out] at hcl hb JV2
       obtain ⟨hb0,hb1⟩:=hb
       have JR2:Hid (rngI 1000000000 (l.set r (a + 1))):=hidu_ ((JR.out.mono (by omega)).set r (by omega) (by omega))
       have JL2:Hid ((l.set r (a + 1)).length=34):=hidu_ (by rw [List.length_set,JL.out])
       have hset:=B1.out.set_ r (.int .i64 (a + 1))
       rw [rowI_set] at hset
       have hf:=B1.out.frozen r
       have HS:=hidu_ hset
       have HF:=hidu_ (B0.out.far (p:=⟨g + 1,r,none⟩) (by simp) (.int .i64 (a + 1)))
       have HX:=hidu_ (BB.out.setCell (p:=⟨g + 1,r,none⟩) (by simp) (.int .i64 (a + 1)))
       have t0:(0:Int)≤(r:Int):=by omega
       have t1:(r:Int) < 34:=by omega
       clear hset B0 B1 BB
       go_upto_region 18 with fail
       obtain ⟨w2,hw2⟩:∃ W,Hid (wr.setCell ⟨g + 1,r,none⟩ (.int .i64 (a + 1))=W):=⟨_,rfl⟩
       rw [hw2.out] at HS HF HX ⊢
       clear hcl hf hw2
       have hrm:(r:Int)≤(m:Int):=by omega
       go_upto_region 19 with fail
       obtain ⟨l1,hl1⟩:∃ l1,Hid (l.set r (a + 1)=l1):=⟨_,rfl⟩
       rw [hl1.out] at HS JV2 JR2 JL2
       obtain ⟨A,hA⟩:∃ A,Hid (acc + ((leN (c.take r) + 256 ^ r:Nat):Int)=A):=⟨_,rfl⟩
       have hAb:Hid (0≤A∧A < 2041694201525630780780247644590609268731):=hidu_ (by
        rw [← hA.out];have h1:=HAb.out;have h2:=HPL.out;revert h2;generalize leN (c.take r) + 256 ^ r=z;intro h2;omega)
       rw [hA.out] at JV2 HAcc
       have cc:=fun W=>carry_any l1 W JL2.out JR2.out
       rw [JV2.out] at cc
       have K2:=HS.out
       have hlD:Hid ((digI 34 A).length=34):=hidu_ (digI_len _ _)
       have hrD:Hid (rngI 255 (digI 34 A)):=hidu_ (rngI_dig 34 A)
       have hvD:Hid (vI ((digI 34 A).take 17)=A):=hidu_ (dig_lowpart A hAb.out.1 (by have:=hAb.out.2;omega))
       obtain ⟨D,hD⟩:∃ D,Hid (digI 34 A=D):=⟨_,rfl⟩
       rw [hD.out] at cc hlD hrD hvD
       go_upto_region 20 with (first
        | (refine wpList_load_row rfl 194 (.tmp 6) rfl (g + 1) rfl 194 (rowI l1) (0,0) _ K2 Tryz.underlying194 rfl (HI.out _ JL2.out) ?_)
        | (go_at_call 133;((with_reducible refine (cc _).mono ?_);rintro e w4 ⟨rfl,hb4⟩);have A4:=hidu_ (HF.out.below hb4 HF.out.lt);have A5:=hidu_ (HS.out.below hb4 HS.out.lt);have A6:=hidu_ (HX.out.trans (hb4.mono (Nat.le_of_lt HF.out.lt)));have A7:=A5.out;clear hb4)
        | (refine wpList_put_row rfl 194 (.tmp 6) (.tmp 75) rfl (g + 1) (rowI D) rfl rfl 194 (rowI l1) A7 (HI.out _ hlD.out) (by rw [rowI_size,rowI_size,JL2.out,hlD.out]) (rowI_one _) ?_;intro w5 k5 g5 s5;have B5:=hidu_ (A4.out.grown g5 (fun e=>by injection e with e;omega));have B6:=hidu_ (A6.out.grown g5 (by have:=A4.out.lt;omega) (fun i hi=>by injection hi with hi;omega));have B7:=hidu_ k5;clear k5 g5 s5 A4 A5 A6 A7))
       rw [put_none]
       clear K2 cc JV2 JR2 HS HF HX JL JR JV
       obtain ⟨w6,hw6⟩:∃ W,Hid (w5.alloc (.cells (rowI zerosI) 194)=W):=⟨_,rfl⟩
       obtain ⟨X,hX⟩:∃ X,Hid (w5.heap.size=X):=⟨_,rfl⟩
       have hgX:g + 1 < X:=by rw [← hX.out];exact B7.out.lt
       have X6:Hid (Bk w6 X 194 (rowI zerosI)):=hidu_ (by rw [← hw6.out,← hX.out];exact Bk.new w5 _ _)
       have C0:Hid (Bk w6 g 194 (rowI rl)):=hidu_ (by rw [← hw6.out];exact B5.out.alloc _)
       have C1:Hid (Bk w6 (g + 1) 194 (rowI D)):=hidu_ (by rw [← hw6.out];exact B7.out.alloc _)
       have C2:Hid (Below g w w6):=hidu_ (by rw [← hw6.out];exact B6.out.alloc (by have:=B7.out.lt;omega) _)
       clear B5 B6 B7
       go_upto_region 21 with fail
       rw [hX.out,hw6.out]
       clear hw6 hX
       go_wp2
       go_loopw [12] (fun i wr=>∃ (i0:Nat) (xs:List Int),i0≤17∧i = .int .i64 i0∧Hid (Bk wr g 194 (rowI rl))∧Hid (Bk wr (g + 1) 194 (rowI D))∧Hid (Bk wr X 194 (rowI xs))∧Hid (Below g w wr)∧Hid (xs.length=34)∧Hid (rngI (1105425 * (i0:Int)) xs)∧Hid (vI xs=vI (D.take i0) * F)) (fun i _=>17 - (intOf i).toNat)
       case atStart=>exact ⟨0,zerosI,by omega,rfl,C0,C1,X6,C2,rfl,hidu_ (rngI_zeros 34 (by omega)),hidu_ (by rw [zerosI,vI_zeros,List.take_zero,vI,Int.zero_mul])⟩
       case round =>
        obtain ⟨i0,xs,hi0,rfl,B0,B1,B3,BB,JL,JR,JV⟩:=hrel
        clear C0 C1 X6 C2
        by_cases hlti:i0 < 17
        ·have hdi:decide ((i0:Int) < 17)=true:=decide_eq_true (by omega)
         go_wp2
         go_loopw [13] (fun j wr=>∃ (j0:Nat) (xs:List Int),j0≤17∧j = .int .i64 j0∧Hid (Bk wr g 194 (rowI rl))∧Hid (Bk wr (g + 1) 194 (rowI D))∧Hid (Bk wr X 194 (rowI xs))∧Hid (Below g w wr)∧Hid (xs.length=34)∧Hid (rngI (1105425 * (i0:Int) + 65025 * (j0:Int)) xs)∧Hid (vI xs=vI (D.take i0) * F + 256 ^ i0 * D.getD i0 0 * vI (rl.take j0))) (fun j _=>17 - (intOf j).toNat)
         case atStart=>exact ⟨0,xs,by omega,rfl,B0,B1,B3,BB,JL,by simpa using JR,by rw [JV.out,List.take_zero,vI,Int.mul_zero,Int.add_zero];exact hidu_ rfl⟩
         case round =>
          obtain ⟨j0,xs,hj0,rfl,B0,B1,B3,BB,JL,JR,JV⟩:=hrel
          by_cases hltj0:j0 < 17
          ·have hdj0:decide ((j0:Int) < 17)=true:=decide_eq_true (by omega)
           have hc1:=B1.out.cell i0
           rw [rowI_at _ _ (by rw [hlD.out];omega)] at hc1
           have hc2:=B0.out.cell j0
           rw [rowI_at _ _ (by rw [FL.out];omega)] at hc2
           have hc3:=B3.out.cell (i0 + j0)
           rw [rowI_at _ _ (by rw [JL.out];omega)] at hc3
           have hb1:=hrD.out.get (by omega) i0
           have hb2:=FR.out.get (by omega) j0
           have hb3:=JR.out.get (by omega) (i0 + j0)
           have JV2:=hidu_ (mul_step xs D rl i0 j0 _ (by rw [JL.out];omega) (by rw [FL.out];omega) JV.out)
           obtain ⟨x,hx⟩:∃ a,Hid (xs.getD (i0 + j0) 0=a):=⟨_,rfl⟩
           obtain ⟨a,ha⟩:∃ a,Hid (D.getD i0 0=a):=⟨_,rfl⟩
           obtain ⟨u,hu⟩:∃ a,Hid (rl.getD j0 0=a):=⟨_,rfl⟩
           rw [hx.out] at hc3 hb3 JV2
           rw [ha.out] at hc1 hb1 JV2
           rw [hu.out] at hc2 hb2 JV2
           have hb4:=prod_bd hb1 hb2
           rw [← ha.out] at JV2
           have JR2:Hid (rngI (1105425 * (i0:Int) + 65025 * ((j0 + 1:Nat):Int)) (xs.set (i0 + j0) (x + a * u))):=hidu_ ((JR.out.mono (by omega)).set (i0 + j0) (by omega) (by omega))
           have JL2:Hid ((xs.set (i0 + j0) (x + a * u)).length=34):=hidu_ (by rw [List.length_set,JL.out])
           have t0:(0:Int)≤(i0:Int) + (j0:Int):=by omega
           have t1:(i0:Int) + (j0:Int) < 34:=by omega
           have t2:((i0:Int) + (j0:Int)).toNat=i0 + j0:=by omega
           have t3:(0:Int)≤(i0:Int):=by omega
           have t4:(0:Int)≤(j0:Int):=by omega
           have t5:(i0:Int) < 34:=by omega
           have t6:(j0:Int) < 34:=by omega
           have q1:IntKind.i64.wrap ((i0:Int) + (j0:Int))=(i0:Int) + (j0:Int):=IntWalk.i64_in _ (by omega)
           have q2:IntKind.i64.wrap (a * u)=a * u:=IntWalk.i64_in _ (by omega)
           have q3:IntKind.i64.wrap (x + a * u)=x + a * u:=IntWalk.i64_in _ (by omega)
           clear hb1 hb2 hb3 hb4 JV JR
           go_upto_region 27 with fail
           refine region_quiet_tail_lit 17 (by kernel_rfl) (by kernel_rfl) ?_
           simp only [List.take_succ_cons,List.take_zero]
           repeat (go_big_quiet_step (fail))
           refine wpQuiet_nil ?_
           intro w' hw'
           obtain ⟨nq,rfl⟩:=hw'
           simp only [List.drop_succ_cons,List.drop_zero]
           have hset:=(B3.out.drewN nq).set_ (i0 + j0) (.int .i64 (x + a * u))
           rw [rowI_set] at hset
           have hf5:=(B3.out.drewN nq).frozen (i0 + j0)
           have hc5:=(B3.out.drewN nq).cell (i0 + j0)
           rw [rowI_at _ _ (by rw [JL.out];omega),hx.out] at hc5
           have HS5:=hidu_ hset
           have HF5:=hidu_ ((B0.out.drewN nq).far (p:=⟨X,i0 + j0,none⟩) (by simp;omega) (.int .i64 (x + a * u)))
           have HG5:=hidu_ ((B1.out.drewN nq).far (p:=⟨X,i0 + j0,none⟩) (by simp;omega) (.int .i64 (x + a * u)))
           have HX5:=hidu_ ((below_drewN BB.out nq).setCell (p:=⟨X,i0 + j0,none⟩) (by simp;omega) (.int .i64 (x + a * u)))
           clear hset hc1 hc2 hc3 B0 B1 B3 BB q1 q2 q3
           generalize wr.drewN nq=w3 at *
           refine wpList_plain rfl fun K hK=>?_
           go_simp
           refine hK _ _ ?_
           clear hK K
           rename_i K hK
           refine hK _ _ ?_
           clear hf5 hc5
           go_wp2
           go_roundw
           case rel=>exact ⟨j0 + 1,_,by omega,by go_num,HF5,HG5,HS5,HX5,JL2,JR2,by have h:=JV2.out;rw [ha.out] at h ⊢;exact hidu_ h⟩
           case measure=>simp [intOf];omega
          ·have ej:j0=17:=by omega
           have hdj0:decide ((j0:Int) < 17)=false:=decide_eq_false (by omega)
           rw [ej] at JV JR
           clear ej
           have hv:=JV.out
           rw [FT.out,FV.out] at hv
           have JV3:=hidu_ (mul_row D i0 _ F (by rw [hlD.out];omega) hv)
           have JR3:Hid (rngI (1105425 * ((i0 + 1:Nat):Int)) xs):=hidu_ (JR.out.mono (by omega))
           clear hv JV JR
           go_wp2
           go_roundw
           case rel=>exact ⟨i0 + 1,xs,by omega,by go_num,B0,B1,B3,BB,JL,JR3,JV3⟩
           case measure=>simp [intOf];omega
        ·have ei:i0=17:=by omega
         have hdi:decide ((i0:Int) < 17)=false:=decide_eq_false (by omega)
         rw [ei] at JV JR
         clear ei
         have hv:=JV.out
         rw [hvD.out] at hv
         have hml:=mul_lt A F hAb.out.1 hAb.out.2 FB.out.1 FB.out.2
         have cc:=fun W=>carry_any xs W JL.out (JR.out.mono (by omega))
         have cf:=fun W=>fold_any (A * F) W hml
         rw [hv] at cc
         rw [← HAcc.out] at cf
         clear hv hml
         obtain ⟨E1,hE1⟩:∃ E,Hid (digI 34 (A * F)=E):=⟨_,rfl⟩
         obtain ⟨E,hE⟩:∃ E,Hid (digI 34 (accP F b (q + 1))=E):=⟨_,rfl⟩
         have EL:Hid (E.length=34):=hidu_ (by rw [← hE.out];exact digI_len _ _)
         rw [hE1.out] at cc cf
         rw [hE.out] at cf
         have K2:=B3.out
         go_wp2_with (first
          | (refine wpList_load_row rfl 194 (.tmp 11) rfl X rfl 194 (rowI xs) (0,0) _ K2 Tryz.underlying194 rfl (HI.out _ JL.out) ?_)
          | (go_at_call 133;((with_reducible refine (cc _).mono ?_);rintro e w7 ⟨rfl,hb7⟩);have HB7:=hidu_ hb7;clear hb7)
          | (go_at_call 134;((with_reducible refine (cf _).mono ?_);rintro e w8 ⟨rfl,hb8⟩);have X8:=hidu_ (HB7.out.trans (hb8.mono HB7.out.size));clear hb8;have A4:=hidu_ (B0.out.below X8.out B0.out.lt);have A5:=hidu_ (B1.out.below X8.out B1.out.lt);have A6:=hidu_ (BB.out.trans (X8.out.mono (Nat.le_of_lt B0.out.lt)));have A7:=A5.out)
          | (refine wpList_put_row rfl 194 (.tmp 6) (.tmp 103) rfl (g + 1) (rowI E) rfl rfl 194 (rowI D) A7 (HI.out _ EL.out) (by rw [rowI_size,rowI_size,hlD.out,EL.out]) (rowI_one _) ?_;intro w5 k5 g5 s5;have D5:=hidu_ (A4.out.grown g5 (fun e=>by injection e with e;omega));have D6:=hidu_ (A6.out.grown g5 (by have:=A4.out.lt;omega) (fun i hi=>by injection hi with hi;omega));have D7:=hidu_ k5;clear k5 g5 s5 A4 A5 A6 A7))
         rw [put_none]
         go_roundw
         case rel=>exact ⟨q + 1,m - r,rfl,by omega,by omega,HMn,D5,by rw [hE.out];exact D7,D6⟩
         case measure =>
          show (strOf (b.drop (16 * (q + 1)))).size < (strOf c).size
          rw [strOf_size,strOf_size,HMn.out,HM.out]
          omega
end Go.Proofs.YtpcbmnmgefhaaaaGreatDoor
